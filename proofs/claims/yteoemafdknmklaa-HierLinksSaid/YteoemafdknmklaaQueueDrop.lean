/- What Drop of package runq does. Conditions: each number is one of its kind. -/
import Derived.Test.YteoemafdknmklaaQueueCharge
namespace Go.Proofs.Yteoemafdknmklaa.Queue
open Go.ChangeShapes Go.WideShapes Go.ChangeAt Go.RowKit Tree
set_option linter.unusedVariables false
set_option linter.unusedSimpArgs false
set_option maxRecDepth 100000

def dropS (st : St) (id : Int) : St := if named st.es id then rise { st with es := drop st.es id, cur := if st.cur = id then -1 else st.cur } else st
def errDrop (st : St) (id : Int) : Int := if named st.es id then 0 else 12
abbrev Z4 : Obj := .cells #[.int .i64 0, .int .u64 0, .int .i64 0, .int .u64 0] 30
set_option maxHeartbeats 4000000 in
theorem drops_not (w : World) (q : Nat) (O : Nat → Prop) (st : St) (id : Int) (h : Qu w q O st) (hO : ∀ k, O k → k < w.heap.size) (hid : I64 id) (hn : named st.es id = false) :
    Calls Try.prog 32 #[.pointer (some ⟨q, 0, none⟩), .int .i64 id] w (Did (.tuple #[Ent.zero.val, .int .i64 12]) st q O w) := by
  have H := Lib.hid (fun w' (g : Below w.heap.size w w') => h.fresh g)
  have F := Lib.hid (fun w' (g : Below w.heap.size w w') => finds w' q O st id (h.fresh g) hid)
  rw [hn, find_not hn] at F
  simp only [Ent.val, Ent.zero] at *
  have hg0 := (Below.refl w.heap.size w).alloc (Nat.le_refl _) Z4
  clear h
  go_enter_defers Try.func32, Try.ntmps32
  go_wp2_with (go_at_call 51; refine (F.out _ hg0).mono ?_; rintro e w1 ⟨rfl, hg1⟩; obtain ⟨n0, n1, n2, n3, nz, nn⟩ := new_four hg1; replace hg0 := fresh_trans hg0 hg1; have hl := lt_of nn; clear hg1 nn)
  have hs := hg0.size
  have k0 : ((((w1.setCell ⟨w.heap.size, 0, none⟩ (.int .i64 0)).setCell ⟨w.heap.size, 1, none⟩ (.int .u64 0)).setCell ⟨w.heap.size, 2, none⟩ (.int .i64 0)).setCell ⟨w.heap.size, 3, none⟩ (.int .u64 0)).cell? ⟨w.heap.size, 0, none⟩ = some (.int .i64 0) := by go_simp
  have k1 : ((((w1.setCell ⟨w.heap.size, 0, none⟩ (.int .i64 0)).setCell ⟨w.heap.size, 1, none⟩ (.int .u64 0)).setCell ⟨w.heap.size, 2, none⟩ (.int .i64 0)).setCell ⟨w.heap.size, 3, none⟩ (.int .u64 0)).cell? ⟨w.heap.size, 1, none⟩ = some (.int .u64 0) := by go_simp
  have k2 : ((((w1.setCell ⟨w.heap.size, 0, none⟩ (.int .i64 0)).setCell ⟨w.heap.size, 1, none⟩ (.int .u64 0)).setCell ⟨w.heap.size, 2, none⟩ (.int .i64 0)).setCell ⟨w.heap.size, 3, none⟩ (.int .u64 0)).cell? ⟨w.heap.size, 2, none⟩ = some (.int .i64 0) := by go_simp
  have k3 : ((((w1.setCell ⟨w.heap.size, 0, none⟩ (.int .i64 0)).setCell ⟨w.heap.size, 1, none⟩ (.int .u64 0)).setCell ⟨w.heap.size, 2, none⟩ (.int .i64 0)).setCell ⟨w.heap.size, 3, none⟩ (.int .u64 0)).cell? ⟨w.heap.size, 3, none⟩ = some (.int .u64 0) := by go_simp
  have hgf : Below w.heap.size w (((((w1.setCell ⟨w.heap.size, 0, none⟩ (.int .i64 0)).setCell ⟨w.heap.size, 1, none⟩ (.int .u64 0)).setCell ⟨w.heap.size, 2, none⟩ (.int .i64 0)).setCell ⟨w.heap.size, 3, none⟩ (.int .u64 0)).alloc Z4) := ((((hg0.setCell (Nat.le_refl _) _).setCell (Nat.le_refl _) _).setCell (Nat.le_refl _) _).setCell (Nat.le_refl _) _).alloc (by simpa [World.setCell] using hs) _
  exact ⟨.tuple #[.agg #[.int .i64 0, .int .u64 0, .int .i64 0, .int .u64 0], .int .i64 12], by simp [results, Try.results32, go_sem, cell_alloc k0, cell_alloc k1, cell_alloc k2, cell_alloc k3], rfl, H.out _ hgf, Same.of hgf hO⟩
set_option maxHeartbeats 4000000 in
theorem drops_is (w : World) (q : Nat) (O : Nat → Prop) (st : St) (id : Int) (h : Qu w q O st) (hO : ∀ k, O k → k < w.heap.size) (hs : Sound st) (hid : I64 id) (hn : named st.es id = true) :
    Calls Try.prog 32 #[.pointer (some ⟨q, 0, none⟩), .int .i64 id] w (Did (.tuple #[(find st.es id).val, .int .i64 0]) (rise { st with es := drop st.es id, cur := if st.cur = id then -1 else st.cur }) q O w) := by
  have F := Lib.hid (fun w' (g : Below w.heap.size w w') => finds w' q O st id (h.fresh g) hid)
  rw [hn] at F
  obtain ⟨f1, f2⟩ := find_of hn
  have he := hs.each _ f1
  have hq := h.lt
  have DE : Hid (∀ w1 w2, Below w.heap.size w w1 → w.heap.size < w1.heap.size → Below w1.heap.size w1 w2 → w1.heap.size < w2.heap.size → Calls Try.prog 52 #[.pointer (some ⟨q, 0, none⟩), (find st.es id).val] w2 (Goes { st with es := drop st.es id } q (fun k => O k ∨ k = w.heap.size ∨ k = w1.heap.size) w2)) := by
    intro w1 w2 g1 hl g2 hlt
    have h0 : Qu w q (fun k => O k ∨ k = w.heap.size) st := h.other (fun k hk => hk.imp (fun e => e) (fun e => by omega))
    have h1 : Qu w1 q (fun k => O k ∨ k = w.heap.size ∨ k = w1.heap.size) st := (h0.fresh g1).other (fun k hk => by
      rcases hk with e | e | e
      · exact .inl (.inl e)
      · exact .inl (.inr e)
      · exact .inr (by omega))
    have := dels w2 q (fun k => O k ∨ k = w.heap.size ∨ k = w1.heap.size) st (find st.es id) (h1.fresh g2) (by
      have s1 := g1.size
      have s2 := g2.size
      rintro k (hk | rfl | rfl)
      · have := hO k hk; omega
      · omega
      · exact hlt) (by unfold I64; omega) hs.once f1 (by have := hs.few; omega)
    rw [f2] at this
    exact this
  simp only [Ent.val] at *
  have hg0 := (Below.refl w.heap.size w).alloc (Nat.le_refl _) Z4
  generalize find st.es id = fe at *
  obtain ⟨fa, fb, fc, fd⟩ := fe
  clear h he f1 f2 hs
  simp only at *
  generalize hcu : st.cur = cur at *
  have RA := Lib.hid (fun w' O' c (h' : Qu w' q O' { st with es := drop st.es id, cur := c }) hO' => raises w' q O' _ .returning h' hO')
  by_cases hc : cur = id
  all_goals
    first
      | rw [if_pos hc]
      | rw [if_neg hc]
    have hcb : cur = id → (cur == id) = true := fun e => by simpa using e
    have hcc : ¬ cur = id → (cur == id) = false := fun e => by simpa using e
    go_enter_defers Try.func32, Try.ntmps32
    go_wp2_with fail
    refine (F.out _ hg0).mono ?_
    rintro e w1 ⟨rfl, hg1⟩
    obtain ⟨n0, n1, n2, n3, nz, nn⟩ := new_four hg1
    replace hg0 := fresh_trans hg0 hg1
    have hl := lt_of nn
    clear hg1
    go_wp2_with fail
    have hgb := (Below.refl w1.heap.size w1).alloc (Nat.le_refl _) (.cells #[.int .i64 fa, .int .u64 fb, .int .i64 fc, .int .u64 fd] 30)
    have nb : (w1.alloc (.cells #[.int .i64 fa, .int .u64 fb, .int .i64 fc, .int .u64 fd] 30)).heap[w1.heap.size]? = some (.cells #[.int .i64 fa, .int .u64 fb, .int .i64 fc, .int .u64 fd] 30 (0, 0)) := heap_alloc_new _ _
    refine (DE.out w1 _ hg0 hl hgb (lt_of nb)).mono ?_
    rintro e w3 ⟨rfl, hq3, hs3⟩
    have nn3 := ((hs3.block w.heap.size (.inr (.inl rfl))).trans (hgb.block w.heap.size hl)).trans nn
    have nb3 := (hs3.block w1.heap.size (.inr (.inr rfl))).trans nb
    have m0 := cell_of_row w3 _ 0 _ _ _ nb3
    have m1 := cell_of_row w3 _ 1 _ _ _ nb3
    have m2 := cell_of_row w3 _ 2 _ _ _ nb3
    have m3 := cell_of_row w3 _ 3 _ _ _ nb3
    have r0 := cell_of_row w3 _ 0 _ _ _ nn3
    have r1 := cell_of_row w3 _ 1 _ _ _ nn3
    have r2 := cell_of_row w3 _ 2 _ _ _ nn3
    have r3 := cell_of_row w3 _ 3 _ _ _ nn3
    have rf : ∀ j, w3.frozen? ⟨w.heap.size, j, none⟩ = false := fun j => frozen_of_row w3 _ j _ _ nn3
    obtain ⟨p2, p3, p4, pf⟩ := hq3.cells
    have hlx : ¬ w1.heap.size = w.heap.size := by omega
    have hxl : ¬ w.heap.size = w1.heap.size := by omega
    have hqx : ¬ q = w1.heap.size := by omega
    have hxq : ¬ w1.heap.size = q := by omega
    have hqr : ¬ q = w.heap.size := by omega
    have hrq : ¬ w.heap.size = q := by omega
    have Q3 := Lib.hid hq3
    have S3 := Lib.hid hs3
    have NN := Lib.hid nn3
    clear hq3 hs3 nn nb3 nn3 n0 n1 n2 n3 nz
    simp only [hcu] at p2
    go_wp2_with fail
    have ne1 : ¬ O w.heap.size := fun e => by have := hO _ e; omega
    have nq : ¬ O q := fun e => Q3.out.out (.inl e)
    have hs3 : w.heap.size ≤ w3.heap.size := Nat.le_trans hg0.size (Nat.le_trans hgb.size S3.out.size)
    have hbx : w1.heap.size < w3.heap.size := Nat.lt_of_lt_of_le (lt_of nb) S3.out.size
    have HO3 : Hid (∀ k, (O k ∨ k = w.heap.size ∨ k = w1.heap.size) → k < w3.heap.size) := by
      rintro k (hk | rfl | rfl)
      · have := hO k hk; omega
      · omega
      · exact hbx
    have SA : Hid (Same O w w3) := ((Same.of hg0 hO).trans (Same.of hgb (fun k hk => by have := hO k hk; omega))).trans (S3.out.mono (fun k hk => .inl hk))
    refine leaves_cons (f := 46) (args := #[.pointer (some ⟨q, 0, none⟩)]) (by simp) (by simp [go_sem]) ?_
    first
      | (have QV := Lib.hid (((((Q3.out.setCur (Below.refl _ w3) (-1)).away (p := ⟨w.heap.size, 0, none⟩) (.inr (.inl rfl)) (.int .i64 fa)).away (p := ⟨w.heap.size, 1, none⟩) (.inr (.inl rfl)) (.int .u64 fb)).away (p := ⟨w.heap.size, 2, none⟩) (.inr (.inl rfl)) (.int .i64 fc)).away (p := ⟨w.heap.size, 3, none⟩) (.inr (.inl rfl)) (.int .u64 fd))
         have SV : Hid (Same O w3 (((((w3.setCell ⟨q, 2, none⟩ (.int .i64 (-1))).setCell ⟨w.heap.size, 0, none⟩ (.int .i64 fa)).setCell ⟨w.heap.size, 1, none⟩ (.int .u64 fb)).setCell ⟨w.heap.size, 2, none⟩ (.int .i64 fc)).setCell ⟨w.heap.size, 3, none⟩ (.int .u64 fd))) := ((((Same.setCell (p := ⟨q, 2, none⟩) nq _).trans (Same.setCell (p := ⟨w.heap.size, 0, none⟩) ne1 _)).trans (Same.setCell (p := ⟨w.heap.size, 1, none⟩) ne1 _)).trans (Same.setCell (p := ⟨w.heap.size, 2, none⟩) ne1 _)).trans (Same.setCell (p := ⟨w.heap.size, 3, none⟩) ne1 _)
         have v0 : (((((w3.setCell ⟨q, 2, none⟩ (.int .i64 (-1))).setCell ⟨w.heap.size, 0, none⟩ (.int .i64 fa)).setCell ⟨w.heap.size, 1, none⟩ (.int .u64 fb)).setCell ⟨w.heap.size, 2, none⟩ (.int .i64 fc)).setCell ⟨w.heap.size, 3, none⟩ (.int .u64 fd)).cell? ⟨w.heap.size, 0, none⟩ = some (.int .i64 fa) := by go_simp
         have v1 : (((((w3.setCell ⟨q, 2, none⟩ (.int .i64 (-1))).setCell ⟨w.heap.size, 0, none⟩ (.int .i64 fa)).setCell ⟨w.heap.size, 1, none⟩ (.int .u64 fb)).setCell ⟨w.heap.size, 2, none⟩ (.int .i64 fc)).setCell ⟨w.heap.size, 3, none⟩ (.int .u64 fd)).cell? ⟨w.heap.size, 1, none⟩ = some (.int .u64 fb) := by go_simp
         have v2 : (((((w3.setCell ⟨q, 2, none⟩ (.int .i64 (-1))).setCell ⟨w.heap.size, 0, none⟩ (.int .i64 fa)).setCell ⟨w.heap.size, 1, none⟩ (.int .u64 fb)).setCell ⟨w.heap.size, 2, none⟩ (.int .i64 fc)).setCell ⟨w.heap.size, 3, none⟩ (.int .u64 fd)).cell? ⟨w.heap.size, 2, none⟩ = some (.int .i64 fc) := by go_simp
         have v3 : (((((w3.setCell ⟨q, 2, none⟩ (.int .i64 (-1))).setCell ⟨w.heap.size, 0, none⟩ (.int .i64 fa)).setCell ⟨w.heap.size, 1, none⟩ (.int .u64 fb)).setCell ⟨w.heap.size, 2, none⟩ (.int .i64 fc)).setCell ⟨w.heap.size, 3, none⟩ (.int .u64 fd)).cell? ⟨w.heap.size, 3, none⟩ = some (.int .u64 fd) := by go_simp
         refine (RA.out _ _ _ QV.out (fun k hk => by simp only [size_setCell]; exact HO3.out k hk)).mono ?_
         rintro e u' w8 ⟨rfl, rfl, hq8, hs8⟩
         have b8 := hs8.block w.heap.size (.inr (.inl rfl))
         exact ⟨.tuple #[.agg #[.int .i64 fa, .int .u64 fb, .int .i64 fc, .int .u64 fd], .int .i64 0], by simp [results, Try.results32, go_sem, (World.cell?_of_block (a := ⟨w.heap.size, 0, none⟩) b8).trans v0, (World.cell?_of_block (a := ⟨w.heap.size, 1, none⟩) b8).trans v1, (World.cell?_of_block (a := ⟨w.heap.size, 2, none⟩) b8).trans v2, (World.cell?_of_block (a := ⟨w.heap.size, 3, none⟩) b8).trans v3], rfl, hq8.other (fun k hk => .inl (.inl hk)), (SA.out.trans SV.out).trans (hs8.mono (fun k hk => .inl hk))⟩)
      | (have QV := Lib.hid ((((Q3.out.away (p := ⟨w.heap.size, 0, none⟩) (.inr (.inl rfl)) (.int .i64 fa)).away (p := ⟨w.heap.size, 1, none⟩) (.inr (.inl rfl)) (.int .u64 fb)).away (p := ⟨w.heap.size, 2, none⟩) (.inr (.inl rfl)) (.int .i64 fc)).away (p := ⟨w.heap.size, 3, none⟩) (.inr (.inl rfl)) (.int .u64 fd))
         have SV : Hid (Same O w3 ((((w3.setCell ⟨w.heap.size, 0, none⟩ (.int .i64 fa)).setCell ⟨w.heap.size, 1, none⟩ (.int .u64 fb)).setCell ⟨w.heap.size, 2, none⟩ (.int .i64 fc)).setCell ⟨w.heap.size, 3, none⟩ (.int .u64 fd))) := (((Same.setCell (p := ⟨w.heap.size, 0, none⟩) ne1 _).trans (Same.setCell (p := ⟨w.heap.size, 1, none⟩) ne1 _)).trans (Same.setCell (p := ⟨w.heap.size, 2, none⟩) ne1 _)).trans (Same.setCell (p := ⟨w.heap.size, 3, none⟩) ne1 _)
         have v0 : ((((w3.setCell ⟨w.heap.size, 0, none⟩ (.int .i64 fa)).setCell ⟨w.heap.size, 1, none⟩ (.int .u64 fb)).setCell ⟨w.heap.size, 2, none⟩ (.int .i64 fc)).setCell ⟨w.heap.size, 3, none⟩ (.int .u64 fd)).cell? ⟨w.heap.size, 0, none⟩ = some (.int .i64 fa) := by go_simp
         have v1 : ((((w3.setCell ⟨w.heap.size, 0, none⟩ (.int .i64 fa)).setCell ⟨w.heap.size, 1, none⟩ (.int .u64 fb)).setCell ⟨w.heap.size, 2, none⟩ (.int .i64 fc)).setCell ⟨w.heap.size, 3, none⟩ (.int .u64 fd)).cell? ⟨w.heap.size, 1, none⟩ = some (.int .u64 fb) := by go_simp
         have v2 : ((((w3.setCell ⟨w.heap.size, 0, none⟩ (.int .i64 fa)).setCell ⟨w.heap.size, 1, none⟩ (.int .u64 fb)).setCell ⟨w.heap.size, 2, none⟩ (.int .i64 fc)).setCell ⟨w.heap.size, 3, none⟩ (.int .u64 fd)).cell? ⟨w.heap.size, 2, none⟩ = some (.int .i64 fc) := by go_simp
         have v3 : ((((w3.setCell ⟨w.heap.size, 0, none⟩ (.int .i64 fa)).setCell ⟨w.heap.size, 1, none⟩ (.int .u64 fb)).setCell ⟨w.heap.size, 2, none⟩ (.int .i64 fc)).setCell ⟨w.heap.size, 3, none⟩ (.int .u64 fd)).cell? ⟨w.heap.size, 3, none⟩ = some (.int .u64 fd) := by go_simp
         refine (RA.out _ _ _ QV.out (fun k hk => by simp only [size_setCell]; exact HO3.out k hk)).mono ?_
         rintro e u' w8 ⟨rfl, rfl, hq8, hs8⟩
         have b8 := hs8.block w.heap.size (.inr (.inl rfl))
         exact ⟨.tuple #[.agg #[.int .i64 fa, .int .u64 fb, .int .i64 fc, .int .u64 fd], .int .i64 0], by simp [results, Try.results32, go_sem, (World.cell?_of_block (a := ⟨w.heap.size, 0, none⟩) b8).trans v0, (World.cell?_of_block (a := ⟨w.heap.size, 1, none⟩) b8).trans v1, (World.cell?_of_block (a := ⟨w.heap.size, 2, none⟩) b8).trans v2, (World.cell?_of_block (a := ⟨w.heap.size, 3, none⟩) b8).trans v3], rfl, hq8.other (fun k hk => .inl (.inl hk)), (SA.out.trans SV.out).trans (hs8.mono (fun k hk => .inl hk))⟩)
theorem dropss (w : World) (q : Nat) (O : Nat → Prop) (st : St) (id : Int) (h : Qu w q O st) (hO : ∀ k, O k → k < w.heap.size) (hs : Sound st) (hid : I64 id) :
    Calls Try.prog 32 #[.pointer (some ⟨q, 0, none⟩), .int .i64 id] w (Did (.tuple #[(find st.es id).val, .int .i64 (errDrop st id)]) (dropS st id) q O w) := by
  unfold errDrop dropS
  cases hn : named st.es id
  · rw [find_not hn]
    simp only [Bool.false_eq_true, if_false]
    exact drops_not w q O st id h hO hid hn
  · simp only [if_true]
    exact drops_is w q O st id h hO hs hid hn
end Go.Proofs.Yteoemafdknmklaa.Queue
