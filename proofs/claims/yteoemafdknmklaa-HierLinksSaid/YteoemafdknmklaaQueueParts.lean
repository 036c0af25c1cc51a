/- What the small calls of package runq do: made, find, keyOf, lay, take. Conditions: each number is one of its kind. -/
import Derived.Test.YteoemafdknmklaaQueueMem
import Derived.Test.YteoemafdknmklaaTreeNext
import Derived.Deep.RegionHeld3
namespace Go.Proofs.Yteoemafdknmklaa.Queue
open Go.ChangeShapes Go.WideShapes Go.ChangeAt Go.RowKit Tree
set_option linter.unusedVariables false
set_option linter.unusedSimpArgs false
set_option maxRecDepth 100000

theorem map_neq (m : Nat) (w : World) : Sem.run Try.prog (binOp BinOp.neq 65 (.map (some m)) (.map none)) w = .ok (.bool true) w := by kernel_rfl
theorem made_nil (w : World) : Calls Try.prog 44 #[.pointer none] w (Still (.bool false) w) := by
  go_enter Try.func44, Try.ntmps44
  go_wp2
  go_ret; exact ⟨rfl, rfl⟩
theorem made (w : World) (q : Nat) (O : Nat → Prop) (st : St) (h : Qu w q O st) : Calls Try.prog 44 #[.pointer (some ⟨q, 0, none⟩)] w (Still (.bool true) w) := by
  obtain ⟨m, t, T, h⟩ := h
  obtain ⟨c0, c1, c2, c3, c4, fz⟩ := h.blk.cells
  clear h
  have hne := map_neq m
  go_enter Try.func44, Try.ntmps44
  go_wp2
  go_ret; exact ⟨rfl, rfl⟩
theorem keyOfs (w : World) (e : Ent) : Calls Try.prog 68 #[e.val] w (Is (.agg #[.int .i64 e.v, .int .i64 e.id]) w) := by
  obtain ⟨a, b, c, d⟩ := e
  simp only [Ent.val]
  go_enter Try.func68, Try.ntmps68
  go_wp2
  refine bodyPost_ret (v := .agg #[.int .i64 c, .int .i64 a]) (by simp [results, Try.results68, go_sem]) rfl ?_
  exact ⟨rfl, by go_grown⟩
theorem finds_nil (w : World) (id : Int) : Calls Try.prog 51 #[.pointer none, .int .i64 id] w (Is (.tuple #[Ent.zero.val, .bool false]) w) := by
  simp only [Ent.val, Ent.zero]
  go_enter Try.func51, Try.ntmps51
  go_wp2_with (go_at_call 44; refine (made_nil _).mono ?_; rintro e w1 ⟨rfl, rfl⟩)
  refine bodyPost_ret (v := .tuple #[.agg #[.int .i64 0, .int .u64 0, .int .i64 0, .int .u64 0], .bool false]) (by simp [results, Try.results51, go_sem]) rfl ?_
  exact ⟨rfl, by go_grown⟩
theorem finds (w : World) (q : Nat) (O : Nat → Prop) (st : St) (id : Int) (h : Qu w q O st) (hid : I64 id) :
    Calls Try.prog 51 #[.pointer (some ⟨q, 0, none⟩), .int .i64 id] w (Is (.tuple #[(find st.es id).val, .bool (named st.es id)]) w) := by
  have M := Lib.hid (fun w' (g : Below w.heap.size w w') => made w' q O st (h.fresh g))
  obtain ⟨m, t, T, h⟩ := h
  obtain ⟨c0, c1, c2, c3, c4, fz⟩ := h.blk.cells
  have hq := h.blk.lt
  have L := Lib.hid (fun w' (g : Below w.heap.size w w') => (h.map.fresh g).look hid)
  generalize find st.es id = fe at *
  obtain ⟨ea, eb, ec, ed⟩ := fe
  simp only [Ent.val, mapT] at L ⊢
  generalize named st.es id = nm at *
  clear h
  have hg := (Below.refl w.heap.size w).alloc (Nat.le_refl _) (.cells #[.int .i64 0, .int .u64 0, .int .i64 0, .int .u64 0] 30)
  have l1 := L.out _ hg
  go_enter Try.func51, Try.ntmps51
  go_wp2_with (go_at_call 44; refine (M.out _ hg).mono ?_; rintro e w1 ⟨rfl, rfl⟩)
  refine bodyPost_ret (v := .tuple #[.agg #[.int .i64 ea, .int .u64 eb, .int .i64 ec, .int .u64 ed], .bool nm]) (by simp [results, Try.results51, go_sem]) rfl ?_
  exact ⟨rfl, by go_grown⟩

/-- Nothing is told, and the queue is another one. -/
def Goes (st : St) (q : Nat) (O : Nat → Prop) (w : World) (e : Ending) (w' : World) : Prop := e = .returned (.tuple #[]) ∧ Qu w' q O st ∧ Same O w w'

/-- What is behind the store into the map, and behind Insert. -/
theorem laid {w W w1 w2 w3 : World} {q m t : Nat} {O : Nat → Prop} {T : Tr} {st : St} {e : Ent} (h : Ql w q m t O T st) (hO : ∀ k, O k → k < w.heap.size) (hn : named st.es e.id = false) (gW : Below w.heap.size w W) (hm : Mp w1 m (e :: st.es)) (ht : W.mapTurned w1 m) (g2 : Below w1.heap.size w1 w2) :
    Kept w2 t (fun b => O b ∨ b = q ∨ b = m) T ∧ (∀ b, (O b ∨ b = q ∨ b = m) → b < w2.heap.size) ∧ e.key ∉ T.keys ∧
    ∀ e' w3, Ins e.key t (fun b => O b ∨ b = q ∨ b = m) T w2 e' w3 → (Qu w3 q O { st with es := insE e st.es } ∧ Same O w w3) ∧ ∀ b, b < w2.heap.size → (b = q ∨ w.heap.size ≤ b) → w3.heap[b]? = w2.heap[b]? := by
  have hg := ht.grown
  have b1 : ∀ b, b < w.heap.size → b ≠ m → w2.heap[b]? = w.heap[b]? := fun b hb hbm => by
    have s1 : b < W.heap.size := Nat.lt_of_lt_of_le hb gW.size
    rw [g2.block b (Nat.lt_of_lt_of_le s1 hg.size), hg.block b s1 (fun e => hbm (by cases e; rfl)), gW.block b hb]
  have hs : w.heap.size ≤ w2.heap.size := Nat.le_trans gW.size (Nat.le_trans hg.size g2.size)
  have k2 : Kept w2 t (fun b => O b ∨ b = q ∨ b = m) T := kept_on h.kept fun b hb => b1 b (kept_lt h.kept b hb) (fun e => h.kept.apart b hb (.inr (.inr e)))
  have hkn : e.key ∉ T.keys := fun hk => by
    rw [h.keys] at hk
    rw [key_named hk] at hn
    cases hn
  refine ⟨k2, ?_, hkn, ?_⟩
  · rintro b (hb | rfl | rfl)
    · exact Nat.lt_of_lt_of_le (hO b hb) hs
    · exact Nat.lt_of_lt_of_le h.blk.lt hs
    · exact Nat.lt_of_lt_of_le h.map.lt hs
  · rintro e' w3 ⟨T', rfl, k3, hk3, c3⟩
    have hqB : ∀ b, b < w2.heap.size → (O b ∨ b = q ∨ b = m) → w3.heap[b]? = w2.heap[b]? := fun b hb hm => c3.block b hb (fun e => h.kept.apart b (by rcases e with rfl | e <;> simp_all) hm)
    refine ⟨⟨⟨m, t, T', ?_, ?_, k3, ?_, h.oq, h.om, h.qm⟩, ?_⟩, fun b hb hx => c3.block b hb (fun e => ?_)⟩
    · exact h.blk.on ((hqB q (Nat.lt_of_lt_of_le h.blk.lt hs) (.inr (.inl rfl))).trans (b1 q h.blk.lt h.qm))
    · exact (((hm.fresh g2).on (hqB m (hm.fresh g2).lt (.inr (.inr rfl)))).perm (insE_perm e st.es).symm)
    · rw [hk3, h.keys]; exact (insE_key e st.es).symm
    · refine ⟨?_, ?_, ?_, Nat.le_trans hs c3.size, fun k hk => ?_⟩
      · rw [c3.os, g2.os, hg.os, gW.os]
      · rw [c3.tape, g2.tape, hg.tape, gW.tape]
      · rw [c3.output, g2.output, hg.output, gW.output]
      · rw [hqB k (Nat.lt_of_lt_of_le (hO k hk) hs) (.inl hk), b1 k (hO k hk) (fun e => h.om (e ▸ hk))]
    · have hbl : b ∈ t :: T.bl := by rcases e with rfl | e <;> simp_all
      rcases hx with rfl | hx
      · exact h.kept.apart _ hbl (.inr (.inl rfl))
      · have := kept_lt h.kept b hbl
        omega
set_option maxHeartbeats 2000000 in
theorem lays (w : World) (q : Nat) (O : Nat → Prop) (st : St) (e : Ent) (h : Qu w q O st) (hO : ∀ k, O k → k < w.heap.size) (hid : I64 e.id) (hn : named st.es e.id = false) (hl : st.es.length ≤ 500) :
    Calls Try.prog 47 #[.pointer (some ⟨q, 0, none⟩), e.val] w (Goes { st with es := insE e st.es } q O w) := by
  obtain ⟨m, t, T, h⟩ := h
  have hgW := (Below.refl w.heap.size w).alloc (Nat.le_refl _) (.cells #[.int .i64 e.id, .int .u64 e.wt, .int .i64 e.v, .int .u64 e.rm] 30)
  obtain ⟨w1, hrun, hmp, hturn⟩ := ((h.map.fresh hgW).on (show (w.alloc (.cells #[.int .i64 e.id, .int .u64 e.wt, .int .i64 e.v, .int .u64 e.rm] 30)).drew.heap[m]? = _ from rfl)).put hid hn (by omega)
  have hturn' : (w.alloc (.cells #[.int .i64 e.id, .int .u64 e.wt, .int .i64 e.v, .int .u64 e.rm] 30)).drew.mapTurned w1 m := hturn
  have hgd : Below w.heap.size w (w.alloc (.cells #[.int .i64 e.id, .int .u64 e.wt, .int .i64 e.v, .int .u64 e.rm] 30)).drew := hgW.drew
  have L := Lib.hid (fun w2 g2 => laid (w2 := w2) (w3 := w2) h hO hn hgd hmp hturn' g2)
  have I := Lib.hid (fun w2 (k : Kept w2 t (fun b => O b ∨ b = q ∨ b = m) T) (hk : e.key ∉ T.keys) hOb => inserts w2 t (fun b => O b ∨ b = q ∨ b = m) T e.key k hk hOb (by rw [h.keys]; simpa using Nat.le_trans hl (by omega)))
  obtain ⟨c0, c1, c2, c3, c4, fz⟩ := h.blk.cells
  have hq := h.blk.lt
  have hqm := h.qm
  have gt := hturn.grown
  obtain ⟨n0, n1, n2, n3, nz, nn⟩ := new_four (Below.refl _ (w.alloc (.cells #[.int .i64 e.id, .int .u64 e.wt, .int .i64 e.v, .int .u64 e.rm] 30)))
  have hml := h.map.lt
  have hbx : w.heap.size < (w.alloc (.cells #[.int .i64 e.id, .int .u64 e.wt, .int .i64 e.v, .int .u64 e.rm] 30)).heap.size := lt_of nn
  have at1 : ∀ b, b < w.heap.size + 1 → b ≠ m → w1.heap[b]? = (w.alloc (.cells #[.int .i64 e.id, .int .u64 e.wt, .int .i64 e.v, .int .u64 e.rm] 30)).heap[b]? := fun b hb hbm => gt.block b (by simp [World.drew]; omega) (fun e => hbm (by cases e; rfl))
  have x1 : w1.cell? ⟨q, 1, none⟩ = some (.pointer (some ⟨t, 0, none⟩)) := (World.cell?_of_block (at1 q (by omega) hqm)).trans ((hgW.cell (p := ⟨q, 1, none⟩) hq).trans c1)
  have y0 := (World.cell?_of_block (a := ⟨w.heap.size, 0, none⟩) (at1 w.heap.size (by omega) (by omega))).trans n0
  have y1 := (World.cell?_of_block (a := ⟨w.heap.size, 1, none⟩) (at1 w.heap.size (by omega) (by omega))).trans n1
  have y2 := (World.cell?_of_block (a := ⟨w.heap.size, 2, none⟩) (at1 w.heap.size (by omega) (by omega))).trans n2
  have y3 := (World.cell?_of_block (a := ⟨w.heap.size, 3, none⟩) (at1 w.heap.size (by omega) (by omega))).trans n3
  have hl1 : w.heap.size < w1.heap.size := Nat.lt_of_lt_of_le hbx gt.size
  have hq1 : q < w1.heap.size := by omega
  have KO := Lib.hid (fun w => keyOfs w e)
  clear h gt at1 nn nz hmp hturn hturn' hO hn
  obtain ⟨ea, eb, ec, ed⟩ := e
  simp only [Ent.val, mapT, Ent.key] at *
  go_enter Try.func47, Try.ntmps47
  go_wp2_with fail
  go_region
  all_goals
    go_wp2_with fail
    go_region_held3 (fun w' => w'.cell? ⟨q, 1, none⟩ = some (.pointer (some ⟨t, 0, none⟩)) ∧ w'.cell? ⟨w.heap.size, 0, none⟩ = some (.int .i64 ea) ∧ w'.cell? ⟨w.heap.size, 1, none⟩ = some (.int .u64 eb) ∧ w'.cell? ⟨w.heap.size, 2, none⟩ = some (.int .i64 ec) ∧ w'.cell? ⟨w.heap.size, 3, none⟩ = some (.int .u64 ed))
      (first | exact ⟨x1, y0, y1, y2, y3⟩ | exact ⟨z1, u0, u1, u2, u3⟩ | exact ⟨r1, s0, s1, s2, s3⟩)
      (first
        | (go_at_call 68; refine (KO.out _).mono ?_; rintro e' w2 ⟨rfl, hg2⟩; replace hg2 := undrew hg2; have z1 := (hg2.cell (p := ⟨q, 1, none⟩) hq1).trans x1; have u0 := (hg2.cell (p := ⟨w.heap.size, 0, none⟩) hl1).trans y0; have u1 := (hg2.cell (p := ⟨w.heap.size, 1, none⟩) hl1).trans y1; have u2 := (hg2.cell (p := ⟨w.heap.size, 2, none⟩) hl1).trans y2; have u3 := (hg2.cell (p := ⟨w.heap.size, 3, none⟩) hl1).trans y3)
        | (go_at_call 67; refine (I.out _ (L.out _ hg2).1 (L.out _ hg2).2.2.1 (L.out _ hg2).2.1).mono ?_; rintro e' w3 hi; obtain ⟨e1, e2⟩ := (L.out _ hg2).2.2.2 _ _ hi; obtain ⟨T', rfl, _⟩ := hi; have Q := Lib.hid e1; have hq2 := Nat.lt_of_lt_of_le hq1 hg2.size; have hl2 := Nat.lt_of_lt_of_le hl1 hg2.size; have r1 := (World.cell?_of_block (a := ⟨q, 1, none⟩) (e2 q hq2 (.inl rfl))).trans z1; have s0 := (World.cell?_of_block (a := ⟨w.heap.size, 0, none⟩) (e2 _ hl2 (.inr (Nat.le_refl _)))).trans u0; have s1 := (World.cell?_of_block (a := ⟨w.heap.size, 1, none⟩) (e2 _ hl2 (.inr (Nat.le_refl _)))).trans u1; have s2 := (World.cell?_of_block (a := ⟨w.heap.size, 2, none⟩) (e2 _ hl2 (.inr (Nat.le_refl _)))).trans u2; have s3 := (World.cell?_of_block (a := ⟨w.heap.size, 3, none⟩) (e2 _ hl2 (.inr (Nat.le_refl _)))).trans u3; clear e1 e2))
    go_wp2_with fail
    go_end0
    exact ⟨rfl, Q.out⟩
end Go.Proofs.Yteoemafdknmklaa.Queue
