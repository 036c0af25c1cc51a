/- What Ents of package runq answers. Conditions: there are no more than 500 entities, each number one of its kind. -/
import Derived.Test.YtdigakgfehaabaaTreeWalks
import Derived.Test.YtdigakgfehaabaaQueueNil
import Derived.LoopTactic
namespace Go.Proofs.Ytdigakgfehaabaa.Queue
open Go.ChangeShapes Go.WideShapes Go.ChangeAt Go.RowKit Tree
set_option linter.unusedVariables false
set_option linter.unusedSimpArgs false
set_option maxRecDepth 100000

def cellsE : List Ent → List Value
  | [] => []
  | e :: l => .int .i64 e.id :: .int .u64 e.wt :: .int .i64 e.v :: .int .u64 e.rm :: cellsE l
theorem cellsE_append (a b : List Ent) : cellsE (a ++ b) = cellsE a ++ cellsE b := by
  induction a with
  | nil => rfl
  | cons k l ih => simp [cellsE, ih]
theorem infoE : (Try.prog.info? 32).map (fun i => (i.zero, i.size, i.bytes)) = some (some (.agg #[.int .i64 0, .int .u64 0, .int .i64 0, .int .u64 0]), 4, 32) := by kernel_rfl
theorem Row.shape {w : World} {O : Nat → Prop} {e : TypeId} {size : Nat} {v : Value} {n : Nat} {xs : List Value} (h : Row w O e size v n xs) : ∃ ao cap, v = .slice ao n cap ∧ (n = 0 ∨ ∃ g, ao = some ⟨g, 0, none⟩) ∧ n ≤ cap := by
  rcases h.1.2 with ⟨rfl, rfl⟩ | ⟨g, cap, cur, rfl, _, _, h1, _⟩
  · exact ⟨none, 0, rfl, .inl rfl, Nat.le_refl _⟩
  · exact ⟨_, cap, rfl, .inr ⟨g, rfl⟩, h1⟩
theorem cellsK_at {l : List Ky} {j : Nat} {k : Ky} (h : l[j]? = some k) : (cellsK l)[j * 2]? = some (.int .i64 k.1) ∧ (cellsK l)[j * 2 + 1]? = some (.int .i64 k.2) := by
  induction l generalizing j with
  | nil => simp at h
  | cons q l ih =>
    cases j with
    | zero => simp at h; subst h; simp [cellsK]
    | succ j =>
      simp at h
      obtain ⟨h1, h2⟩ := ih h
      rw [show (j + 1) * 2 = j * 2 + 2 by omega]
      exact ⟨by simpa [cellsK] using h1, by simpa [cellsK] using h2⟩
/-- The list told, in memory that is new. -/
def Told (es : List Ent) (w : World) (e : Ending) (w' : World) : Prop := ∃ v, e = .returned v ∧ Row w' (· < w.heap.size) 32 4 v es.length (cellsE es) ∧ Below w.heap.size w w'
/-- What is behind an append to the list. -/
theorem ents_app {w A w4 : World} {g g4 cap cap4 len j : Nat} {out : Value} {o : Obj} {ks xs ys : List Value} (hgA : Below w.heap.size w A) (hgk : g < A.heap.size) (hr : Row A (fun k => k < w.heap.size ∨ (Value.slice (some ⟨g, 0, none⟩) len cap).ownBlock = some k) 32 4 out j xs)
    (hk : A.ownsRow 0 76 2 (.slice (some ⟨g, 0, none⟩) len cap) len ks) (hown : w4.ownsRow 0 32 4 (.slice (some ⟨g4, 0, none⟩) (j + 1) cap4) (j + 1) ys) (hgrow : (A.alloc o).drew.grownBy w4 out.ownBlock) (hat : out.ownBlock = some g4 ∨ g4 = A.heap.size + 1) :
    (Below w.heap.size w w4 ∧ w4.ownsRow 0 76 2 (.slice (some ⟨g, 0, none⟩) len cap) len ks) ∧ Row w4 (fun k => k < w.heap.size ∨ (Value.slice (some ⟨g, 0, none⟩) len cap).ownBlock = some k) 32 4 (.slice (some ⟨g4, 0, none⟩) (j + 1) cap4) (j + 1) ys ∧
    ∀ p : Addr, p.block < A.heap.size → (p.block < w.heap.size ∨ some p.block ≠ out.ownBlock) → w4.cell? p = A.cell? p := by
  have hb := (Below.refl A.heap.size A).alloc (Nat.le_refl _) o
  have hs := hgA.size
  have blk : ∀ k, k < A.heap.size → some k ≠ out.ownBlock → w4.heap[k]? = A.heap[k]? := fun k hk hne => (hgrow.block k (Nat.lt_of_lt_of_le hk hb.size) hne).trans (hb.block k hk)
  have nout : ∀ k, (k < w.heap.size ∨ (Value.slice (some ⟨g, 0, none⟩) len cap).ownBlock = some k) → some k ≠ out.ownBlock := fun k hk e => hr.2 k e.symm hk
  refine ⟨⟨⟨hgrow.os.trans hgA.os, hgrow.tape.trans hgA.tape, hgrow.output.trans hgA.output, Nat.le_trans hs (Nat.le_trans hb.size hgrow.size), fun k hk => (blk k (by omega) (nout k (.inl hk))).trans (hgA.block k hk)⟩, ?_⟩, ⟨hown, ?_⟩, ?_⟩
  · exact (Row.on (O := fun _ => False) ⟨hk, fun _ _ e => e⟩ fun k hk' => blk k (by simp [Value.ownBlock] at hk'; omega) (nout k (.inr hk'))).1
  · intro k hk' e
    simp [Value.ownBlock] at hk'
    subst hk'
    rcases hat with h | h
    · exact hr.2 _ h e
    · rcases e with e | e
      · omega
      · simp [Value.ownBlock] at e; omega
  · intro p hp hx
    exact World.cell?_of_block (blk p.block hp (hx.elim (fun e => nout _ (.inl e)) id))
def EntsI (w : World) (es : List Ent) (vk : Value) (out i : Value) (wr : World) : Prop :=
  ∃ (j : Nat) (vo : Value), vo = out ∧ j ≤ es.length ∧ i = .int .i64 j ∧ Row wr (fun k => k < w.heap.size ∨ vk.ownBlock = some k) 32 4 vo j (cellsE (es.take j)) ∧ wr.ownsRow 0 76 2 vk es.length (cellsK (es.map Ent.key)) ∧ Below w.heap.size w wr
set_option maxHeartbeats 4000000 in
theorem ents (w : World) (q : Nat) (O : Nat → Prop) (st : St) (h : Qu w q O st) (ho : Once st.es) (hid : ∀ e ∈ st.es, I64 e.id) (hl : st.es.length ≤ 500) :
    Calls Try.prog 50 #[.pointer (some ⟨q, 0, none⟩)] w (Told st.es w) := by
  have M := Lib.hid (made w q O st h)
  obtain ⟨m, t, T, h⟩ := h
  obtain ⟨c0, c1, c2, c3, c4, fz⟩ := h.blk.cells
  have hq := h.blk.lt
  obtain ⟨i0, hi, hz0, hz1, hz2⟩ := info_parts infoE
  have hln := h.map.len (w := w)
  obtain ⟨w1, hmk, hown, hgr⟩ := run_make_own (P := Try.prog) w 0 26 32 i0 _ 4 Try.underlying26 hi hz0 hz1 .i64 .i64 st.es.length (by rw [hz2]; omega) (by unfold maxLen; omega) (Nat.zero_le _)
  have hg : Below w.heap.size w w1 := ⟨hgr.os, hgr.tape, hgr.output, hgr.size, fun b hb => hgr.block b hb (by simp)⟩
  have hg0lt : w.heap.size < w1.heap.size := (hown.lt w.heap.size rfl).2
  have WK := Lib.hid (Walks w1 t T (· < w1.heap.size) (h.fresh hg).kept.top (fun k hk => hk) (fun b hb => (h.fresh hg).kept.top.2.lt b hb) (by rw [h.keys]; simpa using Nat.le_trans hl (by omega)))
  have L : Hid (∀ w' id, Below w.heap.size w w' → I64 id → (Instr.lookup 54 (.map (some m)) (.int .i64 id) false).run Try.prog w' = .ok (find st.es id).val w') := fun w' id g hi => (h.map.fresh g).look1 hi
  rw [h.keys, List.length_map] at WK
  have x1 := (hg.cell (p := ⟨q, 1, none⟩) hq).trans c1
  have hrow : Row w1 (· < w.heap.size) 32 4 (.slice (some ⟨w.heap.size, 0, none⟩) 0 st.es.length) 0 [] := ⟨hown, fun k hk e => by simp [Value.ownBlock] at hk; omega⟩
  have HR := Lib.hid hrow
  clear h hown hgr hrow
  generalize hes : st.es = es at *
  simp only [mapT] at hln
  go_enter Try.func50, Try.ntmps50
  go_wp2_with (first
    | (go_at_call 23; refine (M.out).mono ?_; rintro e w' ⟨rfl, rfl⟩)
    | (go_at_call 72; refine (WK.out).mono ?_; rintro e w2 ⟨v2, rfl, hr2, hs2⟩; obtain ⟨ao, cap, rfl, hao, hcap⟩ := hr2.shape))
  go_loopw [3, 21] (fun out i wr => EntsI w es (.slice ao es.length cap) out i wr) (fun _ i _ => es.length - (intOf i).toNat)
  case atStart =>
    refine ⟨0, _, rfl, by omega, rfl, ?_, hr2.1, hg.trans (hs2.below.mono hg.size)⟩
    have hb2 : Below w1.heap.size w1 w2 := hs2.below
    refine (HR.out.fresh hb2).other ?_
    rintro k hk (e | e)
    · exact HR.out.2 k hk e
    · exact hr2.2 k e (HR.out.lt hk)
  case round =>
    obtain ⟨j, vo, rfl, hj, rfl, hro, hk, hbw⟩ := hrel
    by_cases hlt : j < es.length
    · have hlt' : (j : Int) < (es.length : Int) := by omega
      rcases hao with h0 | ⟨g, rfl⟩
      · omega
      obtain ⟨e, he⟩ : ∃ e, es[j]? = some e := ⟨es[j], by simp [hlt]⟩
      have hem : e ∈ es := List.mem_of_getElem? he
      have hfe : find es e.id = e := find_mem ho hem
      have hie := hid e hem
      have hkj : (es.map Ent.key)[j]? = some e.key := by simp [he]
      obtain ⟨kk0, kk1⟩ := cellsK_at hkj
      have add : ∀ n, (⟨g, 0, none⟩ : Addr).add n = ⟨g, n, none⟩ := fun n => by unfold Addr.add; split <;> simp_all
      have k0 := hk.cells (g := g) rfl _ _ kk0
      have k1 := hk.cells (g := g) rfl _ _ kk1
      rw [add] at k0 k1
      simp only [Ent.key] at k0 k1
      have x0 := (hbw.cell (p := ⟨q, 0, none⟩) hq).trans c0
      have hgk : g < wr.heap.size := (hk.lt g rfl).2
      have hqr : q < wr.heap.size := Nat.lt_of_lt_of_le hq hbw.size
      have LE : Hid (∀ w', Below w.heap.size w w' → (Instr.lookup 54 (.map (some m)) (.int .i64 e.id) false).run Try.prog w' = .ok (.agg #[.int .i64 e.id, .int .u64 e.wt, .int .i64 e.v, .int .u64 e.rm]) w') := fun w' gb => by
        have := L.out w' e.id gb hie
        rw [hfe] at this
        exact this
      have ET : Hid (cellsE (es.take (j + 1)) = cellsE (es.take j) ++ [.int .i64 e.id, .int .u64 e.wt, .int .i64 e.v, .int .u64 e.rm]) := by
        show cellsE (es.take (j + 1)) = _
        rw [List.take_add_one, he]
        simp [cellsE_append, cellsE]
      have R := Lib.hid hro
      have HK := Lib.hid hk
      have HB := Lib.hid hbw
      clear hro hk hbw L hfe hie hkj kk0 kk1 hmk hln WK hr2 hs2 HR hem he
      obtain ⟨ei, ew, ev, er⟩ := e
      simp only at *
      go_wp2_with fail
      have hA := (Below.refl wr.heap.size wr).alloc (Nat.le_refl _) (.cells #[.int .i64 ev, .int .i64 ei] 76)
      obtain ⟨n0, n1, nz, nn⟩ := new_two (Below.refl _ (wr.alloc (.cells #[.int .i64 ev, .int .i64 ei] 76)))
      have y0 := (hA.cell (p := ⟨q, 0, none⟩) hqr).trans x0
      have hgA := HB.out.trans (hA.mono HB.out.size)
      have hsA := lt_of nn
      have RA := Lib.hid (R.out.fresh hA)
      have KA : Hid ((wr.alloc (.cells #[.int .i64 ev, .int .i64 ei] 76)).ownsRow 0 76 2 (.slice (some ⟨g, 0, none⟩) es.length cap) es.length (cellsK (es.map Ent.key))) := (Row.fresh (O := fun _ => False) ⟨HK.out, fun _ _ e => e⟩ hA).1
      have hgkA : g < (wr.alloc (.cells #[.int .i64 ev, .int .i64 ei] 76)).heap.size := Nat.lt_of_lt_of_le hgk hA.size
      have hqA : q < (wr.alloc (.cells #[.int .i64 ev, .int .i64 ei] 76)).heap.size := Nat.lt_of_lt_of_le hqr hA.size
      have hsO : some wr.heap.size ≠ vo.ownBlock := fun e => Nat.lt_irrefl _ (R.out.lt e.symm)
      clear hA nn nz n0 k0 k1 x0 R HK HB
      generalize wr.alloc (.cells #[.int .i64 ev, .int .i64 ei] 76) = A at *
      generalize wr.heap.size = s at *
      have nb := cell_alloc y0
      have nc := cell_alloc n1
      have hB : Hid (∀ o, Below w.heap.size w (A.alloc o).drew) := fun o => (hgA.alloc hgA.size o).drew
      go_region_held3 (fun w' => w'.cell? ⟨q, 0, none⟩ = some (.map (some m)) ∧ w'.cell? ⟨s, 1, none⟩ = some (.int .i64 ei) ∧ (Instr.lookup 54 (.map (some m)) (.int .i64 ei) false).run Try.prog w' = .ok (.agg #[.int .i64 ei, .int .u64 ew, .int .i64 ev, .int .u64 er]) w')
        (first | exact ⟨y0, n1, LE.out _ hgA.drew⟩ | exact ⟨nb _, nc _, LE.out _ (hB.out _)⟩ | exact ⟨z0, z1, LE.out _ hg4⟩)
        ((refine step_append_lies _ (by rfl) _ _ _ (by rfl) 0 32 i0 _ 4 32 Try.underlying26 hi hz0 hz1 hz2 rfl (by omega) _ j (cellsE (es.take j)) (by rfl) (RA.out.fresh ((Below.refl _ A).alloc (Nat.le_refl _) _).drew).1 ⟨A.heap.size, 0, none⟩ 1 1 [.int .i64 ei, .int .u64 ew, .int .i64 ev, .int .u64 er] (by rfl) (by rfl) (World.news_of_block (cs := #[.int .i64 ei, .int .u64 ew, .int .i64 ev, .int .u64 er]) (t := 32) (fr := (0, 0)) (heap_alloc_new A _)) (by simp [Value.oneCell']) (by omega) (by simp only [maxLen]; omega) (by omega) (Nat.zero_le _) (A.heap.size + 1) (by simp) ?_; intro g4 cap4 w4 hown hgrow hat hlt4; obtain ⟨⟨hg4, hk4⟩, hr4, hs4⟩ := ents_app hgA hgkA RA.out KA.out hown hgrow hat; have z0 := (hs4 ⟨q, 0, none⟩ hqA (Or.inl hq)).trans y0; have z1 := (hs4 ⟨s, 1, none⟩ hsA (Or.inr hsO)).trans n1))
      have HB := Lib.hid hg4
      have HK := Lib.hid hk4
      have R := Lib.hid hr4
      clear hg4 hk4 hr4 hs4 hown hgrow hat
      go_wp2_with fail
      go_roundw
      case rel => exact ⟨j + 1, _, rfl, by omega, by go_num, by rw [ET.out]; exact R.out, HK.out, HB.out⟩
      case measure => simp [intOf]; omega
    · have hlt' : ¬ (j : Int) < (es.length : Int) := by omega
      have hje : j = es.length := by omega
      have R := Lib.hid hro
      have HB := Lib.hid hbw
      clear hro hk hbw
      go_wp2_with fail
      go_ret
      refine ⟨_, rfl, ?_, HB.out⟩
      have := R.out
      rw [hje, List.take_length] at this
      exact this.other (fun k hk e => this.2 k hk (.inl e))
end Go.Proofs.Ytdigakgfehaabaa.Queue
