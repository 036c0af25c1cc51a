/- What take of package runq does. Conditions: each number is one of its kind. -/
import Derived.Test.YteoemafdknmklaaQueueParts
import Derived.Test.YteoemafdknmklaaTreeNext
import Derived.Deep.RegionHeld3
namespace Go.Proofs.Yteoemafdknmklaa.Queue
open Go.ChangeShapes Go.WideShapes Go.ChangeAt Go.RowKit Tree
set_option linter.unusedVariables false
set_option linter.unusedSimpArgs false
set_option maxRecDepth 100000

/-- What is behind the delete from the map, and behind Delete. -/
theorem gone {w W w1 w2 w3 : World} {q m t : Nat} {O : Nat → Prop} {T : Tr} {st : St} {e : Ent} (h : Ql w q m t O T st) (hO : ∀ k, O k → k < w.heap.size) (ho : Once st.es) (he : e ∈ st.es) (gW : Below w.heap.size w W) (hm : Mp w1 m (drop st.es e.id)) (ht : W.mapTurned w1 m) (g2 : Below w1.heap.size w1 w2) :
    Kept w2 t (fun b => O b ∨ b = q ∨ b = m) T ∧ (∀ b, (O b ∨ b = q ∨ b = m) → b < w2.heap.size) ∧ e.key ∈ T.keys ∧
    ∀ e' w3, Del e.key t (fun b => O b ∨ b = q ∨ b = m) T w2 e' w3 → (Qu w3 q O { st with es := drop st.es e.id } ∧ Same O w w3) ∧ ∀ b, b < w2.heap.size → (b = q ∨ w.heap.size ≤ b) → w3.heap[b]? = w2.heap[b]? := by
  have hg := ht.grown
  have b1 : ∀ b, b < w.heap.size → b ≠ m → w2.heap[b]? = w.heap[b]? := fun b hb hbm => by
    have s1 : b < W.heap.size := Nat.lt_of_lt_of_le hb gW.size
    rw [g2.block b (Nat.lt_of_lt_of_le s1 hg.size), hg.block b s1 (fun e => hbm (by cases e; rfl)), gW.block b hb]
  have hs : w.heap.size ≤ w2.heap.size := Nat.le_trans gW.size (Nat.le_trans hg.size g2.size)
  have k2 : Kept w2 t (fun b => O b ∨ b = q ∨ b = m) T := kept_on h.kept fun b hb => b1 b (kept_lt h.kept b hb) (fun e => h.kept.apart b hb (.inr (.inr e)))
  have hkn : e.key ∈ T.keys := by
    rw [h.keys]
    exact List.mem_map.2 ⟨e, he, rfl⟩
  refine ⟨k2, ?_, hkn, ?_⟩
  · rintro b (hb | rfl | rfl)
    · exact Nat.lt_of_lt_of_le (hO b hb) hs
    · exact Nat.lt_of_lt_of_le h.blk.lt hs
    · exact Nat.lt_of_lt_of_le h.map.lt hs
  · rintro e' w3 ⟨T', rfl, k3, hk3, c3⟩
    have hqB : ∀ b, b < w2.heap.size → (O b ∨ b = q ∨ b = m) → w3.heap[b]? = w2.heap[b]? := fun b hb hm => c3.block b hb (fun e => h.kept.apart b (by rcases e with rfl | e <;> simp_all) hm)
    refine ⟨⟨⟨m, t, T', ?_, ?_, k3, ?_, h.oq, h.om, h.qm⟩, ?_⟩, fun b hb hx => c3.block b hb (fun e => ?_)⟩
    · exact h.blk.on ((hqB q (Nat.lt_of_lt_of_le h.blk.lt hs) (.inr (.inl rfl))).trans (b1 q h.blk.lt h.qm))
    · exact (hm.fresh g2).on (hqB m (hm.fresh g2).lt (.inr (.inr rfl)))
    · rw [hk3, h.keys]; exact (drop_key ho he).symm
    · refine ⟨?_, ?_, ?_, Nat.le_trans hs c3.size, fun k hk => ?_⟩
      · rw [c3.os, g2.os, hg.os, gW.os]
      · rw [c3.tape, g2.tape, hg.tape, gW.tape]
      · rw [c3.output, g2.output, hg.output, gW.output]
      · rw [hqB k (Nat.lt_of_lt_of_le (hO k hk) hs) (.inl hk), b1 k (hO k hk) (fun e => h.om (e ▸ hk))]
    · have hbl : b ∈ t :: T.bl := by rcases e with rfl | e <;> simp_all
      rcases hx with rfl | hx
      · exact h.kept.apart _ hbl (.inr (.inl rfl))
      · have := kept_lt h.kept b hbl
        omega
set_option maxHeartbeats 2000000 in
theorem dels (w : World) (q : Nat) (O : Nat → Prop) (st : St) (e : Ent) (h : Qu w q O st) (hO : ∀ k, O k → k < w.heap.size) (hid : I64 e.id) (ho : Once st.es) (he : e ∈ st.es) (hl : st.es.length ≤ 500) :
    Calls Try.prog 52 #[.pointer (some ⟨q, 0, none⟩), e.val] w (Goes { st with es := drop st.es e.id } q O w) := by
  obtain ⟨m, t, T, h⟩ := h
  have hgW := (Below.refl w.heap.size w).alloc (Nat.le_refl _) (.cells #[.int .i64 e.id, .int .u64 e.wt, .int .i64 e.v, .int .u64 e.rm] 30)
  obtain ⟨w1, hrun, hmp, hturn⟩ := ((h.map.fresh hgW).on (show (w.alloc (.cells #[.int .i64 e.id, .int .u64 e.wt, .int .i64 e.v, .int .u64 e.rm] 30)).drew.heap[m]? = _ from rfl)).del hid ho (List.any_eq_true.2 ⟨e, he, by simp⟩) 0
  have hturn' : (w.alloc (.cells #[.int .i64 e.id, .int .u64 e.wt, .int .i64 e.v, .int .u64 e.rm] 30)).drew.mapTurned w1 m := hturn
  have hgd : Below w.heap.size w (w.alloc (.cells #[.int .i64 e.id, .int .u64 e.wt, .int .i64 e.v, .int .u64 e.rm] 30)).drew := hgW.drew
  have L := Lib.hid (fun w2 g2 => gone (w2 := w2) (w3 := w2) h hO ho he hgd hmp hturn' g2)
  have I := Lib.hid (fun w2 (k : Kept w2 t (fun b => O b ∨ b = q ∨ b = m) T) (hk : e.key ∈ T.keys) => deletes w2 t (fun b => O b ∨ b = q ∨ b = m) T e.key k hk (by rw [h.keys]; simpa using Nat.le_trans hl (by omega)))
  obtain ⟨c0, c1, c2, c3, c4, fz⟩ := h.blk.cells
  have hq := h.blk.lt
  have hqm := h.qm
  have gt := hturn.grown
  obtain ⟨n0, n1, n2, n3, nz, nn⟩ := new_four (Below.refl _ (w.alloc (.cells #[.int .i64 e.id, .int .u64 e.wt, .int .i64 e.v, .int .u64 e.rm] 30)))
  have hml := h.map.lt
  have hbx : w.heap.size < (w.alloc (.cells #[.int .i64 e.id, .int .u64 e.wt, .int .i64 e.v, .int .u64 e.rm] 30)).heap.size := lt_of nn
  have at1 : ∀ b, b < w.heap.size + 1 → b ≠ m → w1.heap[b]? = (w.alloc (.cells #[.int .i64 e.id, .int .u64 e.wt, .int .i64 e.v, .int .u64 e.rm] 30)).heap[b]? := fun b hb hbm => gt.block b (by simp [World.drew]; omega) (fun e => hbm (by cases e; rfl))
  have x1 : w1.cell? ⟨q, 1, none⟩ = some (.pointer (some ⟨t, 0, none⟩)) := (World.cell?_of_block (at1 q (by omega) hqm)).trans ((hgW.cell (p := ⟨q, 1, none⟩) hq).trans c1)
  have y0 := (World.cell?_of_block (a := ⟨w.heap.size, 0, none⟩) (at1 w.heap.size (by omega) (by omega))).trans n0
  have y1 := (World.cell?_of_block (a := ⟨w.heap.size, 1, none⟩) (at1 w.heap.size (by omega) (by omega))).trans n1
  have y2 := (World.cell?_of_block (a := ⟨w.heap.size, 2, none⟩) (at1 w.heap.size (by omega) (by omega))).trans n2
  have y3 := (World.cell?_of_block (a := ⟨w.heap.size, 3, none⟩) (at1 w.heap.size (by omega) (by omega))).trans n3
  have hl1 : w.heap.size < w1.heap.size := Nat.lt_of_lt_of_le hbx gt.size
  have hq1 : q < w1.heap.size := by omega
  have KO := Lib.hid (fun w => keyOfs w e)
  clear h gt at1 nn nz hmp hturn hturn' hO ho he
  obtain ⟨ea, eb, ec, ed⟩ := e
  simp only [Ent.val, mapT, Ent.key] at *
  go_enter Try.func52, Try.ntmps52
  go_wp2_with fail
  go_region
  all_goals
    go_wp2_with fail
    go_region_held3 (fun w' => w'.cell? ⟨q, 1, none⟩ = some (.pointer (some ⟨t, 0, none⟩)) ∧ w'.cell? ⟨w.heap.size, 0, none⟩ = some (.int .i64 ea) ∧ w'.cell? ⟨w.heap.size, 1, none⟩ = some (.int .u64 eb) ∧ w'.cell? ⟨w.heap.size, 2, none⟩ = some (.int .i64 ec) ∧ w'.cell? ⟨w.heap.size, 3, none⟩ = some (.int .u64 ed))
      (first | exact ⟨x1, y0, y1, y2, y3⟩ | exact ⟨z1, u0, u1, u2, u3⟩ | exact ⟨r1, s0, s1, s2, s3⟩)
      (first
        | (go_at_call 68; refine (KO.out _).mono ?_; rintro e' w2 ⟨rfl, hg2⟩; replace hg2 := undrew hg2; have z1 := (hg2.cell (p := ⟨q, 1, none⟩) hq1).trans x1; have u0 := (hg2.cell (p := ⟨w.heap.size, 0, none⟩) hl1).trans y0; have u1 := (hg2.cell (p := ⟨w.heap.size, 1, none⟩) hl1).trans y1; have u2 := (hg2.cell (p := ⟨w.heap.size, 2, none⟩) hl1).trans y2; have u3 := (hg2.cell (p := ⟨w.heap.size, 3, none⟩) hl1).trans y3)
        | (go_at_call 70; refine (I.out _ (L.out _ hg2).1 (L.out _ hg2).2.2.1).mono ?_; rintro e' w3 hi; obtain ⟨e1, e2⟩ := (L.out _ hg2).2.2.2 _ _ hi; obtain ⟨T', rfl, _⟩ := hi; have Q := Lib.hid e1; have hq2 := Nat.lt_of_lt_of_le hq1 hg2.size; have hl2 := Nat.lt_of_lt_of_le hl1 hg2.size; have r1 := (World.cell?_of_block (a := ⟨q, 1, none⟩) (e2 q hq2 (.inl rfl))).trans z1; have s0 := (World.cell?_of_block (a := ⟨w.heap.size, 0, none⟩) (e2 _ hl2 (.inr (Nat.le_refl _)))).trans u0; have s1 := (World.cell?_of_block (a := ⟨w.heap.size, 1, none⟩) (e2 _ hl2 (.inr (Nat.le_refl _)))).trans u1; have s2 := (World.cell?_of_block (a := ⟨w.heap.size, 2, none⟩) (e2 _ hl2 (.inr (Nat.le_refl _)))).trans u2; have s3 := (World.cell?_of_block (a := ⟨w.heap.size, 3, none⟩) (e2 _ hl2 (.inr (Nat.le_refl _)))).trans u3; clear e1 e2))
    go_wp2_with fail
    go_end0
    exact ⟨rfl, Q.out⟩
end Go.Proofs.Yteoemafdknmklaa.Queue
