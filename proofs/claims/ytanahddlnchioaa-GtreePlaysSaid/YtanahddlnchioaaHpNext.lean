/- What next of package arena does. Conditions: none. -/
import Derived.Test.YtanahddlnchioaaHpSet
namespace Go.Proofs.Ytanahddlnchioaa.Hp
open Go.ChangeShapes Go.WideShapes Go.ChangeAt Go.RowKit
set_option linter.unusedVariables false
set_option linter.unusedSimpArgs false

theorem infoP : (Try.prog.info? 90).map (fun i => (i.zero, i.size, i.bytes)) = some (some (.agg #[.int .i64 0, .int .i64 0, .bool false, .int .i64 0]), 4, 32) := by kernel_rfl
theorem infoI : (Try.prog.info? 3).map (fun i => (i.zero, i.size, i.bytes)) = some (some (.int .i64 0), 1, 8) := by kernel_rfl

theorem own_none {n c : Nat} {v : Value} {H g : Nat} (hat : v.ownBlock = some g ∨ g = H) : ∀ k, (Value.slice (some ⟨g, 0, none⟩) n c).ownBlock = some k → v.ownBlock = some k ∨ k = H := by
  intro k hk
  simp [Value.ownBlock] at hk
  subst hk
  exact hat

set_option maxRecDepth 100000 in
theorem next_new (w : World) (b : Nat) (O : Nat → Prop) (st : St) (h : Pool w b O st) (h1 : st.pl.length ≤ 4096) (h2 : st.fr = []) (hO : ∀ k, O k → k < w.heap.size) :
    Calls Try.prog 48 #[.pointer (some ⟨b, 0, none⟩)] w (Did (.int .i64 (st.pl.length : Int)) { st with pl := st.pl ++ [⟨0, 0, false, 0⟩] } b O w) := by
  obtain ⟨i0, hi, hz0, hz1, hz2⟩ := info_parts infoP
  obtain ⟨vp, vf, hP⟩ := h.parts
  obtain ⟨c0, c1, c2, fz⟩ := Pool.cells hP.blk
  obtain ⟨ap, cp, ep, _⟩ := hP.pl.shape
  obtain ⟨af, cf, ef, _⟩ := hP.fr.shape
  have d1 := cell_alloc c1
  rw [ep] at c1 d1
  rw [ef, h2] at c2
  simp only [List.length_nil] at c2
  go_enter Try.func48, Try.ntmps48
  go_wp2_with (at_builtin; refine wpList_append_lies _ rfl (.tmp 17) (.tmp 19) 85 rfl 0 90 i0 _ 4 32 Try.underlying85 hi hz0 hz1 hz2 rfl (by decide) vp _ _ (by rw [ep]; rfl) (hP.pl.1.alloc _) ⟨w.heap.size, 0, none⟩ 1 1 [.int .i64 0, .int .i64 0, .bool false, .int .i64 0] rfl rfl (World.news_of_block (heap_alloc_new w _)) (by simp [Value.oneCell']) (by decide) (by simp only [maxLen]; omega) (by omega) (Nat.zero_le _) (w.heap.size + 1) (by simp) ?_; intro g cap w1 hown hgrow hat hlt; obtain ⟨m0, m1, m2, mz⟩ := Pool.cells ((hP.alloc _).grownP hgrow).1)
  go_ret
  refine ⟨by simp, ?_, ?_⟩
  · refine ((hP.alloc _).endP hgrow hown (fun k hk => Nat.lt_succ_of_lt (hO k hk)) (own_none hat)).pool (st := { st with pl := st.pl ++ [⟨0, 0, false, 0⟩] }) (by simp) (by simp [cellsP_append, cellsP]) (by simp [h2]) (by simp [h2])
  · exact (((Same.refl O w).alloc hO _).grown hgrow (fun k hk => by simpa using Nat.lt_succ_of_lt (hO k hk)) hP.pl.2).setCell hP.out _

theorem next_old (w : World) (b : Nat) (O : Nat → Prop) (st : St) (l : List Nat) (i : Nat) (h : Pool w b O st) (h1 : st.fr.length ≤ 4096) (h2 : st.fr = l ++ [i]) (hO : ∀ k, O k → k < w.heap.size) :
    Calls Try.prog 48 #[.pointer (some ⟨b, 0, none⟩)] w (Did (.int .i64 (i : Int)) { st with fr := l } b O w) := by
  obtain ⟨vp, vf, hP⟩ := h.parts
  obtain ⟨gf, cf, rfl, _⟩ := hP.fr.1.form (by simp [h2])
  obtain ⟨c0, c1, c2, fz⟩ := Pool.cells hP.blk
  have hm : st.fr.length = l.length + 1 := by simp [h2]
  obtain ⟨_, _, e0, _, hcap⟩ := hP.fr.shape
  cases e0
  have k0 : w.cell? ⟨gf, l.length, none⟩ = some (.int .i64 (i : Int)) := by
    rw [hP.fr.1.cellAt _ (by omega), h2]; simp [cellsI]
  have A : Hid (_ ∧ _) := ⟨(hP.cut (k := l.length) (by omega)).pool (st := { st with fr := l }) rfl rfl rfl (by simp [cellsI, h2]), (Same.refl O w).setCell (p := ⟨b, 2, none⟩) hP.out (.slice (some ⟨gf, 0, none⟩) l.length cf)⟩
  rw [hm] at c2 hcap h1
  clear h hP c0 c1 h2 hm
  generalize l.length = n at *
  have f1 : (n : Int) ≤ cf := by omega
  have f2 : (n : Int) < ((n + 1 : Nat) : Int) := by omega
  go_enter Try.func48, Try.ntmps48
  go_wp2
  go_ret
  exact ⟨rfl, A.out⟩
end Go.Proofs.Ytanahddlnchioaa.Hp
