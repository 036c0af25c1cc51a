/- What Forget and Tasks do; a nil book. Conditions: as each fact states them. -/
import Derived.Test.YtnocgdhepmgncaaLedgerCredit
namespace Go.Proofs.Ytnocgdhepmgncaa.Ledger
open Go.ChangeShapes Go.WideShapes Go.ChangeAt Go.RowKit Go.Sort Mem
set_option linter.unusedVariables false
set_option linter.unusedSimpArgs false
set_option maxRecDepth 100000

set_option maxHeartbeats 1000000 in
theorem forget (w : World) (lo hi b N : Nat) (s : Bk) (i : Int) (hI : I64 i) (h : Book w lo hi b N s) :
    Calls Try.prog 12 #[.pointer (some ⟨b, 0, none⟩), .int .i64 i] w (Did lo hi b N (fgt s i) (.int .i64 (s.t i)) w) := by
  have M := Lib.hid (made w _ _ _ _ _ h)
  obtain ⟨mt, mg, hP⟩ := h
  have FF : Hid (∀ w1, Below w.heap.size w w1 → (_ ∧ _ ∧ _ ∧ _) ∧ (Instr.lookup 54 (.map (some mt)) (.int .i64 i) false).run Try.prog w1 = .ok (.int .i64 (s.t i)) w1 ∧
      ∃ w2, (∀ ty, (Builtin.delete_ #[54, 3] ty #[.map (some mt), .int .i64 i]).run Try.prog w1 = .ok (.tuple #[]) w2) ∧ Did lo hi b N (fgt s i) (.int .i64 (s.t i)) w (.returned (.int .i64 (s.t i))) w2) := fun w1 hg => by
    have hP1 := hP.fresh hg
    obtain ⟨w2, hr, ha, hgr⟩ := hP1.t.del hI 0
    exact ⟨three hP1.blk, hP1.t.look hI, w2, fun ty => hr, rfl, ⟨mt, mg, hP1.turnT hgr (Nat.le_refl _) ha⟩, (But.of hg).trans (But.grown hgr hP.t0 hP.t1)⟩
  clear hP
  generalize s.t i = v at *
  go_enter Try.func12, Try.ntmps12
  go_wp2_with (go_at_call 26; refine M.out.mono ?_; rintro e w1 ⟨rfl, hg1⟩; obtain ⟨⟨c0, c1, c2, cz⟩, hlk, w2, hdel, hF⟩ := FF.out _ hg1; replace hF := Lib.hid hF)
  go_ret
  exact hF.out

theorem i64_of {x : Int} (h : (Lit.int .i64 x).wf = true) : I64 x := by
  simp [Lit.wf, IntKind.min, IntKind.max, IntKind.signed, IntKind.bits] at h
  exact h
theorem keysOf {w : World} {m N : Nat} {D : DataW Unit} {f : Int → Int} (ho : w.ownsMap Try.prog 3 (plainElem Try.prog 2) m N D) (hhas : ∀ i, Maps.has D (.int .i64 i) = decide (f i ≠ 0)) : (intKeys D).Nodup ∧ ∀ i, i ∈ intKeys D ↔ f i ≠ 0 := by
  obtain ⟨es, hD, hp, _⟩ := ho.entries (Maps.int_keyed Try.underlying3)
  obtain ⟨es', hD', hko⟩ := ho.keysOf
  obtain rfl : es = es' := by rw [hD] at hD'; simpa using hD'
  subst hD
  have hk : ∀ p ∈ es, ∃ x, p.1 = .int .i64 x := fun p hp => by obtain ⟨v, hv⟩ := hko p hp; obtain ⟨x, _, hx, _⟩ := Maps.keyOf_i64 Try.underlying3 hv; exact ⟨x, hx⟩
  constructor
  · show (es.map fun p => Go.intOf p.1).Nodup
    refine List.pairwise_map.2 (hp.imp_of_mem fun {p q} hp' hq' hne e => hne ?_)
    obtain ⟨a, ha⟩ := hk p hp'
    obtain ⟨b, hb⟩ := hk q hq'
    rw [ha, hb] at e ⊢
    exact congrArg _ e
  · intro i
    have h1 := hhas i
    rw [Maps.has_eq] at h1
    rw [← decide_eq_true_iff (p := f i ≠ 0), ← h1, List.any_eq_true]
    show i ∈ es.map (fun p => Go.intOf p.1) ↔ _
    rw [List.mem_map]
    constructor
    · rintro ⟨p, hp', rfl⟩
      obtain ⟨a, ha⟩ := hk p hp'
      exact ⟨p, hp', by rw [ha]; simp [Lit.sameKey, Go.intOf]⟩
    · rintro ⟨p, hp', hs⟩
      obtain ⟨a, ha⟩ := hk p hp'
      rw [ha] at hs
      exact ⟨p, hp', by rw [ha]; simpa [Lit.sameKey, Go.intOf] using hs⟩
/-- Tasks of a book: rising, each that had something. -/
def Told (f : Int → Int) (w : World) (e : Ending) (w' : World) : Prop := ∃ ao cap l, e = .returned (.slice ao l.length cap) ∧ Ris f l ∧ l.length ≤ 1000000 ∧ (∀ x ∈ l, I64 x) ∧ w'.ownsRow w.heap.size 3 1 (.slice ao l.length cap) l.length (cL l) ∧ Below w.heap.size w w'
set_option maxHeartbeats 1000000 in
theorem tasks (w : World) (lo hi b N : Nat) (s : Bk) (hN : N ≤ 1000000) (h : Book w lo hi b N s) :
    Calls Try.prog 23 #[.pointer (some ⟨b, 0, none⟩)] w (Told s.t w) := by
  have M := made w _ _ _ _ _ h
  obtain ⟨mt, mg, hP⟩ := h
  have FF : Hid (∀ w1, Below w.heap.size w w1 → (_ ∧ _ ∧ _ ∧ _) ∧ ∃ D : DataW Unit, w1.ownsMap Try.prog 3 (plainElem Try.prog 2) mt N D ∧ Maps.size D ≤ maxLen ∧ Maps.size D * 8 ≤ 140737488355328 ∧ ∀ (v : Value) (ss : List Int) (w2 : World), ss.Perm (intKeys D) → w2.ownsRow (w1.alloc (.cells #[.map (some mt)] 54)).heap.size 3 1 v ss.length ((ss.mergeSort (fun x y => decide (x ≤ y))).map encZ) → Below (w1.alloc (.cells #[.map (some mt)] 54)).heap.size (w1.alloc (.cells #[.map (some mt)] 54)) w2 → Told s.t w (.returned v) w2) := fun w1 hg => by
    have hP1 := hP.fresh hg
    obtain ⟨D, ho, hat, hhas⟩ := hP1.t
    have hsz : Maps.size D ≤ N := by
      obtain ⟨es, clock, hb, F, hs, rfl⟩ := ho
      simp only [Maps.size, length_sorted, List.length_map, Array.length_toList]
      exact hs
    refine ⟨three hP1.blk, D, ho, by simp only [maxLen]; omega, by omega, fun v ss w2 hperm hown hb => ?_⟩
    have z1 : (w1.alloc (.cells #[.map (some mt)] 54)).heap.size = w1.heap.size + 1 := World.size_alloc _ _
    obtain ⟨ao, cap, rfl⟩ := owns_shape hown
    have hkeys := keysOf ho hhas
    have hl : (ss.mergeSort (fun x y => decide (x ≤ y))).length = ss.length := (List.mergeSort_perm ss _).length_eq
    have hln : ss.length ≤ 1000000 := by
      have := hperm.length_eq
      have h2 : (intKeys D).length ≤ N := by
        obtain ⟨es, clock, hb, F, hs, rfl⟩ := ho
        simp only [intKeys, List.length_map, length_sorted, Array.length_toList]
        exact hs
      omega
    refine ⟨ao, cap, ss.mergeSort (fun x y => decide (x ≤ y)), by rw [hl], ris_sort (hperm.nodup_iff.2 hkeys.1) (fun i => by rw [hperm.mem_iff, hkeys.2]), by omega, fun x hx => i64_of (intKeys_wf ho Try.underlying3 x (hperm.mem_iff.1 ((List.mergeSort_perm ss _).mem_iff.1 hx))), ?_, ?_⟩
    · rw [hl]
      exact owns_lower hown (by have := hg.size; omega)
    · exact (fresh_trans hg (alloc1 w1 _)).trans (hb.mono (by have := hg.size; omega))
  clear hP
  refine (callsIn_wide (n := 6)).1 ?_
  have hfK : Fence.wide.fn 29 := trivial
  have hfS : Fence.wide.fn 28 := trivial
  have hfM : Fence.wide.fn 26 := trivial
  have M' : Hid (∀ n, CallsIn Fence.wide n Try.prog 26 #[.pointer (some ⟨b, 0, none⟩)] w (Is (.bool true) w)) := fun n => callsIn_wide.2 M
  refine callsIn_of_wp Try.func23 rfl trivial ?_ rfl
  simp only [Try.ntmps23, List.size_toArray, List.length_cons, List.length_nil, Nat.reduceAdd, Nat.reduceSub, Array.replicate_succ, Array.replicate_zero, List.push_toArray, List.append_toArray, List.nil_append, List.cons_append]
  gi_wp2_with (first
    | (gi_at_call 26; refine (M'.out _).mono ?_; rintro e w1 ⟨rfl, hg1⟩; obtain ⟨⟨c0, c1, c2, cz⟩, D, ho, hm1, hm2, hF⟩ := FF.out _ hg1; replace hF := Lib.hid hF)
    | (gi_at_call 29; refine (Try.maps_Keys_int _ _).mono ?_; rintro e w2 ⟨rfl, rfl⟩)
    | (gi_at_call 28; refine (Try.slices_Sorted_keys_int mt N D (plainElem Try.prog 2) w1 ho hm1 hm2).mono ?_; rintro e w3 ⟨v, ss, rfl, hS, hrow, hnil, hb⟩; have hD := hF.out v ss w3 hS hrow hb))
  go_ret
  exact hD

/-! ### a book that is nil -/
theorem credit_nil (w : World) (v : Value) (task ns : Int) : Calls Try.prog 15 #[.pointer none, v, .int .i64 task, .int .i64 ns] w (Is (.int .i64 1) w) := by
  have M := Lib.hid (made_nil w)
  go_enter Try.func15, Try.ntmps15
  go_wp2_with (go_at_call 26; refine M.out.mono ?_; rintro e w1 ⟨rfl, hg1⟩)
  go_ret
  exact ⟨rfl, hg1⟩
theorem task_nil (w : World) (i : Int) : Calls Try.prog 19 #[.pointer none, .int .i64 i] w (Is (.int .i64 0) w) := by
  have M := Lib.hid (made_nil w)
  go_enter Try.func19, Try.ntmps19
  go_wp2_with (go_at_call 26; refine M.out.mono ?_; rintro e w1 ⟨rfl, hg1⟩)
  go_ret
  exact ⟨rfl, hg1⟩
theorem group_nil (w : World) (i : Int) : Calls Try.prog 20 #[.pointer none, .int .i64 i] w (Is (.int .i64 0) w) := by
  have M := Lib.hid (made_nil w)
  go_enter Try.func20, Try.ntmps20
  go_wp2_with (go_at_call 26; refine M.out.mono ?_; rintro e w1 ⟨rfl, hg1⟩)
  go_ret
  exact ⟨rfl, hg1⟩
theorem total_nil (w : World) : Calls Try.prog 17 #[.pointer none] w (Is (.int .i64 0) w) := by
  have M := Lib.hid (made_nil w)
  go_enter Try.func17, Try.ntmps17
  go_wp2_with (go_at_call 26; refine M.out.mono ?_; rintro e w1 ⟨rfl, hg1⟩)
  go_ret
  exact ⟨rfl, hg1⟩
theorem forget_nil (w : World) (i : Int) : Calls Try.prog 12 #[.pointer none, .int .i64 i] w (Is (.int .i64 0) w) := by
  have M := Lib.hid (made_nil w)
  go_enter Try.func12, Try.ntmps12
  go_wp2_with (go_at_call 26; refine M.out.mono ?_; rintro e w1 ⟨rfl, hg1⟩)
  go_ret
  exact ⟨rfl, hg1⟩
theorem tasks_nil (w : World) : Calls Try.prog 23 #[.pointer none] w (Is (.slice none 0 0) w) := by
  have M := Lib.hid (made_nil w)
  go_enter Try.func23, Try.ntmps23
  go_wp2_with (go_at_call 26; refine M.out.mono ?_; rintro e w1 ⟨rfl, hg1⟩)
  go_ret
  exact ⟨rfl, hg1⟩
end Go.Proofs.Ytnocgdhepmgncaa.Ledger
