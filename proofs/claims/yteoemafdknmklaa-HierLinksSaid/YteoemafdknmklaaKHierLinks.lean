/- For any two bytes the law HierLinks returns true: groups within groups are at most eight deep; one with somebody in it is not taken away, nor moved, nor within itself. Conditions: none. -/
import Derived.Test.YteoemafdknmklaaPkN
import Derived.Test.YteoemafdknmklaaPkM
import Derived.Test.YteoemafdknmklaaRows
import Derived.Test.YteoemafdknmklaaReadOn
import Derived.WalkKit
import Derived.ProofKit
import Derived.OpenShut
namespace Go.Proofs.Yteoemafdknmklaa.Hr
open Go.ChangeShapes Go.WideShapes Go.ChangeAt Go.RowKit Tree Queue
set_option linter.unusedVariables false
set_option linter.unusedSimpArgs false
set_option maxRecDepth 100000

theorem Lunlink {w : World} {h : Nat} {O : Nat → Prop} {S : Hs} (L : Lw h O S w) (hG : Good S) (g : Int) : Calls Try.prog 9 #[.pointer (some ⟨h, 0, none⟩), .int .i64 g] w (DidL (.int .i64 (errUnlinkH S g)) (unlinkH S g) h O w) := by
  obtain ⟨⟨b, qb, K⟩, hO⟩ := L
  obtain ⟨dep, hG⟩ := hG
  exact (unlink_ w h O b qb S K hO hG g).mono fun _ _ D => DidL.of hO D
def LkI (w : World) (h k : Nat) (left : Nat) (t : Value) (wr : World) : Prop := ∃ m : Nat, m ≤ k ∧ left = k - m ∧ t = .int .i64 ((m : Int) + 1) ∧ Lw h (· < w.heap.size) (lk m) wr ∧ Same (· < w.heap.size) w wr
set_option maxHeartbeats 8000000 in
theorem linksLaw (n task : Int) (w : World) (h0 : 0 ≤ n) (h1 : n ≤ 255) (h2 : 0 ≤ task) (h3 : task ≤ 255) :
    Calls Try.prog 3 #[.int .u8 n, .int .u8 task] w (IsTrue w) := by
  have MV : Hid (∀ w h O S, Lw h O S w → Fine S → ∀ g p : Int, Calls Try.prog 7 #[.pointer (some ⟨h, 0, none⟩), .int .i64 g, .int .i64 p] w (DidL (.int .i64 (errMoveH S g p)) (moveH S g p) h O w)) := Lib.hid fun w h O S L hF g p => by
    obtain ⟨⟨b, qb, K⟩, hO⟩ := L
    obtain ⟨⟨dep, hG⟩, _⟩ := hF
    exact (move_ w h O b qb S K hO hG g p).mono fun _ _ D => DidL.of hO D
  have A := Lib.hid (fun w => awake w)
  obtain ⟨m0, hm⟩ : ∃ m : Nat, n % 12 = m := ⟨(n % 12).toNat, by omega⟩
  obtain ⟨t, ht⟩ : ∃ t : Nat, task % 64 = t := ⟨(task % 64).toNat, by omega⟩
  obtain ⟨k, hk⟩ : ∃ k : Nat, k = m0 + 1 := ⟨_, rfl⟩
  have hk12 : k ≤ 12 := by omega
  have hk1 : 1 ≤ k := by omega
  have ht64 : t < 64 := by omega
  have hw1 : IntKind.i64.wrap (1 + (m0 : Int)) = (k : Int) := by rw [IntKind.wrap_i64]; omega
  clear hk
  go_enter Try.func3, Try.ntmps3
  go_wp2_with (first
    | (go_at_call 4; refine (A.out _).mono ?_; rintro e w1 ⟨rfl, hg⟩)
    | (go_at_call 5; refine (Lnew _ 0 0).mono ?_; rintro e w2 ⟨h, hh, rfl, hg1, hlt, hL⟩))
  have H0 : Hid (LkI w h k k (.int .i64 1) w2) := Lib.hid ⟨0, by omega, rfl, rfl, hL _ (fun k hk => Nat.lt_of_lt_of_le hk hg.size), Same.of (ft hg hg1) (fun k hk => hk)⟩
  clear hL hg1 hlt hh hg A hw1 hm
  generalize n % 12 = nm
  go_loopg [8] k (fun left t wr => LkI w h k left t wr)
  case atStart => exact H0.out
  case round =>
    clear H0
    obtain ⟨m, hmk, rfl, rfl, hL, hS⟩ := hrel
    by_cases hlt : m < k
    · have q1 : (m : Int) + 1 ≤ (k : Int) := by omega
      have q2 : IntKind.i64.wrap ((m : Int) + 1 - 1) = m := by rw [IntKind.wrap_i64]; omega
      have q3 : IntKind.i64.wrap ((m : Int) + 1 + 1) = (m : Int) + 1 + 1 := by rw [IntKind.wrap_i64]; omega
      have LK := Lib.hid (Llink hL (lk_fine m).good ((m : Int) + 1) m)
      have er := lk_err (n := m) (by omega)
      have NX : Hid (∀ w', Lw h (· < w.heap.size) (lk (m + 1)) w' → Same (· < w.heap.size) wr w' → LkI w h k (k - (m + 1)) (.int .i64 ((m : Int) + 1 + 1)) w') := Lib.hid fun w' hl hs => ⟨m + 1, by omega, rfl, by go_num, hl, hS.trans hs⟩
      rw [show linkH (lk m) ((m : Int) + 1) m = lk (m + 1) from rfl] at LK
      clear hL hS
      generalize lk (m + 1) = S1 at *
      generalize errLinkH (lk m) ((m : Int) + 1) m = ek at *
      by_cases h8 : m + 1 ≤ 8
      · have h8' : (m : Int) + 1 ≤ 8 := by omega
        have h9 := er.2 h8
        have hd8 : decide ((m : Int) + 1 ≤ 8) = true := decide_eq_true h8'
        clear er h8 h8'
        subst h9
        go_wp2_with (go_at_call 6; refine LK.out.mono ?_; rintro e w3 ⟨rfl, L3, s3⟩; have NX' := Lib.hid (NX.out w3 L3 s3); clear L3 s3)
        go_roundg (k - (m + 1))
        case measure => omega
        case rel => exact NX'.out
      · have h8' : ¬ (m : Int) + 1 ≤ 8 := by omega
        have h9 : (ek == 0) = false := beq_eq_false_iff_ne.2 fun e => h8 (er.1 e)
        have hd8 : decide ((m : Int) + 1 ≤ 8) = false := decide_eq_false h8'
        clear er h8 h8'
        go_wp2_with (go_at_call 6; refine LK.out.mono ?_; rintro e w3 ⟨rfl, L3, s3⟩; have NX' := Lib.hid (NX.out w3 L3 s3); clear L3 s3)
        go_roundg (k - (m + 1))
        case measure => omega
        case rel => exact NX'.out
    · obtain rfl : m = k := by omega
      have q1 : ¬ (m : Int) + 1 ≤ (m : Int) := by omega
      obtain ⟨d, hd⟩ : ∃ d : Nat, d = min m 8 := ⟨_, rfl⟩
      obtain ⟨a1, a2, a3, a4, a5, a6, a7, a8⟩ := lk_allk hk1 hk12 hd ht64
      obtain ⟨D, hD⟩ : ∃ D : Int, D = (d : Int) := ⟨_, rfl⟩
      rw [← hD] at a1 a2 a3 a6 a8
      have T1 : Hid (∀ w', Lw h (· < w.heap.size) (lk m) w' → Calls Try.prog 7 #[.pointer (some ⟨h, 0, none⟩), .int .i64 1, .int .i64 D] w' (DidL (.int .i64 10) (lk m) h (· < w.heap.size) w')) := Lib.hid fun w' L => by
        have := MV.out _ _ _ _ L (lk_fine m) 1 D
        rw [show moveH (lk m) 1 D = lk m from if_neg (by rw [a1]; decide), a1] at this
        exact this
      have T2 : Hid (∀ w', Lw h (· < w.heap.size) (lk m) w' → Calls Try.prog 8 #[.pointer (some ⟨h, 0, none⟩), .int .i64 D, .agg #[.int .i64 t, .int .u64 1024, .int .i64 0, .int .u64 0]] w' (DidL (.int .i64 0) (l1 m d t) h (· < w.heap.size) w')) := Lib.hid fun w' L => by
        have := Lput L (lk_fine m).good D (taskOf t) (by unfold taskOf I64; simp) (by unfold taskOf; simp) (by unfold taskOf; simp)
        rw [a2, hD] at this
        rw [hD]
        exact this
      have T3 : Hid (∀ w', Lw h (· < w.heap.size) (l1 m d t) w' → Calls Try.prog 9 #[.pointer (some ⟨h, 0, none⟩), .int .i64 D] w' (DidL (.int .i64 6) (l1 m d t) h (· < w.heap.size) w')) := Lib.hid fun w' L => by
        have := Lunlink L (l1_fine m d t).good D
        rw [show unlinkH (l1 m d t) D = l1 m d t from if_neg (by rw [a3]; decide), a3] at this
        exact this
      have T4 : Hid (∀ w', Lw h (· < w.heap.size) (l1 m d t) w' → Calls Try.prog 6 #[.pointer (some ⟨h, 0, none⟩), .int .i64 31, .int .i64 0] w' (DidL (.int .i64 0) (l2 m d t) h (· < w.heap.size) w')) := Lib.hid fun w' L => by
        have := Llink L (l1_fine m d t).good 31 0
        rw [a4] at this
        exact this
      have T5 : Hid (∀ w', Lw h (· < w.heap.size) (l2 m d t) w' → Calls Try.prog 7 #[.pointer (some ⟨h, 0, none⟩), .int .i64 1, .int .i64 31] w' (DidL (.int .i64 6) (l2 m d t) h (· < w.heap.size) w')) := Lib.hid fun w' L => by
        have := MV.out _ _ _ _ L (l2_fine m d t) 1 31
        rw [show moveH (l2 m d t) 1 31 = l2 m d t from if_neg (by rw [a5]; decide), a5] at this
        exact this
      have T6 : Hid (∀ w', Lw h (· < w.heap.size) (l2 m d t) w' → Calls Try.prog 10 #[.pointer (some ⟨h, 0, none⟩), .int .i64 D, .int .i64 t] w' (DidL (.tuple #[(dropE (l2 m d t) D t).val, .int .i64 0]) (l3 m d t) h (· < w.heap.size) w')) := Lib.hid fun w' L => by
        have := Ldrop L (l2_fine m d t).good D t
        rw [a6] at this
        rw [show dropH (l2 m d t) D t = l3 m d t by rw [hD]; rfl] at this
        exact this
      have T7 : Hid (∀ w', Lw h (· < w.heap.size) (l3 m d t) w' → Calls Try.prog 7 #[.pointer (some ⟨h, 0, none⟩), .int .i64 1, .int .i64 31] w' (DidL (.int .i64 (if d < 8 then 0 else 5)) (l4 m d t) h (· < w.heap.size) w')) := Lib.hid fun w' L => by
        have := MV.out _ _ _ _ L (l3_fine m d t) 1 31
        rw [a7] at this
        exact this
      have T8 : Hid (∀ w', Lw h (· < w.heap.size) (l4 m d t) w' → Calls Try.prog 9 #[.pointer (some ⟨h, 0, none⟩), .int .i64 D] w' (DidL (.int .i64 0) (unlinkH (l4 m d t) D) h (· < w.heap.size) w')) := Lib.hid fun w' L => by
        have := Lunlink L (l4_fine m d t).good D
        rw [a8] at this
        exact this
      have L0 := Lib.hid hL
      have S0 := Lib.hid hS
      clear MV a1 a2 a3 a4 a5 a6 a7 a8 hL hS hmk hlt
      generalize unlinkH (l4 m d t) D = s5 at *
      generalize l4 m d t = s4 at *
      generalize l3 m d t = s3 at *
      generalize dropE (l2 m d t) D t = E at *
      generalize l2 m d t = s2 at *
      generalize l1 m d t = s1 at *
      generalize lk m = s0 at *
      obtain ⟨ea, eb, ec, ed⟩ := E
      simp only [Ent.val] at T6
      rcases (show (m < 8 ∧ d = m) ∨ (m = 8 ∧ d = m) ∨ (8 < m ∧ d = 8) by omega) with ⟨h8, rfl⟩ | ⟨h8, rfl⟩ | ⟨h8, rfl⟩
      · have k1 : (d : Int) ≤ 8 := by omega
        have k2 : (d : Int) < 8 := by omega
        have k3 : ((d : Int) == 8) = false := beq_eq_false_iff_ne.2 (by omega)
        have k4 : decide ((d : Int) < 8) = true := decide_eq_true k2
        have k5 : ¬ (d : Int) = 8 := by omega
        rw [if_pos h8] at T7
        subst hD
        clear hd q1 h8
        go_wp2_with (first
          | (go_at_call 7; refine (T1.out _ L0.out).mono ?_; rintro e w3 ⟨rfl, L1, r1⟩; have L1 := Lib.hid L1; have S1 := Lib.hid (S0.out.trans r1); clear r1 T1)
          | (go_at_call 8; refine (T2.out _ L1.out).mono ?_; rintro e w4 ⟨rfl, L2, r2⟩; have L2 := Lib.hid L2; have S2 := Lib.hid (S1.out.trans r2); clear r2 T2)
          | (go_at_call 9; refine (T3.out _ L2.out).mono ?_; rintro e w5 ⟨rfl, L3, r3⟩; have L3 := Lib.hid L3; have S3 := Lib.hid (S2.out.trans r3); clear r3 T3)
          | (go_at_call 6; refine (T4.out _ L3.out).mono ?_; rintro e w6 ⟨rfl, L4, r4⟩; have L4 := Lib.hid L4; have S4 := Lib.hid (S3.out.trans r4); clear r4 T4)
          | (go_at_call 7; refine (T5.out _ L4.out).mono ?_; rintro e w7 ⟨rfl, L5, r5⟩; have L5 := Lib.hid L5; have S5 := Lib.hid (S4.out.trans r5); clear r5 T5)
          | (go_at_call 10; refine (T6.out _ L5.out).mono ?_; rintro e w8 ⟨rfl, L6, r6⟩; have L6 := Lib.hid L6; have S6 := Lib.hid (S5.out.trans r6); clear r6 T6)
          | (go_at_call 7; refine (T7.out _ (L6.out.fresh (alloc1 _ _))).mono ?_; rintro e w9 ⟨rfl, L7, r7⟩; have L7 := Lib.hid L7; have S7 := Lib.hid ((S6.out.trans (Same.of (alloc1 _ _) L6.out.2)).trans r7); clear r7 T7)
          | (go_at_call 9; refine (T8.out _ L7.out).mono ?_; rintro e w10 ⟨rfl, L8, r8⟩; have S8 := Lib.hid (S7.out.trans r8); clear r8 T8))
        go_ret
        exact ⟨rfl, S8.out.below⟩
      · have k1 : (d : Int) ≤ 8 := by omega
        have k2 : ¬ (d : Int) < 8 := by omega
        have k3 : ((d : Int) == 8) = true := beq_iff_eq.2 (by omega)
        have k4 : decide ((d : Int) < 8) = false := decide_eq_false k2
        rw [if_neg (by omega)] at T7
        subst hD
        clear hd q1 h8
        go_wp2_with (first
          | (go_at_call 7; refine (T1.out _ L0.out).mono ?_; rintro e w3 ⟨rfl, L1, r1⟩; have L1 := Lib.hid L1; have S1 := Lib.hid (S0.out.trans r1); clear r1 T1)
          | (go_at_call 8; refine (T2.out _ L1.out).mono ?_; rintro e w4 ⟨rfl, L2, r2⟩; have L2 := Lib.hid L2; have S2 := Lib.hid (S1.out.trans r2); clear r2 T2)
          | (go_at_call 9; refine (T3.out _ L2.out).mono ?_; rintro e w5 ⟨rfl, L3, r3⟩; have L3 := Lib.hid L3; have S3 := Lib.hid (S2.out.trans r3); clear r3 T3)
          | (go_at_call 6; refine (T4.out _ L3.out).mono ?_; rintro e w6 ⟨rfl, L4, r4⟩; have L4 := Lib.hid L4; have S4 := Lib.hid (S3.out.trans r4); clear r4 T4)
          | (go_at_call 7; refine (T5.out _ L4.out).mono ?_; rintro e w7 ⟨rfl, L5, r5⟩; have L5 := Lib.hid L5; have S5 := Lib.hid (S4.out.trans r5); clear r5 T5)
          | (go_at_call 10; refine (T6.out _ L5.out).mono ?_; rintro e w8 ⟨rfl, L6, r6⟩; have L6 := Lib.hid L6; have S6 := Lib.hid (S5.out.trans r6); clear r6 T6)
          | (go_at_call 7; refine (T7.out _ (L6.out.fresh (alloc1 _ _))).mono ?_; rintro e w9 ⟨rfl, L7, r7⟩; have L7 := Lib.hid L7; have S7 := Lib.hid ((S6.out.trans (Same.of (alloc1 _ _) L6.out.2)).trans r7); clear r7 T7)
          | (go_at_call 9; refine (T8.out _ L7.out).mono ?_; rintro e w10 ⟨rfl, L8, r8⟩; have S8 := Lib.hid (S7.out.trans r8); clear r8 T8))
        go_ret
        exact ⟨rfl, S8.out.below⟩
      · have k1 : ¬ (m : Int) ≤ 8 := by omega
        rw [if_neg (by omega)] at T7
        replace hD : D = 8 := hD
        subst hD
        clear hd q1 h8 hk1 hk12
        go_wp2_with (first
          | (go_at_call 7; refine (T1.out _ L0.out).mono ?_; rintro e w3 ⟨rfl, L1, r1⟩; have L1 := Lib.hid L1; have S1 := Lib.hid (S0.out.trans r1); clear r1 T1)
          | (go_at_call 8; refine (T2.out _ L1.out).mono ?_; rintro e w4 ⟨rfl, L2, r2⟩; have L2 := Lib.hid L2; have S2 := Lib.hid (S1.out.trans r2); clear r2 T2)
          | (go_at_call 9; refine (T3.out _ L2.out).mono ?_; rintro e w5 ⟨rfl, L3, r3⟩; have L3 := Lib.hid L3; have S3 := Lib.hid (S2.out.trans r3); clear r3 T3)
          | (go_at_call 6; refine (T4.out _ L3.out).mono ?_; rintro e w6 ⟨rfl, L4, r4⟩; have L4 := Lib.hid L4; have S4 := Lib.hid (S3.out.trans r4); clear r4 T4)
          | (go_at_call 7; refine (T5.out _ L4.out).mono ?_; rintro e w7 ⟨rfl, L5, r5⟩; have L5 := Lib.hid L5; have S5 := Lib.hid (S4.out.trans r5); clear r5 T5)
          | (go_at_call 10; refine (T6.out _ L5.out).mono ?_; rintro e w8 ⟨rfl, L6, r6⟩; have L6 := Lib.hid L6; have S6 := Lib.hid (S5.out.trans r6); clear r6 T6)
          | (go_at_call 7; refine (T7.out _ (L6.out.fresh (alloc1 _ _))).mono ?_; rintro e w9 ⟨rfl, L7, r7⟩; have L7 := Lib.hid L7; have S7 := Lib.hid ((S6.out.trans (Same.of (alloc1 _ _) L6.out.2)).trans r7); clear r7 T7)
          | (go_at_call 9; refine (T8.out _ L7.out).mono ?_; rintro e w10 ⟨rfl, L8, r8⟩; have S8 := Lib.hid (S7.out.trans r8); clear r8 T8))
        go_ret
        exact ⟨rfl, S8.out.below⟩
end Go.Proofs.Yteoemafdknmklaa.Hr

/- For any two bytes the law HierLinks returns true: groups within groups are at most eight deep; one with somebody in it is not taken away, nor moved, nor within itself. Conditions: none. -/
namespace Go.Proofs.Yteoemafdknmklaa.hierLinks
open Go.ChangeShapes Go.WideShapes Go.ChangeAt Go.RowKit
set_option linter.unusedVariables false

theorem own : ownKnob Try.prog.godebug = none := by kernel_rfl
theorem laid : laidOutB Try.prog = true := by kernel_rfl

set_option maxRecDepth 100000 in
theorem lifted (os : Os) (started : os.Started) (H : Type) (enc : TypeId × Value → H) :
    ReturnsInHanded {} Try.checked os 3 .any (Rows.hierLinksSpec.pre6 enc Try.prog Try.f3 Rows.hierLinksRow.domain false) (Rows.hierLinksSpec.post enc Try.prog Try.f3 false true false false) := by
  refine returnsInHanded_of_change_sized (C := Try.checked) own started (by kernel_rfl) Try.func3
    (ChangeSpec.witness6 (enc := enc) (C := Try.checked) false ⟨#[], #[.int .u8 0, .int .u8 0], []⟩ 8 (by kernel_rfl) (by kernel_rfl) (by kernel_rfl) (by kernel_rfl)) ?_
  intro W base args ds gs before hval0 hW hcnd hsz0 _
  have hval : ∀ (j : Nat) t v, Try.f3.params[j]? = some t → args[j]? = some v → Value.okWide Try.prog W .any base t v := hval0
  have hW' := hW
  obtain ⟨p, q, hA0, hV, rfl, hfz, hnd⟩ := hW
  have hA : DataW.TrodAll enc Try.prog W 0 (fun _ => true) true Try.f3.params.toList args.toList ds p := hA0
  have hAk := hA
  rw [Try.params3] at hA hval
  obtain ⟨v0, vs0, d0, ds0, p0, q0, hargs, rfl, rfl, h0, r0⟩ := trodAll_cons hA
  obtain ⟨v1, vs1, d1, ds1, p1, q1, rfl, rfl, rfl, h1, r1⟩ := trodAll_cons r0
  obtain ⟨rfl, rfl, rfl⟩ := trodAll_nil r1
  obtain rfl : args = #[v0, v1] := by cases args; simp_all
  obtain ⟨rfl, rfl⟩ := trodVars_none hV
  have hsz : (DataW.weightsEach Try.prog [5, 5] [d0, d1]).all (· ≤ reachBytes) = true := hsz0
  obtain ⟨a0, rfl, rfl, rfl, w0⟩ := open_int Try.underlying5 (hval 0 5 v0 rfl rfl) h0
  obtain ⟨a1, rfl, rfl, rfl, w1⟩ := open_int Try.underlying5 (hval 1 5 v1 rfl rfl) h1

  clear hA0 hval0 hsz hsz0
  have hW2 := hW'
  rw [List.append_nil] at hW2
  refine (show Calls Try.prog 3 #[.int .u8 a0, .int .u8 a1] W (fun e w' => e = .returned (.bool true) ∧ Below W.heap.size W w') from Hr.linksLaw a0 a1 W (bounds_u8 w0).1 (by have h := (bounds_u8 w0).2; omega) (bounds_u8 w1).1 (by have h := (bounds_u8 w1).2; omega)).mono fun e W' ⟨he, hg⟩ => ?_
  subst he
  exact ⟨_, rfl, Read.post laid (by kernel_rfl) hg hAk hW2 rfl rfl Try.underlying4 rfl⟩

theorem over : Rows.hierLinksRow.holds Try.pinned (OpenSpec.ofChange Rows.hierLinksSpec) :=
  OpenClaim.holds_of_wide 3 Try.f3 rfl rfl rfl rfl rfl rfl rfl ⟨rfl, rfl, rfl, rfl, rfl⟩ rfl rfl rfl rfl rfl (by kernel_rfl) Try.func3 (by kernel_rfl)
    (of_decide_eq_true (by kernel_rfl)) (by unfold Func.isWrapper; first | (rw [if_pos (by decide +kernel)]; kernel_rfl) | (rw [if_neg (by decide +kernel)]; exact ⟨rfl, rfl⟩))
    (fun os started H enc _ => lifted os started H enc)

/-- THE STATEMENT. -/
theorem proved : Rows.HierLinksSaid :=
  over
#print axioms proved
end Go.Proofs.Yteoemafdknmklaa.hierLinks
