/- The walk of LedgerForgets. Conditions: each number is one of its kind. -/
import Derived.Test.YtnocgdhepmgncaaLedgerLists
import Derived.Deep.RegionHeld3
namespace Go.Proofs.Ytnocgdhepmgncaa.Ledger
open Go.ChangeShapes Go.WideShapes Go.ChangeAt Go.RowKit Go.Sort Mem
set_option linter.unusedVariables false
set_option linter.unusedSimpArgs false
set_option maxRecDepth 100000

def RunI (w : World) (lo hi b : Nat) (v : Option Addr) (l : List De) (left : Nat) (t : Value) (wr : World) : Prop := ∃ (k : Nat) (s : Bk), k ≤ l.length ∧ left = l.length - k ∧ t = .int .i64 (k : Int) ∧ Run w lo hi b v l (21 * k) s wr
theorem fgt_twice (s : Bk) (a : Int) : fgt (fgt s a) a = fgt s a := by
  unfold fgt
  simp only [Bk.mk.injEq, and_true]
  funext i
  unfold upd
  split <;> rfl
theorem fgt_own (s : Bk) (a : Int) : (fgt s a).t a = 0 := upd_at _ _ _
theorem fgt_other (s : Bk) {a i : Int} (h : i ≠ a) : (fgt s a).t i = s.t i := upd_ne _ h
set_option maxHeartbeats 4000000 in
theorem forgetsLaw (v : Option Addr) (n cap : Nat) (a b' g : Int) (w : World) (hn : n ≤ 9223372036854775807) (hc : Comes v n w) (ha : I64 a) (hb : I64 b') (hgI : I64 g) :
    Calls Try.prog 7 #[.slice v n cap, .int .i64 a, .int .i64 b', .int .i64 g] w (Yes w) := by
  have S := Lib.hid (fun w => shown w)
  have N := Lib.hid (fun w => new w)
  have FW : Hid (∀ w', Below w.heap.size w w' → Calls Try.prog 10 #[.slice v n cap] w' (Few w')) := fun w' hg => few v n cap w' hn (hc.fresh hg)
  have hg := Below.refl w.heap.size w
  clear hc
  go_enter Try.func7, Try.ntmps7
  go_wp2_with (first
    | (go_at_call 9; refine (S.out _).mono ?_; rintro e w1 ⟨rfl, hg1⟩; replace hg := fresh_trans hg hg1; clear hg1)
    | (go_at_call 10; refine (FW.out _ hg).mono ?_; rintro e w2 ⟨u, cp, l, rfl, hl60, hds, hls, hlow, hg2⟩)
    | (go_at_call 11; refine (N.out _).mono ?_; rintro e w3 ⟨b, rfl, hB, hg3⟩))
  have H0 : Hid (RunI w w2.heap.size w3.heap.size b u l l.length (.int .i64 0) w3) := ⟨0, Bk.new, by omega, by omega, rfl, begin_run hg hds hls hlow hg2 hB hg3⟩
  clear S N FW hg hds hls hlow hg2 hB hg3
  generalize w2.heap.size = lo at *
  generalize w3.heap.size = hi at *
  go_loopg [12] l.length (fun left t wr => RunI w lo hi b u l left t wr)
  case atStart => exact H0.out
  case round =>
    clear H0
    obtain ⟨k, s, hk, rfl, rfl, hR⟩ := hrel
    by_cases hlt : k < l.length
    · have q1 : (k : Int) < l.length := by omega
      obtain ⟨k1, o1, d, rfl, hd, hm, ⟨_, _, hd20⟩, CC⟩ := hR.cells hlt
      have CX := Lib.hid CC
      obtain ⟨x0, x1, x2, x3⟩ := CX.out _ _ _ hR
      have CR := Lib.hid (hR.credit (by omega) hm wr.drew (Below.refl _ _).drew)
      have NX := Lib.hid (fun w2 (h2 : Run w lo hi b (some ⟨k1, o1, none⟩) l (21 * k + 21) (cre s d.xs d.t d.ns) w2) => (show RunI w lo hi b (some ⟨k1, o1, none⟩) l (l.length - (k + 1)) (.int .i64 ((k : Int) + 1)) w2 from ⟨k + 1, _, by omega, rfl, by go_num, h2.mono (by omega)⟩))
      generalize code s d.xs d.t d.ns = ec at *
      generalize cre s d.xs d.t d.ns = s2 at *
      clear CC hR hd hm
      go_wp2_with fail
      go_region_held3 (fun w' => w'.cell? ⟨k1, o1 + k * 4, none⟩ = some (.slice d.a d.n d.c) ∧ w'.cell? ⟨k1, o1 + k * 4 + 1, none⟩ = some (.int .i64 d.t) ∧ w'.cell? ⟨k1, o1 + k * 4 + 2, none⟩ = some (.int .i64 d.ns)) (first | exact ⟨x0, x1, x2⟩ | exact ⟨y0, y1, y2⟩)
        (first
          | (go_at_call 15; (with_reducible refine CR.out.mono ?_); rintro e w2 ⟨rfl, R2⟩; obtain ⟨y0, y1, y2, y3⟩ := CX.out _ _ _ R2; replace R2 := Lib.hid R2))
      go_wp2_with fail
      go_roundg (l.length - (k + 1))
      case measure => omega
      case rel => exact NX.out _ R2.out
    · have q1 : ¬ (k : Int) < l.length := by omega
      have R := Lib.hid hR
      have hgo : ∀ wr N' s', Run w lo hi b u l N' s' wr → Below w.heap.size w wr := fun _ _ _ h => h.below
      have t1 : (fgt s a).t a = 0 := fgt_own s a
      have t2 := fgt_twice s a
      have t3 : ∀ i, i ≠ a → (fgt s a).t i = s.t i := fun i h => fgt_other s h
      have t4 : (fgt s a).g g = s.g g := rfl
      have t5 : (fgt s a).tot = s.tot := rfl
      have hN : 21 * k ≤ 900000 := by omega
      generalize 21 * k = N at *
      generalize hs1 : fgt s a = s1 at *
      have TA := Lib.hid (fun wr (h : Run w lo hi b u l N s wr) => h.task ha)
      have TB := Lib.hid (fun wr (h : Run w lo hi b u l N s wr) => h.task hb)
      have GG := Lib.hid (fun wr (h : Run w lo hi b u l N s wr) => h.group hgI)
      have TT := Lib.hid (fun wr (h : Run w lo hi b u l N s wr) => h.total)
      have FA := Lib.hid (fun wr (h : Run w lo hi b u l N s wr) => h.forget ha wr (Below.refl _ _))
      have FB := Lib.hid (fun wr (h : Run w lo hi b u l N s1 wr) => h.forget ha wr (Below.refl _ _))
      have TA1 := Lib.hid (fun wr (h : Run w lo hi b u l N s1 wr) => h.task ha)
      have TB1 := Lib.hid (fun wr (h : Run w lo hi b u l N s1 wr) => h.task hb)
      have GG1 := Lib.hid (fun wr (h : Run w lo hi b u l N s1 wr) => h.group hgI)
      have TT1 := Lib.hid (fun wr (h : Run w lo hi b u l N s1 wr) => h.total)
      have TS1 := Lib.hid (fun wr (h : Run w lo hi b u l N s1 wr) => h.tasks (by omega))
      rw [hs1] at FA
      rw [t2, t1] at FB
      rw [t1] at TA1
      rw [t4] at GG1
      rw [t5] at TT1
      have HS : Hid (∀ w1 ao cap L w', Ris s1.t L → L.length ≤ 1000000 → (∀ x ∈ L, I64 x) → w'.ownsRow w1 3 1 (.slice ao L.length cap) L.length (cL L) → Calls Try.prog 25 #[.slice ao L.length cap, .int .i64 a] w' (Is (.bool false) w')) := Lib.hid fun w1 ao cap L w' h1 h2 h3 h4 => by
        have := has _ ao L.length cap L a w' (path_row h4 h3 h2)
        rwa [show decide (a ∈ L) = false by rw [decide_eq_false_iff_not, h1.2]; simp [t1]] at this
      clear hR t1 t2 t4 t5 hN hs1
      by_cases hab : b' = a
      · subst hab
        clear TB TB1 t3
        generalize s.t b' = own at *
        generalize s.g g = grp at *
        generalize s.tot = T at *
        go_wp2_with (first
          | (go_at_call 19; (with_reducible refine (TA.out _ R.out).mono ?_); rintro e w' ⟨rfl, hg2⟩; replace R := Lib.hid (R.out.fresh hg2); clear hg2)
          | (go_at_call 19; (with_reducible refine (TA1.out _ R1.out).mono ?_); rintro e w' ⟨rfl, hg2⟩; replace R1 := Lib.hid (R1.out.fresh hg2); clear hg2)
          | (go_at_call 20; (with_reducible refine (GG.out _ R.out).mono ?_); rintro e w' ⟨rfl, hg2⟩; replace R := Lib.hid (R.out.fresh hg2); clear hg2)
          | (go_at_call 20; (with_reducible refine (GG1.out _ R1.out).mono ?_); rintro e w' ⟨rfl, hg2⟩; replace R1 := Lib.hid (R1.out.fresh hg2); clear hg2)
          | (go_at_call 17; (with_reducible refine (TT.out _ R.out).mono ?_); rintro e w' ⟨rfl, hg2⟩; replace R := Lib.hid (R.out.fresh hg2); clear hg2)
          | (go_at_call 17; (with_reducible refine (TT1.out _ R1.out).mono ?_); rintro e w' ⟨rfl, hg2⟩; replace R1 := Lib.hid (R1.out.fresh hg2); clear hg2)
          | (go_at_call 12; (with_reducible refine (FA.out _ R.out).mono ?_); rintro e w' ⟨rfl, r2⟩; have R1 := Lib.hid r2; clear r2 R)
          | (go_at_call 12; (with_reducible refine (FB.out _ R1.out).mono ?_); rintro e w' ⟨rfl, r2⟩; replace R1 := Lib.hid r2; clear r2)
          | (go_at_call 23; (with_reducible refine (TS1.out _ R1.out).mono ?_); rintro e w' ⟨ao, cp, L, rfl, ris, Lb, L64, own, hg2⟩; replace R1 := Lib.hid (R1.out.fresh hg2); have HH := Lib.hid (HS.out _ _ _ _ _ ris Lb L64 own); clear ris L64 own hg2)
          | (go_at_call 25; (with_reducible refine (HH.out).mono ?_); rintro e w' ⟨rfl, hg2⟩; replace R1 := Lib.hid (R1.out.fresh hg2); clear hg2))
        go_ret
        exact yes_of rfl (hgo _ _ _ R1.out)
      · have hab' : ¬ a = b' := fun e => hab e.symm
        rw [t3 b' hab] at TB1
        clear t3
        generalize s.t a = own at *
        generalize s.t b' = oth at *
        generalize s.g g = grp at *
        generalize s.tot = T at *
        go_wp2_with (first
          | (go_at_call 19; (with_reducible refine (TA.out _ R.out).mono ?_); rintro e w' ⟨rfl, hg2⟩; replace R := Lib.hid (R.out.fresh hg2); clear hg2)
          | (go_at_call 19; (with_reducible refine (TB.out _ R.out).mono ?_); rintro e w' ⟨rfl, hg2⟩; replace R := Lib.hid (R.out.fresh hg2); clear hg2)
          | (go_at_call 19; (with_reducible refine (TA1.out _ R1.out).mono ?_); rintro e w' ⟨rfl, hg2⟩; replace R1 := Lib.hid (R1.out.fresh hg2); clear hg2)
          | (go_at_call 19; (with_reducible refine (TB1.out _ R1.out).mono ?_); rintro e w' ⟨rfl, hg2⟩; replace R1 := Lib.hid (R1.out.fresh hg2); clear hg2)
          | (go_at_call 20; (with_reducible refine (GG.out _ R.out).mono ?_); rintro e w' ⟨rfl, hg2⟩; replace R := Lib.hid (R.out.fresh hg2); clear hg2)
          | (go_at_call 20; (with_reducible refine (GG1.out _ R1.out).mono ?_); rintro e w' ⟨rfl, hg2⟩; replace R1 := Lib.hid (R1.out.fresh hg2); clear hg2)
          | (go_at_call 17; (with_reducible refine (TT.out _ R.out).mono ?_); rintro e w' ⟨rfl, hg2⟩; replace R := Lib.hid (R.out.fresh hg2); clear hg2)
          | (go_at_call 17; (with_reducible refine (TT1.out _ R1.out).mono ?_); rintro e w' ⟨rfl, hg2⟩; replace R1 := Lib.hid (R1.out.fresh hg2); clear hg2)
          | (go_at_call 12; (with_reducible refine (FA.out _ R.out).mono ?_); rintro e w' ⟨rfl, r2⟩; have R1 := Lib.hid r2; clear r2 R)
          | (go_at_call 12; (with_reducible refine (FB.out _ R1.out).mono ?_); rintro e w' ⟨rfl, r2⟩; replace R1 := Lib.hid r2; clear r2)
          | (go_at_call 23; (with_reducible refine (TS1.out _ R1.out).mono ?_); rintro e w' ⟨ao, cp, L, rfl, ris, Lb, L64, own, hg2⟩; replace R1 := Lib.hid (R1.out.fresh hg2); have HH := Lib.hid (HS.out _ _ _ _ _ ris Lb L64 own); clear ris L64 own hg2)
          | (go_at_call 25; (with_reducible refine (HH.out).mono ?_); rintro e w' ⟨rfl, hg2⟩; replace R1 := Lib.hid (R1.out.fresh hg2); clear hg2))
        go_ret
        exact yes_of rfl (hgo _ _ _ R1.out)
end Go.Proofs.Ytnocgdhepmgncaa.Ledger
