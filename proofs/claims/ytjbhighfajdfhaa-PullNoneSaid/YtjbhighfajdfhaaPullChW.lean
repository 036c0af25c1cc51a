/- The walk of PullChooses. Conditions: each argument is a number of its kind; a slice has room for what it holds. -/
import Derived.Test.YtjbhighfajdfhaaPullLaws
import Derived.Deep.RegionHeld3
namespace Go.Proofs.Ytjbhighfajdfhaa.Pull
open Go.ChangeShapes Go.WideShapes Go.ChangeAt Go.RowKit Load
set_option linter.unusedVariables false
set_option linter.unusedSimpArgs false
attribute [local irreducible] Go.wpQuiet

def ChoL (n : Nat) (w : World) (left : Nat) (t22 : Value) (wr : World) : Prop := ∃ k : Nat, left + k = n ∧ t22 = .int .i64 k ∧ Below w.heap.size w wr
set_option maxRecDepth 100000 in
set_option maxHeartbeats 4000000 in
theorem choosesLaw (v : Option Addr) (n cap : Nat) (C : Nat → Cd) (f t p x : Int) (w : World) (hf : U64 f) (ht : U64 t) (hx : U64 x) (hn : n ≤ 9223372036854775807) (h : In v n cap C w) :
    Calls Try.prog 3 #[.slice v n cap, .int .u64 f, .int .u64 t, .int .i64 p, .int .u64 x] w (Yes w) := by
  have S := Lib.hid (fun w => shown w)
  have hI := Lib.hid h
  have FW := Lib.hid (fun w (h : In v n cap C w) => few' v n cap C w hn h)
  have IL : Hid (∀ w, In v n cap C w → In v (min n 100) cap C w) := Lib.hid fun w h => h.less (by omega)
  have hk : min n 100 ≤ 100 := by omega
  have hln : min n 100 ≤ n := by omega
  generalize min n 100 = l at *
  have CH := Lib.hid (fun w (h : In v l cap C w) => choose' v l cap C f t p w hf ht hk h)
  have RH := Lib.hid (fun ao cp w (hc : Cs ao l C w) => refChooses ao l cp C f t p w hf ht (by omega) (Lib.hid fun j hj => h.nums j (by omega)) (Lib.hid hc))
  have RL := Lib.hid (fun w (h : In v l cap C w) => reals v l cap C w hk (Lib.hid h.lies))
  have AF := Lib.hid (fun w => after f t x w hf ht hx)
  have AR := Lib.hid (fun w => refAfter f t x w hf ht hx)
  unfold Two at CH RH
  unfold RowC at RL
  generalize cho C (gap f t) p l = R at *
  generalize plc R = r1 at *
  generalize fnd R = r2 at *
  generalize gap f x = r3 at *
  generalize top t x = r4 at *
  have hg := Below.refl w.heap.size w
  clear h
  go_enter Try.func3, Try.ntmps3
  go_upto_region 7 with (first
    | (go_at_call 9; refine (S.out _).mono ?_; rintro e w' ⟨rfl, hg1⟩; replace hI := Lib.hid (hI.out.fresh hg1); replace hg := fresh_trans hg hg1; clear hg1)
    | (go_at_call 10; refine (FW.out _ hI.out).mono ?_; rintro e w1 ⟨rfl, hw⟩; replace hw := hw.symm; subst hw; replace hI := Lib.hid (IL.out _ hI.out))
    | (go_at_call 11; refine (CH.out _ hI.out).mono ?_; rintro e w2 ⟨rfl, hg1⟩; replace hI := Lib.hid (hI.out.fresh hg1); replace hg := fresh_trans hg hg1; clear hg1)
    | (go_at_call 13; refine (RL.out _ hI.out).mono ?_; rintro e w3 ⟨ao, cp, rfl, hcs, hg1⟩; replace hI := Lib.hid (hI.out.fresh hg1); replace hg := fresh_trans hg hg1; clear hg1)
    | (go_at_call 12; refine (RH.out _ _ _ hcs).mono ?_; rintro e w4 ⟨rfl, hg1⟩; replace hI := Lib.hid (hI.out.fresh hg1); replace hg := fresh_trans hg hg1; clear hg1 hcs)
    | (go_at_call 14; refine (AF.out _).mono ?_; rintro e w5 ⟨rfl, hg1⟩; replace hI := Lib.hid (hI.out.fresh hg1); replace hg := fresh_trans hg hg1; clear hg1)
    | (go_at_call 15; refine (AR.out _).mono ?_; rintro e w6 ⟨rfl, hg1⟩; replace hI := Lib.hid (hI.out.fresh hg1); replace hg := fresh_trans hg hg1; clear hg1))
  clear S FW IL CH RH AF AR
  go_wp2_with (go_at_call 13; refine (RL.out _ hI.out).mono ?_; rintro e w7 ⟨ap, cq, rfl, hcs, hg1⟩; replace hI := Lib.hid (hI.out.fresh hg1); replace hg := fresh_trans hg hg1; clear hg1)
  have HCS := Lib.hid hcs
  clear hcs RL
  go_loopg [22] l (fun left t22 wr => ChoL l w7 left t22 wr)
  case atStart => exact ⟨0, by omega, rfl, Below.refl _ _⟩
  case round =>
    obtain ⟨k, hk', rfl, hb⟩ := hrel
    by_cases hlt : k < l
    · have h3 : (k : Int) < l := by omega
      have k0 : (0 : Int) ≤ k := by omega
      have hO := hI.out.nums k hlt
      obtain ⟨b1, o1, rfl, _, x0, x1, x2, x3⟩ := hI.out.lies.fresh hb k hlt
      obtain ⟨b2, o2, rfl, _, y0, y1, y2, y3⟩ := HCS.out.fresh hb k hlt
      have MP := Lib.hid (fun w => mays (C k) x p w hO)
      have MR := Lib.hid (fun w => refMays (C k) x p w hO)
      have HF : Hid (∀ wx, Below w7.heap.size w7 wx → ChoL l w7 (gk - 1) (.int .i64 ((k : Int) + 1)) wx) := Lib.hid fun wx h => ⟨k + 1, by omega, by go_num, h⟩
      generalize mayc (C k) x p = mk at *
      generalize C k = ck at *
      obtain ⟨ki, kw, km, kr⟩ := ck
      unfold vCd at MP MR
      simp only at x0 x1 x2 x3 y0 y1 y2 y3 MP MR
      have hgd := (Below.refl wr.heap.size wr).drew
      have HN1 := Lib.hid (fun w4 (hg4 : Below wr.heap.size wr w4) => And.intro (cell_fresh x0 hg4) (And.intro (cell_fresh x1 hg4) (And.intro (cell_fresh x2 hg4) (And.intro (cell_fresh x3 hg4) (And.intro (cell_fresh y0 hg4) (And.intro (cell_fresh y1 hg4) (And.intro (cell_fresh y2 hg4) (cell_fresh y3 hg4))))))))
      clear hO
      cases mk <;>
      (go_wp2_with fail
       go_region_held3 (fun w' => w'.cell? ⟨b1, o1 + k * 4, none⟩ = some (.int .i64 ki) ∧ w'.cell? ⟨b1, o1 + k * 4 + 1, none⟩ = some (.int .u64 kw) ∧ w'.cell? ⟨b1, o1 + k * 4 + 2, none⟩ = some (.int .u64 (km : Int)) ∧ w'.cell? ⟨b1, o1 + k * 4 + 3, none⟩ = some (.bool kr) ∧ w'.cell? ⟨b2, o2 + k * 4, none⟩ = some (.int .i64 ki) ∧ w'.cell? ⟨b2, o2 + k * 4 + 1, none⟩ = some (.int .u64 kw) ∧ w'.cell? ⟨b2, o2 + k * 4 + 2, none⟩ = some (.int .u64 (km : Int)) ∧ w'.cell? ⟨b2, o2 + k * 4 + 3, none⟩ = some (.bool kr)) (first | exact ⟨x0, x1, x2, x3, y0, y1, y2, y3⟩ | exact ce) (first | (go_at_call 16; refine (MP.out _).mono ?_; rintro e w4 ⟨rfl, hg4⟩; replace hgd := hgd.trans (hg4.mono hgd.size); have ce := HN1.out _ hgd) | (go_at_call 17; refine (MR.out _).mono ?_; rintro e w5 ⟨rfl, hg5⟩; replace hgd := hgd.trans (hg5.mono hgd.size); have ce := HN1.out _ hgd))
       go_wp2_with fail
       go_roundg (gk - 1)
       case measure => omega
       case rel => exact HF.out _ (hb.trans (hgd.mono hb.size)))
    · have h3 : ¬ (k : Int) < l := by omega
      cases r2 <;>
      (go_wp2_with fail
       go_ret
       exact yes_of (by simp) (fresh_trans hg hb))
end Go.Proofs.Ytjbhighfajdfhaa.Pull
