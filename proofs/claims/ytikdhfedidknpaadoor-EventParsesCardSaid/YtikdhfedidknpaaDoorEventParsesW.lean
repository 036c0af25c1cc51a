/- The law EventParses, walked. Conditions: the listed variables hold what they are listed with. -/
import Derived.Test.YtikdhfedidknpaaDoorEventDocQ
import Derived.Test.YtikdhfedidknpaaDoorEventJoinsW
namespace Go.Proofs.YtikdhfedidknpaaDoor.Event
open Go.ChangeShapes Go.WideShapes Go.ChangeAt Go.RowKit
open Mem (box_fresh owns_fresh)
set_option linter.unusedVariables false
set_option linter.unusedSimpArgs false
set_option maxRecDepth 100000

set_option maxHeartbeats 4000000 in
theorem parses_ (l : List UInt8) (w : World) (hT : Tab w) : Calls Tryd.prog 3 #[.string (str l)] w (IsYes w) := by
  have S0 := Lib.hid (fun (w : World) (hT : Tab w) => shown w hT)
  have hsz := str_size l
  by_cases hbig : 20000 < l.length
  · have hb' : (20000 : Int) < ((str l).size : Int) := by rw [hsz]; omega
    clear hsz
    generalize str l = F at *
    go_enter Tryd.func3, Tryd.ntmps3
    go_wp2_with (go_at_call 9; refine (S0.out _ hT).mono ?_; rintro e w1 ⟨rfl, hg⟩)
    go_ret
    exact ⟨rfl, hg⟩
  · have hb' : ¬ (20000 : Int) < ((str l).size : Int) := by rw [hsz]; omega
    have P1 := Lib.hid (fun (w : World) (hT : Tab w) => parse_ l (by omega) w hT)
    have P2 := Lib.hid (fun (w : World) => docParse l (by omega) w)
    have hf := parse_few l
    obtain ⟨r, hr⟩ : ∃ r, r = parseP MK l := ⟨_, rfl⟩
    rw [← hr] at P1 P2 hf
    clear hr hsz
    generalize str l = F at *
    obtain ⟨L, at_, bad⟩ := r
    have SM := Lib.hid (fun (a b : Option Addr) (c1 c2 : Nat) (w : World) (h1 : Evs a L w) (h2 : Evs b L w) => same_ a b L c1 c2 w h1 h2 (by simp only at hf; omega))
    unfold IsParsed at P1 P2
    simp only at P1 P2
    go_enter Tryd.func3, Tryd.ntmps3
    go_upto_region 5 with (first
      | (go_at_call 9; refine (S0.out _ hT).mono ?_; rintro e w1 ⟨rfl, hg⟩; replace hT := hT.fresh hg)
      | (go_at_call 10; refine (P1.out _ hT).mono ?_; rintro e w2 ⟨v2, rfl, hO, h1⟩; replace hg := hg.trans (h1.mono hg.size)))
    obtain ⟨va, vc, hva⟩ := hO.shape
    subst hva
    have E1 := hO.evs.1
    clear hO P1 S0 hT h1
    go_upto_region 6 with (go_at_call 11; refine (P2.out _).mono ?_; rintro e w3 ⟨v3, rfl, hO3, h1⟩; replace hg := hg.trans (h1.mono hg.size); replace E1 := E1.fresh h1)
    obtain ⟨vb, vd, hvb⟩ := hO3.shape
    subst hvb
    have E2 := hO3.evs.1
    clear hO3 P2 h1
    go_wp2_with (go_at_call 12; refine (SM.out _ _ _ _ _ E1 E2).mono ?_; rintro e w4 ⟨rfl, h2⟩; replace hg := hg.trans (h2.mono hg.size))
    go_ret
    exact ⟨by simp, hg⟩
theorem parses' (s : ByteArray) (W : World) (hT : Tab W) : Calls Tryd.prog 3 #[.string s] W (IsYes W) := by
  rw [str_data s]
  exact parses_ s.data.toList W hT
end Go.Proofs.YtikdhfedidknpaaDoor.Event
