/- The law EventTexts, walked. Conditions: the listed variables hold what they are listed with; numbers are of their kinds. -/
import Derived.Test.YtikdhfedidknpaaDoorEventWords
import Derived.Test.YtikdhfedidknpaaDoorEventDocT
import Derived.Test.YtikdhfedidknpaaDoorEventEnd
namespace Go.Proofs.YtikdhfedidknpaaDoor.Event
open Go.ChangeShapes Go.WideShapes Go.ChangeAt Go.RowKit
open Mem (box_fresh owns_fresh)
set_option linter.unusedVariables false
set_option linter.unusedSimpArgs false
set_option maxRecDepth 100000

def TzI (w w0 : World) (t : Value) (wr : World) : Prop := ∃ k : Nat, k ≤ 15 ∧ t = .int .i64 k ∧ ∃ m, wr = w0.drewN m
set_option maxHeartbeats 4000000 in
theorem texts_ (a : Option Addr) (l : List Ev) (cap : Nat) (x : Ev) (w : World) (hT : Tab w) (hV : Evs a l w) (hok : ∀ e ∈ l, e.Ok) (hl : l.length ≤ 9223372036854775807) : Calls Tryd.prog 4 #[.slice a l.length cap, evV x] w (IsYes w) := by
  have S0 := Lib.hid (fun (w : World) (hT : Tab w) => shown w hT)
  have T0 := Lib.hid (fun (W : World) (h : Below w.heap.size w W) => hT.fresh h)
  have V0 := Lib.hid (fun (W : World) (h : Below w.heap.size w W) => hV.fresh h)
  obtain ⟨n, hn⟩ : ∃ n, n = l.length := ⟨_, rfl⟩
  have hn' := Lib.hid hn
  have TX := Lib.hid (fun (w : World) (hT : Tab w) (hV : Evs a l w) (hl : l.length ≤ 1073741824) => text_ a l cap w hT hV hok hl)
  have DX := Lib.hid (fun (w : World) (hV : Evs a l w) (hl : l.length ≤ 1073741824) => docText a l cap w hV hok hl)
  unfold IsTexted at TX DX
  rw [← hn] at hl TX DX ⊢
  have WO := Lib.hid (fun (w : World) (hT : Tab w) => words_ w hT)
  have DO := Lib.hid (fun (w : World) => docWords w)
  clear hok hn
  have hg0 := Mem.alloc1 w (.cells (evC x) 33)
  have hE0 := new_ev w x
  have mixed : Tryd.prog.follows Departure.mixedOrders = true := by kernel_rfl
  by_cases hbig : 1100 < n
  · have hb' : (1100 : Int) < (n : Int) := by omega
    have hT1 := T0.out _ hg0
    unfold evV evC at *
    clear TX DX hE0
    go_enter Tryd.func4, Tryd.ntmps4
    go_wp2_with (go_at_call 9; refine (S0.out _ hT1).mono ?_; rintro e w1 ⟨rfl, hg⟩; replace hg0 := hg0.trans (hg.mono hg0.size))
    go_ret
    exact ⟨rfl, hg0⟩
  · have hb' : ¬ (1100 : Int) < (n : Int) := by omega
    have M1 := Lib.hid (fun (w : World) (hT : Tab w) => may_ x w hT)
    have M2 := Lib.hid (fun (w : World) => docMay x w)
    obtain ⟨ek, ea, eb, en, em, es⟩ := x
    generalize hbm : may ⟨ek, ea, eb, en, em, es⟩ = bm at M1 M2
    have hT1 := T0.out _ hg0
    unfold evV evC at *
    simp only at *
    go_enter Tryd.func4, Tryd.ntmps4
    go_upto_region 1 with fail
    generalize w.alloc _ = W at *
    have hE1 := Lib.hid hE0
    clear hE0
    generalize textP MK l = P at *
    obtain ⟨P1, P2⟩ := P
    simp only at TX DX
    generalize str P1 = PS at *
    go_upto_region 8 with (first
      | (go_at_call 9; refine (S0.out _ hT1).mono ?_; rintro e w1 ⟨rfl, hg⟩; replace hE1 := Lib.hid (hE1.out.fresh hg); replace hg0 := hg0.trans (hg.mono hg0.size); clear hg; replace hT1 := T0.out _ hg0)
      | (go_at_call 13; refine (TX.out _ hT1 (V0.out _ hg0) (by omega)).mono ?_; rintro e w2 ⟨rfl, hg⟩; replace hE1 := Lib.hid (hE1.out.fresh hg); replace hg0 := hg0.trans (hg.mono hg0.size); clear hg)
      | (go_at_call 14; refine (DX.out _ (V0.out _ hg0) (by omega)).mono ?_; rintro e w3 ⟨rfl, hg⟩; replace hE1 := Lib.hid (hE1.out.fresh hg); replace hg0 := hg0.trans (hg.mono hg0.size); clear hg; replace hT1 := T0.out _ hg0)
      | (go_at_call 15; refine (WO.out _ hT1).mono ?_; rintro e w4 ⟨g1, c1, rfl, hW1, hg⟩; replace hE1 := Lib.hid (hE1.out.fresh hg); replace hg0 := hg0.trans (hg.mono hg0.size); clear hg)
      | (go_at_call 16; refine (DO.out _).mono ?_; rintro e w5 ⟨g2, rfl, _, hW2, hg⟩; replace hE1 := Lib.hid (hE1.out.fresh hg); replace hg0 := hg0.trans (hg.mono hg0.size); replace hW1 := hW1.fresh hg; clear hg))
    clear TX DX WO DO S0 V0 hT1
    replace hW2 := hW2.wd
    have H1 := Lib.hid hW1
    have H2 := Lib.hid hW2
    have hgw := Lib.hid hg0
    clear hW1 hW2 hg0
    go_wp2_with fail
    go_loopw [12] (fun t wr => TzI w w5 t wr) (fun t _ => 15 - (intOf t).toNat)
    case atStart => exact ⟨0, by omega, rfl, 0, rfl⟩
    case round =>
      obtain ⟨k, hk, rfl, m, hw⟩ := hrel
      by_cases hlt : k < 15
      · have hlt' : (k : Int) < 15 := by omega
        have c1 := H1.out.2 k hlt
        have c2 := H2.out.2 k hlt
        have cc : ∀ i, wr.cell? i = w5.cell? i := fun i => by rw [hw]; rfl
        rw [← cc] at c1 c2
        have hw' := Lib.hid hw
        clear cc hw M1 M2 hE1
        generalize str (wordL k) = sk at *
        go_wp2_with fail
        go_quiet (fail)
        rename_i nq
        have hw2 := Lib.hid (show wr.drewN nq = w5.drewN (m + nq) by rw [hw'.out, World.drewN_drewN])
        go_wp2_with fail
        go_roundw
        case rel => exact ⟨k + 1, by omega, by go_num, _, hw2.out⟩
        case measure => simp [intOf]; omega
      · obtain rfl : k = 15 := by omega
        have hgx : Below w.heap.size w wr := by rw [hw]; exact hgw.out.trans ⟨rfl, rfl, rfl, Nat.le_refl _, fun _ _ => rfl⟩
        have hEx : EvB wr w.heap.size ⟨ek, ea, eb, en, em, es⟩ := by rw [hw]; exact hE1.out
        clear hw hgw hE1
        have TT := Lib.hid (fun (W : World) (h : Below wr.heap.size wr W) => T0.out W (hgx.trans (h.mono hgx.size)))
        have CE : Hid (∀ W, Below wr.heap.size wr W → W.cell? ⟨w.heap.size, 0, none⟩ = some (.int .i64 ek) ∧ W.cell? ⟨w.heap.size, 1, none⟩ = some (.int .i64 ea) ∧ W.cell? ⟨w.heap.size, 2, none⟩ = some (.int .i64 eb) ∧ W.cell? ⟨w.heap.size, 3, none⟩ = some (.int .i64 en) ∧ W.cell? ⟨w.heap.size, 4, none⟩ = some (.int .i64 em) ∧ W.cell? ⟨w.heap.size, 5, none⟩ = some (.int .u64 (es : Int))) := Lib.hid (fun W h => by
          obtain ⟨x0, x1, x2, x3, x4, x5, xz⟩ := EvB.six (EvB.fresh hEx h)
          exact ⟨x0, x1, x2, x3, x4, x5⟩)
        have HG := Lib.hid hgx
        have hg1 : Below wr.heap.size wr wr.drew := ⟨rfl, rfl, rfl, Nat.le_refl _, fun _ _ => rfl⟩
        clear hgx hEx T0 H1 H2 hV hT
        go_upto_region 15 with fail
        have ce := CE.out _ hg1
        go_region_held3 (fun w' => w'.cell? ⟨w.heap.size, 0, none⟩ = some (.int .i64 ek) ∧ w'.cell? ⟨w.heap.size, 1, none⟩ = some (.int .i64 ea) ∧ w'.cell? ⟨w.heap.size, 2, none⟩ = some (.int .i64 eb) ∧ w'.cell? ⟨w.heap.size, 3, none⟩ = some (.int .i64 en) ∧ w'.cell? ⟨w.heap.size, 4, none⟩ = some (.int .i64 em) ∧ w'.cell? ⟨w.heap.size, 5, none⟩ = some (.int .u64 (es : Int))) (exact ce)
          (first
            | (go_at_call 17; refine (M1.out _ (TT.out _ hg1)).mono ?_; rintro e w6 ⟨rfl, hq⟩; replace hg1 := hg1.trans (hq.mono hg1.size); clear hq; replace ce := CE.out _ hg1)
            | (go_at_call 18; refine (M2.out _).mono ?_; rintro e w6 ⟨rfl, hq⟩; replace hg1 := hg1.trans (hq.mono hg1.size); clear hq; replace ce := CE.out _ hg1))
        have hy := HG.out.trans (hg1.mono HG.out.size)
        clear CE TT M1 M2 hg1
        go_wp2_with fail
        go_ret
        exact ⟨by simp, hy⟩
theorem texts' (a : Option Addr) (len cap : Nat) (k p b n m s : Int) (W : World) (hT : Tab W) (hl : len ≤ 9223372036854775807) (h : Came a len W) (hs : (Lit.int .u64 s).wf = true) : Calls Tryd.prog 4 #[.slice a len cap, .agg #[.int .i64 k, .int .i64 p, .int .i64 b, .int .i64 n, .int .i64 m, .int .u64 s]] W (IsYes W) := by
  obtain ⟨l, rfl, h2, h3⟩ := came_list len h
  have h5 := u64_wf hs
  obtain ⟨z, rfl⟩ : ∃ z : Nat, s = z := ⟨s.toNat, by omega⟩
  exact texts_ a l cap ⟨k, p, b, n, m, z⟩ W hT h2 h3 hl
end Go.Proofs.YtikdhfedidknpaaDoor.Event
