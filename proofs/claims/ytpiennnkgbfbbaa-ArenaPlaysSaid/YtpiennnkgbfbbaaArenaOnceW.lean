/- The walk of ArenaOnce. Conditions: each argument is a number of its kind. -/
import Derived.Test.YtpiennnkgbfbbaaArenaOnceP
import Derived.Deep.DeepCutAuto
import Derived.Deep.LoopGhost
namespace Go.Proofs.Ytpiennnkgbfbbaa.Arena
open Go.ChangeShapes Go.WideShapes Go.ChangeAt Go.RowKit
set_option linter.unusedVariables false
set_option linter.unusedSimpArgs false

theorem infoB : (Try.prog.info? 4).map (fun i => (i.zero, i.size, i.bytes)) = some (some (.bool false), 1, 1) := by kernel_rfl

/-- The pool, the handles that were told, and which of them name something. -/
def OnceJ (w : World) (B : Nat) (n N : Nat) (vt vl : Value) (wr : World) : Prop :=
  ∃ (T : List (Int × Int)) (L : List Bool) (st : St), T.length ≤ n ∧ Hold w (OL B [vt, vl]) N B st wr ∧ Once st T L ∧ wr.ownsRow B 36 2 vt T.length (cellsH T) ∧ wr.ownsRow B 4 1 vl T.length (L.map Value.bool)
theorem Hold.store {w0 w : World} {B : Nat} {N : Int} {b : Nat} {st : St} {vs : List Value} {v : Value} {g : Nat} (h : Hold w0 (OL B vs) N b st w) (hB : w0.heap.size ≤ B) (hv : v ∈ vs) (hg : v.ownBlock = some g) (hBg : B ≤ g) (j : Nat) (u : Value) : Hold w0 (OL B vs) N b st (w.setCell ⟨g, j, none⟩ u) :=
  ⟨h.pool.setOther (.inr ⟨v, hv, hg⟩) u, h.inv, fun k hk => by have := h.lt k hk; simpa [World.setCell] using this, h.sub, h.below.setCell (Nat.le_trans hB hBg) u⟩
theorem owns_set_other {w : World} {B : Nat} {e e' : TypeId} {s s' n n' : Nat} {v : Value} {g c : Nat} {xs xs' : List Value} (hown : w.ownsRow B e s v n xs) (h' : w.ownsRow B e' s' (.slice (some ⟨g, 0, none⟩) n' c) n' xs') (hne : e ≠ e') (j : Nat) (u : Value) : (w.setCell ⟨g, j, none⟩ u).ownsRow B e s v n xs := by
  refine ⟨hown.1, ?_⟩
  rcases hown.2 with h1 | ⟨g1, cap, cur, rfl, h0, hh, h1⟩
  · exact .inl h1
  · refine .inr ⟨g1, cap, cur, rfl, h0, ?_, h1⟩
    rw [Below.heap_setCell _ _ _ _ ?_, hh]
    rintro rfl
    rcases h'.2 with ⟨h2, _⟩ | ⟨g2, cap2, cur2, h2, _, hh2, _⟩
    · cases h2
    · cases h2
      rw [hh] at hh2
      simp at hh2
      exact hne hh2.2
theorem live_cell {w : World} {B : Nat} {v : Value} {L : List Bool} {n j : Nat} {x : Bool} {e : TypeId} (h : w.ownsRow B e 1 v n (L.map Value.bool)) (hn : L.length = n) (hx : L[j]? = some x) :
    ∃ g c, v = .slice (some ⟨g, 0, none⟩) n c ∧ B ≤ g ∧ w.cell? ⟨g, j, none⟩ = some (.bool x) ∧ w.frozen? ⟨g, j, none⟩ = false := by
  have hj : j < L.length := (List.getElem?_eq_some_iff.1 hx).1
  obtain ⟨g, c, rfl, hb, _⟩ := h.form (by omega)
  exact ⟨g, c, rfl, hb, by rw [h.cellAt _ (by omega)]; simp [hx], h.frozenAt _⟩
theorem us1 {a b c : Value} : ∀ u ∈ [a, c], u ∈ [b, c] ∨ u = a := by simp
theorem us2 {a b c : Value} : ∀ u ∈ [c, a], u ∈ [c, b] ∨ u = a := by simp
theorem drewN2 (W : World) (a b : Nat) : (W.drewN a).drewN b = W.drewN (a + b) := by simp [World.drewN, Nat.add_assoc]
def OnceK (n : Nat) (W : World) (left : Nat) (t : Value) (wr : World) : Prop := ∃ j nn : Nat, j ≤ n ∧ left = n - j ∧ t = .int .i64 j ∧ Hid (wr = W.drewN nn)
def OnceI (w : World) (B len : Nat) (left : Nat) (vt vl t : Value) (wr : World) : Prop := ∃ k : Nat, k ≤ len ∧ k ≤ 60 ∧ left = 60 - k ∧ t = .int .i64 k ∧ OnceJ w B k k vt vl wr

set_option maxRecDepth 100000 in
set_option maxHeartbeats 2000000 in
theorem once_as (a : Int) (v : Option Addr) (len cap : Nat) (z : Nat → Int) (w : World) (a0 : 0 ≤ a) (a1 : a ≤ 255) (hlen : len ≤ 9223372036854775807)
    (HC : Hid (∀ j, j < len → ∃ k off, v = some ⟨k, off, none⟩ ∧ k < w.heap.size ∧ w.cell? ⟨k, off + j, none⟩ = some (.int .i64 (z j)))) :
    Calls Try.prog 4 #[.int .u8 a, .slice v len cap] w (Yes w) := by
  obtain ⟨i0, hi, hz0, hz1, hz2⟩ := info_parts infoH
  obtain ⟨j0, ji, jz0, jz1, jz2⟩ := info_parts infoB
  have hg := Below.refl w.heap.size w
  go_enter Try.func4, Try.ntmps4
  go_wp2_with (first
    | (go_at_call 9; refine (awake _).mono ?_; rintro e w1 ⟨rfl, hg1⟩; replace hg := fresh_trans hg hg1; clear hg1)
    | (go_at_call 10; refine (newHold w w1 (1 + a % 9) hg (by omega) (by omega)).mono ?_; rintro e w2 ⟨rfl, hH, _⟩))
  have hB := hg.size
  replace hH : Hold w (OL w1.heap.size [.slice none 0 0, .slice none 0 0]) 0 w1.heap.size ⟨1 + a % 9, [], []⟩ w2 := hH.less (fun k hk => by simpa [OL, Value.ownBlock] using hk) (OL.sub hB _)
  generalize w1.heap.size = B at *
  go_loopg [8, 9, 10] 60 (fun left vt vl t wr => OnceI w B len left vt vl t wr)
  case atStart => exact ⟨0, by omega, by omega, rfl, rfl, [], [], _, by simp, hH, Once.start _, World.ownsRow_nil _ _ _ _, World.ownsRow_nil _ _ _ _⟩
  case round =>
    clear hH
    obtain ⟨k, hk1, hk2, rfl, rfl, T, L, st, hTl, hH, hO, hT, hL⟩ := hrel
    by_cases hlt : k < len ∧ k < 60
    · obtain ⟨h1, h2⟩ := hlt
      have h4 : (k : Int) < len := by omega
      have h5 : (k : Int) < 60 := by omega
      go_upto_if 51 with (go_at_call 13; refine (hH.put k (by omega)).mono ?_; rintro e w3 ⟨rfl, hH3, hs⟩; replace hT := owns_same hT hs (OL.mem (by simp)); replace hL := owns_same hL hs (OL.mem (by simp)); clear hs)
      go_cut [8, 9] (fun vt vl wc => OnceJ w B (k + 1) k vt vl wc)
      case first =>
        have hP := hO.put hH.inv k
        clear hH
        generalize st.put k = r at *
        obtain ⟨st', pi, pg, pn⟩ := r
        simp only at hP hH3
        rcases hP with ⟨rfl, e2, e3⟩ | ⟨rfl, rfl⟩
        · obtain ⟨ao, ct, rfl⟩ := owns_shape hT
          have hH4 := hH3.local (.cells #[.int .i64 pi, .int .i64 pg] 36)
          have hT4 := hT.alloc (.cells #[.int .i64 pi, .int .i64 pg] 36)
          have hL4 := hL.alloc (.cells #[.int .i64 pi, .int .i64 pg] 36)
          have b4 := heap_alloc_new w3 (.cells #[.int .i64 pi, .int .i64 pg] 36)
          clear hH3 hT hL hO
          generalize w3.alloc (.cells #[.int .i64 pi, .int .i64 pg] 36) = W at *
          generalize w3.heap.size = bl at *
          go_wp2
          go_loopg [13] T.length (fun left t wr => OnceK T.length W left t wr)
          case atStart => exact ⟨0, 0, by omega, rfl, rfl, Lib.hid rfl⟩
          case round =>
            obtain ⟨j, nn, hj, rfl, rfl, HW⟩ := hrel
            have hBW : Below W.heap.size W wr := by rw [HW.out]; exact drawn W nn
            have hH5 := (hH4.forget (OL.sub hB _)).fresh hBW
            have hT5 := owns_fresh hT4 hBW
            have hL5 := owns_fresh hL4 hBW
            have b5 := (hBW.block bl (lt_of b4)).trans b4
            have cb : wr.cell? ⟨bl, 0, none⟩ = some (.int .i64 pi) ∧ wr.cell? ⟨bl, 1, none⟩ = some (.int .i64 pg) := by
              constructor <;> (rw [cell_of_row wr bl _ _ _ _ b5]; rfl)
            obtain ⟨cb0, cb1⟩ := cb
            clear hH4 hT4 hL4 b4 hBW
            by_cases hjl : j < T.length
            · have hjl1 : (j : Int) < T.length := by omega
              obtain ⟨p, hp⟩ : ∃ p, T[j]? = some p := ⟨_, List.getElem?_eq_getElem hjl⟩
              obtain ⟨g, c, ev, c0, c1⟩ := told_cell hT5 hp
              cases ev
              have hne : p ≠ (pi, pg) := fun e => e2 (e ▸ List.mem_of_getElem? hp)
              obtain ⟨p1, p2⟩ := p
              simp only at c0 c1
              by_cases h6 : p1 = pi
              · subst h6
                have h7 : ¬ p2 = pg := fun e => hne (by rw [e])
                have h8 : (p2 == pg) = false := by simpa using h7
                clear hne
                go_wp2
                go_quiet (fail)
                go_wp2
                go_roundg (T.length - (j + 1))
                case measure => omega
                case rel => exact ⟨j + 1, nn + nq, by omega, rfl, by go_num, Lib.hid (by rw [HW.out, drewN2])⟩
              · have h8 : (p1 == pi) = false := by simpa using h6
                clear hne
                go_wp2
                go_quiet (fail)
                go_wp2
                go_roundg (T.length - (j + 1))
                case measure => omega
                case rel => exact ⟨j + 1, nn + nq, by omega, rfl, by go_num, Lib.hid (by rw [HW.out, drewN2])⟩
            · obtain rfl : j = T.length := by omega
              have hbs := hH5.pool.lt
              have hLl := e3.len
              go_wp2_with (first
                | (at_builtin; refine wpList_append_lies _ rfl (.tmp 64) (.tmp 66) 34 rfl B 36 i0 _ 2 16 Try.underlying34 hi hz0 hz1 hz2 rfl (by decide) _ _ _ rfl (hT5.alloc _) ⟨wr.heap.size, 0, none⟩ 1 1 [.int .i64 pi, .int .i64 pg] rfl rfl (World.news_of_block (heap_alloc_new wr _)) (by simp [Value.oneCell']) (by decide) (by simp only [maxLen]; omega) (by omega) (by simp; omega) (wr.heap.size + 1) (by simp) ?_; intro g4 cap4 w4 hown4 hgrow4 hat4 hlt4; have hL6 := owns_kept hL5 hT5 (by decide) hgrow4; have hH6 := hH5.append (us := [.slice (some ⟨g4, 0, none⟩) (T.length + 1) cap4, u9]) hB hT5 (by simp) hgrow4 hat4 hlt4 us1; clear hgrow4 hat4 hH5; have hbs6 := hH6.pool.lt)
                | (at_builtin; refine wpList_append_lies _ rfl (.tmp 68) (.tmp 69) 29 rfl B 4 j0 _ 1 1 Try.underlying29 ji jz0 jz1 jz2 rfl (by decide) _ _ _ rfl (hL6.alloc _) ⟨w4.heap.size, 0, none⟩ 1 1 [.bool true] rfl rfl (World.news_of_block (heap_alloc_new w4 _)) (by simp [Value.oneCell']) (by decide) (by simp only [maxLen]; omega) (by omega) (by simp; omega) (w4.heap.size + 1) (by simp) ?_; intro g7 cap7 w7 hown7 hgrow7 hat7 hlt7; have hT7 := owns_kept hown4 hL6 (by decide) hgrow7; have hH7 := hH6.append (us := [.slice (some ⟨g4, 0, none⟩) (T.length + 1) cap4, .slice (some ⟨g7, 0, none⟩) (T.length + 1) cap7]) hB hL6 (by simp) hgrow7 hat7 hlt7 us2; clear hgrow7 hat7 hH6))
              go_meet
              case rel => exact ⟨T ++ [(pi, pg)], L ++ [true], st', by simp; omega, hH7, e3, by simpa [cellsH_append, cellsH] using hT7, by simpa using hown7⟩
        · go_wp2
          go_meet
          case rel => exact ⟨T, L, st', by omega, (hH3.local _).forget (OL.sub hB _), hO, hT.alloc _, hL.alloc _⟩
      case rest =>
        clear hH hH3 hO hT hL hTl
        obtain ⟨T, L, st, hTl, hH, hO, hT, hL⟩ := hcut
        obtain ⟨g2, off, rfl, hg2, hcell⟩ := HC.out k h1
        have hcell' := (hH.below.cell hg2).trans hcell
        by_cases hp : z k < 0
        · obtain ⟨ao, ct, rfl⟩ := owns_shape hT
          go_wp2
          go_roundg (60 - (k + 1))
          case measure => omega
          case rel => exact ⟨k + 1, by omega, by omega, rfl, by go_num, T, L, st, hTl, hH.up (by omega), hO, hT, hL⟩
        have hp0 : 0 ≤ z k := by omega
        by_cases hT0 : T.length = 0
        · obtain ⟨ao, ct, rfl⟩ := owns_shape hT
          rw [hT0] at hT hH ⊢
          have hTn : T = [] := List.eq_nil_of_length_eq_zero hT0
          go_wp2
          go_roundg (60 - (k + 1))
          case measure => omega
          case rel => exact ⟨k + 1, by omega, by omega, rfl, by go_num, T, L, st, hTl, hH.up (by omega), hO, by rw [hT0]; exact hT, hL⟩
        have hT1 : 0 < (T.length : Int) := by omega
        obtain ⟨j, hj⟩ := Int.eq_ofNat_of_zero_le (Int.emod_nonneg (z k) (show (T.length : Int) ≠ 0 by omega))
        have hjT : j < T.length := by have := Int.emod_lt_of_pos (z k) hT1; omega
        have hjT1 : (j : Int) < T.length := by omega
        have hkz1 : ¬ (T.length : Int) = 0 := by omega
        obtain ⟨p, hpj⟩ : ∃ p, T[j]? = some p := ⟨_, List.getElem?_eq_getElem hjT⟩
        have hlv := hO.live j p hpj
        have hO' := hO.free hpj
        obtain ⟨g, c, rfl, c0, c1⟩ := told_cell hT hpj
        obtain ⟨gl, cl, rfl, hgl, l0, l1⟩ := live_cell hL hO.len hlv
        obtain ⟨p1, p2⟩ := p
        simp only at c0 c1 hlv l0 hO'
        clear hO
        have e6 : Hid ((st.free p1 p2).thing p1 p2 = 0 ∧ (st.free p1 p2).err p1 p2 = 2) := by simp [Hid, St.thing, St.err, free_names]
        cases hn : st.names p1 p2
        · have eE : Hid (st.err p1 p2 = 2) := by simp [Hid, St.err, hn]
          rw [hn] at l0
          go_wp2_with (first
            | (go_at_call 19; refine (hH.freeAs (by omega) ⟨rfl, eE.out, rfl⟩).mono ?_; clear hH; rintro e w5 ⟨rfl, hH5, s5⟩; have hT5 := owns_same hT s5 (OL.mem (by simp)); have hL5 := owns_same hL s5 (OL.mem (by simp)); replace l0 := s5.cell (OL.mem (v := .slice (some ⟨gl, 0, none⟩) T.length cl) (by simp) gl rfl) l0; clear s5 l1 c0 c1; have l1 := hL5.frozenAt j; have hT6 := owns_set_other hT5 hL5 (by decide) j (.bool false); obtain ⟨_, _, ev, c0, c1⟩ := told_cell hT6 hpj; cases ev; have hH6 := hH5.store (v := .slice (some ⟨gl, 0, none⟩) T.length cl) (g := gl) hB (by simp) rfl hgl j (.bool false))
            | (go_at_call 15; refine (hH6.getAs e6.out).mono ?_; clear hH6 c0 c1 l0 l1; rintro e w7 ⟨rfl, hH7, s7⟩; have hT7 := owns_same hT6 s7 (OL.mem (by simp)); have hL7 := owns_same (hL5.stored j (.bool false)).1 s7 (OL.mem (by simp)); clear s7))
          go_roundg (60 - (k + 1))
          case measure => omega
          case rel => exact ⟨k + 1, by omega, by omega, rfl, by go_num, T, L.set j false, st.free p1 p2, hTl, hH7, hO', hT7, by rw [List.map_set]; exact hL7⟩
        · have eE : Hid (st.err p1 p2 = 0) := by simp [Hid, St.err, hn]
          rw [hn] at l0
          go_wp2_with (first
            | (go_at_call 19; refine (hH.freeAs (by omega) ⟨rfl, eE.out, rfl⟩).mono ?_; clear hH; rintro e w5 ⟨rfl, hH5, s5⟩; have hT5 := owns_same hT s5 (OL.mem (by simp)); have hL5 := owns_same hL s5 (OL.mem (by simp)); replace l0 := s5.cell (OL.mem (v := .slice (some ⟨gl, 0, none⟩) T.length cl) (by simp) gl rfl) l0; clear s5 l1 c0 c1; have l1 := hL5.frozenAt j; have hT6 := owns_set_other hT5 hL5 (by decide) j (.bool false); obtain ⟨_, _, ev, c0, c1⟩ := told_cell hT6 hpj; cases ev; have hH6 := hH5.store (v := .slice (some ⟨gl, 0, none⟩) T.length cl) (g := gl) hB (by simp) rfl hgl j (.bool false))
            | (go_at_call 15; refine (hH6.getAs e6.out).mono ?_; clear hH6 c0 c1 l0 l1; rintro e w7 ⟨rfl, hH7, s7⟩; have hT7 := owns_same hT6 s7 (OL.mem (by simp)); have hL7 := owns_same (hL5.stored j (.bool false)).1 s7 (OL.mem (by simp)); clear s7))
          go_roundg (60 - (k + 1))
          case measure => omega
          case rel => exact ⟨k + 1, by omega, by omega, rfl, by go_num, T, L.set j false, st.free p1 p2, hTl, hH7, hO', hT7, by rw [List.map_set]; exact hL7⟩
    · have hd : ¬ (k : Int) < len ∨ ((k : Int) < len ∧ ¬ (k : Int) < 60) := by omega
      rcases hd with h1 | ⟨h1, h2⟩
      all_goals
        go_wp2
        go_ret
        exact ⟨rfl, hH.below⟩
theorem onceLaw (a : Int) (v : Option Addr) (len cap : Nat) (zs : List Int) (w : World) (a0 : 0 ≤ a) (a1 : a ≤ 255) (hlen : len ≤ 9223372036854775807)
    (hc : ∀ j, j < len → ∃ k off, v = some ⟨k, off, none⟩ ∧ k < w.heap.size ∧ w.cell? ⟨k, off + j, none⟩ = some (.int .i64 (zs[j]?.getD 0))) :
    Calls Try.prog 4 #[.int .u8 a, .slice v len cap] w (Yes w) := once_as a v len cap (fun j => zs[j]?.getD 0) w a0 a1 hlen hc
end Go.Proofs.Ytpiennnkgbfbbaa.Arena
