/- The walk of LedgerSums. Conditions: each number is one of its kind. -/
import Derived.Test.YtnocgdhepmgncaaLedgerFailsW
import Derived.Test.YtnocgdhepmgncaaLedgerSumsP
namespace Go.Proofs.Ytnocgdhepmgncaa.Ledger
open Go.ChangeShapes Go.WideShapes Go.ChangeAt Go.RowKit Go.Sort Mem
set_option linter.unusedVariables false
set_option linter.unusedSimpArgs false
set_option maxRecDepth 100000

def SuI (w : World) (lo hi b : Nat) (v : Option Addr) (l : List De) (left : Nat) (t8 t9 : Value) (wr : World) : Prop := ∃ (k : Nat) (s : Bk) (gone : Int), k ≤ l.length ∧ left = l.length - k ∧ t9 = .int .i64 (k : Int) ∧ t8 = .int .i64 gone ∧ Gone s gone ∧ Run w lo hi b v l (21 * k) s wr
def SvI (w : World) (lo hi b : Nat) (v : Option Addr) (l : List De) (N : Nat) (s : Bk) (gone : Int) (ao : Option Addr) (cp : Nat) (L : List Int) (left : Nat) (t11 t12 : Value) (wr : World) : Prop := ∃ i : Nat, i ≤ L.length ∧ left = L.length - i ∧ t12 = .int .i64 (i : Int) ∧ t11 = .int .i64 (gone + sumT s.t (L.take i)) ∧ Run2 w lo hi b v l N s ao cp L wr
set_option maxHeartbeats 4000000 in
theorem sumsLaw (v : Option Addr) (n cap : Nat) (g : Int) (w : World) (hn : n ≤ 9223372036854775807) (hc : Comes v n w) (hgI : I64 g) :
    Calls Try.prog 4 #[.slice v n cap, .int .i64 g] w (Yes w) := by
  have S := Lib.hid (fun w => shown w)
  have N := Lib.hid (fun w => new w)
  have FW : Hid (∀ w', Below w.heap.size w w' → Calls Try.prog 10 #[.slice v n cap] w' (Few w')) := fun w' hg => few v n cap w' hn (hc.fresh hg)
  have hg := Below.refl w.heap.size w
  clear hc
  go_enter Try.func4, Try.ntmps4
  go_wp2_with (first
    | (go_at_call 9; refine (S.out _).mono ?_; rintro e w1 ⟨rfl, hg1⟩; replace hg := fresh_trans hg hg1; clear hg1)
    | (go_at_call 10; refine (FW.out _ hg).mono ?_; rintro e w2 ⟨u, cp, l, rfl, hl60, hds, hls, hlow, hg2⟩)
    | (go_at_call 11; refine (N.out _).mono ?_; rintro e w3 ⟨b, rfl, hB, hg3⟩))
  have H0 : Hid (SuI w w2.heap.size w3.heap.size b u l l.length (.int .i64 0) (.int .i64 0) w3) := ⟨0, Bk.new, 0, by omega, by omega, rfl, rfl, Gone.new, begin_run hg hds hls hlow hg2 hB hg3⟩
  clear S N FW hg hds hls hlow hg2 hB hg3
  generalize w2.heap.size = lo at *
  generalize w3.heap.size = hi at *
  go_loopg [8, 9] l.length (fun left t8 t9 wr => SuI w lo hi b u l left t8 t9 wr)
  case atStart => exact H0.out
  case round =>
    clear H0
    obtain ⟨k, s, gone, hk, rfl, rfl, rfl, hG, hR⟩ := hrel
    by_cases hlt : k < l.length
    · have q1 : (k : Int) < l.length := by omega
      obtain ⟨k1, o1, d, rfl, hd, hm, ⟨hdt, _, hd20⟩, CC⟩ := hR.cells hlt
      have CX := Lib.hid CC
      obtain ⟨x0, x1, x2, x3⟩ := CX.out _ _ _ hR
      have ho := hR.ok
      cases hgn : d.gone with
      | true =>
        rw [hgn] at x3
        obtain ⟨g1, g2⟩ := hG.fgt ho d.t
        have g2' : gone + s.t d.t ≤ 9223372036854775807 := g2
        have g0 := hG.1
        have g3 := (ho.t d.t).1
        have CR := Lib.hid (hR.forget hdt wr (Below.refl _ _))
        have NX := Lib.hid (fun w2 (h2 : Run w lo hi b (some ⟨k1, o1, none⟩) l (21 * k) (fgt s d.t) w2) => (show SuI w lo hi b (some ⟨k1, o1, none⟩) l (l.length - (k + 1)) (.int .i64 (gone + s.t d.t)) (.int .i64 ((k : Int) + 1)) w2 from ⟨k + 1, _, _, by omega, rfl, by go_num, rfl, g1, h2.mono (by omega)⟩))
        generalize s.t d.t = x at *
        generalize fgt s d.t = s2 at *
        clear CC hR hd hm hG g1 g2 ho CX x0 x2
        go_wp2_with (first
          | (go_at_call 12; (with_reducible refine CR.out.mono ?_); rintro e w2 ⟨rfl, R2⟩; replace R2 := Lib.hid R2))
        go_roundg (l.length - (k + 1))
        case measure => omega
        case rel => exact NX.out _ R2.out
      | false =>
        rw [hgn] at x3
        have CR := Lib.hid (hR.credit (by omega) hm wr.drew (Below.refl _ _).drew)
        have NX := Lib.hid (fun w2 (h2 : Run w lo hi b (some ⟨k1, o1, none⟩) l (21 * k + 21) (cre s d.xs d.t d.ns) w2) => (show SuI w lo hi b (some ⟨k1, o1, none⟩) l (l.length - (k + 1)) (.int .i64 gone) (.int .i64 ((k : Int) + 1)) w2 from ⟨k + 1, _, _, by omega, rfl, by go_num, rfl, hG.cre _ _ _, h2.mono (by omega)⟩))
        generalize code s d.xs d.t d.ns = ec at *
        generalize cre s d.xs d.t d.ns = s2 at *
        clear CC hR hd hm hG ho
        go_wp2_with fail
        go_region_held3 (fun w' => w'.cell? ⟨k1, o1 + k * 4, none⟩ = some (.slice d.a d.n d.c) ∧ w'.cell? ⟨k1, o1 + k * 4 + 1, none⟩ = some (.int .i64 d.t) ∧ w'.cell? ⟨k1, o1 + k * 4 + 2, none⟩ = some (.int .i64 d.ns)) (first | exact ⟨x0, x1, x2⟩ | exact ⟨y0, y1, y2⟩)
          (first
            | (go_at_call 15; (with_reducible refine CR.out.mono ?_); rintro e w2 ⟨rfl, R2⟩; obtain ⟨y0, y1, y2, y3⟩ := CX.out _ _ _ R2; replace R2 := Lib.hid R2))
        go_wp2_with fail
        go_roundg (l.length - (k + 1))
        case measure => omega
        case rel => exact NX.out _ R2.out
    · have q1 : ¬ (k : Int) < l.length := by omega
      have hN : 21 * k ≤ 800000 := by omega
      have ho := hR.ok
      have TS := Lib.hid (hR.tasks (by omega))
      have HB := Lib.hid hR
      have hT := ho.hi
      have hf : ∀ i, 0 ≤ s.t i := fun i => (ho.t i).1
      have hneg := ho.neg
      have hgr := ho.g g
      clear hR
      generalize 21 * k = N at *
      have TT := Lib.hid (fun ao cp L wr (h : Run2 w lo hi b u l N s ao cp L wr) => h.run.total)
      have TG := Lib.hid (fun ao cp L wr (h : Run2 w lo hi b u l N s ao cp L wr) => h.run.group hgI)
      have TK := Lib.hid (fun ao cp L wr x (hx : I64 x) (h : Run2 w lo hi b u l N s ao cp L wr) => h.run.task hx)
      go_upto_region 15 with (go_at_call 23; (with_reducible refine TS.out.mono ?_); rintro e w' ⟨ao, cp2, L, rfl, ris, Lb, L64, own, hg2⟩; have Q := Lib.hid (told_path HB.out Lb L64 own hg2); clear own hg2)
      have hsum : sumT s.t L = s.tot - gone := hG.2.told ris
      have g0 := hG.1
      have HH := Lib.hid ris
      have H6 := Lib.hid L64
      clear TS HB hG ho ris L64
      go_wp2_with fail
      go_loopg [11, 12] L.length (fun left t11 t12 wr => SvI w lo hi b u l N s gone ao cp2 L left t11 t12 wr)
      case atStart => exact ⟨0, by omega, by omega, rfl, by simp [sumT], Q.out⟩
      case round =>
        clear Q
        obtain ⟨i, hi1, rfl, rfl, rfl, hQ⟩ := hrel
        by_cases hli : i < L.length
        · have p1 : (i : Int) < L.length := by omega
          have hx : L[i]? = some L[i] := List.getElem?_eq_getElem hli
          generalize L[i] = x at hx
          have hxm := List.mem_of_getElem? hx
          have hx64 := H6.out x hxm
          have e1 := sumT_take (f := s.t) hx
          have e2 := sumT_part hf L (i + 1)
          have e3 := sumT_nonneg hf (L.take i)
          have hfx : 0 < s.t x := by have := hf x; have := (HH.out.2 x).1 hxm; omega
          have hx0 : 0 ≤ x := by
            rcases Int.lt_or_le x 0 with h | h
            · have := hneg x h; omega
            · exact h
          obtain ⟨_, kb, ob, rfl, _, _, cx⟩ := hQ.path.at_ i x hx
          have e4 : gone + sumT s.t (L.take i) + s.t x ≤ 9223372036854775807 := by have : s.tot ≤ 9223372036854775807 := hT; omega
          have NX := Lib.hid (fun w2 (h2 : Run2 w lo hi b u l N s (some ⟨kb, ob, none⟩) cp2 L w2) => (show SvI w lo hi b u l N s gone (some ⟨kb, ob, none⟩) cp2 L (L.length - (i + 1)) (.int .i64 (gone + sumT s.t (L.take i) + s.t x)) (.int .i64 ((i : Int) + 1)) w2 from ⟨i + 1, by omega, rfl, by go_num, by rw [e1]; congr 1; omega, h2⟩))
          have PX : Hid (∀ (j : Nat) (y : Int), L[j]? = some y → ∀ w', Run2 w lo hi b u l N s (some ⟨kb, ob, none⟩) cp2 L w' → w'.cell? ⟨kb, ob + j, none⟩ = some (.int .i64 y)) := Lib.hid fun j y hj w' h => by
            obtain ⟨_, k', o', e, _, _, c⟩ := h.path.at_ j y hj
            cases e
            exact c
          have Q := Lib.hid hQ
          have RI := Lib.hid HH.out.1
          have TX := Lib.hid (fun wr (h : Run2 w lo hi b u l N s (some ⟨kb, ob, none⟩) cp2 L wr) => TK.out _ _ _ wr x hx64 h)
          clear e1 e2 hQ hsum hf hneg HH H6 hxm TT TG hgr TK
          generalize sumT s.t (L.take i) = A at *
          generalize hfx' : s.t x = fx at *
          clear hfx'
          have d1 : decide (fx ≤ 0) = false := decide_eq_false (by omega)
          have d2 : decide (x < 0) = false := decide_eq_false (by omega)
          rcases Nat.eq_zero_or_pos i with h0 | h0
          · obtain rfl : i = 0 := by omega
            have CX := Lib.hid (PX.out 0 x hx)
            simp only [Nat.add_zero] at CX cx
            have p2 : (0 : Int) < L.length := by omega
            clear h0 PX hx RI p1
            rw [show ((0 : Nat) : Int) = 0 from rfl]
            go_upto_region 19 with (go_at_call 19; (with_reducible refine (TX.out _ Q.out).mono ?_); rintro e w' ⟨rfl, hg2⟩; replace Q := Lib.hid (Q.out.fresh hg2); clear hg2)
            have QD := Lib.hid (Q.out.fresh (Below.refl _ _).drew)
            have cy := CX.out _ Q.out
            clear Q cx
            refine wp_region_held_drew (S := (fun w' => w'.cell? ⟨kb, ob, none⟩ = some (.int .i64 x))) (by kernel_rfl) cy (fun hHeld => ?_)
            refine wpAnyH_take (i := 0) (oi := ⟨some 73, _, _, _, _, _⟩) (v := ?_) rfl (by kernel_rfl) (by kernel_rfl) (by kernel_rfl) (fun _ _ _ h => h) (Or.inl ⟨by rfl, ?_⟩) (by assumption) ?_
            rotate_left
            · intro w' hS'
              try dsimp only at hS'
              go_simp
              try with_reducible rfl
            try simp only [Act.put, List.setIfInBounds_toArray, List.set_cons_zero, List.set_cons_succ]
            refine wpAnyH_take (i := 1) (oi := ⟨some 74, _, _, _, _, _⟩) (v := ?_) rfl (by kernel_rfl) (by kernel_rfl) (by kernel_rfl) (fun _ _ _ h => h) (Or.inl ⟨by rfl, ?_⟩) (by assumption) ?_
            rotate_left
            · intro w' hS'
              try dsimp only at hS'
              go_simp
              try with_reducible rfl
            try simp only [Act.put, List.setIfInBounds_toArray, List.set_cons_zero, List.set_cons_succ]
            refine wpAnyH_take (i := 2) (oi := ⟨some 75, _, _, _, _, _⟩) (v := ?_) rfl (by kernel_rfl) (by kernel_rfl) (by kernel_rfl) (fun _ _ _ h => h) (Or.inl ⟨by rfl, ?_⟩) (by assumption) ?_
            rotate_left
            · intro w' hS'
              try dsimp only at hS'
              go_simp
              try with_reducible rfl
            try simp only [Act.put, List.setIfInBounds_toArray, List.set_cons_zero, List.set_cons_succ]
            refine wpAnyH_take (i := 3) (oi := ⟨some 76, _, _, _, _, _⟩) (v := ?_) rfl (by kernel_rfl) (by kernel_rfl) (by kernel_rfl) (fun _ _ _ h => h) (Or.inl ⟨by rfl, ?_⟩) (by assumption) ?_
            rotate_left
            · intro w' hS'
              try dsimp only at hS'
              go_simp
              try with_reducible rfl
            try simp only [Act.put, List.setIfInBounds_toArray, List.set_cons_zero, List.set_cons_succ]
            refine wpAnyH_take (i := 4) (oi := ⟨some 77, _, _, _, _, _⟩) (v := ?_) rfl (by kernel_rfl) (by kernel_rfl) (by kernel_rfl) (fun _ _ _ h => h) (Or.inl ⟨by rfl, ?_⟩) (by assumption) ?_
            rotate_left
            · intro w' hS'
              try dsimp only at hS'
              go_simp
              try with_reducible rfl
            try simp only [Act.put, List.setIfInBounds_toArray, List.set_cons_zero, List.set_cons_succ]
            refine wpAnyH_ready (rs := [5]) (by kernel_rfl) (by simp) ?_
            refine AllReadyH.cons (o := ⟨some 78, _, _, _, _, _⟩) rfl (fun K hK => ?_) AllReadyH.nil
            go_simp
            go_at_call 19
            refine (TX.out _ QD.out).mono ?_
            rintro e w4 ⟨rfl, hg4⟩
            replace QD := Lib.hid (QD.out.fresh hg4)
            go_wp2_with fail
            refine hK.out _ _ (CX.out _ QD.out) (fun hHeld => ?_)
            clear hK K
            refine wpAnyH_take (i := 6) (oi := ⟨some 79, _, _, _, _, _⟩) (v := ?_) rfl (by kernel_rfl) (by kernel_rfl) (by kernel_rfl) (fun _ _ _ h => h) (Or.inl ⟨by rfl, ?_⟩) (by assumption) ?_
            rotate_left
            · intro w' hS'
              try dsimp only at hS'
              go_simp
              try with_reducible rfl
            try simp only [Act.put, List.setIfInBounds_toArray, List.set_cons_zero, List.set_cons_succ]
            refine wpAnyH_take (i := 7) (oi := ⟨some 80, _, _, _, _, _⟩) (v := ?_) rfl (by kernel_rfl) (by kernel_rfl) (by kernel_rfl) (fun _ _ _ h => h) (Or.inl ⟨by rfl, ?_⟩) (by assumption) ?_
            rotate_left
            · intro w' hS'
              try dsimp only at hS'
              go_simp
              try with_reducible rfl
            try simp only [Act.put, List.setIfInBounds_toArray, List.set_cons_zero, List.set_cons_succ]
            refine wpAnyH_take (i := 8) (oi := ⟨some 81, _, _, _, _, _⟩) (v := ?_) rfl (by kernel_rfl) (by kernel_rfl) (by kernel_rfl) (fun _ _ _ h => h) (Or.inl ⟨by rfl, ?_⟩) (by assumption) ?_
            rotate_left
            · intro w' hS'
              try dsimp only at hS'
              go_simp
              try with_reducible rfl
            try simp only [Act.put, List.setIfInBounds_toArray, List.set_cons_zero, List.set_cons_succ]
            refine wpAnyH_take (i := 9) (oi := ⟨some 82, _, _, _, _, _⟩) (v := ?_) rfl (by kernel_rfl) (by kernel_rfl) (by kernel_rfl) (fun _ _ _ h => h) (Or.inl ⟨by rfl, ?_⟩) (by assumption) ?_
            rotate_left
            · intro w' hS'
              try dsimp only at hS'
              go_simp
              try with_reducible rfl
            try simp only [Act.put, List.setIfInBounds_toArray, List.set_cons_zero, List.set_cons_succ]
            refine wpAnyH_take (i := 10) (oi := ⟨some 83, _, _, _, _, _⟩) (v := ?_) rfl (by kernel_rfl) (by kernel_rfl) (by kernel_rfl) (fun _ _ _ h => h) (Or.inl ⟨by rfl, ?_⟩) (by assumption) ?_
            rotate_left
            · intro w' hS'
              try dsimp only at hS'
              go_simp
              try with_reducible rfl
            try simp only [Act.put, List.setIfInBounds_toArray, List.set_cons_zero, List.set_cons_succ]
            refine wpAnyH_take (i := 11) (oi := ⟨some 84, _, _, _, _, _⟩) (v := ?_) rfl (by kernel_rfl) (by kernel_rfl) (by kernel_rfl) (fun _ _ _ h => h) (Or.inl ⟨by rfl, ?_⟩) (by assumption) ?_
            rotate_left
            · intro w' hS'
              try dsimp only at hS'
              go_simp
              try with_reducible rfl
            try simp only [Act.put, List.setIfInBounds_toArray, List.set_cons_zero, List.set_cons_succ]
            refine wpAnyH_take (i := 12) (oi := ⟨some 85, _, _, _, _, _⟩) (v := ?_) rfl (by kernel_rfl) (by kernel_rfl) (by kernel_rfl) (fun _ _ _ h => h) (Or.inl ⟨by rfl, ?_⟩) (by assumption) ?_
            rotate_left
            · intro w' hS'
              try dsimp only at hS'
              go_simp
              try with_reducible rfl
            try simp only [Act.put, List.setIfInBounds_toArray, List.set_cons_zero, List.set_cons_succ]
            refine wpAnyH_take (i := 13) (oi := ⟨some 86, _, _, _, _, _⟩) (v := ?_) rfl (by kernel_rfl) (by kernel_rfl) (by kernel_rfl) (fun _ _ _ h => h) (Or.inl ⟨by rfl, ?_⟩) (by assumption) ?_
            rotate_left
            · intro w' hS'
              try dsimp only at hS'
              go_simp
              try with_reducible rfl
            try simp only [Act.put, List.setIfInBounds_toArray, List.set_cons_zero, List.set_cons_succ]
            refine wpAnyH_take (i := 14) (oi := ⟨some 87, _, _, _, _, _⟩) (v := ?_) rfl (by kernel_rfl) (by kernel_rfl) (by kernel_rfl) (fun _ _ _ h => h) (Or.inl ⟨by rfl, ?_⟩) (by assumption) ?_
            rotate_left
            · intro w' hS'
              try dsimp only at hS'
              go_simp
              try with_reducible rfl
            try simp only [Act.put, List.setIfInBounds_toArray, List.set_cons_zero, List.set_cons_succ]
            refine wpAnyH_take (i := 15) (oi := ⟨some 88, _, _, _, _, _⟩) (v := ?_) rfl (by kernel_rfl) (by kernel_rfl) (by kernel_rfl) (fun _ _ _ h => h) (Or.inl ⟨by rfl, ?_⟩) (by assumption) ?_
            rotate_left
            · intro w' hS'
              try dsimp only at hS'
              go_simp
              try with_reducible rfl
            try simp only [Act.put, List.setIfInBounds_toArray, List.set_cons_zero, List.set_cons_succ]
            refine wpAnyH_take (i := 16) (oi := ⟨some 89, _, _, _, _, _⟩) (v := ?_) rfl (by kernel_rfl) (by kernel_rfl) (by kernel_rfl) (fun _ _ _ h => h) (Or.inl ⟨by rfl, ?_⟩) (by assumption) ?_
            rotate_left
            · intro w' hS'
              try dsimp only at hS'
              go_simp
              try with_reducible rfl
            try simp only [Act.put, List.setIfInBounds_toArray, List.set_cons_zero, List.set_cons_succ]
            refine wpAnyH_take (i := 17) (oi := ⟨some 90, _, _, _, _, _⟩) (v := ?_) rfl (by kernel_rfl) (by kernel_rfl) (by kernel_rfl) (fun _ _ _ h => h) (Or.inl ⟨by rfl, ?_⟩) (by assumption) ?_
            rotate_left
            · intro w' hS'
              try dsimp only at hS'
              go_simp
              try with_reducible rfl
            try simp only [Act.put, List.setIfInBounds_toArray, List.set_cons_zero, List.set_cons_succ]
            refine wpAnyH_take (i := 18) (oi := ⟨some 91, _, _, _, _, _⟩) (v := undef) rfl (by kernel_rfl) (by kernel_rfl) (by kernel_rfl) (fun _ _ _ h => h) (Or.inr ⟨by rfl, rfl⟩) (by assumption) ?_
            try simp only [Act.put, List.setIfInBounds_toArray, List.set_cons_zero, List.set_cons_succ]
            refine wpAnyH_take (i := 19) (oi := ⟨some 92, _, _, _, _, _⟩) (v := undef) rfl (by kernel_rfl) (by kernel_rfl) (by kernel_rfl) (fun _ _ _ h => h) (Or.inr ⟨by rfl, rfl⟩) (by assumption) ?_
            try simp only [Act.put, List.setIfInBounds_toArray, List.set_cons_zero, List.set_cons_succ]
            refine wpAnyH_take (i := 20) (oi := ⟨some 93, _, _, _, _, _⟩) (v := undef) rfl (by kernel_rfl) (by kernel_rfl) (by kernel_rfl) (fun _ _ _ h => h) (Or.inr ⟨by rfl, rfl⟩) (by assumption) ?_
            try simp only [Act.put, List.setIfInBounds_toArray, List.set_cons_zero, List.set_cons_succ]
            refine wpAnyH_take (i := 21) (oi := ⟨some 94, _, _, _, _, _⟩) (v := undef) rfl (by kernel_rfl) (by kernel_rfl) (by kernel_rfl) (fun _ _ _ h => h) (Or.inr ⟨by rfl, rfl⟩) (by assumption) ?_
            try simp only [Act.put, List.setIfInBounds_toArray, List.set_cons_zero, List.set_cons_succ]
            refine wpAnyH_take (i := 22) (oi := ⟨some 95, _, _, _, _, _⟩) (v := undef) rfl (by kernel_rfl) (by kernel_rfl) (by kernel_rfl) (fun _ _ _ h => h) (Or.inr ⟨by rfl, rfl⟩) (by assumption) ?_
            try simp only [Act.put, List.setIfInBounds_toArray, List.set_cons_zero, List.set_cons_succ]
            refine wpAnyH_take (i := 23) (oi := ⟨some 96, _, _, _, _, _⟩) (v := undef) rfl (by kernel_rfl) (by kernel_rfl) (by kernel_rfl) (fun _ _ _ h => h) (Or.inr ⟨by rfl, rfl⟩) (by assumption) ?_
            try simp only [Act.put, List.setIfInBounds_toArray, List.set_cons_zero, List.set_cons_succ]
            refine wpAnyH_take (i := 24) (oi := ⟨some 97, _, _, _, _, _⟩) (v := undef) rfl (by kernel_rfl) (by kernel_rfl) (by kernel_rfl) (fun _ _ _ h => h) (Or.inr ⟨by rfl, rfl⟩) (by assumption) ?_
            try simp only [Act.put, List.setIfInBounds_toArray, List.set_cons_zero, List.set_cons_succ]
            refine wpAnyH_take (i := 25) (oi := ⟨some 98, _, _, _, _, _⟩) (v := undef) rfl (by kernel_rfl) (by kernel_rfl) (by kernel_rfl) (fun _ _ _ h => h) (Or.inr ⟨by rfl, rfl⟩) (by assumption) ?_
            try simp only [Act.put, List.setIfInBounds_toArray, List.set_cons_zero, List.set_cons_succ]
            refine wpAnyH_take (i := 26) (oi := ⟨some 99, _, _, _, _, _⟩) (v := undef) rfl (by kernel_rfl) (by kernel_rfl) (by kernel_rfl) (fun _ _ _ h => h) (Or.inr ⟨by rfl, rfl⟩) (by assumption) ?_
            try simp only [Act.put, List.setIfInBounds_toArray, List.set_cons_zero, List.set_cons_succ]
            refine wpAnyH_take (i := 27) (oi := ⟨some 100, _, _, _, _, _⟩) (v := undef) rfl (by kernel_rfl) (by kernel_rfl) (by kernel_rfl) (fun _ _ _ h => h) (Or.inr ⟨by rfl, rfl⟩) (by assumption) ?_
            try simp only [Act.put, List.setIfInBounds_toArray, List.set_cons_zero, List.set_cons_succ]
            refine wpAnyH_take (i := 28) (oi := ⟨some 101, _, _, _, _, _⟩) (v := ?_) rfl (by kernel_rfl) (by kernel_rfl) (by kernel_rfl) (fun _ _ _ h => h) (Or.inl ⟨by rfl, ?_⟩) (by assumption) ?_
            rotate_left
            · intro w' hS'
              try dsimp only at hS'
              go_simp
              try with_reducible rfl
            try simp only [Act.put, List.setIfInBounds_toArray, List.set_cons_zero, List.set_cons_succ]
            refine wpAnyH_take (i := 29) (oi := ⟨some 102, _, _, _, _, _⟩) (v := ?_) rfl (by kernel_rfl) (by kernel_rfl) (by kernel_rfl) (fun _ _ _ h => h) (Or.inl ⟨by rfl, ?_⟩) (by assumption) ?_
            rotate_left
            · intro w' hS'
              try dsimp only at hS'
              go_simp
              try with_reducible rfl
            try simp only [Act.put, List.setIfInBounds_toArray, List.set_cons_zero, List.set_cons_succ]
            refine wpAnyH_done (by kernel_rfl) ?_ _
            go_wp2_with fail
            go_roundg (L.length - (0 + 1))
            case measure => omega
            case rel => exact NX.out _ QD.out
          · obtain ⟨j, hj⟩ : ∃ j, i = j + 1 := ⟨i - 1, by omega⟩
            have hy : L[j]? = some L[j] := List.getElem?_eq_getElem (by omega)
            generalize L[j] = y at hy
            have hyx : y < x := by
              obtain ⟨hl1, e1⟩ := List.getElem?_eq_some_iff.1 hy
              obtain ⟨hl2, e2⟩ := List.getElem?_eq_some_iff.1 hx
              have := List.pairwise_iff_getElem.1 RI.out j i hl1 hl2 (by omega)
              omega
            have CX := Lib.hid (PX.out i x hx)
            have CY := Lib.hid (PX.out j y hy)
            have wq1 : IntKind.i64.wrap ((i : Int) - 1) = j := by rw [IntKind.wrap_i64]; omega
            have wq2 : wrap64 ((i : Int) - 1) = j := by unfold wrap64; omega
            have bj2 : (j : Int) < L.length := by omega
            have bj0 : (0 : Int) ≤ (j : Int) := by omega
            have d4 : decide (x ≤ y) = false := decide_eq_false (by omega)
            have p0 : 0 < i := h0
            have p2 : (0 : Int) < (i : Int) := by omega
            clear h0 PX hx hy RI hj
            go_upto_region 19 with (go_at_call 19; (with_reducible refine (TX.out _ Q.out).mono ?_); rintro e w' ⟨rfl, hg2⟩; replace Q := Lib.hid (Q.out.fresh hg2); clear hg2)
            have QD := Lib.hid (Q.out.fresh (Below.refl _ _).drew)
            have cy := CX.out _ Q.out
            have cz := CY.out _ Q.out
            clear Q cx
            go_region_held3 (fun w' => w'.cell? ⟨kb, ob + i, none⟩ = some (.int .i64 x) ∧ w'.cell? ⟨kb, ob + j, none⟩ = some (.int .i64 y)) (first | exact ⟨cy, cz⟩ | exact ⟨CX.out _ QD.out, CY.out _ QD.out⟩)
              (first
                | (go_at_call 19; (with_reducible refine (TX.out _ QD.out).mono ?_); rintro e w' ⟨rfl, hg2⟩; replace QD := Lib.hid (QD.out.fresh hg2); clear hg2))
            all_goals
              go_wp2_with fail
              go_roundg (L.length - (i + 1))
              case measure => omega
              case rel => exact NX.out _ QD.out
        · have p1 : ¬ (i : Int) < L.length := by omega
          have e1 : sumT s.t (L.take i) = s.tot - gone := by rw [← hsum, List.take_of_length_le (by omega)]
          have e2 : gone + sumT s.t (L.take i) = s.tot := by omega
          rw [e2]
          have Q := Lib.hid hQ
          clear e1 e2 hQ hsum HH H6 hf hneg TK
          generalize s.tot = T at *
          generalize s.g g = G at *
          obtain ⟨h1, h2⟩ := hgr
          go_wp2_with (first
            | (go_at_call 17; (with_reducible refine (TT.out _ _ _ _ Q.out).mono ?_); rintro e w' ⟨rfl, hg2⟩; replace Q := Lib.hid (Q.out.fresh hg2); clear hg2)
            | (go_at_call 20; (with_reducible refine (TG.out _ _ _ _ Q.out).mono ?_); rintro e w' ⟨rfl, hg2⟩; replace Q := Lib.hid (Q.out.fresh hg2); clear hg2))
          go_ret
          exact yes_of rfl Q.out.run.below
end Go.Proofs.Ytnocgdhepmgncaa.Ledger
