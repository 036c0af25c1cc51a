/- What the program's Choose returns. Conditions: each number is one of its kind. -/
import Derived.Test.YtjbhighfajdfhaaPullMem
import Derived.Deep.RegionHeld3
import Derived.Deep.Cut
namespace Go.Proofs.Ytjbhighfajdfhaa.Pull
open Go.ChangeShapes Go.WideShapes Go.ChangeAt Go.RowKit Load
set_option linter.unusedVariables false
set_option linter.unusedSimpArgs false
attribute [local irreducible] Go.wpQuiet

def Two (r : Int) (w : World) (e : Ending) (w' : World) : Prop := e = .returned (.tuple #[.int .i64 (plc r), .bool (fnd r)]) ∧ Below w.heap.size w w'
def ChoI (C : Nat → Cd) (G p : Int) (n : Nat) (w : World) (left : Nat) (t12 t13 t23 : Value) (wr : World) : Prop :=
  ∃ k : Nat, left + k = n ∧ t12 = .int .i64 (plc (cho C G p k)) ∧ t13 = .bool (fnd (cho C G p k)) ∧ t23 = .int .i64 k ∧ Below w.heap.size w wr
theorem plc_none : plc (-1) = 0 := rfl
theorem fnd_none : fnd (-1) = false := rfl
theorem plc_nat (q : Nat) : plc (q : Int) = q := by unfold plc; rw [if_neg (by omega)]
theorem fnd_nat (q : Nat) : fnd (q : Int) = true := by simp [fnd]

set_option maxRecDepth 100000 in
set_option maxHeartbeats 4000000 in
theorem chooses (v : Option Addr) (n cap : Nat) (C : Nat → Cd) (f t p : Int) (w : World) (hf : U64 f) (ht : U64 t) (hn : n ≤ 9223372036854775807) (HO : Hid (∀ j, j < n → (C j).Ok)) (HC : Hid (Cs v n C w)) :
    Calls Try.prog 11 #[.slice v n cap, .int .u64 f, .int .u64 t, .int .i64 p] w (Two (cho C (gap f t) p n) w) := by
  have GP := Lib.hid (fun w => gaps f t w hf ht)
  have hG := Lib.hid (gap_bd hf ht)
  have JU := Lib.hid (fun w => judges (gap f t) w hG.out)
  generalize gap f t = G at *
  have W0 := alloc1 w (.cells #[.int .u64 (G / 2)] 23 (0, 0))
  have HW : Hid ((w.alloc (.cells #[.int .u64 (G / 2)] 23)).cell? ⟨w.heap.size, 0, none⟩ = some (.int .u64 (G / 2))) := Lib.hid (by rw [cell_of_row _ _ _ _ _ _ (heap_alloc_new w (.cells #[.int .u64 (G / 2)] 23 (0, 0)))]; rfl)
  have HC1 := Lib.hid (HC.out.fresh W0)
  go_enter Try.func11, Try.ntmps11
  go_upto_region 3 with (first
    | (go_at_call 19; refine (GP.out _).mono ?_; rintro e w1 ⟨rfl, hw⟩; replace hw := hw.symm; subst hw)
    | (go_at_call 20; refine (JU.out _).mono ?_; rintro e w1 ⟨rfl, hw⟩; replace hw := hw.symm; subst hw))
  generalize (w.alloc (.cells #[.int .u64 (G / 2)] 23)) = W at *
  clear GP JU HC
  go_wp2_with fail
  go_loopg [12, 13, 23] n (fun left t12 t13 t23 wr => ChoI C G p n W left t12 t13 t23 wr)
  case atStart => exact ⟨0, by omega, rfl, rfl, rfl, Below.refl _ _⟩
  case round =>
    obtain ⟨k, hk, rfl, rfl, rfl, hb⟩ := hrel
    by_cases hlt : k < n
    · have h3 : (k : Int) < n := by omega
      obtain ⟨b1, o1, rfl, hb1, x0, x1, x2, x3⟩ := HC1.out.fresh hb k hlt
      have hOk := HO.out k hlt
      have MC := Lib.hid (fun w => mays (C k) G p w hOk)
      have NO := Lib.hid (fun (hm : mayc (C k) G p = false) (wx : World) (h : Below W.heap.size W wx) => (show ChoI C G p n W (n - (k + 1)) (.int .i64 (plc (cho C G p k))) (.bool (fnd (cho C G p k))) (.int .i64 ((k : Int) + 1)) wx from ⟨k + 1, by omega, by rw [cho_keep hm], by rw [cho_keep hm], by go_num, h⟩))
      have YES := Lib.hid (fun (hm : cho C G p (k + 1) = k) (wx : World) (h : Below W.heap.size W wx) => (show ChoI C G p n W (n - (k + 1)) (.int .i64 k) (.bool true) (.int .i64 ((k : Int) + 1)) wx from ⟨k + 1, by omega, by rw [hm, plc_nat], by rw [hm, fnd_nat], by go_num, h⟩))
      have STAY := Lib.hid (fun (q : Nat) (hm : cho C G p (k + 1) = q) (wx : World) (h : Below W.heap.size W wx) => (show ChoI C G p n W (n - (k + 1)) (.int .i64 q) (.bool true) (.int .i64 ((k : Int) + 1)) wx from ⟨k + 1, by omega, by rw [hm, plc_nat], by rw [hm, fnd_nat], by go_num, h⟩))
      have hsz := hb.size
      cases hm : mayc (C k) G p
      · have N1 := Lib.hid (NO.out hm)
        rw [hm] at MC
        generalize plc (cho C G p k) = pl at *
        generalize fnd (cho C G p k) = fd at *
        clear NO YES STAY hm
        generalize C k = ck at *
        obtain ⟨ki, kw, km, kr⟩ := ck
        unfold vCd at MC
        simp only at MC x0 x1 x2 x3
        obtain ⟨c0, c1, c2, c3, cz⟩ := four (heap_alloc_new wr (.cells #[.int .i64 ki, .int .u64 kw, .int .u64 (km : Int), .bool kr] 35 (0, 0)))
        have hba := hb.alloc hsz (.cells #[.int .i64 ki, .int .u64 kw, .int .u64 (km : Int), .bool kr] 35 (0, 0))
        have hgd := (Below.refl (wr.alloc (.cells #[.int .i64 ki, .int .u64 kw, .int .u64 (km : Int), .bool kr] 35 (0, 0))).heap.size (wr.alloc (.cells #[.int .i64 ki, .int .u64 kw, .int .u64 (km : Int), .bool kr] 35 (0, 0)))).drew
        have HN1 := Lib.hid (fun w4 (hg4 : Below (wr.alloc (.cells #[.int .i64 ki, .int .u64 kw, .int .u64 (km : Int), .bool kr] 35 (0, 0))).heap.size (wr.alloc (.cells #[.int .i64 ki, .int .u64 kw, .int .u64 (km : Int), .bool kr] 35 (0, 0))) w4) => And.intro (cell_fresh c0 hg4) (And.intro (cell_fresh c1 hg4) (And.intro (cell_fresh c2 hg4) (cell_fresh c3 hg4))))
        go_wp2_with fail
        refine wp_region_held_drew (S := (fun w' => w'.cell? ⟨wr.heap.size, 0, none⟩ = some (.int .i64 ki) ∧ w'.cell? ⟨wr.heap.size, 1, none⟩ = some (.int .u64 kw) ∧ w'.cell? ⟨wr.heap.size, 2, none⟩ = some (.int .u64 (km : Int)) ∧ w'.cell? ⟨wr.heap.size, 3, none⟩ = some (.bool kr))) (by kernel_rfl) ⟨c0, c1, c2, c3⟩ (fun hHeld => ?_)
        refine wpAnyH_take (i := 0) (oi := ⟨some 28, _, _, _, _, _⟩) (v := ?_) rfl (by kernel_rfl) (by kernel_rfl) (by kernel_rfl) (fun _ _ _ h => h) (Or.inl ⟨by rfl, ?_⟩) (by assumption) ?_
        rotate_left
        · intro w' hS'
          try dsimp only at hS'
          go_simp
          try with_reducible rfl
        try simp only [Act.put, List.setIfInBounds_toArray, List.set_cons_zero, List.set_cons_succ]
        refine wpAnyH_take (i := 1) (oi := ⟨some 29, _, _, _, _, _⟩) (v := ?_) rfl (by kernel_rfl) (by kernel_rfl) (by kernel_rfl) (fun _ _ _ h => h) (Or.inl ⟨by rfl, ?_⟩) (by assumption) ?_
        rotate_left
        · intro w' hS'
          try dsimp only at hS'
          go_simp
          try with_reducible rfl
        try simp only [Act.put, List.setIfInBounds_toArray, List.set_cons_zero, List.set_cons_succ]
        refine wpAnyH_take (i := 2) (oi := ⟨some 30, _, _, _, _, _⟩) (v := ?_) rfl (by kernel_rfl) (by kernel_rfl) (by kernel_rfl) (fun _ _ _ h => h) (Or.inl ⟨by rfl, ?_⟩) (by assumption) ?_
        rotate_left
        · intro w' hS'
          try dsimp only at hS'
          go_simp
          try with_reducible rfl
        try simp only [Act.put, List.setIfInBounds_toArray, List.set_cons_zero, List.set_cons_succ]
        refine wpAnyH_ready (rs := [3]) (by kernel_rfl) (by simp) ?_
        refine AllReadyH.cons (o := ⟨some 31, _, _, _, _, _⟩) rfl (fun K hK => ?_) AllReadyH.nil
        go_simp
        go_at_call 16
        refine (MC.out _).mono ?_
        rintro e w4 ⟨rfl, hg4⟩
        replace hg4 := hgd.trans hg4
        have ce := HN1.out _ hg4
        go_wp2_with fail
        refine hK.out _ _ ⟨ce.1, ce.2.1, ce.2.2.1, ce.2.2.2⟩ (fun hHeld => ?_)
        clear hK K
        refine wpAnyH_take (i := 4) (oi := ⟨some 32, _, _, _, _, _⟩) (v := ?_) rfl (by kernel_rfl) (by kernel_rfl) (by kernel_rfl) (fun _ _ _ h => h) (Or.inl ⟨by rfl, ?_⟩) (by assumption) ?_
        rotate_left
        · intro w' hS'
          try dsimp only at hS'
          go_simp
          try with_reducible rfl
        try simp only [Act.put, List.setIfInBounds_toArray, List.set_cons_zero, List.set_cons_succ]
        refine wpAnyH_take (i := 5) (oi := ⟨some 33, _, _, _, _, _⟩) (v := undef) rfl (by kernel_rfl) (by kernel_rfl) (by kernel_rfl) (fun _ _ _ h => h) (Or.inr ⟨by rfl, rfl⟩) (by assumption) ?_
        try simp only [Act.put, List.setIfInBounds_toArray, List.set_cons_zero, List.set_cons_succ]
        refine wpAnyH_take (i := 6) (oi := ⟨some 34, _, _, _, _, _⟩) (v := undef) rfl (by kernel_rfl) (by kernel_rfl) (by kernel_rfl) (fun _ _ _ h => h) (Or.inr ⟨by rfl, rfl⟩) (by assumption) ?_
        try simp only [Act.put, List.setIfInBounds_toArray, List.set_cons_zero, List.set_cons_succ]
        refine wpAnyH_take (i := 7) (oi := ⟨some 35, _, _, _, _, _⟩) (v := undef) rfl (by kernel_rfl) (by kernel_rfl) (by kernel_rfl) (fun _ _ _ h => h) (Or.inr ⟨by rfl, rfl⟩) (by assumption) ?_
        try simp only [Act.put, List.setIfInBounds_toArray, List.set_cons_zero, List.set_cons_succ]
        refine wpAnyH_take (i := 8) (oi := ⟨some 36, _, _, _, _, _⟩) (v := undef) rfl (by kernel_rfl) (by kernel_rfl) (by kernel_rfl) (fun _ _ _ h => h) (Or.inr ⟨by rfl, rfl⟩) (by assumption) ?_
        try simp only [Act.put, List.setIfInBounds_toArray, List.set_cons_zero, List.set_cons_succ]
        refine wpAnyH_take (i := 9) (oi := ⟨some 37, _, _, _, _, _⟩) (v := undef) rfl (by kernel_rfl) (by kernel_rfl) (by kernel_rfl) (fun _ _ _ h => h) (Or.inr ⟨by rfl, rfl⟩) (by assumption) ?_
        try simp only [Act.put, List.setIfInBounds_toArray, List.set_cons_zero, List.set_cons_succ]
        refine wpAnyH_take (i := 10) (oi := ⟨some 38, _, _, _, _, _⟩) (v := undef) rfl (by kernel_rfl) (by kernel_rfl) (by kernel_rfl) (fun _ _ _ h => h) (Or.inr ⟨by rfl, rfl⟩) (by assumption) ?_
        try simp only [Act.put, List.setIfInBounds_toArray, List.set_cons_zero, List.set_cons_succ]
        refine wpAnyH_take (i := 11) (oi := ⟨some 39, _, _, _, _, _⟩) (v := undef) rfl (by kernel_rfl) (by kernel_rfl) (by kernel_rfl) (fun _ _ _ h => h) (Or.inr ⟨by rfl, rfl⟩) (by assumption) ?_
        try simp only [Act.put, List.setIfInBounds_toArray, List.set_cons_zero, List.set_cons_succ]
        refine wpAnyH_take (i := 12) (oi := ⟨some 40, _, _, _, _, _⟩) (v := undef) rfl (by kernel_rfl) (by kernel_rfl) (by kernel_rfl) (fun _ _ _ h => h) (Or.inr ⟨by rfl, rfl⟩) (by assumption) ?_
        try simp only [Act.put, List.setIfInBounds_toArray, List.set_cons_zero, List.set_cons_succ]
        refine wpAnyH_take (i := 13) (oi := ⟨some 41, _, _, _, _, _⟩) (v := undef) rfl (by kernel_rfl) (by kernel_rfl) (by kernel_rfl) (fun _ _ _ h => h) (Or.inr ⟨by rfl, rfl⟩) (by assumption) ?_
        try simp only [Act.put, List.setIfInBounds_toArray, List.set_cons_zero, List.set_cons_succ]
        refine wpAnyH_take (i := 14) (oi := ⟨some 42, _, _, _, _, _⟩) (v := undef) rfl (by kernel_rfl) (by kernel_rfl) (by kernel_rfl) (fun _ _ _ h => h) (Or.inr ⟨by rfl, rfl⟩) (by assumption) ?_
        try simp only [Act.put, List.setIfInBounds_toArray, List.set_cons_zero, List.set_cons_succ]
        refine wpAnyH_take (i := 15) (oi := ⟨some 43, _, _, _, _, _⟩) (v := undef) rfl (by kernel_rfl) (by kernel_rfl) (by kernel_rfl) (fun _ _ _ h => h) (Or.inr ⟨by rfl, rfl⟩) (by assumption) ?_
        try simp only [Act.put, List.setIfInBounds_toArray, List.set_cons_zero, List.set_cons_succ]
        refine wpAnyH_take (i := 16) (oi := ⟨some 44, _, _, _, _, _⟩) (v := ?_) rfl (by kernel_rfl) (by kernel_rfl) (by kernel_rfl) (fun _ _ _ h => h) (Or.inl ⟨by rfl, ?_⟩) (by assumption) ?_
        rotate_left
        · intro w' hS'
          try dsimp only at hS'
          go_simp
          try with_reducible rfl
        try simp only [Act.put, List.setIfInBounds_toArray, List.set_cons_zero, List.set_cons_succ]
        refine wpAnyH_done (by kernel_rfl) ?_ _
        have hfin := hba.trans (hg4.mono (hba.size))
        go_wp2_with fail
        go_roundg (n - (k + 1))
        case measure => omega
        case rel => exact N1.out _ hfin
      · rcases cho_end C G p k with hR | ⟨q, hR, hq, hmq⟩
        · have N1 := Lib.hid (YES.out (cho_first hm hR))
          rw [hR, plc_none, fnd_none]
          rw [hm] at MC
          clear NO YES STAY hm hR
          generalize C k = ck at *
          obtain ⟨ki, kw, km, kr⟩ := ck
          unfold vCd at MC
          simp only at MC x0 x1 x2 x3
          obtain ⟨c0, c1, c2, c3, cz⟩ := four (heap_alloc_new wr (.cells #[.int .i64 ki, .int .u64 kw, .int .u64 (km : Int), .bool kr] 35 (0, 0)))
          have hba := hb.alloc hsz (.cells #[.int .i64 ki, .int .u64 kw, .int .u64 (km : Int), .bool kr] 35 (0, 0))
          have hgd := (Below.refl (wr.alloc (.cells #[.int .i64 ki, .int .u64 kw, .int .u64 (km : Int), .bool kr] 35 (0, 0))).heap.size (wr.alloc (.cells #[.int .i64 ki, .int .u64 kw, .int .u64 (km : Int), .bool kr] 35 (0, 0)))).drew
          have HN1 := Lib.hid (fun w4 (hg4 : Below (wr.alloc (.cells #[.int .i64 ki, .int .u64 kw, .int .u64 (km : Int), .bool kr] 35 (0, 0))).heap.size (wr.alloc (.cells #[.int .i64 ki, .int .u64 kw, .int .u64 (km : Int), .bool kr] 35 (0, 0))) w4) => And.intro (cell_fresh c0 hg4) (And.intro (cell_fresh c1 hg4) (And.intro (cell_fresh c2 hg4) (cell_fresh c3 hg4))))
          go_wp2_with fail
          refine wp_region_held_drew (S := (fun w' => w'.cell? ⟨wr.heap.size, 0, none⟩ = some (.int .i64 ki) ∧ w'.cell? ⟨wr.heap.size, 1, none⟩ = some (.int .u64 kw) ∧ w'.cell? ⟨wr.heap.size, 2, none⟩ = some (.int .u64 (km : Int)) ∧ w'.cell? ⟨wr.heap.size, 3, none⟩ = some (.bool kr))) (by kernel_rfl) ⟨c0, c1, c2, c3⟩ (fun hHeld => ?_)
          refine wpAnyH_take (i := 0) (oi := ⟨some 28, _, _, _, _, _⟩) (v := ?_) rfl (by kernel_rfl) (by kernel_rfl) (by kernel_rfl) (fun _ _ _ h => h) (Or.inl ⟨by rfl, ?_⟩) (by assumption) ?_
          rotate_left
          · intro w' hS'
            try dsimp only at hS'
            go_simp
            try with_reducible rfl
          try simp only [Act.put, List.setIfInBounds_toArray, List.set_cons_zero, List.set_cons_succ]
          refine wpAnyH_take (i := 1) (oi := ⟨some 29, _, _, _, _, _⟩) (v := ?_) rfl (by kernel_rfl) (by kernel_rfl) (by kernel_rfl) (fun _ _ _ h => h) (Or.inl ⟨by rfl, ?_⟩) (by assumption) ?_
          rotate_left
          · intro w' hS'
            try dsimp only at hS'
            go_simp
            try with_reducible rfl
          try simp only [Act.put, List.setIfInBounds_toArray, List.set_cons_zero, List.set_cons_succ]
          refine wpAnyH_take (i := 2) (oi := ⟨some 30, _, _, _, _, _⟩) (v := ?_) rfl (by kernel_rfl) (by kernel_rfl) (by kernel_rfl) (fun _ _ _ h => h) (Or.inl ⟨by rfl, ?_⟩) (by assumption) ?_
          rotate_left
          · intro w' hS'
            try dsimp only at hS'
            go_simp
            try with_reducible rfl
          try simp only [Act.put, List.setIfInBounds_toArray, List.set_cons_zero, List.set_cons_succ]
          refine wpAnyH_ready (rs := [3]) (by kernel_rfl) (by simp) ?_
          refine AllReadyH.cons (o := ⟨some 31, _, _, _, _, _⟩) rfl (fun K hK => ?_) AllReadyH.nil
          go_simp
          go_at_call 16
          refine (MC.out _).mono ?_
          rintro e w4 ⟨rfl, hg4⟩
          replace hg4 := hgd.trans hg4
          have ce := HN1.out _ hg4
          go_wp2_with fail
          refine hK.out _ _ ⟨ce.1, ce.2.1, ce.2.2.1, ce.2.2.2⟩ (fun hHeld => ?_)
          clear hK K
          refine wpAnyH_take (i := 4) (oi := ⟨some 32, _, _, _, _, _⟩) (v := ?_) rfl (by kernel_rfl) (by kernel_rfl) (by kernel_rfl) (fun _ _ _ h => h) (Or.inl ⟨by rfl, ?_⟩) (by assumption) ?_
          rotate_left
          · intro w' hS'
            try dsimp only at hS'
            go_simp
            try with_reducible rfl
          try simp only [Act.put, List.setIfInBounds_toArray, List.set_cons_zero, List.set_cons_succ]
          refine wpAnyH_take (i := 5) (oi := ⟨some 33, _, _, _, _, _⟩) (v := ?_) rfl (by kernel_rfl) (by kernel_rfl) (by kernel_rfl) (fun _ _ _ h => h) (Or.inl ⟨by rfl, ?_⟩) (by assumption) ?_
          rotate_left
          · intro w' hS'
            try dsimp only at hS'
            go_simp
            try with_reducible rfl
          try simp only [Act.put, List.setIfInBounds_toArray, List.set_cons_zero, List.set_cons_succ]
          refine wpAnyH_take (i := 6) (oi := ⟨some 34, _, _, _, _, _⟩) (v := ?_) rfl (by kernel_rfl) (by kernel_rfl) (by kernel_rfl) (fun _ _ _ h => h) (Or.inl ⟨by rfl, ?_⟩) (by assumption) ?_
          rotate_left
          · intro w' hS'
            try dsimp only at hS'
            go_simp
            try with_reducible rfl
          try simp only [Act.put, List.setIfInBounds_toArray, List.set_cons_zero, List.set_cons_succ]
          refine wpAnyH_take (i := 7) (oi := ⟨some 35, _, _, _, _, _⟩) (v := ?_) rfl (by kernel_rfl) (by kernel_rfl) (by kernel_rfl) (fun _ _ _ h => h) (Or.inl ⟨by rfl, ?_⟩) (by assumption) ?_
          rotate_left
          · intro w' hS'
            try dsimp only at hS'
            go_simp
            try with_reducible rfl
          try simp only [Act.put, List.setIfInBounds_toArray, List.set_cons_zero, List.set_cons_succ]
          refine wpAnyH_take (i := 8) (oi := ⟨some 36, _, _, _, _, _⟩) (v := undef) rfl (by kernel_rfl) (by kernel_rfl) (by kernel_rfl) (fun _ _ _ h => h) (Or.inr ⟨by rfl, rfl⟩) (by assumption) ?_
          try simp only [Act.put, List.setIfInBounds_toArray, List.set_cons_zero, List.set_cons_succ]
          refine wpAnyH_take (i := 9) (oi := ⟨some 37, _, _, _, _, _⟩) (v := undef) rfl (by kernel_rfl) (by kernel_rfl) (by kernel_rfl) (fun _ _ _ h => h) (Or.inr ⟨by rfl, rfl⟩) (by assumption) ?_
          try simp only [Act.put, List.setIfInBounds_toArray, List.set_cons_zero, List.set_cons_succ]
          refine wpAnyH_take (i := 10) (oi := ⟨some 38, _, _, _, _, _⟩) (v := undef) rfl (by kernel_rfl) (by kernel_rfl) (by kernel_rfl) (fun _ _ _ h => h) (Or.inr ⟨by rfl, rfl⟩) (by assumption) ?_
          try simp only [Act.put, List.setIfInBounds_toArray, List.set_cons_zero, List.set_cons_succ]
          refine wpAnyH_take (i := 11) (oi := ⟨some 39, _, _, _, _, _⟩) (v := undef) rfl (by kernel_rfl) (by kernel_rfl) (by kernel_rfl) (fun _ _ _ h => h) (Or.inr ⟨by rfl, rfl⟩) (by assumption) ?_
          try simp only [Act.put, List.setIfInBounds_toArray, List.set_cons_zero, List.set_cons_succ]
          refine wpAnyH_take (i := 12) (oi := ⟨some 40, _, _, _, _, _⟩) (v := undef) rfl (by kernel_rfl) (by kernel_rfl) (by kernel_rfl) (fun _ _ _ h => h) (Or.inr ⟨by rfl, rfl⟩) (by assumption) ?_
          try simp only [Act.put, List.setIfInBounds_toArray, List.set_cons_zero, List.set_cons_succ]
          refine wpAnyH_take (i := 13) (oi := ⟨some 41, _, _, _, _, _⟩) (v := undef) rfl (by kernel_rfl) (by kernel_rfl) (by kernel_rfl) (fun _ _ _ h => h) (Or.inr ⟨by rfl, rfl⟩) (by assumption) ?_
          try simp only [Act.put, List.setIfInBounds_toArray, List.set_cons_zero, List.set_cons_succ]
          refine wpAnyH_take (i := 14) (oi := ⟨some 42, _, _, _, _, _⟩) (v := undef) rfl (by kernel_rfl) (by kernel_rfl) (by kernel_rfl) (fun _ _ _ h => h) (Or.inr ⟨by rfl, rfl⟩) (by assumption) ?_
          try simp only [Act.put, List.setIfInBounds_toArray, List.set_cons_zero, List.set_cons_succ]
          refine wpAnyH_take (i := 15) (oi := ⟨some 43, _, _, _, _, _⟩) (v := ?_) rfl (by kernel_rfl) (by kernel_rfl) (by kernel_rfl) (fun _ _ _ h => h) (Or.inl ⟨by rfl, ?_⟩) (by assumption) ?_
          rotate_left
          · intro w' hS'
            try dsimp only at hS'
            go_simp
            try with_reducible rfl
          try simp only [Act.put, List.setIfInBounds_toArray, List.set_cons_zero, List.set_cons_succ]
          refine wpAnyH_take (i := 16) (oi := ⟨some 44, _, _, _, _, _⟩) (v := ?_) rfl (by kernel_rfl) (by kernel_rfl) (by kernel_rfl) (fun _ _ _ h => h) (Or.inl ⟨by rfl, ?_⟩) (by assumption) ?_
          rotate_left
          · intro w' hS'
            try dsimp only at hS'
            go_simp
            try with_reducible rfl
          try simp only [Act.put, List.setIfInBounds_toArray, List.set_cons_zero, List.set_cons_succ]
          refine wpAnyH_done (by kernel_rfl) ?_ _
          have hfin := hba.trans (hg4.mono (hba.size))
          go_wp2_with fail
          go_roundg (n - (k + 1))
          case measure => omega
          case rel => exact N1.out _ hfin
        · have hqn : q < n := by omega
          have hqi : (q : Int) < n := by omega
          have hq0 : (0 : Int) ≤ q := by omega
          obtain ⟨b1', o1', e1, _, y0, y1, y2, y3⟩ := HC1.out.fresh hb q hqn
          cases e1
          have BC := Lib.hid (fun wz h => betters (C k) (C q) (G / 2) w.heap.size wz h)
          have MO := cho_more (C := C) (gap := G) (p := p) (k := k) (q := q) (fun j hj => HO.out j (by omega)) hq hm hR hmq
          have hHf := Lib.hid (fun w4 (hg4 : Below W.heap.size W w4) => cell_fresh HW.out hg4)
          rw [hR, plc_nat, fnd_nat]
          rw [hm] at MC
          cases hbt : better (G / 2) (C k) (C q)
          · rw [hbt, if_neg (by decide)] at MO
            rw [hbt] at BC
            have N1 := Lib.hid (STAY.out q MO)
            clear NO YES STAY hm hR MO hbt hmq
            generalize C q = cq at *
            generalize C k = ck at *
            obtain ⟨ki, kw, km, kr⟩ := ck
            obtain ⟨qi, qw, qm, qr⟩ := cq
            unfold vCd at MC BC
            simp only at MC BC x0 x1 x2 x3 y0 y1 y2 y3
            obtain ⟨c0, c1, c2, c3, cz⟩ := four (heap_alloc_new wr (.cells #[.int .i64 ki, .int .u64 kw, .int .u64 (km : Int), .bool kr] 35 (0, 0)))
            have hba := hb.alloc hsz (.cells #[.int .i64 ki, .int .u64 kw, .int .u64 (km : Int), .bool kr] 35 (0, 0))
            have hgd := (Below.refl (wr.alloc (.cells #[.int .i64 ki, .int .u64 kw, .int .u64 (km : Int), .bool kr] 35 (0, 0))).heap.size (wr.alloc (.cells #[.int .i64 ki, .int .u64 kw, .int .u64 (km : Int), .bool kr] 35 (0, 0)))).drew
            have d0 := cell_fresh y0 (alloc1 wr (.cells #[.int .i64 ki, .int .u64 kw, .int .u64 (km : Int), .bool kr] 35 (0, 0)))
            have d1 := cell_fresh y1 (alloc1 wr (.cells #[.int .i64 ki, .int .u64 kw, .int .u64 (km : Int), .bool kr] 35 (0, 0)))
            have d2 := cell_fresh y2 (alloc1 wr (.cells #[.int .i64 ki, .int .u64 kw, .int .u64 (km : Int), .bool kr] 35 (0, 0)))
            have d3 := cell_fresh y3 (alloc1 wr (.cells #[.int .i64 ki, .int .u64 kw, .int .u64 (km : Int), .bool kr] 35 (0, 0)))
            have HN1 := Lib.hid (fun w4 (hg4 : Below (wr.alloc (.cells #[.int .i64 ki, .int .u64 kw, .int .u64 (km : Int), .bool kr] 35 (0, 0))).heap.size (wr.alloc (.cells #[.int .i64 ki, .int .u64 kw, .int .u64 (km : Int), .bool kr] 35 (0, 0))) w4) => And.intro (cell_fresh c0 hg4) (And.intro (cell_fresh c1 hg4) (And.intro (cell_fresh c2 hg4) (And.intro (cell_fresh c3 hg4) (And.intro (cell_fresh d0 hg4) (And.intro (cell_fresh d1 hg4) (And.intro (cell_fresh d2 hg4) (cell_fresh d3 hg4))))))))
            go_wp2_with fail
            go_region_held3 (fun w' => w'.cell? ⟨wr.heap.size, 0, none⟩ = some (.int .i64 ki) ∧ w'.cell? ⟨wr.heap.size, 1, none⟩ = some (.int .u64 kw) ∧ w'.cell? ⟨wr.heap.size, 2, none⟩ = some (.int .u64 (km : Int)) ∧ w'.cell? ⟨wr.heap.size, 3, none⟩ = some (.bool kr) ∧ w'.cell? ⟨b1, o1 + q * 4, none⟩ = some (.int .i64 qi) ∧ w'.cell? ⟨b1, o1 + q * 4 + 1, none⟩ = some (.int .u64 qw) ∧ w'.cell? ⟨b1, o1 + q * 4 + 2, none⟩ = some (.int .u64 (qm : Int)) ∧ w'.cell? ⟨b1, o1 + q * 4 + 3, none⟩ = some (.bool qr)) (first | exact ⟨c0, c1, c2, c3, d0, d1, d2, d3⟩ | exact ce) (first | (go_at_call 16; refine (MC.out _).mono ?_; rintro e w4 ⟨rfl, hg4⟩; replace hg4 := hgd.trans hg4; have ce := HN1.out _ hg4) | (go_at_call 26; refine (BC.out _ (hHf.out _ (hba.trans (hg4.mono (hba.size))))).mono ?_; rintro e w5 ⟨rfl, hg5⟩; replace hg5 := hg4.trans (hg5.mono hg4.size); have ce := HN1.out _ hg5))
            go_wp2_with fail
            go_roundg (n - (k + 1))
            case measure => omega
            case rel => exact N1.out _ (hba.trans (hg5.mono (hba.size)))
          · rw [hbt, if_pos rfl] at MO
            rw [hbt] at BC
            have N1 := Lib.hid (YES.out MO)
            clear NO YES STAY hm hR MO hbt hmq
            generalize C q = cq at *
            generalize C k = ck at *
            obtain ⟨ki, kw, km, kr⟩ := ck
            obtain ⟨qi, qw, qm, qr⟩ := cq
            unfold vCd at MC BC
            simp only at MC BC x0 x1 x2 x3 y0 y1 y2 y3
            obtain ⟨c0, c1, c2, c3, cz⟩ := four (heap_alloc_new wr (.cells #[.int .i64 ki, .int .u64 kw, .int .u64 (km : Int), .bool kr] 35 (0, 0)))
            have hba := hb.alloc hsz (.cells #[.int .i64 ki, .int .u64 kw, .int .u64 (km : Int), .bool kr] 35 (0, 0))
            have hgd := (Below.refl (wr.alloc (.cells #[.int .i64 ki, .int .u64 kw, .int .u64 (km : Int), .bool kr] 35 (0, 0))).heap.size (wr.alloc (.cells #[.int .i64 ki, .int .u64 kw, .int .u64 (km : Int), .bool kr] 35 (0, 0)))).drew
            have d0 := cell_fresh y0 (alloc1 wr (.cells #[.int .i64 ki, .int .u64 kw, .int .u64 (km : Int), .bool kr] 35 (0, 0)))
            have d1 := cell_fresh y1 (alloc1 wr (.cells #[.int .i64 ki, .int .u64 kw, .int .u64 (km : Int), .bool kr] 35 (0, 0)))
            have d2 := cell_fresh y2 (alloc1 wr (.cells #[.int .i64 ki, .int .u64 kw, .int .u64 (km : Int), .bool kr] 35 (0, 0)))
            have d3 := cell_fresh y3 (alloc1 wr (.cells #[.int .i64 ki, .int .u64 kw, .int .u64 (km : Int), .bool kr] 35 (0, 0)))
            have HN1 := Lib.hid (fun w4 (hg4 : Below (wr.alloc (.cells #[.int .i64 ki, .int .u64 kw, .int .u64 (km : Int), .bool kr] 35 (0, 0))).heap.size (wr.alloc (.cells #[.int .i64 ki, .int .u64 kw, .int .u64 (km : Int), .bool kr] 35 (0, 0))) w4) => And.intro (cell_fresh c0 hg4) (And.intro (cell_fresh c1 hg4) (And.intro (cell_fresh c2 hg4) (And.intro (cell_fresh c3 hg4) (And.intro (cell_fresh d0 hg4) (And.intro (cell_fresh d1 hg4) (And.intro (cell_fresh d2 hg4) (cell_fresh d3 hg4))))))))
            go_wp2_with fail
            go_region_held3 (fun w' => w'.cell? ⟨wr.heap.size, 0, none⟩ = some (.int .i64 ki) ∧ w'.cell? ⟨wr.heap.size, 1, none⟩ = some (.int .u64 kw) ∧ w'.cell? ⟨wr.heap.size, 2, none⟩ = some (.int .u64 (km : Int)) ∧ w'.cell? ⟨wr.heap.size, 3, none⟩ = some (.bool kr) ∧ w'.cell? ⟨b1, o1 + q * 4, none⟩ = some (.int .i64 qi) ∧ w'.cell? ⟨b1, o1 + q * 4 + 1, none⟩ = some (.int .u64 qw) ∧ w'.cell? ⟨b1, o1 + q * 4 + 2, none⟩ = some (.int .u64 (qm : Int)) ∧ w'.cell? ⟨b1, o1 + q * 4 + 3, none⟩ = some (.bool qr)) (first | exact ⟨c0, c1, c2, c3, d0, d1, d2, d3⟩ | exact ce) (first | (go_at_call 16; refine (MC.out _).mono ?_; rintro e w4 ⟨rfl, hg4⟩; replace hg4 := hgd.trans hg4; have ce := HN1.out _ hg4) | (go_at_call 26; refine (BC.out _ (hHf.out _ (hba.trans (hg4.mono (hba.size))))).mono ?_; rintro e w5 ⟨rfl, hg5⟩; replace hg5 := hg4.trans (hg5.mono hg4.size); have ce := HN1.out _ hg5))
            go_wp2_with fail
            go_roundg (n - (k + 1))
            case measure => omega
            case rel => exact N1.out _ (hba.trans (hg5.mono (hba.size)))
    · have h3 : ¬ (k : Int) < n := by omega
      obtain rfl : k = n := by omega
      go_wp2_with fail
      go_ret2
      exact ⟨rfl, W0.trans (hb.mono W0.size)⟩
end Go.Proofs.Ytjbhighfajdfhaa.Pull
