/- The walk of LedgerFails. Conditions: each number is one of its kind. -/
import Derived.Test.YtnocgdhepmgncaaLedgerForgetsW
namespace Go.Proofs.Ytnocgdhepmgncaa.Ledger
open Go.ChangeShapes Go.WideShapes Go.ChangeAt Go.RowKit Go.Sort Mem
set_option linter.unusedVariables false
set_option linter.unusedSimpArgs false
set_option maxRecDepth 100000

abbrev Off (lo hi : Nat) : Nat → Prop := fun k => k < lo ∨ hi ≤ k
/-- A book beside its deeds, and a list that is kept. -/
structure Run2 (w : World) (lo hi b : Nat) (v : Option Addr) (l : List De) (N : Nat) (s : Bk) (ao : Option Addr) (cp : Nat) (L : List Int) (wr : World) : Prop where
  run : Run w lo hi b v l N s wr
  path : Path (Off lo hi) wr ao L.length cp L
section
variable {w : World} {lo hi b : Nat} {v : Option Addr} {l : List De} {N : Nat} {s : Bk} {ao : Option Addr} {cp : Nat} {L : List Int} {wr w' : World}
theorem Run2.fresh (h : Run2 w lo hi b v l N s ao cp L wr) (hg : Below wr.heap.size wr w') : Run2 w lo hi b v l N s ao cp L w' := ⟨h.run.fresh hg, h.path.fresh hg⟩
theorem Run2.credit (h : Run2 w lo hi b v l N s ao cp L wr) (hN : N ≤ 900000) {a : Option Addr} {n c : Nat} {xs : List Int} {t ns : Int} (W' : World) (hW : Below wr.heap.size wr W') (hp : Path (Off lo hi) W' a n c xs) (ht : I64 t) (hns : I64 ns) (hn : n ≤ 20) :
    Calls Try.prog 15 #[.pointer (some ⟨b, 0, none⟩), .slice a n c, .int .i64 t, .int .i64 ns] W' (fun e w2 => e = .returned (.int .i64 (code s xs t ns)) ∧ Run2 w lo hi b v l (N + 21) (cre s xs t ns) ao cp L w2) := by
  have h' := h.fresh hW
  refine (Ledger.credit W' lo _ b N s a n c xs t ns h.run.ok h'.run.book hp ht hns (by omega)).mono ?_
  rintro e w2 ⟨rfl, hB, hbut⟩
  exact ⟨rfl, h'.run.turn (h.run.ok.cre _ _ _) (hB.mono (by omega)) hbut, h'.path.on hbut.size (fun k hk hl => hbut.block k hl hk)⟩
end
theorem told_path {w : World} {lo hi b : Nat} {v : Option Addr} {l : List De} {N : Nat} {s : Bk} {wr w' : World} {ao : Option Addr} {cp : Nat} {L : List Int} (h : Run w lo hi b v l N s wr) (hL : L.length ≤ 1000000) (h64 : ∀ x ∈ L, I64 x) (hown : w'.ownsRow wr.heap.size 3 1 (.slice ao L.length cp) L.length (cL L)) (hg : Below wr.heap.size wr w') :
    Run2 w lo hi b v l N s ao cp L w' := ⟨h.fresh hg, (path_row hown h64 hL).lift fun k hk => .inr (Nat.le_trans h.book.top hk)⟩
theorem code_cre {s : Bk} {xs : List Int} {t ns : Int} (h : code s xs t ns ≠ 0) : cre s xs t ns = s := by unfold cre; rw [if_neg h]
theorem cre_ok {s : Bk} {xs : List Int} {t ns : Int} (h : code s xs t ns = 0) : (cre s xs t ns).tot = s.tot + ns ∧ (cre s xs t ns).t t = s.t t + ns := by
  unfold cre; rw [if_pos h]
  exact ⟨rfl, upd_at _ _ _⟩
theorem code_two (s : Bk) (t ns : Int) : code s [4, 4] t ns = 1 := by
  have : good [4, 4] = false := by decide
  simp [code, wrong, this]
theorem code_neg (s : Bk) (xs : List Int) (ns : Int) : code s xs (-1) ns = 1 := by simp [code, wrong]
theorem code_is (s : Bk) (xs : List Int) (t ns : Int) : code s xs t ns = 0 ∨ code s xs t ns = 1 ∨ code s xs t ns = 3 := by
  unfold code
  split
  · exact .inr (.inl rfl)
  · split
    · exact .inr (.inr rfl)
    · exact .inl rfl
theorem path_none (B : Nat → Prop) (w : World) : Path B w none 0 0 [] := ⟨rfl, by omega, fun _ => ⟨rfl, rfl⟩, fun j x h => by simp at h⟩
set_option maxHeartbeats 4000000 in
theorem failsLaw (v : Option Addr) (n cap : Nat) (d : De) (w : World) (hn : n ≤ 9223372036854775807) (hc : Comes v n w) (hdn : d.n ≤ 9223372036854775807) (hdi : d.n ≤ 20 → d.Is w.heap.size w) (hdt : I64 d.t) (hdns : I64 d.ns) :
    Calls Try.prog 5 #[.slice v n cap, .agg #[.slice d.a d.n d.c, .int .i64 d.t, .int .i64 d.ns, .bool d.gone]] w (Yes w) := by
  have S := Lib.hid (fun w => shown w)
  have N := Lib.hid (fun w => new w)
  have a0 := alloc1 w (.cells #[.slice d.a d.n d.c, .int .i64 d.t, .int .i64 d.ns, .bool d.gone] 32 (0, 0))
  have n0 := heap_alloc_new w (.cells #[.slice d.a d.n d.c, .int .i64 d.t, .int .i64 d.ns, .bool d.gone] 32 (0, 0))
  have z0 : (w.alloc (.cells #[.slice d.a d.n d.c, .int .i64 d.t, .int .i64 d.ns, .bool d.gone] 32 (0, 0))).heap.size = w.heap.size + 1 := World.size_alloc _ _
  go_enter Try.func5, Try.ntmps5
  go_upto_region 1 with fail
  generalize w.alloc (.cells #[.slice d.a d.n d.c, .int .i64 d.t, .int .i64 d.ns, .bool d.gone] 32 (0, 0)) = A at *
  have FW : Hid (∀ w', Below A.heap.size A w' → Calls Try.prog 10 #[.slice v n cap] w' (Few w')) := fun w' hg => few v n cap w' hn (hc.fresh (a0.trans (hg.mono a0.size)))
  have BX := Lib.hid (fun w' (hg : Below A.heap.size A w') => four (box_fresh n0 hg))
  have DI : Hid (d.n ≤ 20 → ∀ w', Below A.heap.size A w' → ∀ lo hi, A.heap.size ≤ lo → Path (Off lo hi) w' d.a d.n d.c d.xs) := Lib.hid fun h20 w' hg lo hi hlo => by
    have h1 := ((hdi h20).fresh (Nat.le_refl _) a0).fresh a0.size (hg.mono a0.size)
    exact h1.path.lift fun k hk => .inl (by omega)
  have EB : Hid (∀ w', Below A.heap.size A w' → Yes w (.returned (.bool true)) w') := Lib.hid fun w' hg => ⟨rfl, a0.trans (hg.mono a0.size)⟩
  obtain ⟨x0, x1, x2, x3, xz⟩ := BX.out A (Below.refl _ _)
  have hg := Below.refl A.heap.size A
  clear hc hdi a0 n0 z0
  generalize w.heap.size = z at *
  go_wp2_with (first
    | (go_at_call 9; refine (S.out _).mono ?_; rintro e w1 ⟨rfl, hg1⟩; replace hg := fresh_trans hg hg1; clear hg1)
    | (go_at_call 10; refine (FW.out _ hg).mono ?_; rintro e w2 ⟨u, cp, l, rfl, hl60, hds, hls, hlow, hg2⟩)
    | (go_at_call 11; refine (N.out _).mono ?_; rintro e w3 ⟨b, rfl, hB, hg3⟩))
  have H0 : Hid (RunI A w2.heap.size w3.heap.size b u l l.length (.int .i64 0) w3) := ⟨0, Bk.new, by omega, by omega, rfl, begin_run hg hds hls hlow hg2 hB hg3⟩
  clear S N FW hg hds hls hlow hg2 hB hg3 x0 x1 x2 x3 xz
  generalize w2.heap.size = lo at *
  generalize w3.heap.size = hi at *
  go_loopg [8] l.length (fun left t wr => RunI A lo hi b u l left t wr)
  case atStart => exact H0.out
  case round =>
    clear H0
    obtain ⟨k, s, hk, rfl, rfl, hR⟩ := hrel
    by_cases hlt : k < l.length
    · have q1 : (k : Int) < l.length := by omega
      obtain ⟨k1, o1, d, rfl, hd, hm, ⟨_, _, hd20⟩, CC⟩ := hR.cells hlt
      have CX := Lib.hid CC
      obtain ⟨x0, x1, x2, x3⟩ := CX.out _ _ _ hR
      have CR := Lib.hid (hR.credit (by omega) hm wr.drew (Below.refl _ _).drew)
      have NX := Lib.hid (fun w2 (h2 : Run A lo hi b (some ⟨k1, o1, none⟩) l (21 * k + 21) (cre s d.xs d.t d.ns) w2) => (show RunI A lo hi b (some ⟨k1, o1, none⟩) l (l.length - (k + 1)) (.int .i64 ((k : Int) + 1)) w2 from ⟨k + 1, _, by omega, rfl, by go_num, h2.mono (by omega)⟩))
      generalize code s d.xs d.t d.ns = ec at *
      generalize cre s d.xs d.t d.ns = s2 at *
      clear CC hR hd hm BX DI EB
      go_wp2_with fail
      go_region_held3 (fun w' => w'.cell? ⟨k1, o1 + k * 4, none⟩ = some (.slice d.a d.n d.c) ∧ w'.cell? ⟨k1, o1 + k * 4 + 1, none⟩ = some (.int .i64 d.t) ∧ w'.cell? ⟨k1, o1 + k * 4 + 2, none⟩ = some (.int .i64 d.ns)) (first | exact ⟨x0, x1, x2⟩ | exact ⟨y0, y1, y2⟩)
        (first
          | (go_at_call 15; (with_reducible refine CR.out.mono ?_); rintro e w2 ⟨rfl, R2⟩; obtain ⟨y0, y1, y2, y3⟩ := CX.out _ _ _ R2; replace R2 := Lib.hid R2))
      go_wp2_with fail
      go_roundg (l.length - (k + 1))
      case measure => omega
      case rel => exact NX.out _ R2.out
    · have q1 : ¬ (k : Int) < l.length := by omega
      have R := Lib.hid hR
      have hlo := hR.base
      have hN : 21 * k ≤ 800000 := by omega
      obtain ⟨x0, x1, x2, x3, xz⟩ := BX.out _ hR.below
      clear hR
      generalize 21 * k = N at *
      have TT := Lib.hid (fun wr (h : Run A lo hi b u l N s wr) => h.total)
      have TS := Lib.hid (fun wr (h : Run A lo hi b u l N s wr) => h.tasks (by omega))
      have TK := Lib.hid (fun wr ao cp L (h : Run2 A lo hi b u l N s ao cp L wr) => h.run.task hdt)
      go_upto_region 13 with (first
        | (go_at_call 17; (with_reducible refine (TT.out _ R.out).mono ?_); rintro e w' ⟨rfl, hg2⟩; replace R := Lib.hid (R.out.fresh hg2); clear hg2)
        | (go_at_call 23; (with_reducible refine (TS.out _ R.out).mono ?_); rintro e w' ⟨ao, cp2, L, rfl, ris, Lb, L64, own, hg2⟩; have Q := Lib.hid (told_path R.out Lb L64 own hg2); clear R own L64 Lb hg2 x0 x1 x2 x3 xz; obtain ⟨x0, x1, x2, x3, xz⟩ := BX.out _ Q.out.run.below)
        | (go_at_call 19; (with_reducible refine (TK.out _ _ _ _ Q.out).mono ?_); rintro e w' ⟨rfl, hg2⟩; replace Q := Lib.hid (Q.out.fresh hg2); clear hg2 x0 x1 x2 x3 xz; obtain ⟨x0, x1, x2, x3, xz⟩ := BX.out _ Q.out.run.below))
      clear TT TS TK
      by_cases h20 : d.n ≤ 20
      · have q2 : (d.n : Int) ≤ 20 := by omega
        have CB := Lib.hid (fun W (h : Run2 A lo hi b u l N s ao cp2 L W) => h.credit (by omega) W (Below.refl _ _) (DI.out h20 W h.run.below lo hi hlo) hdt hdns h20)
        have HO := Q.out.run.ok
        have HS2 := HO.cre d.xs d.t d.ns
        obtain ⟨t1, t2⟩ := hdt
        obtain ⟨n1, n2⟩ := hdns
        have BQ := Lib.hid (fun W N' s' (h : Run2 A lo hi b u l N' s' ao cp2 L W) => BX.out _ h.run.below)
        rcases (code_is s d.xs d.t d.ns) with hk0 | hk1
        · obtain ⟨c1, c2, _, c4⟩ := code_zero hk0
          obtain ⟨e1, e2⟩ := cre_ok hk0
          have hs := HS2.hi
          have ht := (HS2.t d.t).2
          have h00 := HO.lo
          have h01 := (HO.t d.t).1
          have TT := Lib.hid (fun W (h : Run2 A lo hi b u l (N + 21) (cre s d.xs d.t d.ns) ao cp2 L W) => h.run.total)
          have TK := Lib.hid (fun W (h : Run2 A lo hi b u l (N + 21) (cre s d.xs d.t d.ns) ao cp2 L W) => h.run.task (i := d.t) ⟨t1, t2⟩)
          rw [e1] at TT hs
          rw [e2] at TK
          rw [e1, e2] at ht
          rw [hk0] at CB
          have hs' : s.tot + d.ns ≤ 9223372036854775807 := hs
          clear DI HO HS2 e1 e2 hs c4 ris
          generalize cre s d.xs d.t d.ns = s2 at *
          generalize s.tot = T at *
          generalize s.t d.t = own at *
          go_upto_region 17 with (go_at_call 15; (with_reducible refine (CB.out _ Q.out).mono ?_); rintro e w' ⟨rfl, Q2⟩; replace Q2 := Lib.hid Q2; clear x0 x1 x2 x3 xz; obtain ⟨x0, x1, x2, x3, xz⟩ := BQ.out _ _ _ Q2.out)
          clear CB Q x0 x3 xz
          have QD := Lib.hid (Q2.out.fresh (Below.refl _ _).drew)
          have wz1 : IntKind.i64.wrap (T + d.ns) = T + d.ns := by rw [IntKind.wrap_i64]; omega
          have wz2 : IntKind.i64.wrap (own + d.ns) = own + d.ns := by rw [IntKind.wrap_i64]; omega
          have wz3 : wrap64 (T + d.ns) = T + d.ns := by unfold wrap64; omega
          have wz4 : wrap64 (own + d.ns) = own + d.ns := by unfold wrap64; omega
          clear Q2
          go_region_held3 (fun w' => w'.cell? ⟨z, 1, none⟩ = some (.int .i64 d.t) ∧ w'.cell? ⟨z, 2, none⟩ = some (.int .i64 d.ns)) (first | exact ⟨x1, x2⟩ | exact ⟨(BQ.out _ _ _ QD.out).2.1, (BQ.out _ _ _ QD.out).2.2.1⟩)
            (first
              | (go_at_call 17; (with_reducible refine (TT.out _ QD.out).mono ?_); rintro e w' ⟨rfl, hg2⟩; replace QD := Lib.hid (QD.out.fresh hg2); clear hg2)
              | (go_at_call 19; (with_reducible refine (TK.out _ QD.out).mono ?_); rintro e w' ⟨rfl, hg2⟩; replace QD := Lib.hid (QD.out.fresh hg2); clear hg2))
          all_goals
            go_wp2_with fail
            go_ret
            exact EB.out _ QD.out.run.below
        · have hnz : code s d.xs d.t d.ns ≠ 0 := by rcases hk1 with h | h <;> omega
          have hcr := code_cre hnz
          have TT := Lib.hid (fun W N' (h : Run2 A lo hi b u l N' s ao cp2 L W) => h.run.total)
          have TK := Lib.hid (fun W N' (h : Run2 A lo hi b u l N' s ao cp2 L W) => h.run.task (i := d.t) ⟨t1, t2⟩)
          have TS := Lib.hid (fun W N' (hN : N' ≤ 1000000) (h : Run2 A lo hi b u l N' s ao cp2 L W) => h.run.tasks hN)
          have C4 : Hid (∀ W N', N' ≤ 900000 → Run2 A lo hi b u l N' s ao cp2 L W → Calls Try.prog 15 #[.pointer (some ⟨b, 0, none⟩), .slice (some ⟨W.heap.size, 0, none⟩) 2 2, .int .i64 1, .int .i64 1] (W.alloc (.cells #[.int .i64 4, .int .i64 4] 3 (0, 0))) (fun e w2 => e = .returned (.int .i64 1) ∧ Run2 A lo hi b u l (N' + 21) s ao cp2 L w2)) := Lib.hid fun W N' hN' h => by
            have hp : Path (Off lo hi) (W.alloc (.cells #[.int .i64 4, .int .i64 4] 3 (0, 0))) (some ⟨W.heap.size, 0, none⟩) 2 2 [4, 4] := path_new (xs := [4, 4]) (n := 2) (heap_alloc_new W _) rfl (by omega) (by simp [I64]) (.inr h.run.book.top) 2
            have := h.credit hN' (t := 1) (ns := 1) _ (alloc1 W _) hp (by constructor <;> omega) (by constructor <;> omega) (by omega)
            rw [code_two, code_cre (by rw [code_two]; omega)] at this
            exact this
          have CN : Hid (∀ W N', N' ≤ 900000 → Run2 A lo hi b u l N' s ao cp2 L W → Calls Try.prog 15 #[.pointer (some ⟨b, 0, none⟩), .slice none 0 0, .int .i64 (-1), .int .i64 1] W (fun e w2 => e = .returned (.int .i64 1) ∧ Run2 A lo hi b u l (N' + 21) s ao cp2 L w2)) := Lib.hid fun W N' hN' h => by
            have := h.credit hN' (t := -1) (ns := 1) W (Below.refl _ _) (path_none _ W) (by constructor <;> omega) (by constructor <;> omega) (by omega)
            rw [code_neg, code_cre (by rw [code_neg]; omega)] at this
            exact this
          have SM : Hid (∀ N' W W' ao' cp' L', Run2 A lo hi b u l N' s ao cp2 L W → Ris s.t L' → L'.length ≤ 1000000 → (∀ x ∈ L', I64 x) → W'.ownsRow W.heap.size 3 1 (.slice ao' L'.length cp') L'.length (cL L') → Below W.heap.size W W' → Calls Try.prog 22 #[.slice ao' L'.length cp', .slice ao L.length cp2] W' (Is (.bool true) W')) := Lib.hid fun N' W W' ao' cp' L' h r1 r2 r3 r4 r5 => by
            obtain rfl := ris.uniq r1
            exact same (fun _ => True) ao' ao _ cp' cp2 L W' ((path_row r4 r3 r2).lift fun _ _ => trivial) ((h.path.fresh r5).lift fun _ _ => trivial)
          rw [hcr] at CB
          have hcz : ((code s d.xs d.t d.ns) == 0) = false := by simpa using hnz
          clear DI HO HS2 hcr hnz hk1 ris
          generalize code s d.xs d.t d.ns = ec at *
          generalize s.t d.t = own at *
          generalize hT : s.tot = T at *
          clear hT
          go_wp2_with (first
            | (go_at_call 15; (with_reducible refine (CB.out _ Q.out).mono ?_); rintro e w' ⟨rfl, Q2⟩; have Q3 := Lib.hid Q2; clear Q2 Q x0 x1 x2 x3 xz; obtain ⟨x0, x1, x2, x3, xz⟩ := BQ.out _ _ _ Q3.out)
            | (go_at_call 15; (with_reducible refine (C4.out _ _ (by omega) Q3.out).mono ?_); rintro e w' ⟨rfl, Q2⟩; replace Q3 := Lib.hid Q2; clear Q2 x0 x1 x2 x3 xz; obtain ⟨x0, x1, x2, x3, xz⟩ := BQ.out _ _ _ Q3.out)
            | (go_at_call 15; (with_reducible refine (CN.out _ _ (by omega) Q3.out).mono ?_); rintro e w' ⟨rfl, Q2⟩; replace Q3 := Lib.hid Q2; clear Q2 x0 x1 x2 x3 xz; obtain ⟨x0, x1, x2, x3, xz⟩ := BQ.out _ _ _ Q3.out)
            | (go_at_call 17; (with_reducible refine (TT.out _ _ Q3.out).mono ?_); rintro e w' ⟨rfl, hg2⟩; replace Q3 := Lib.hid (Q3.out.fresh hg2); clear hg2 x0 x1 x2 x3 xz; obtain ⟨x0, x1, x2, x3, xz⟩ := BQ.out _ _ _ Q3.out)
            | (go_at_call 19; (with_reducible refine (TK.out _ _ Q3.out).mono ?_); rintro e w' ⟨rfl, hg2⟩; replace Q3 := Lib.hid (Q3.out.fresh hg2); clear hg2 x0 x1 x2 x3 xz; obtain ⟨x0, x1, x2, x3, xz⟩ := BQ.out _ _ _ Q3.out)
            | (go_at_call 23; (with_reducible refine (TS.out _ _ (by omega) Q3.out).mono ?_); rintro e w' ⟨ao', cp', L', rfl, r1, r2, r3, r4, r5⟩; have SS := Lib.hid (SM.out _ _ _ _ _ _ Q3.out r1 r2 r3 r4 r5); replace Q3 := Lib.hid (Q3.out.fresh r5); clear r1 r2 r3 r4 r5)
            | (go_at_call 22; (with_reducible refine SS.out.mono ?_); rintro e w' ⟨rfl, hg2⟩; replace Q3 := Lib.hid (Q3.out.fresh hg2); clear hg2))
          go_ret
          exact EB.out _ Q3.out.run.below
      · have q2 : (20 : Int) < d.n := by omega
        go_wp2_with fail
        go_ret
        exact EB.out _ Q.out.run.below
theorem failsAt (v : Option Addr) (n cap : Nat) (x0 x1 x2 x3 : Value) (w : World) (hn : n ≤ 9223372036854775807) (hc : Comes v n w) (h : Read.AcctAt w .i64 .i64 .i64 x0 x1 x2 x3) : Calls Try.prog 5 #[.slice v n cap, .agg #[x0, x1, x2, x3]] w (Yes w) := by
  obtain ⟨d, ⟨h1, h2⟩, rfl, rfl, rfl, rfl, h3, h4⟩ := de_of h
  exact failsLaw v n cap d w hn hc h1 h2 h3 h4
end Go.Proofs.Ytnocgdhepmgncaa.Ledger
