/- The walk of LedgerPlays. Conditions: each number is one of its kind. -/
import Derived.Test.YtnocgdhepmgncaaLedgerPlayP
namespace Go.Proofs.Ytnocgdhepmgncaa.Ledger
open Go.ChangeShapes Go.WideShapes Go.ChangeAt Go.RowKit Go.Sort Mem
set_option linter.unusedVariables false
set_option linter.unusedSimpArgs false
set_option maxRecDepth 100000

def PlI (w : World) (lo hi b : Nat) (v : Option Addr) (l : List De) (X : Nat) (left : Nat) (t9 : Value) (wr : World) : Prop :=
  ∃ (k : Nat) (s : Bk) (xv : Option Addr) (xc : Nat) (R : List De), k ≤ l.length ∧ left = l.length - k ∧ t9 = .int .i64 (k : Int) ∧ Pb w lo hi b v l X (21 * k) s xv xc R wr ∧ Dc s R ∧ R.length ≤ k
def GrI (w : World) (lo hi b : Nat) (v : Option Addr) (l : List De) (X q : Nat) (d : De) (N : Nat) (s : Bk) (xv : Option Addr) (xc : Nat) (R : List De) (left : Nat) (t14 : Value) (wr : World) : Prop :=
  ∃ j : Nat, j ≤ d.n ∧ left = d.n - j ∧ t14 = .int .i64 (j : Int) ∧ Pl w lo hi b v l X q d N s xv xc R wr
/-- A list of Tasks that is kept. -/
structure ListOf (f : Int → Int) (ao : Option Addr) (cp : Nat) (L : List Int) (w : World) : Prop where
  ris : Ris f L
  path : Path (fun _ => True) w ao L.length cp L
theorem ListOf.fresh {f : Int → Int} {ao : Option Addr} {cp : Nat} {L : List Int} {w w' : World} (h : ListOf f ao cp L w) (hg : Below w.heap.size w w') : ListOf f ao cp L w' := ⟨h.ris, h.path.fresh hg⟩
theorem ListOf.same {f : Int → Int} {ao ao2 : Option Addr} {cp cp2 : Nat} {L L2 : List Int} {w : World} (h : ListOf f ao cp L w) (h2 : ListOf f ao2 cp2 L2 w) : Calls Try.prog 22 #[.slice ao L.length cp, .slice ao2 L2.length cp2] w (Is (.bool true) w) := by
  obtain rfl := h.ris.uniq h2.ris
  exact Ledger.same _ ao ao2 _ cp cp2 L w h.path h2.path
set_option maxHeartbeats 8000000 in
theorem playsLaw (v : Option Addr) (n cap : Nat) (m : Int) (w : World) (hn : n ≤ 9223372036854775807) (hc : Comes v n w) (hm : I64 m) :
    Calls Try.prog 3 #[.slice v n cap, .int .i64 m] w (Yes w) := by
  have S := Lib.hid (fun w => shown w)
  have N := Lib.hid (fun w => new w)
  have FW : Hid (∀ w', Below w.heap.size w w' → Calls Try.prog 10 #[.slice v n cap] w' (Few w')) := fun w' hg => few v n cap w' hn (hc.fresh hg)
  have hg := Below.refl w.heap.size w
  clear hc
  go_enter Try.func3, Try.ntmps3
  go_wp2_with (first
    | (go_at_call 9; refine (S.out _).mono ?_; rintro e w1 ⟨rfl, hg1⟩; replace hg := fresh_trans hg hg1; clear hg1)
    | (go_at_call 10; refine (FW.out _ hg).mono ?_; rintro e w2 ⟨u, cp, l, rfl, hl60, hds, hls, hlow, hg2⟩)
    | (go_at_call 11; refine (N.out _).mono ?_; rintro e w3 ⟨b, rfl, hB, hg3⟩))
  have hR0 := begin_run hg hds hls hlow hg2 hB hg3
  have H0 : Hid (PlI w w2.heap.size w3.heap.size b u l w3.heap.size l.length (.int .i64 0) (w3.alloc (docO none 0 0))) := by
    have a1 := alloc1 w3 (docO none 0 0)
    have hR1 := hR0.fresh a1
    exact ⟨0, Bk.new, none, 0, [], by omega, by omega, rfl, ⟨hR1, heap_alloc_new w3 _, Doc.nil _ _ _ hR1.lo_le, Nat.le_refl _⟩, Dc.new, by simp⟩
  clear S N FW hg hds hls hlow hg2 hB hg3 hR0
  unfold docO at H0
  generalize w3.alloc _ = W0 at *
  generalize hX : w3.heap.size = X at *
  have HX := Lib.hid hX
  clear hX
  obtain ⟨hi, HH⟩ : ∃ hi, Hid (PlI w w2.heap.size hi b u l X l.length (.int .i64 0) W0) := ⟨X, H0⟩
  clear H0 HX
  generalize w2.heap.size = lo at *
  go_loopg [9, 10, 11, 12, 13, 14] l.length (fun left t9 _ _ _ _ _ wr => PlI w lo hi b u l X left t9 wr)
  case atStart => exact HH.out
  case round =>
    clear HH
    obtain ⟨k, s, xv, xc, R, hk, rfl, rfl, hP, hD, hRk⟩ := hrel
    by_cases hlt : k < l.length
    · have q1 : (k : Int) < l.length := by omega
      obtain ⟨k1, o1, d, rfl, hd, hmem, ⟨hdt, hdns, hd20⟩, CC⟩ := hP.run.cells hlt
      obtain ⟨x0, x1, x2, x3⟩ := CC _ _ _ hP.run
      have hA : Pl w lo hi b (some ⟨k1, o1, none⟩) l X wr.heap.size d (21 * k) s xv xc R (wr.alloc (deO d)) := ⟨hP.fresh (alloc1 wr _), heap_alloc_new wr _, lt_of hP.xb, hmem⟩
      have hN : 21 * k ≤ 800000 := by omega
      have NX : Hid (∀ N' s' yv yc Q W, N' ≤ 21 * k + 21 → Pb w lo hi b (some ⟨k1, o1, none⟩) l X N' s' yv yc Q W → Dc s' Q → Q.length ≤ k + 1 → PlI w lo hi b (some ⟨k1, o1, none⟩) l X (l.length - (k + 1)) (.int .i64 ((k : Int) + 1)) W) := Lib.hid fun N' s' yv yc Q W h1 h2 h3 h4 => ⟨k + 1, s', yv, yc, Q, by omega, rfl, by go_num, { h2 with run := h2.run.mono (by omega) }, h3, h4⟩
      have hpos := hD.pos
      have htop : dTot R ≤ 9223372036854775807 := by rw [hD.tot]; exact hP.run.ok.hi
      have hok := hP.run.ok
      clear CC hP hd hmem
      unfold deO at hA
      go_upto_region 11 with fail
      clear x0 x1 x2 x3
      generalize wr.alloc _ = A at *
      generalize wr.heap.size = q at *
      obtain ⟨⟨c0, c0z⟩, d0, d1, d2, d3, dz⟩ := hA.cells
      have CF := Lib.hid (fun W N' s' yv yc Q (h : Pl w lo hi b (some ⟨k1, o1, none⟩) l X q d N' s' yv yc Q W) => h.cells)
      cases hgn : d.gone with
      | true =>
        rw [hgn] at d3
        have FA := Lib.hid (fun W (h : Pl w lo hi b (some ⟨k1, o1, none⟩) l X q d (21 * k) s xv xc R W) => h.forget)
        have TK := Lib.hid (fun W N' s' (h : Pl w lo hi b (some ⟨k1, o1, none⟩) l X q d N' s' xv xc R W) => refTask lo (X + 1) xv xc R d.t W h.doc hpos htop)
        rw [hD.t] at TK
        have FG := Lib.hid (fun W N' s' (h : Pl w lo hi b (some ⟨k1, o1, none⟩) l X q d N' s' xv xc R W) => refForget lo (X + 1) xv xc R d.t W h.doc (lt_of h.xb))
        have hD2 := hD.fgt d.t
        have hQl : (dFgt R d.t).length ≤ k + 1 := by rw [dFgt_len]; omega
        have QD := Lib.hid (hA.fresh (Below.refl _ _).drew)
        generalize s.t d.t = own at *
        generalize fgt s d.t = s1 at *
        generalize dFgt R d.t = Q at *
        clear hA hD hok hpos htop
        go_upto_region 12 with fail
        go_region_held3 (fun w' => w'.cell? ⟨q, 1, none⟩ = some (.int .i64 d.t) ∧ w'.cell? ⟨X, 0, none⟩ = some (.slice xv R.length xc)) (first | exact ⟨d1, c0⟩ | exact ⟨(CF.out _ _ _ _ _ _ QD.out).2.2.1, (CF.out _ _ _ _ _ _ QD.out).1.1⟩ | exact ⟨(CF.out _ _ _ _ _ _ Q1.out).2.2.1, (CF.out _ _ _ _ _ _ Q1.out).1.1⟩)
          (first
            | (go_at_call 12; (with_reducible refine (FA.out _ QD.out).mono ?_); rintro e w2 ⟨rfl, h2⟩; have Q1 := Lib.hid h2; clear h2)
            | (go_at_call 13; (first | (with_reducible refine (TK.out _ _ _ QD.out).mono ?_) | (with_reducible refine (TK.out _ _ _ Q1.out).mono ?_)); rintro e w2 ⟨rfl, hg2⟩; (first | replace Q1 := Lib.hid (Q1.out.fresh hg2) | replace QD := Lib.hid (QD.out.fresh hg2)); clear hg2))
        all_goals
          clear c0 c0z d0 d1 d2 d3 dz
          obtain ⟨⟨c0, c0z⟩, d0, d1, d2, d3, dz⟩ := CF.out _ _ _ _ _ _ Q1.out
          go_wp2_with (go_at_call 14; (with_reducible refine (FG.out _ _ _ Q1.out).mono ?_); rintro e w3 ⟨yv, yc, rfl, hDoc, hg3⟩; have Q2 := Lib.hid ((Q1.out.fresh hg3).store hDoc); clear c0 c0z; obtain ⟨⟨c0, c0z⟩, _⟩ := CF.out _ _ _ _ _ _ (Q1.out.fresh hg3))
          go_roundg (l.length - (k + 1))
          case measure => omega
          case rel => exact NX.out _ _ _ _ _ _ (by omega) Q2.out.toPb hD2 hQl
      | false =>
        rw [hgn] at d3
        have CR := Lib.hid (hA.credit (by omega))
        have DC := Lib.hid (fun W N' s' (h : Pl w lo hi b (some ⟨k1, o1, none⟩) l X q d N' s' xv xc R W) => refCredit lo (X + 1) xv xc R W s d h.doc hD hok h.is (by omega) (lt_of h.xb))
        have hD2 := hD.cre d
        have hQl : (dCre s R d).length ≤ k + 1 := by have := dCre_len s R d; omega
        have hok2 := hok.cre d.xs d.t d.ns
        have hpos2 := hD2.pos
        have htop2 : dTot (dCre s R d) ≤ 9223372036854775807 := by rw [hD2.tot]; exact hok2.hi
        generalize code s d.xs d.t d.ns = ec at *
        generalize cre s d.xs d.t d.ns = s2 at *
        generalize dCre s R d = R2 at *
        have TT := Lib.hid (fun W N' yv yc (h : Pl w lo hi b (some ⟨k1, o1, none⟩) l X q d N' s2 yv yc R2 W) => (show _ ∧ _ ∧ _ ∧ _ from ⟨h.run.total, refTotal lo (X + 1) yv yc R2 W h.doc hpos2 htop2, h.run.task hdt, refTask lo (X + 1) yv yc R2 d.t W h.doc hpos2 htop2⟩))
        have GG := Lib.hid (fun W N' yv yc g (hg : I64 g) (h : Pl w lo hi b (some ⟨k1, o1, none⟩) l X q d N' s2 yv yc R2 W) => (show _ ∧ _ from ⟨h.run.group hg, refGroup lo (X + 1) yv yc R2 g W h.doc hpos2 htop2⟩))
        rw [hD2.tot, hD2.t] at TT
        have hG2 := Lib.hid hD2.g
        have PT : Hid (∀ W N' yv yc, Pl w lo hi b (some ⟨k1, o1, none⟩) l X q d N' s2 yv yc R2 W → Path (fun k => k < lo) W d.a d.n d.c d.xs) := Lib.hid fun W N' yv yc h => h.is.path
        clear hA hD hok hpos htop hok2 hpos2 htop2
        generalize s2.tot = T at *
        generalize s2.t d.t = own at *
        go_upto_region 16 with (go_at_call 15; (with_reducible refine CR.out.mono ?_); rintro e w2 ⟨rfl, h2⟩; have Q1 := Lib.hid h2; clear h2 CR c0 c0z d0 d1 d2 d3 dz; obtain ⟨⟨c0, c0z⟩, d0, d1, d2, d3, dz⟩ := CF.out _ _ _ _ _ _ Q1.out)
        go_upto_region 18 with (go_at_call 16; (with_reducible refine (DC.out _ _ _ Q1.out).mono ?_); rintro e w3 ⟨yv, yc, rfl, hDoc, hg3⟩; have Q2 := Lib.hid ((Q1.out.fresh hg3).fresh (alloc1 w3 (docO yv R2.length yc))); have Q3 := Lib.hid (Q2.out.store (hDoc.fresh (alloc1 w3 (docO yv R2.length yc)))); clear c0 c0z d0 d1 d2 d3 dz DC; obtain ⟨⟨c0, c0z⟩, d0, d1, d2, d3, dz⟩ := CF.out _ _ _ _ _ _ Q2.out)
        unfold docO at Q3
        clear Q1 Q2 hDoc c0 c0z d0 d1 d2 d3 dz
        generalize (w3.alloc _).setCell _ _ = V at *
        obtain ⟨⟨c0, c0z⟩, d0, d1, d2, d3, dz⟩ := CF.out _ _ _ _ _ _ Q3.out
        have QD := Lib.hid (Q3.out.fresh (Below.refl _ _).drew)
        clear Q3
        go_region_held3 (fun w' => w'.cell? ⟨X, 0, none⟩ = some (.slice yv R2.length yc) ∧ w'.cell? ⟨q, 1, none⟩ = some (.int .i64 d.t)) (first | exact ⟨c0, d1⟩ | exact ⟨(CF.out _ _ _ _ _ _ QD.out).1.1, (CF.out _ _ _ _ _ _ QD.out).2.2.1⟩)
          (first
            | (go_at_call 17; (with_reducible refine ((TT.out _ _ _ _ QD.out).1).mono ?_); rintro e w' ⟨rfl, hg2⟩; replace QD := Lib.hid (QD.out.fresh hg2); clear hg2)
            | (go_at_call 18; (with_reducible refine ((TT.out _ _ _ _ QD.out).2.1).mono ?_); rintro e w' ⟨rfl, hg2⟩; replace QD := Lib.hid (QD.out.fresh hg2); clear hg2)
            | (go_at_call 19; (with_reducible refine ((TT.out _ _ _ _ QD.out).2.2.1).mono ?_); rintro e w' ⟨rfl, hg2⟩; replace QD := Lib.hid (QD.out.fresh hg2); clear hg2)
            | (go_at_call 13; (with_reducible refine ((TT.out _ _ _ _ QD.out).2.2.2).mono ?_); rintro e w' ⟨rfl, hg2⟩; replace QD := Lib.hid (QD.out.fresh hg2); clear hg2))
        all_goals
          clear c0 c0z d0 d1 d2 d3 dz
          go_wp2_with fail
          go_loopg [14] d.n (fun left t14 wr => GrI w lo hi b (some ⟨k1, o1, none⟩) l X q d (21 * k + 21) s2 yv yc R2 left t14 wr)
          case atStart => exact ⟨0, by omega, by omega, rfl, QD.out⟩
          case round =>
            clear QD
            obtain ⟨j, hj, rfl, rfl, hQ⟩ := hrel
            obtain ⟨⟨c0, c0z⟩, d0, d1, d2, d3, dz⟩ := CF.out _ _ _ _ _ _ hQ
            by_cases hlj : j < d.n
            · have q2 : (j : Int) < d.n := by omega
              have hpt := PT.out _ _ _ _ hQ
              obtain ⟨x, hx⟩ : ∃ x, d.xs[j]? = some x := ⟨_, List.getElem?_eq_getElem (by have := hpt.len; omega)⟩
              obtain ⟨hx64, kb, ob, e, _, _, cx⟩ := hpt.at_ j x hx
              have CG : Hid (∀ W, Pl w lo hi b (some ⟨k1, o1, none⟩) l X q d (21 * k + 21) s2 yv yc R2 W → W.cell? ⟨X, 0, none⟩ = some (.slice yv R2.length yc) ∧ W.cell? ⟨q, 0, none⟩ = some (.slice (some ⟨kb, ob, none⟩) d.n d.c) ∧ W.cell? ⟨kb, ob + j, none⟩ = some (.int .i64 x)) := Lib.hid fun W h => by
                obtain ⟨_, kb', ob', e', _, _, cx'⟩ := (PT.out _ _ _ _ h).at_ j x hx
                rw [e] at e'
                cases e'
                have := CF.out _ _ _ _ _ _ h
                rw [e] at this
                exact ⟨this.1.1, this.2.1, cx'⟩
              rw [e] at d0
              clear e
              have G1 := Lib.hid (fun W (h : Pl w lo hi b (some ⟨k1, o1, none⟩) l X q d (21 * k + 21) s2 yv yc R2 W) => GG.out W _ yv yc x hx64 h)
              rw [hG2.out x] at G1
              generalize s2.g x = gx at *
              have QE := Lib.hid (hQ.fresh (Below.refl _ _).drew)
              clear hQ hpt hx
              go_wp2_with fail
              go_region_held3 (fun w' => w'.cell? ⟨X, 0, none⟩ = some (.slice yv R2.length yc) ∧ w'.cell? ⟨q, 0, none⟩ = some (.slice (some ⟨kb, ob, none⟩) d.n d.c) ∧ w'.cell? ⟨kb, ob + j, none⟩ = some (.int .i64 x)) (first | exact ⟨c0, d0, cx⟩ | exact CG.out _ QE.out)
                (first
                  | (go_at_call 20; (with_reducible refine ((G1.out _ QE.out).1).mono ?_); rintro e w' ⟨rfl, hg2⟩; replace QE := Lib.hid (QE.out.fresh hg2); clear hg2)
                  | (go_at_call 21; (with_reducible refine ((G1.out _ QE.out).2).mono ?_); rintro e w' ⟨rfl, hg2⟩; replace QE := Lib.hid (QE.out.fresh hg2); clear hg2))
              all_goals
                have N2 : Hid (GrI w lo hi b (some ⟨k1, o1, none⟩) l X q d (21 * k + 21) s2 yv yc R2 (d.n - (j + 1)) (.int .i64 ((j : Int) + 1)) _) := Lib.hid ⟨j + 1, by omega, rfl, by go_num, QE.out⟩
                go_wp2_with fail
                go_roundg (d.n - (j + 1))
                case measure => omega
                case rel => exact N2.out
            · have q2 : ¬ (j : Int) < d.n := by omega
              have N2 := Lib.hid (NX.out _ _ _ _ _ _ (by omega) hQ.toPb hD2 hQl)
              clear hQ
              go_wp2_with fail
              go_roundg (l.length - (k + 1))
              case measure => omega
              case rel => exact N2.out
    · have q1 : ¬ (k : Int) < l.length := by omega
      have hpos := hD.pos
      have htop : dTot R ≤ 9223372036854775807 := by rw [hD.tot]; exact hP.run.ok.hi
      have TT := Lib.hid (fun W (h : Pb w lo hi b u l X (21 * k) s xv xc R W) => (show _ ∧ _ ∧ _ ∧ _ ∧ _ ∧ _ from ⟨h.run.task hm, refTask lo (X + 1) xv xc R m W h.doc hpos htop, h.run.group hm, refGroup lo (X + 1) xv xc R m W h.doc hpos htop, h.run.tasks (by omega), refTasks lo (X + 1) xv xc R W h.doc hpos htop⟩))
      rw [hD.t, hD.g, show (fun i => dTask i R) = s.t from funext hD.t] at TT
      have c0 := (one hP.xb).1
      have FB : Hid (∀ W, Pb w lo hi b u l X (21 * k) s xv xc R W → Yes w (.returned (.bool true)) W) := Lib.hid fun W h => ⟨rfl, h.run.below⟩
      have P := Lib.hid (hP.fresh (Below.refl _ _).drew)
      clear hP hD hpos htop hRk
      generalize s.t m = own at *
      generalize s.g m = grp at *
      generalize 21 * k = N at *
      go_wp2_with fail
      go_region_held3 (fun w' => w'.cell? ⟨X, 0, none⟩ = some (.slice xv R.length xc)) (first | exact c0 | exact (one P.out.xb).1)
        (first
          | (go_at_call 19; (with_reducible refine ((TT.out _ P.out).1).mono ?_); rintro e w' ⟨rfl, hg2⟩; replace P := Lib.hid (P.out.fresh hg2); (try replace K1 := Lib.hid (K1.out.fresh hg2)); (try replace K2 := Lib.hid (K2.out.fresh hg2)); clear hg2)
          | (go_at_call 13; (with_reducible refine ((TT.out _ P.out).2.1).mono ?_); rintro e w' ⟨rfl, hg2⟩; replace P := Lib.hid (P.out.fresh hg2); (try replace K1 := Lib.hid (K1.out.fresh hg2)); (try replace K2 := Lib.hid (K2.out.fresh hg2)); clear hg2)
          | (go_at_call 20; (with_reducible refine ((TT.out _ P.out).2.2.1).mono ?_); rintro e w' ⟨rfl, hg2⟩; replace P := Lib.hid (P.out.fresh hg2); (try replace K1 := Lib.hid (K1.out.fresh hg2)); (try replace K2 := Lib.hid (K2.out.fresh hg2)); clear hg2)
          | (go_at_call 21; (with_reducible refine ((TT.out _ P.out).2.2.2.1).mono ?_); rintro e w' ⟨rfl, hg2⟩; replace P := Lib.hid (P.out.fresh hg2); (try replace K1 := Lib.hid (K1.out.fresh hg2)); (try replace K2 := Lib.hid (K2.out.fresh hg2)); clear hg2)
          | (go_at_call 23; (with_reducible refine ((TT.out _ P.out).2.2.2.2.1).mono ?_); rintro e w' ⟨ao, cq, L, rfl, ris, Lb, L64, own, hg2⟩; replace P := Lib.hid (P.out.fresh hg2); (try replace K2 := Lib.hid (K2.out.fresh hg2)); have K1 := Lib.hid (show ListOf s.t ao cq L w' from ⟨ris, (path_row own L64 Lb).lift fun _ _ => trivial⟩); clear ris Lb L64 own hg2)
          | (go_at_call 24; (with_reducible refine ((TT.out _ P.out).2.2.2.2.2).mono ?_); rintro e w' ⟨ao, cq, L, rfl, ris, Lb, L64, own, hg2⟩; replace P := Lib.hid (P.out.fresh hg2); (try replace K1 := Lib.hid (K1.out.fresh hg2)); have K2 := Lib.hid (show ListOf s.t ao cq L w' from ⟨ris, (path_row own L64 Lb).lift fun _ _ => trivial⟩); clear ris Lb L64 own hg2)
          | (go_at_call 22; (with_reducible refine (K1.out.same K2.out).mono ?_); rintro e w' ⟨rfl, hg2⟩; replace P := Lib.hid (P.out.fresh hg2); (try replace K1 := Lib.hid (K1.out.fresh hg2)); (try replace K2 := Lib.hid (K2.out.fresh hg2)); clear hg2))
      all_goals
        go_wp2_with fail
        go_ret
        exact FB.out _ P.out
end Go.Proofs.Ytnocgdhepmgncaa.Ledger
