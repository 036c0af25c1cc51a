/- What draw and Ensure of package quota do. Conditions: a sound band. -/
import Derived.Test.YtjjcaplkmbigdaaQuotaReads
namespace Go.Proofs.Ytjjcaplkmbigdaa.Quota
open Go.ChangeShapes Go.WideShapes Go.ChangeAt Go.RowKit Mem
open Fix (I64)
set_option linter.unusedVariables false
set_option linter.unusedSimpArgs false
set_option maxRecDepth 100000

/-- The answer, the band behind it, and what was held apart from it. -/
def Did (v : Value) (d : Bd) (b : Nat) (O : Nat → Prop) (w : World) (e : Ending) (w' : World) : Prop := e = .returned v ∧ Band w' b O d ∧ Same O w w'
theorem i64_in {n : Int} (h : I64 n) : Fix.ends n = n := by unfold Fix.ends; unfold I64 at h; split <;> (try split) <;> omega

theorem draw (w : World) (b : Nat) (O : Nat → Prop) (d : Bd) (k : Nat) (h : Band w b O d) (hO : ∀ k, O k → k < w.heap.size) (hk : k < d.loc.length) (hq : 0 < d.q) (ha : d.at k ≤ 0) {M S : Int} (hi : Inv M S d) (hM : M ≤ 1125899906842624) :
    Calls Try.prog 32 #[.pointer (some ⟨b, 0, none⟩), .int .i64 (k : Int)] w (fun e w' => e = .returned (.tuple #[]) ∧ Band w' b O (drawS d k) ∧ Same O w w') := by
  obtain ⟨g, h⟩ := h
  have a1 := hi.at_ge k; have a2 := hi.at_le k; have a3 := hi.p0; have a4 := hi.pp; have a5 := hi.q1; have a6 := hi.s2; have a7 := hi.s0
  have a8 := pos_nonneg d.loc
  have L := Lib.hid (fun w => Fix.less d.s (d.at k) w (by unfold I64; omega) (by unfold I64; omega))
  rw [i64_in (show I64 (d.s - d.at k) by unfold I64; omega)] at L
  have hk1 : (k : Int) < d.loc.length := by omega
  have H := Lib.hid h
  have E : ∀ (w1 : World) , Below w.heap.size w w1 → ∀ x y : Int, Band ((w1.setCell ⟨b, 2, none⟩ (.int .i64 x)).setCell ⟨g, k, none⟩ (.int .i64 y)) b O { d with p := x, loc := d.loc.set k y } ∧ Same O w ((w1.setCell ⟨b, 2, none⟩ (.int .i64 x)).setCell ⟨g, k, none⟩ (.int .i64 y)) := fun w1 h1 x y =>
    ⟨⟨g, ((h.fresh h1).setP x).setL k y⟩, ((h.fresh h1).setP x).sameG ((h.fresh h1).sameB (Same.of h1 hO) 2 _) k _⟩
  replace E := Lib.hid E
  have K : ∀ (w1 : World), Below w.heap.size w w1 → (w1.cell? ⟨b, 1, none⟩ = some (.int .i64 d.s) ∧ w1.cell? ⟨b, 2, none⟩ = some (.int .i64 d.p) ∧ w1.cell? ⟨b, 3, none⟩ = some (.slice (some ⟨g, 0, none⟩) d.loc.length d.loc.length) ∧ w1.cell? ⟨g, k, none⟩ = some (.int .i64 (d.at k))) ∧ (∀ j, w1.frozen? ⟨b, j, none⟩ = false) ∧ (∀ j, w1.frozen? ⟨g, j, none⟩ = false) := fun w1 h1 => by
    obtain ⟨c0, c1, c2, c3, c4, fz⟩ := (h.fresh h1).cells
    exact ⟨⟨c1, c2, c3, (h.fresh h1).cell hk⟩, fz, fun j => (h.fresh h1).free j⟩
  obtain ⟨⟨c1, c2, c3, c4⟩, fb, fg⟩ := K w (Below.refl _ w)
  have K' : ∀ (w1 : World), Below w.heap.size w w1 → ∀ x : Int, (w1.setCell ⟨b, 2, none⟩ (.int .i64 x)).cell? ⟨b, 3, none⟩ = some (.slice (some ⟨g, 0, none⟩) d.loc.length d.loc.length) ∧ (w1.setCell ⟨b, 2, none⟩ (.int .i64 x)).cell? ⟨g, k, none⟩ = some (.int .i64 (d.at k)) ∧ (∀ j, (w1.setCell ⟨b, 2, none⟩ (.int .i64 x)).frozen? ⟨g, j, none⟩ = false) := fun w1 h1 x => by
    have h2 := (h.fresh h1).setP x
    obtain ⟨_, _, _, c3, _, _⟩ := h2.cells
    exact ⟨c3, h2.cell hk, fun j => h2.free j⟩
  replace K := Lib.hid K
  replace K' := Lib.hid K'
  rw [show drawS d k = { d with p := d.p - min d.p (d.s - d.at k), loc := d.loc.set k (d.at k + min d.p (d.s - d.at k)) } from rfl]
  obtain ⟨got, hgot⟩ : ∃ got, got = min d.p (d.s - d.at k) := ⟨_, rfl⟩
  rw [← hgot]
  have b1 : 0 ≤ got := by omega
  have b2 : got ≤ d.p := by omega
  have hgot' := Lib.hid hgot
  clear h H hi hgot a4
  generalize d.at k = x at *
  generalize d.s = s at *
  generalize d.p = p at *
  generalize d.loc.length = n at *
  have hg0 := Below.refl w.heap.size w
  go_enter Try.func32, Try.ntmps32
  go_wp2_with fail
  go_region_held3 (fun w' => w'.cell? ⟨b, 1, none⟩ = some (.int .i64 s) ∧ w'.cell? ⟨b, 2, none⟩ = some (.int .i64 p) ∧ w'.cell? ⟨b, 3, none⟩ = some (.slice (some ⟨g, 0, none⟩) n n) ∧ w'.cell? ⟨g, k, none⟩ = some (.int .i64 x)) (first | exact ⟨c1, c2, c3, c4⟩ | exact ⟨d1, d2, d3, d4⟩ | go_keep)
    (first | (go_at_call 36; refine (L.out _).mono ?_; rintro e w1 ⟨rfl, hg1⟩; have hg2 := hg0.drew.trans (hg1.mono hg0.drew.size); clear hg1; obtain ⟨⟨d1, d2, d3, d4⟩, db, dg⟩ := K.out w1 hg2))
  have eg : (if s - x < p then s - x else p) = got := by have := hgot'.out; split <;> omega
  rw [eg]
  obtain ⟨k3, kx, kz⟩ := K'.out w1 hg2 (p - got)
  have F := Lib.hid (E.out w1 hg2 (p - got) (x + got))
  clear c1 c2 c3 c4 fb fg L K K' E eg hgot'
  go_upto_region 2 with fail
  clear d1 d2 d3 d4 db dg
  generalize w1.setCell ⟨b, 2, none⟩ (.int .i64 (p - got)) = W at *
  go_wp2
  go_end0
  exact ⟨rfl, F.out.1, F.out.2⟩
end Go.Proofs.Ytjjcaplkmbigdaa.Quota
