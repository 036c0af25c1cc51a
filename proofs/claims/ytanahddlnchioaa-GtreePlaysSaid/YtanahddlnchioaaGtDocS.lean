/- What Path of the document's tree answers. Conditions: as each fact states them. -/
import Derived.Test.YtanahddlnchioaaGtDocQ
namespace Go.Proofs.Ytanahddlnchioaa.Gt
open Go.ChangeShapes Go.WideShapes Go.ChangeAt Go.RowKit Hp
set_option linter.unusedVariables false
set_option linter.unusedSimpArgs false
set_option maxRecDepth 100000

/-- Where the boxes of a call with one handle stand that has no box for its answer. -/
structure Box2 (w : World) (r : Int) (v1 v2 v3 v4 : Value) (i g : Int) (W : World) : Prop where
  t : W.heap[w.heap.size]? = some (treO r v1 v2 v3 v4)
  h : W.heap[w.heap.size + 1]? = some (hanO i g)
  b : Below w.heap.size w W
theorem box2' (w : World) (r : Int) (v1 v2 v3 v4 : Value) (i g : Int) : Box2 w r v1 v2 v3 v4 i g ((w.alloc (treO r v1 v2 v3 v4)).alloc (hanO i g)) := by
  refine ⟨heap_fresh (heap_alloc_new w _) (alloc1 _ _), ?_, ((Below.refl w.heap.size w).alloc (Nat.le_refl _) _).alloc (by simp) _⟩
  simpa using heap_alloc_new (w.alloc (treO r v1 v2 v3 v4)) (hanO i g)
theorem Box2.fresh {w W W' : World} {r : Int} {v1 v2 v3 v4 : Value} {i g : Int} (h : Box2 w r v1 v2 v3 v4 i g W) (hg : Below W.heap.size W W') : Box2 w r v1 v2 v3 v4 i g W' :=
  ⟨heap_fresh h.t hg, heap_fresh h.h hg, h.b.trans (hg.mono h.b.size)⟩
theorem Box2.cells {w W : World} {r : Int} {v1 v2 v3 v4 : Value} {i g : Int} (h : Box2 w r v1 v2 v3 v4 i g W) :
    (W.cell? ⟨w.heap.size, 0, none⟩ = some (.int .i64 r) ∧ W.cell? ⟨w.heap.size, 1, none⟩ = some v1 ∧ W.cell? ⟨w.heap.size, 2, none⟩ = some v2 ∧ W.cell? ⟨w.heap.size, 3, none⟩ = some v3 ∧ W.cell? ⟨w.heap.size, 4, none⟩ = some v4 ∧ ∀ j, W.frozen? ⟨w.heap.size, j, none⟩ = false) ∧
    (W.cell? ⟨w.heap.size + 1, 0, none⟩ = some (.int .i64 i) ∧ W.cell? ⟨w.heap.size + 1, 1, none⟩ = some (.int .i64 g) ∧ ∀ j, W.frozen? ⟨w.heap.size + 1, j, none⟩ = false) := by
  have h1 : W.heap[w.heap.size]? = some (.cells #[.int .i64 r, v1, v2, v3, v4] 31 (0, 0)) := h.t
  have h2 : W.heap[w.heap.size + 1]? = some (.cells #[.int .i64 i, .int .i64 g] 34 (0, 0)) := h.h
  exact ⟨Arena.five h1, Arena.pair h2⟩
set_option maxHeartbeats 2000000 in
theorem refPath_none (w : World) (B : Nat) (r : Int) (v1 v2 v3 v4 : Value) (st : St) (i g : Int) (h : Arena.RefAt B v1 v2 v3 v4 (doc st) w) (h1 : st.pl.length ≤ 4096) (hn : st.names i g = false) :
    Calls Try.prog 39 #[.agg #[.int .i64 r, v1, v2, v3, v4], .agg #[.int .i64 i, .int .i64 g]] w (IsPath [] 2 w) := by
  have PB := box2' w r v1 v2 v3 v4 i g
  have N := Lib.hid (fun W (hB : Box2 w r v1 v2 v3 v4 i g W) => Arena.refNames W B r v1 v2 v3 v4 (doc st) i g (h.fresh hB.b) (by rw [doc_len]; exact h1))
  rw [doc_names, hn] at N
  unfold treO hanO at PB
  clear h hn
  go_enter Try.func39, Try.ntmps39
  go_wp2_with fail
  generalize (w.alloc _).alloc _ = W at *
  go_at_call 25; refine (N.out _ PB).mono ?_; rintro e w1 ⟨rfl, hg1⟩
  have P1 := PB.fresh hg1
  obtain ⟨⟨b0, b1, b2, b3, b4, bz⟩, ⟨x0, x1, xz⟩⟩ := P1.cells
  go_wp2_with fail
  go_ret2
  exact ⟨_, rfl, World.ownsRow_nil _ _ _ _, P1.b⟩
def PatI (st : St) (w W : World) (all : List Int) (left : Nat) (t6 t7 : Value) (wr : World) : Prop :=
  ∃ (i g : Int) (l : List (Int × Int)) (D : List Int) (v0 : Value), v0 = t6 ∧ t7 = .int .i64 i ∧ left = l.length ∧ Hid (Ups st i g l) ∧ Hid (pathOf i l ++ D = all) ∧ wr.ownsRow w.heap.size 3 1 v0 D.length (ints D) ∧ D.length + l.length ≤ 100 ∧ Below W.heap.size W wr
theorem own_one {w : World} {B : Nat} (hB : B ≤ w.heap.size) (x : Int) : (w.alloc (.cells #[.int .i64 x] 3)).ownsRow B 3 1 (.slice (some ⟨w.heap.size, 0, none⟩) 1 1) 1 [.int .i64 x] :=
  ⟨rfl, .inr ⟨_, 1, _, rfl, hB, heap_alloc_new _ _, by decide, by decide, rfl, rfl⟩⟩
set_option maxHeartbeats 4000000 in
theorem refPath_some (w : World) (B : Nat) (r : Int) (v1 v2 v3 v4 : Value) (st : St) (i g : Int) (l : List (Int × Int)) (h : Arena.RefAt B v1 v2 v3 v4 (doc st) w) (h1 : st.pl.length ≤ 4096) (hu : Ups st i g l) (hl : l.length ≤ 100) :
    Calls Try.prog 39 #[.agg #[.int .i64 r, v1, v2, v3, v4], .agg #[.int .i64 i, .int .i64 g]] w (IsPath (pathOf i l) 0 w) := by
  obtain ⟨i0, hi, hz0, hz1, hz2⟩ := info_parts Arena.infoI
  have PB := box2' w r v1 v2 v3 v4 i g
  have N := Lib.hid (fun W (hB : Box2 w r v1 v2 v3 v4 i g W) => Arena.refNames W B r v1 v2 v3 v4 (doc st) i g (h.fresh hB.b) (by rw [doc_len]; exact h1))
  rw [doc_names, hu.named] at N
  have hH := Lib.hid (fun W (hB : Box2 w r v1 v2 v3 v4 i g W) => h.fresh hB.b)
  have hlen := Lib.hid (doc_len st)
  unfold treO hanO at PB
  obtain ⟨all, hall⟩ : ∃ all, pathOf i l = all := ⟨_, rfl⟩
  have JS : Hid (∀ W, PatI st w W all l.length (.slice none 0 0) (.int .i64 i) W) := fun W => ⟨i, g, l, [], _, rfl, rfl, rfl, hu, by show _ = _; simp [hall], World.ownsRow_nil _ _ _ _, by simpa using hl, Below.refl _ W⟩
  rw [hall]
  clear h hu hall
  go_enter Try.func39, Try.ntmps39
  go_wp2_with fail
  generalize (w.alloc _).alloc _ = W at *
  go_at_call 25; refine (N.out _ PB).mono ?_; rintro e w1 ⟨rfl, hg1⟩
  have P1 := PB.fresh hg1
  obtain ⟨⟨b0, b1, b2, b3, b4, bz⟩, ⟨x0, x1, xz⟩⟩ := P1.cells
  have J0 := Lib.hid (JS.out w1)
  clear PB N hg1 JS
  go_wp2_with fail
  clear b0 b1 b2 b3 b4 bz x0 x1 xz
  go_loopg [6, 7] l.length (fun left t6 t7 wr => PatI st w w1 all left t6 t7 wr)
  case atStart => exact J0.out
  case round =>
    clear J0
    obtain ⟨i, g, l, D, v0, rfl, rfl, rfl, HU, HP, hown, hD, hb⟩ := hrel
    have P2 := P1.fresh hb
    cases l with
    | nil =>
      obtain ⟨z1, _, _⟩ := HU.out.nil
      have hp : D = all := by have := HP.out; simpa [pathOf, upIdx] using this
      subst z1
      subst hp
      have HF := Lib.hid (show IsPath D 0 w (.returned (.tuple #[v0, .int .i64 0])) wr from ⟨v0, rfl, hown, P2.b⟩)
      clear HU HP hown P2 P1 hH
      go_wp2_with fail
      go_ret2
      exact HF.out
    | cons p l =>
      obtain ⟨u0, u1, u2, u3⟩ := HU.out.not_zero
      obtain ⟨kk, rfl, hkl, hv⟩ := doc_val HU.out.named
      have hz : within st (kk : Int) g = st.thing kk g := if_neg (by omega)
      rw [hz] at hv
      have CV : Hid (∀ W, Box2 w r v1 v2 v3 v4 _ _ W → ∃ gb cp, v1 = .slice (some ⟨gb, 0, none⟩) st.pl.length cp ∧ W.cell? ⟨gb, kk, none⟩ = some (.int .i64 (st.thing kk g))) := fun W hB => by
        obtain ⟨gb, cp, hsl, c0, _⟩ := Arena.row_cell (hH.out W hB).o1 hv
        rw [hlen.out] at hsl
        exact ⟨gb, cp, hsl, c0⟩
      have FIN : Hid (∀ v4' w4, w4.ownsRow w.heap.size 3 1 v4' (1 + D.length) ([.int .i64 (kk : Int)] ++ ints D) → Below w1.heap.size w1 w4 → PatI st w w1 all l.length v4' (.int .i64 (st.thing kk g)) w4) := fun v4' w4 ho hB => by
        refine ⟨st.thing kk g, _, l, (kk : Int) :: D, v4', rfl, rfl, rfl, u2, ?_, ?_, ?_, hB⟩
        · show _ = _
          rw [← HP.out, u1]
          simp [pathOf, upIdx]
        · rw [List.length_cons, Nat.add_comm]; exact ho
        · simp only [List.length_cons] at hD ⊢; omega
      have q1 : (kk : Int) < st.pl.length := by omega
      have q3 : (st.pl.length : Int) ≤ 4096 := by omega
      have hD2 : D.length ≤ 100 := by omega
      have hone : ∀ y ∈ ints D, y.oneCell' = true := by intro y hy; obtain ⟨_, _, rfl⟩ := List.mem_map.1 hy; rfl
      have hBs : w.heap.size ≤ wr.heap.size := P2.b.size
      clear HU HP hv hz u1 u2 hH hD
      generalize st.thing kk g = x at *
      have CB : Hid (∀ w4, Below w1.heap.size w1 w4 → (w4.cell? ⟨w.heap.size, 1, none⟩ = some v1) ∧ ∃ gb cp, v1 = .slice (some ⟨gb, 0, none⟩) st.pl.length cp ∧ w4.cell? ⟨gb, kk, none⟩ = some (.int .i64 x)) := fun w4 hB => ⟨(P1.fresh hB).cells.1.2.1, CV.out _ (P1.fresh hB)⟩
      clear CV P2 P1
      go_upto_region 6 with (at_builtin; refine Arena.wpList_append_copy _ rfl (.tmp 24) (.tmp 25) 26 rfl w.heap.size 3 i0 _ 1 8 Try.underlying26 hi hz0 hz1 hz2 rfl (by decide) _ 1 1 _ rfl (own_one hBs _) w.heap.size _ D.length (ints D) rfl (hown.alloc _) hone (by simp only [maxLen]; omega) (by omega) (by simp; omega) _ rfl ?_; intro g4 c4 w4 hown4 hgrow4 _)
      have hb4 := (hb.alloc hb.size _).grown hgrow4 (by have := hb.size; simp; omega) (fun j hj => by cases hj; exact hb.size)
      obtain ⟨b1, gb, cp, hsl, c0⟩ := CB.out _ hb4
      subst hsl
      have HF := Lib.hid (FIN.out _ _ hown4 hb4)
      clear FIN CB hown hown4 hgrow4
      go_wp2_with fail
      go_roundg l.length
      case measure => (first | omega | simp)
      case rel => exact HF.out
end Go.Proofs.Ytanahddlnchioaa.Gt
