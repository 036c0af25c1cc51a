/- What New of package hier makes, and how deep a group is. Conditions: the queues are sound. -/
import Derived.Test.YtnnjbonejbmgdaaGreatPkI
import Derived.Test.YtnnjbonejbmgdaaGreatPkB
import Derived.Test.YtnnjbonejbmgdaaGreatPkJ
namespace Go.Proofs.YtnnjbonejbmgdaaGreat.Hr
open Go.ChangeShapes Go.WideShapes Go.ChangeAt Go.RowKit Tree Queue
set_option linter.unusedVariables false
set_option linter.unusedSimpArgs false
set_option maxRecDepth 100000

def rootG : Gp := ⟨none, St.new, Ent.zero, false, false⟩
def newS (cr gr : Int) : Hs := ⟨cr, gr, fun i => if i = 0 then some rootG else none⟩
theorem newS_good {cr gr : Int} (h1 : I64 cr) (h2 : I64 gr) : GoodD (fun _ => 0) (newS cr gr) := by
  have key : ∀ i x, (newS cr gr).g i = some x → i = 0 ∧ x = rootG := fun i x h => by
    unfold newS at h
    simp only at h
    split at h
    · rename_i e; cases h; exact ⟨e, rfl⟩
    · cases h
  refine ⟨h1, h2, ⟨rootG, rfl, rfl, rfl⟩, ?_, rfl, fun _ _ _ => by omega, ?_, ?_, ?_, ?_, ?_, ?_, ?_⟩
  · intro i x h; obtain ⟨rfl, rfl⟩ := key i x h; omega
  · intro i x h h0; obtain ⟨rfl, rfl⟩ := key i x h; exact absurd rfl h0
  · intro i x h h0; obtain ⟨rfl, rfl⟩ := key i x h; exact absurd rfl h0
  · intro i x h; obtain ⟨rfl, rfl⟩ := key i x h; exact Sound.new
  · intro i x h e he; obtain ⟨rfl, rfl⟩ := key i x h; simp [rootG, St.new] at he
  · intro i x h e he; obtain ⟨rfl, rfl⟩ := key i x h; simp [rootG, St.new] at he
  · intro i x h ho; obtain ⟨rfl, rfl⟩ := key i x h; simp [rootG] at ho
  · intro i x h; obtain ⟨rfl, rfl⟩ := key i x h; exact .inl rfl
/-- A queue that was made lies in new blocks alone. -/
theorem born_hl {w w2 : World} {q : Nat} {n : Nat} (hq : ∀ O : Nat → Prop, (∀ k, O k → k < n) → Qu w2 q O St.new) {w' : World} (hg : Below w2.heap.size w2 w') (O : Nat → Prop) (hO : ∀ k, O k → k < n ∨ w2.heap.size ≤ k) : Qu w' q O St.new :=
  ((hq (fun k => k < n) (fun k h => h)).other (O' := O) hO).fresh hg
/-- What New makes. -/
def BornH (S : Hs) (w : World) (e : Ending) (w' : World) : Prop := ∃ h b qb, w.heap.size ≤ h ∧ e = .returned (.pointer (some ⟨h, 0, none⟩)) ∧ Below w.heap.size w w' ∧ ∀ O : Nat → Prop, (∀ k, O k → k < w.heap.size) → Hb w' h O b qb S
theorem topC_new (cr gr : Int) (gb : Nat) : topC (newS cr gr) (fun _ => gb) = #[.int .i64 cr, .int .i64 gr, .pointer (some ⟨gb, 0, none⟩), .pointer none, .pointer none, .pointer none, .pointer none, .pointer none, .pointer none, .pointer none, .pointer none, .pointer none, .pointer none, .pointer none, .pointer none, .pointer none, .pointer none, .pointer none, .pointer none, .pointer none, .pointer none, .pointer none, .pointer none, .pointer none, .pointer none, .pointer none, .pointer none, .pointer none, .pointer none, .pointer none, .pointer none, .pointer none, .pointer none, .pointer none] := by
  apply Array.ext_getElem?
  intro k
  by_cases hk : k < 34
  · rw [topC_at _ _ hk]
    match k, hk with
    | 0, _ | 1, _ | 2, _ | 3, _ | 4, _ | 5, _ | 6, _ | 7, _ | 8, _ | 9, _ | 10, _ | 11, _ | 12, _ | 13, _ | 14, _ | 15, _ | 16, _ | 17, _ | 18, _ | 19, _ | 20, _ | 21, _ | 22, _ | 23, _ | 24, _ | 25, _ | 26, _ | 27, _ | 28, _ | 29, _ | 30, _ | 31, _ | 32, _ | 33, _ => rfl
    | k + 34, h => omega
  · rw [Array.getElem?_eq_none (by rw [topC_size]; omega), Array.getElem?_eq_none (by simp; omega)]
set_option maxHeartbeats 4000000 in
theorem new_ (w : World) (cr gr : Int) : Calls Tryz.prog 10 #[.int .i64 cr, .int .i64 gr] w (BornH (newS cr gr) w) := by
  have NW := Lib.hid (fun w => Queue.news w)
  have hb : (w.alloc (.cells #[.int .i64 cr, .int .i64 gr, .pointer none, .pointer none, .pointer none, .pointer none, .pointer none, .pointer none, .pointer none, .pointer none, .pointer none, .pointer none, .pointer none, .pointer none, .pointer none, .pointer none, .pointer none, .pointer none, .pointer none, .pointer none, .pointer none, .pointer none, .pointer none, .pointer none, .pointer none, .pointer none, .pointer none, .pointer none, .pointer none, .pointer none, .pointer none, .pointer none, .pointer none, .pointer none] hierT)).heap[w.heap.size]? = some (.cells #[.int .i64 cr, .int .i64 gr, .pointer none, .pointer none, .pointer none, .pointer none, .pointer none, .pointer none, .pointer none, .pointer none, .pointer none, .pointer none, .pointer none, .pointer none, .pointer none, .pointer none, .pointer none, .pointer none, .pointer none, .pointer none, .pointer none, .pointer none, .pointer none, .pointer none, .pointer none, .pointer none, .pointer none, .pointer none, .pointer none, .pointer none, .pointer none, .pointer none, .pointer none, .pointer none] hierT (0, 0)) := heap_alloc_new w _
  have hg0 := alloc1 w (.cells #[.int .i64 cr, .int .i64 gr, .pointer none, .pointer none, .pointer none, .pointer none, .pointer none, .pointer none, .pointer none, .pointer none, .pointer none, .pointer none, .pointer none, .pointer none, .pointer none, .pointer none, .pointer none, .pointer none, .pointer none, .pointer none, .pointer none, .pointer none, .pointer none, .pointer none, .pointer none, .pointer none, .pointer none, .pointer none, .pointer none, .pointer none, .pointer none, .pointer none, .pointer none, .pointer none] hierT)
  have hsz : (w.alloc (.cells #[.int .i64 cr, .int .i64 gr, .pointer none, .pointer none, .pointer none, .pointer none, .pointer none, .pointer none, .pointer none, .pointer none, .pointer none, .pointer none, .pointer none, .pointer none, .pointer none, .pointer none, .pointer none, .pointer none, .pointer none, .pointer none, .pointer none, .pointer none, .pointer none, .pointer none, .pointer none, .pointer none, .pointer none, .pointer none, .pointer none, .pointer none, .pointer none, .pointer none, .pointer none, .pointer none] hierT)).heap.size = w.heap.size + 1 := by simp
  go_enter Tryz.func10, Tryz.ntmps10
  go_wp2_with fail
  generalize w.alloc (.cells #[.int .i64 cr, .int .i64 gr, .pointer none, .pointer none, .pointer none, .pointer none, .pointer none, .pointer none, .pointer none, .pointer none, .pointer none, .pointer none, .pointer none, .pointer none, .pointer none, .pointer none, .pointer none, .pointer none, .pointer none, .pointer none, .pointer none, .pointer none, .pointer none, .pointer none, .pointer none, .pointer none, .pointer none, .pointer none, .pointer none, .pointer none, .pointer none, .pointer none, .pointer none, .pointer none] hierT) = W at *
  go_region_held3 (fun _ => True) (exact trivial)
    (first
      | (go_at_call 38; refine (NW.out _).mono ?_; rintro e w2 ⟨q, hq, rfl, hg2, hQ⟩; replace hg2 := undrew hg2; have hb2 := (hg2.block _ (lt_of hb)).trans hb; have hQ := Lib.hid hQ; have c2 := (cell_of_row w2 _ 2 _ _ _ hb2).trans (show _ = some (Value.pointer none) from rfl); have f2 := frozen_of_row w2 _ 2 _ _ hb2; have hb3 := (Below.heap_alloc w2 (.cells #[.pointer none, .pointer (some ⟨q, 0, none⟩), .int .i64 0, .int .u64 0, .int .i64 0, .int .u64 0, .bool false, .bool false] groupT) _ (lt_of hb2)).trans hb2; have c3 := (cell_of_row _ _ 2 _ _ _ hb3).trans (show _ = some (Value.pointer none) from rfl); have f3 := frozen_of_row _ _ 2 _ _ hb3))
  go_wp2_with fail
  go_ret
  have hs2 := hg2.size
  have hg3 := alloc1 w2 (.cells #[.pointer none, .pointer (some ⟨q, 0, none⟩), .int .i64 0, .int .u64 0, .int .i64 0, .int .u64 0, .bool false, .bool false] groupT)
  have hn3 : (w2.alloc (.cells #[.pointer none, .pointer (some ⟨q, 0, none⟩), .int .i64 0, .int .u64 0, .int .i64 0, .int .u64 0, .bool false, .bool false] groupT)).heap[w2.heap.size]? = some (.cells #[.pointer none, .pointer (some ⟨q, 0, none⟩), .int .i64 0, .int .u64 0, .int .i64 0, .int .u64 0, .bool false, .bool false] groupT (0, 0)) := heap_alloc_new w2 _
  have hz3 : (w2.alloc (.cells #[.pointer none, .pointer (some ⟨q, 0, none⟩), .int .i64 0, .int .u64 0, .int .i64 0, .int .u64 0, .bool false, .bool false] groupT)).heap.size = w2.heap.size + 1 := by simp
  clear c2 f2 c3 f3 hb2
  generalize w2.alloc (.cells #[.pointer none, .pointer (some ⟨q, 0, none⟩), .int .i64 0, .int .u64 0, .int .i64 0, .int .u64 0, .bool false, .bool false] groupT) = w3 at *
  have hset := heap_setCell_same w3 w.heap.size 2 _ _ (.pointer (some ⟨w2.heap.size, 0, none⟩)) hb3
  have hoth : ∀ k, k ≠ w.heap.size → (w3.setCell ⟨w.heap.size, 2, none⟩ (.pointer (some ⟨w2.heap.size, 0, none⟩))).heap[k]? = w3.heap[k]? := fun k hk => Below.heap_setCell _ _ _ _ hk
  have hss : (w3.setCell ⟨w.heap.size, 2, none⟩ (.pointer (some ⟨w2.heap.size, 0, none⟩))).heap.size = w3.heap.size := size_setCell _ _ _
  have hbw : Below w.heap.size w (w3.setCell ⟨w.heap.size, 2, none⟩ (.pointer (some ⟨w2.heap.size, 0, none⟩))) := (((hg0.trans (hg2.mono (by omega))).trans (hg3.mono (by omega)))).setCell (p := ⟨w.heap.size, 2, none⟩) (Nat.le_refl _) _
  refine ⟨w.heap.size, fun _ => w2.heap.size, fun _ => q, Nat.le_refl _, rfl, hbw, fun O hO => ?_⟩
  generalize w3.setCell ⟨w.heap.size, 2, none⟩ (.pointer (some ⟨w2.heap.size, 0, none⟩)) = w4 at *
  have key : ∀ i x, (newS cr gr).g i = some x → i = 0 ∧ x = rootG := fun i x h => by
    unfold newS at h
    simp only at h
    split at h
    · rename_i e; cases h; exact ⟨e, rfl⟩
    · cases h
  have own : ∀ k, (if k ≤ w.heap.size then (if k = w.heap.size then 64 else 65) else if k < w2.heap.size then 0 else if k = w2.heap.size then 32 else 65) = (if k ≤ w.heap.size then (if k = w.heap.size then 64 else 65) else if k < w2.heap.size then 0 else if k = w2.heap.size then 32 else 65) := fun _ => rfl
  refine ⟨fun k => if k ≤ w.heap.size then (if k = w.heap.size then 64 else 65) else if k < w2.heap.size then 0 else if k = w2.heap.size then 32 else 65, ⟨?_, ?_, ?_, ?_, ?_, ?_⟩, ?_⟩
  · rw [topC_new, hset]; rfl
  · intro i x hx
    obtain ⟨rfl, rfl⟩ := key i x hx
    rw [hoth _ (by omega), hn3]; rfl
  · intro i x hx
    obtain ⟨rfl, rfl⟩ := key i x hx
    refine qu_sub (O := fun k => k < w.heap.size + 1 ∨ w2.heap.size ≤ k) (qu_on (w := w3) ?_ fun k h1 h2 => hoth k (fun e => h2 (.inl (by omega)))) fun k h1 h2 => ?_
    · exact ((hQ.out (fun k => k < w.heap.size + 1) (fun k hk => by show k < W.heap.size; omega)).other (O' := fun k => k < w.heap.size + 1 ∨ w2.heap.size ≤ k) fun k hk => hk).fresh hg3
    · by_cases e1 : k ≤ w.heap.size
      · exact .inl (by omega)
      · by_cases e2 : k < w2.heap.size
        · simp [e1, e2] at h2
        · exact .inr (by omega)
  · simp
  · intro i x hx
    obtain ⟨rfl, rfl⟩ := key i x hx
    simp only
    rw [if_neg (by omega), if_neg (by omega)]; simp
  · intro i x hx
    obtain ⟨rfl, rfl⟩ := key i x hx
    omega
  · intro k hk
    have := hO k hk
    simp only
    rw [if_pos (by omega), if_neg (by omega)]
    exact Nat.le_refl _
/-! ### how deep a group is -/
def depthS : Nat → Hs → Nat → Nat
  | 0, _, _ => 0
  | n + 1, S, i => match S.g i with
    | none => 0
    | some x => match x.up with
      | none => 0
      | some p => depthS n S p + 1
theorem GoodD.depth {dep : Nat → Nat} {S : Hs} (h : GoodD dep S) : ∀ (n : Nat) {i : Nat} {x : Gp}, S.g i = some x → dep i ≤ n → depthS n S i = dep i
  | 0, i, x, hx, hn => by unfold depthS; omega
  | n + 1, i, x, hx, hn => by
    rw [depthS, hx]
    simp only
    by_cases h0 : i = 0
    · subst h0
      obtain ⟨r, hr, hu, _⟩ := h.root
      rw [hx] at hr; cases hr
      rw [hu]; simp only [h.dep0]
    · obtain ⟨p, y, e1, e2, e3⟩ := h.link i x hx h0
      rw [e1]
      simp only
      rw [h.depth n e2 (by omega), e3]
def DepI (b : Nat → Nat) (S : Hs) (dep : Nat → Nat) (D : Nat) (w : World) (k : Nat) (s t : Value) (wr : World) : Prop :=
  ∃ n : Nat, s = .int .i64 n ∧ wr = w ∧ n + k = D + 1 ∧ ((∃ i x, t = .pointer (some ⟨b i, 0, none⟩) ∧ S.g i = some x ∧ n + 1 + dep i = D ∧ dep i + 2 = k) ∨ (t = .pointer none ∧ n = D ∧ k = 1))
theorem depth_ (w : World) (h : Nat) (O : Nat → Prop) (b qb : Nat → Nat) (S : Hs) (H : Hb w h O b qb S) {dep : Nat → Nat} (hG : GoodD dep S) {i : Nat} {x : Gp} (hx : S.g i = some x) :
    Calls Tryz.prog 75 #[.pointer (some ⟨b i, 0, none⟩)] w (Is (.int .i64 (dep i)) w) := by
  have hd := hG.deep i x hx
  obtain ⟨D, hD⟩ : ∃ D, D = dep i := ⟨_, rfl⟩
  rw [← hD] at hd ⊢
  have GC : Hid (∀ j y, S.g j = some y → w.cell? ⟨b j, 0, none⟩ = some (.pointer (y.up.map (toG b)))) := Lib.hid fun j y hy => (H.cells hy).1
  have LK : Hid (∀ j y, S.g j = some y → (y.up = none ∧ dep j = 0) ∨ ∃ p z, y.up = some p ∧ S.g p = some z ∧ dep j = dep p + 1) := Lib.hid fun j y hy => by
    by_cases h0 : j = 0
    · subst h0
      obtain ⟨r, hr, hu, _⟩ := hG.root
      rw [hy] at hr; cases hr
      exact .inl ⟨hu, hG.dep0⟩
    · obtain ⟨p, z, e1, e2, e3⟩ := hG.link j y hy h0
      exact .inr ⟨p, z, e1, e2, e3⟩
  have st : Hid (∃ a, w.cell? ⟨b i, 0, none⟩ = some (.pointer a) ∧ DepI b S dep D w (D + 1) (.int .i64 0) (.pointer a) w) := by
    refine Lib.hid ⟨_, GC.out i x hx, ?_⟩
    rcases LK.out i x hx with ⟨e1, e2⟩ | ⟨p, z, e1, e2, e3⟩
    · rw [e1]; exact ⟨0, rfl, rfl, by omega, .inr ⟨rfl, by omega, by omega⟩⟩
    · rw [e1]; exact ⟨0, rfl, rfl, by omega, .inl ⟨p, z, rfl, e2, by omega, by omega⟩⟩
  have hg := Below.refl w.heap.size w
  obtain ⟨a, ca, st⟩ := st.out
  have st := Lib.hid st
  clear H hG hx hD
  go_enter Tryz.func75, Tryz.ntmps75
  go_wp2_with fail
  go_loopg [3, 4] (D + 1) (fun k s t wr => DepI b S dep D w k s t wr)
  case atStart => exact st.out
  case round =>
    clear st ca
    obtain ⟨n, rfl, rfl, hk, hj⟩ := hrel
    rcases hj with ⟨j, y, rfl, hy, hn, hk2⟩ | ⟨rfl, rfl, hk2⟩
    · have c := GC.out j y hy
      have lk := LK.out j y hy
      rcases lk with ⟨e1, e2⟩ | ⟨p, z, e1, e2, e3⟩
      · rw [e1] at c
        simp only [Option.map_none] at c
        go_wp2_with fail
        go_roundg 1
        case measure => omega
        case rel => exact ⟨n + 1, by go_num, rfl, by omega, .inr ⟨rfl, by omega, by omega⟩⟩
      · rw [e1] at c
        simp only [Option.map_some, toG] at c
        clear e1
        go_wp2_with fail
        go_roundg (gk - 1)
        case measure => omega
        case rel => exact ⟨n + 1, by go_num, rfl, by omega, .inl ⟨p, z, rfl, e2, by omega, by omega⟩⟩
    · go_wp2_with fail
      go_ret; exact ⟨rfl, hg⟩
end Go.Proofs.YtnnjbonejbmgdaaGreat.Hr

/- What Link of package hier does. Conditions: the queues are sound. -/
namespace Go.Proofs.YtnnjbonejbmgdaaGreat.Hr
open Go.ChangeShapes Go.WideShapes Go.ChangeAt Go.RowKit Tree Queue
set_option linter.unusedVariables false
set_option linter.unusedSimpArgs false
set_option maxRecDepth 100000

def linkG (g p : Nat) : Gp := ⟨some p, St.new, ⟨gid g, 1024, 0, 0⟩, false, false⟩
def errLinkH (S : Hs) (g parent : Int) : Int := match grp S parent with
  | none => 1
  | some _ => if ¬ (1 ≤ g ∧ g < 32) then 1 else if (grp S g).isSome then 6 else if 8 ≤ depthS 9 S parent.toNat then 5 else 0
def linkH (S : Hs) (g parent : Int) : Hs := if errLinkH S g parent = 0 then S.set g.toNat (some (linkG g.toNat parent.toNat)) else S
theorem GoodD.link_ {dep : Nat → Nat} {S : Hs} (h : GoodD dep S) {g p : Nat} {y : Gp} (hg : S.g g = none) (h0 : g ≠ 0) (h32 : g < 32) (hy : S.g p = some y) (hd : dep p < 8) :
    GoodD (fun k => if k = g then dep p + 1 else dep k) (S.set g (some (linkG g p))) := by
  have hpg : p ≠ g := fun e => by rw [e, hg] at hy; cases hy
  have old : ∀ k z, (S.set g (some (linkG g p))).g k = some z → (k = g ∧ z = linkG g p) ∨ (k ≠ g ∧ S.g k = some z) := fun k z hz => set_cases hz
  have there : ∀ k z, S.g k = some z → (S.set g (some (linkG g p))).g k = some z := fun k z hz => by
    have : k ≠ g := fun e => by rw [e, hg] at hz; cases hz
    rw [Hs.set_other _ _ this]; exact hz
  have dne : ∀ k z, S.g k = some z → (if k = g then dep p + 1 else dep k) = dep k := fun k z hz => by
    have : k ≠ g := fun e => by rw [e, hg] at hz; cases hz
    rw [if_neg this]
  refine ⟨h.cr, h.gr, ?_, ?_, ?_, ?_, ?_, ?_, ?_, ?_, ?_, ?_, ?_⟩
  · obtain ⟨r, hr, hu, ho⟩ := h.root
    exact ⟨r, there 0 r hr, hu, ho⟩
  · intro k z hz
    rcases old k z hz with ⟨rfl, rfl⟩ | ⟨_, hz⟩
    · exact h32
    · exact h.few k z hz
  · rw [if_neg (Ne.symm h0)]; exact h.dep0
  · intro k z hz
    rcases old k z hz with ⟨rfl, rfl⟩ | ⟨hk, hz⟩
    · rw [if_pos rfl]; omega
    · rw [if_neg hk]; exact h.deep k z hz
  · intro k z hz hk0
    rcases old k z hz with ⟨rfl, rfl⟩ | ⟨hk, hz⟩
    · exact ⟨p, y, rfl, there p y hy, by rw [if_pos rfl, if_neg hpg]⟩
    · obtain ⟨p', y', e1, e2, e3⟩ := h.link k z hz hk0
      exact ⟨p', y', e1, there p' y' e2, by rw [if_neg hk, dne p' y' e2, e3]⟩
  · intro k z hz hk0
    rcases old k z hz with ⟨rfl, rfl⟩ | ⟨hk, hz⟩
    · exact ⟨rfl, by unfold OkE linkG I64; simp⟩
    · exact h.own k z hz hk0
  · intro k z hz
    rcases old k z hz with ⟨rfl, rfl⟩ | ⟨hk, hz⟩
    · exact Sound.new
    · exact h.q k z hz
  · intro k z hz e he
    rcases old k z hz with ⟨rfl, rfl⟩ | ⟨hk, hz⟩
    · simp [linkG, St.new] at he
    · exact h.ids k z hz e he
  · intro k z hz e he ho
    rcases old k z hz with ⟨rfl, rfl⟩ | ⟨hk, hz⟩
    · simp [linkG, St.new] at he
    · obtain ⟨j, y', f1, f2, f3, f4⟩ := h.inn k z hz e he ho
      exact ⟨j, y', f1, there j y' f2, f3, f4⟩
  · intro k z hz ho
    rcases old k z hz with ⟨rfl, rfl⟩ | ⟨hk, hz⟩
    · simp [linkG] at ho
    · obtain ⟨p', y', e1, e2, e3⟩ := h.out k z hz ho
      exact ⟨p', y', e1, there p' y' e2, e3⟩
  · intro k z hz
    rcases old k z hz with ⟨rfl, rfl⟩ | ⟨hk, hz⟩
    · exact .inl rfl
    · exact h.cur k z hz
def upd (b : Nat → Nat) (g v : Nat) : Nat → Nat := fun k => if k = g then v else b k
theorem topC_link {S : Hs} {b : Nat → Nat} {g gb : Nat} (x : Gp) (hg : S.g g = none) (h32 : g < 32) : (topC S b).setIfInBounds (2 + g) (.pointer (some ⟨gb, 0, none⟩)) = topC (S.set g (some x)) (upd b g gb) := by
  apply Array.ext_getElem?
  intro k
  by_cases hk : k < 34
  · rw [topC_at _ _ hk]
    by_cases e : k = 2 + g
    · subst e
      rw [Array.getElem?_setIfInBounds_self_of_lt (by rw [topC_size]; omega)]
      unfold cellH
      rw [if_neg (by omega), if_neg (by omega), show 2 + g - 2 = g by omega]
      unfold ptrG
      rw [Hs.set_same]
      simp [toG, upd]
    · rw [Array.getElem?_setIfInBounds_ne (by omega), topC_at _ _ hk]
      unfold cellH
      split
      · rfl
      · split
        · rfl
        · rename_i k0 k1
          have : k - 2 ≠ g := by omega
          unfold ptrG
          rw [Hs.set_other _ _ this]
          unfold toG upd
          rw [if_neg this]
  · rw [Array.getElem?_eq_none (by simp [topC_size]; omega), Array.getElem?_eq_none (by rw [topC_size]; omega)]
/-- A new group, in new blocks. -/
theorem Hb.link {w w2 w3 : World} {h : Nat} {O : Nat → Prop} {b qb : Nat → Nat} {S : Hs} (H : Hb w h O b qb S) (hO : ∀ k, O k → k < w.heap.size) {g q : Nat} {x : Gp} (hg : S.g g = none) (h32 : g < 32)
    (hup : ∀ i z p, S.g i = some z → z.up = some p → p ≠ g) (hg2 : Below w.heap.size w w2) (hQ : ∀ O : Nat → Prop, (∀ k, O k → k < w.heap.size) → Qu w2 q O x.q) (hg3 : Below w2.heap.size w2 w3) (hz3 : w3.heap.size = w2.heap.size + 1)
    (hn : w3.heap[w2.heap.size]? = some (.cells (cellsG (upd b g w2.heap.size) (upd qb g q) g x) groupT (0, 0))) :
    Hb (w3.setCell ⟨h, 2 + g, none⟩ (.pointer (some ⟨w2.heap.size, 0, none⟩))) h O (upd b g w2.heap.size) (upd qb g q) (S.set g (some x)) ∧ Same O w (w3.setCell ⟨h, 2 + g, none⟩ (.pointer (some ⟨w2.heap.size, 0, none⟩))) := by
  have h13 := ft hg2 hg3
  have hlt := H.lt
  obtain ⟨o, H, h65⟩ := H
  have hno : ¬ O h := fun e => by have := h65 h e; rw [H.oh] at this; omega
  refine ⟨⟨fun k => if k < w.heap.size then o k else if k < w2.heap.size then g else if k = w2.heap.size then 32 + g else 65, ⟨?_, ?_, ?_, ?_, ?_, ?_⟩, ?_⟩, (Same.of h13 hO).trans (Same.setCell (p := ⟨h, 2 + g, none⟩) hno _)⟩
  · rw [heap_setCell_same w3 h (2 + g) _ _ _ ((h13.block h hlt).trans H.top), topC_link x hg h32]
  · intro i z hz
    rcases set_cases hz with ⟨rfl, rfl⟩ | ⟨hi, hz⟩
    · rw [show upd b i w2.heap.size i = w2.heap.size by simp [upd], Below.heap_setCell _ _ _ _ (by have := hg2.size; show w2.heap.size ≠ h; omega)]
      exact hn
    · have hb := H.grp i z hz
      have hbl := lt_of hb
      have hne : b i ≠ h := fun e => by have := H.og i z hz; have h2 := H.few i z hz; rw [e, H.oh] at this; omega
      rw [show upd b g w2.heap.size i = b i by simp [upd, hi], Below.heap_setCell _ _ _ _ hne, h13.block _ hbl, hb]
      unfold cellsG
      rw [show upd qb g q i = qb i by simp [upd, hi]]
      congr 4
      cases hu : z.up with
      | none => rfl
      | some p =>
        have := hup i z p hz hu
        simp [toG, upd, this]
  · intro i z hz
    rcases set_cases hz with ⟨rfl, rfl⟩ | ⟨hi, hz⟩
    · rw [show upd qb i q i = q by simp [upd]]
      refine qu_sub (O := fun k => k < w.heap.size ∨ w2.heap.size ≤ k) (qu_on (w := w3) (((hQ (fun k => k < w.heap.size) (fun k hk => hk)).other (O' := fun k => k < w.heap.size ∨ w2.heap.size ≤ k) fun k hk => hk).fresh hg3) fun k h1 h2 => Below.heap_setCell _ _ _ _ (fun e => h2 (.inl (by have e' : k = h := e; omega)))) fun k h1 h2 => ?_
      by_cases e1 : k < w.heap.size
      · exact .inl e1
      · by_cases e2 : k < w2.heap.size
        · simp [e1, e2] at h2
        · exact .inr (by omega)
    · rw [show upd qb g q i = qb i by simp [upd, hi]]
      have hqi := H.que i z hz
      have hi32 := H.few i z hz
      refine qu_sub (O := fun k => w.heap.size ≤ k ∨ o k ≠ i) (qu_on (qu_sub (O' := fun k => w.heap.size ≤ k ∨ o k ≠ i) hqi fun k h1 h2 => h2.resolve_left (by omega)) fun k h1 h2 => ?_) fun k h1 h2 => ?_
      · rw [Below.heap_setCell _ _ _ _ (fun e => by have e' : k = h := e; exact h2 (.inr (by rw [e', H.oh]; omega)))]
        exact h13.block k h1
      · by_cases e1 : k < w.heap.size
        · exact .inr (by simpa [e1] using h2)
        · exact .inl (by omega)
  · show (if h < w.heap.size then _ else _) = 64
    rw [if_pos hlt]; exact H.oh
  · intro i z hz
    rcases set_cases hz with ⟨rfl, rfl⟩ | ⟨hi, hz⟩
    · have := hg2.size
      rw [show upd b i w2.heap.size i = w2.heap.size by simp [upd]]
      simp only
      rw [if_neg (by omega), if_neg (by omega)]; simp
    · rw [show upd b g w2.heap.size i = b i by simp [upd, hi]]
      show (if b i < w.heap.size then _ else _) = _
      rw [if_pos (lt_of (H.grp i z hz))]; exact H.og i z hz
  · intro i z hz
    rcases set_cases hz with ⟨rfl, rfl⟩ | ⟨hi, hz⟩
    · exact h32
    · exact H.few i z hz
  · intro k hk
    show 65 ≤ if k < w.heap.size then _ else _
    rw [if_pos (hO k hk)]; exact h65 k hk
structure LW (w : World) (h : Nat) (O : Nat → Prop) (b qb : Nat → Nat) (S : Hs) (q : Nat) (A W : World) : Prop where
  k : Hb A h O b qb S
  s : Same O w A
  g : Below A.heap.size A W
  Q : ∀ O' : Nat → Prop, (∀ k, O' k → k < A.heap.size) → Qu W q O' St.new
theorem LW.fresh {w A W W' : World} {h : Nat} {O : Nat → Prop} {b qb : Nat → Nat} {S : Hs} {q : Nat} (L : LW w h O b qb S q A W) (hg : Below W.heap.size W W') : LW w h O b qb S q A W' :=
  ⟨L.k, L.s, ft L.g hg, fun O' hO => (L.Q O' hO).fresh hg⟩
/-- What Link did. -/
def Linked (v : Value) (S : Hs) (h : Nat) (O : Nat → Prop) (w : World) (e : Ending) (w' : World) : Prop := ∃ b qb, DidH v S h O b qb w e w'
theorem link_nil_ (w : World) (g p : Int) : Calls Tryz.prog 29 #[.pointer none, .int .i64 g, .int .i64 p] w (Is (.int .i64 1) w) := by
  have A := Lib.hid (fun w => at_nil p w)
  go_enter Tryz.func29, Tryz.ntmps29
  go_wp2_with (go_at_call 69; refine (A.out _).mono ?_; rintro e w1 ⟨rfl, hg1⟩)
  go_ret; exact ⟨rfl, hg1⟩
set_option maxHeartbeats 4000000 in
theorem link_ (w : World) (h : Nat) (O : Nat → Prop) (b qb : Nat → Nat) (S : Hs) (H : Hb w h O b qb S) (hO : ∀ k, O k → k < w.heap.size) {dep : Nat → Nat} (hG : GoodD dep S) (g parent : Int) :
    Calls Tryz.prog 29 #[.pointer (some ⟨h, 0, none⟩), .int .i64 g, .int .i64 parent] w (Linked (.int .i64 (errLinkH S g parent)) (linkH S g parent) h O w) := by
  have A1 := Lib.hid (at_ w h O b qb S H parent)
  have HO := Lib.hid hO
  have K0 := Lib.hid H
  have IG := Lib.hid (fun w => isGroup_ g w)
  have CL : Hid (∀ er, errLinkH S g parent = er → er ≠ 0 → ∀ w1, Below w.heap.size w w1 → Linked (.int .i64 (errLinkH S g parent)) (linkH S g parent) h O w (.returned (.int .i64 er)) w1) := Lib.hid fun er he hne w1 hg => by
    rw [he]
    refine ⟨b, qb, rfl, ?_, same_of HO.out hg⟩
    unfold linkH
    rw [if_neg (by rw [he]; exact hne)]
    exact K0.out.fresh hg
  rcases grp_cases S parent with ⟨p, y, rfl, hp, hy, e1, e2⟩ | ⟨e1, e2⟩
  · rw [e2] at A1
    have er0 : errLinkH S g p = if ¬ (1 ≤ g ∧ g < 32) then 1 else if (grp S g).isSome then 6 else if 8 ≤ depthS 9 S p then 5 else 0 := by unfold errLinkH; rw [e1]; simp
    by_cases hg0 : g = 0
    · have C := Lib.hid (CL.out 1 (by rw [er0, if_pos (by omega)]) (by omega))
      clear CL er0 H hO hG IG e1 e2 hy K0 HO
      generalize errLinkH S g p = er at *
      generalize linkH S g p = S1 at *
      have hgb : (g == 0) = true := by simpa using hg0
      clear hg0
      go_enter Tryz.func29, Tryz.ntmps29
      go_wp2_with (go_at_call 69; refine A1.out.mono ?_; rintro e w1 ⟨rfl, hg1⟩)
      go_ret; exact C.out _ hg1
    · have hgb : (g == 0) = false := by simpa using hg0
      by_cases hgr : 0 ≤ g ∧ g < 32
      · rw [decide_eq_true hgr] at IG
        rw [if_neg (by omega)] at er0
        have A2 := Lib.hid (fun w1 (hg : Below w.heap.size w w1) => at_ w1 h O b qb S (H.fresh hg) g)
        rcases grp_cases S g with ⟨i, x, rfl, hi, hx, f1, f2⟩ | ⟨f1, f2⟩
        · rw [f1] at er0
          rw [f2] at A2
          have C := Lib.hid (CL.out 6 (by rw [er0]; rfl) (by omega))
          clear CL er0 H hO hG e1 e2 hy f1 f2 hx hg0 hgr
          generalize errLinkH S i p = er at *
          generalize linkH S i p = S1 at *
          go_enter Tryz.func29, Tryz.ntmps29
          go_wp2_with (first
            | (go_at_call 69; refine A1.out.mono ?_; rintro e w1 ⟨rfl, hg1⟩; clear A1)
            | (go_at_call 74; refine (IG.out _).mono ?_; rintro e w2 ⟨rfl, hg2⟩; replace hg2 := ft hg1 hg2)
            | (go_at_call 69; refine (A2.out _ hg2).mono ?_; rintro e w3 ⟨rfl, hg3⟩; replace hg3 := ft hg2 hg3))
          go_ret; exact C.out _ hg3
        · rw [f1] at er0
          rw [f2] at A2
          simp only [Option.isSome_none, Bool.false_eq_true, if_false] at er0
          have hd8 := hG.deep p y hy
          rw [hG.depth 9 hy (by omega)] at er0
          have DP := Lib.hid (fun w1 (hg : Below w.heap.size w w1) => depth_ w1 h O b qb S (H.fresh hg) hG hy)
          by_cases hd : 8 ≤ dep p
          · have C := Lib.hid (CL.out 5 (by rw [er0, if_pos hd]) (by omega))
            clear CL er0 H hO hG e1 e2 hy f1 f2 hg0
            generalize errLinkH S g p = er at *
            generalize linkH S g p = S1 at *
            generalize dep p = d at *
            go_enter Tryz.func29, Tryz.ntmps29
            go_wp2_with (first
              | (go_at_call 69; refine A1.out.mono ?_; rintro e w1 ⟨rfl, hg1⟩; clear A1)
              | (go_at_call 74; refine (IG.out _).mono ?_; rintro e w2 ⟨rfl, hg2⟩; replace hg2 := ft hg1 hg2)
              | (go_at_call 69; refine (A2.out _ hg2).mono ?_; rintro e w3 ⟨rfl, hg3⟩; replace hg3 := ft hg2 hg3)
              | (go_at_call 75; refine (DP.out _ hg3).mono ?_; rintro e w4 ⟨rfl, hg4⟩; replace hg4 := ft hg3 hg4))
            go_ret; exact C.out _ hg4
          · rw [if_neg hd] at er0
            obtain ⟨n, rfl⟩ : ∃ n : Nat, g = n := ⟨g.toNat, by omega⟩
            have hn : S.g n = none := by
              unfold grp at f1
              rw [if_pos hgr] at f1
              simpa using f1
            have n32 : n < 32 := by omega
            have hS : linkH S n p = S.set n (some (linkG n p)) := by unfold linkH; rw [if_pos er0]; simp
            have hup : ∀ i z p', S.g i = some z → z.up = some p' → p' ≠ n := fun i z p' hz hu => by
              obtain ⟨_, h0⟩ := hG.up_ne hz hu
              obtain ⟨p2, y2, g1, g2, _⟩ := hG.link i z hz h0
              rw [hu] at g1; cases g1
              rintro rfl
              rw [hn] at g2; cases g2
            have NW := Lib.hid (fun w => Queue.news w)
            have ID := Lib.hid (fun w => idOfGroup_ n w n32)
            have hpn : ¬ p = n := fun e => by rw [e, hn] at hy; cases hy
            have LK : Hid (∀ q A W, LW w h O b qb S q A W → Linked (.int .i64 0) (S.set n (some (linkG n p))) h O w (.returned (.int .i64 0)) ((W.alloc (.cells #[.pointer (some ⟨b p, 0, none⟩), .pointer (some ⟨q, 0, none⟩), .int .i64 (gid n), .int .u64 1024, .int .i64 0, .int .u64 0, .bool false, .bool false] groupT)).setCell ⟨h, 2 + n, none⟩ (.pointer (some ⟨W.heap.size, 0, none⟩)))) := by
              refine Lib.hid fun q A W L => ?_
              have hn3 : (W.alloc (.cells #[.pointer (some ⟨b p, 0, none⟩), .pointer (some ⟨q, 0, none⟩), .int .i64 (gid n), .int .u64 1024, .int .i64 0, .int .u64 0, .bool false, .bool false] groupT)).heap[W.heap.size]? = some (.cells (cellsG (upd b n W.heap.size) (upd qb n q) n (linkG n p)) groupT (0, 0)) := by
                refine (heap_alloc_new W _).trans ?_
                unfold cellsG linkG
                simp [toG, upd, hpn]
              obtain ⟨K, s⟩ := L.k.link (fun k hk => Nat.lt_of_lt_of_le (HO.out k hk) L.s.size) hn n32 hup L.g L.Q (alloc1 W _) (by simp) hn3
              exact ⟨_, _, rfl, K, L.s.trans s⟩
            have TP : Hid (∀ A W q, LW w h O b qb S q A W → W.cell? ⟨h, 2 + n, none⟩ = some (.pointer none) ∧ W.frozen? ⟨h, 2 + n, none⟩ = false ∧ (∀ o, (W.alloc o).cell? ⟨h, 2 + n, none⟩ = some (.pointer none) ∧ (W.alloc o).frozen? ⟨h, 2 + n, none⟩ = false)) := Lib.hid fun A W q L => by
              have K := L.k.fresh L.g
              obtain ⟨_, _, c, f⟩ := K.top
              have c2 := c n n32
              rw [ptrG_none hn] at c2
              refine ⟨c2, f _, fun o => ?_⟩
              obtain ⟨_, _, c', f'⟩ := (K.fresh (alloc1 W o)).top
              have c3 := c' n n32
              rw [ptrG_none hn] at c3
              exact ⟨c3, f' _⟩
            rw [er0, hS]
            have hlt2 : (n : Int) < 32 := by omega
            have hge2 : (0 : Int) ≤ n := by omega
            clear CL er0 H hO hG e1 e2 hy f1 f2 hg0 hS hup hpn hn hgr
            generalize S.set n (some (linkG n p)) = S1 at *
            generalize dep p = d at *
            generalize gid n = gn at *
            go_enter Tryz.func29, Tryz.ntmps29
            go_wp2_with (first
              | (go_at_call 69; refine A1.out.mono ?_; rintro e w1 ⟨rfl, hg1⟩; clear A1)
              | (go_at_call 74; refine (IG.out _).mono ?_; rintro e w2 ⟨rfl, hg2⟩; replace hg2 := ft hg1 hg2)
              | (go_at_call 69; refine (A2.out _ hg2).mono ?_; rintro e w3 ⟨rfl, hg3⟩; replace hg3 := ft hg2 hg3)
              | (go_at_call 75; refine (DP.out _ hg3).mono ?_; rintro e w4 ⟨rfl, hg4⟩; replace hg4 := ft hg3 hg4))
            have KD := Lib.hid (K0.out.fresh (ft hg4 (drew_below w4)))
            have SD := Lib.hid (same_of HO.out (ft hg4 (drew_below w4)))
            have HD : Hid (∀ k, O k → k < w4.drew.heap.size) := Lib.hid fun k hk => Nat.lt_of_lt_of_le (HO.out k hk) hg4.size
            clear hg1 hg2 hg3 A2 DP IG
            go_region_held3 (fun _ => True) (exact trivial)
              (first
                | (go_at_call 38; refine (NW.out _).mono ?_; rintro e w5 ⟨q, hq, rfl, hg5, hQ⟩; have L5 : Hid (LW w h O b qb S q w4.drew w5) := Lib.hid ⟨KD.out, SD.out, hg5, hQ⟩; clear hg5 hQ hq)
                | (go_at_call 76; refine (ID.out _).mono ?_; rintro e w6 ⟨rfl, hg6⟩; have L6 : Hid (LW w h O b qb S q w4.drew w6) := Lib.hid (L5.out.fresh hg6); clear hg6 L5; obtain ⟨t1, t2, t3⟩ := TP.out _ _ _ L6.out; have t4 := t3 (.cells #[.pointer (some ⟨b p, 0, none⟩), .pointer (some ⟨q, 0, none⟩), .int .i64 gn, .int .u64 1024, .int .i64 0, .int .u64 0, .bool false, .bool false] groupT); obtain ⟨t5, t6⟩ := t4; clear t3)
                | (go_at_call 76; refine (ID.out _).mono ?_; rintro e w5 ⟨rfl, hg5⟩; have KE := Lib.hid (KD.out.fresh hg5); have SE := Lib.hid (SD.out.trans (same_of HD.out hg5)); clear hg5)
                | (go_at_call 38; refine (NW.out _).mono ?_; rintro e w6 ⟨q, hq, rfl, hg6, hQ⟩; have L6 : Hid (LW w h O b qb S q w5 w6) := Lib.hid ⟨KE.out, SE.out, hg6, hQ⟩; clear hg6 hQ hq; obtain ⟨t1, t2, t3⟩ := TP.out _ _ _ L6.out; have t4 := t3 (.cells #[.pointer (some ⟨b p, 0, none⟩), .pointer (some ⟨q, 0, none⟩), .int .i64 gn, .int .u64 1024, .int .i64 0, .int .u64 0, .bool false, .bool false] groupT); obtain ⟨t5, t6⟩ := t4; clear t3))
            all_goals
              go_wp2_with fail
              go_ret
              exact LK.out _ _ _ L6.out
      · have C := Lib.hid (CL.out 1 (by rw [er0, if_pos (by omega)]) (by omega))
        rw [decide_eq_false hgr] at IG
        clear CL er0 H hO hG e1 e2 hy hg0 K0 HO hgr
        generalize errLinkH S g p = er at *
        generalize linkH S g p = S1 at *
        go_enter Tryz.func29, Tryz.ntmps29
        go_wp2_with (first
          | (go_at_call 69; refine A1.out.mono ?_; rintro e w1 ⟨rfl, hg1⟩)
          | (go_at_call 74; refine (IG.out _).mono ?_; rintro e w2 ⟨rfl, hg2⟩; replace hg2 := ft hg1 hg2))
        go_ret; exact C.out _ hg2
  · rw [e2] at A1
    have C := Lib.hid (CL.out 1 (by unfold errLinkH; rw [e1]) (by omega))
    clear CL H hO hG IG e1 e2 K0 HO
    generalize errLinkH S g parent = er at *
    generalize linkH S g parent = S1 at *
    go_enter Tryz.func29, Tryz.ntmps29
    go_wp2_with (go_at_call 69; refine A1.out.mono ?_; rintro e w1 ⟨rfl, hg1⟩)
    go_ret; exact C.out _ hg1
end Go.Proofs.YtnnjbonejbmgdaaGreat.Hr

/- What Weigh of package hier does. Conditions: the queues are sound. -/
namespace Go.Proofs.YtnnjbonejbmgdaaGreat.Hr
open Go.ChangeShapes Go.WideShapes Go.ChangeAt Go.RowKit Tree Queue
set_option linter.unusedVariables false
set_option linter.unusedSimpArgs false
set_option maxRecDepth 100000

def badW (wt : Int) : Bool := decide (wt < 2) || decide (262144 < wt)
def errWeighH (S : Hs) (g wt : Int) : Int := match lnk S g with
  | none => 1
  | some _ => if badW wt then 4 else 0
def ownW (e : Ent) (wt : Int) : Ent := { e with wt := wt, rm := Wide.quo e.rm wt e.wt }
def weighH (S : Hs) (g wt : Int) : Hs := match lnk S g with
  | none => S
  | some x => if badW wt then S else if x.on then (match x.up with
    | none => S
    | some p => match S.g p with
      | none => S
      | some y => S.set p (some { y with q := weighS y.q (gid g.toNat) wt })) else S.set g.toNat (some { x with own := ownW x.own wt })
theorem quo_lt {rm wt owt : Int} (h1 : 2 ≤ wt) (h2 : wt ≤ 262144) (h3 : 2 ≤ owt) (h4 : 0 ≤ rm) (h5 : rm < owt) : 0 ≤ Wide.quo rm wt owt ∧ Wide.quo rm wt owt < wt := by
  unfold Wide.quo
  have hlt : rm * wt / owt < wt := by
    apply Int.ediv_lt_of_lt_mul (by omega)
    rw [Int.mul_comm wt]
    exact Int.mul_lt_mul_of_pos_right h5 (by omega)
  have h0 : 0 ≤ rm * wt / owt := Int.ediv_nonneg (Int.mul_nonneg (by omega) (by omega)) (by omega)
  rw [if_pos ⟨by omega, by omega⟩]
  exact ⟨h0, hlt⟩
theorem weighH_good {dep : Nat → Nat} {S : Hs} (hG : GoodD dep S) (g wt : Int) : GoodD dep (weighH S g wt) := by
  unfold weighH
  rcases lnk_cases S g with ⟨i, x, rfl, h0, hi, hx, e1, e2⟩ | ⟨e1, _⟩
  · rw [e1]
    simp only [Int.toNat_natCast]
    split
    · exact hG
    · rename_i hb
      have hb' : 2 ≤ wt ∧ wt ≤ 262144 := by simp [badW] at hb; omega
      split
      · split
        · exact hG
        · split
          · exact hG
          · rename_i y hy
            exact hG.weigh hy _ _ (by omega)
      · have ho := hG.own i x hx h0
        have hq := quo_lt hb'.1 hb'.2 ho.2.1 ho.2.2.2.1 ho.2.2.2.2.1
        exact hG.own_ hx fun _ => ⟨ho.1, hb'.1, hb'.2, hq.1, hq.2, ho.2.2.2.2.2⟩
  · rw [e1]; exact hG
theorem weigh_nil_ (w : World) (g wt : Int) : Calls Tryz.prog 34 #[.pointer none, .int .i64 g, .int .u64 wt] w (Is (.int .i64 1) w) := by
  have A := Lib.hid (fun w => linked_nil g w)
  go_enter Tryz.func34, Tryz.ntmps34
  go_wp2_with (go_at_call 62; refine (A.out _).mono ?_; rintro e w1 ⟨rfl, hg1⟩)
  go_ret; exact ⟨rfl, hg1⟩
set_option maxHeartbeats 4000000 in
theorem weigh_ (w : World) (h : Nat) (O : Nat → Prop) (b qb : Nat → Nat) (S : Hs) (H : Hb w h O b qb S) (hO : ∀ k, O k → k < w.heap.size) {dep : Nat → Nat} (hG : GoodD dep S) (g wt : Int) (hw : 0 ≤ wt) (hw2 : wt ≤ 18446744073709551615) :
    Calls Tryz.prog 34 #[.pointer (some ⟨h, 0, none⟩), .int .i64 g, .int .u64 wt] w (DidH (.int .i64 (errWeighH S g wt)) (weighH S g wt) h O b qb w) := by
  have A := Lib.hid (linked_ w h O b qb S H g)
  have HO := Lib.hid hO
  have K0 := Lib.hid H
  unfold errWeighH weighH
  rcases lnk_cases S g with ⟨i, x, rfl, h0, hi, hx, e1, e2⟩ | ⟨e1, e2⟩
  · rw [e1]
    rw [e2] at A
    simp only [Int.toNat_natCast]
    by_cases hb1 : wt < 2
    · rw [show badW wt = true by simp [badW, hb1]]
      simp only [if_true]
      have hb1' : decide (wt < 2) = true := by simpa using hb1
      clear hG hx e1 e2 H hO hb1
      go_enter Tryz.func34, Tryz.ntmps34
      go_wp2_with (go_at_call 62; refine A.out.mono ?_; rintro e w1 ⟨rfl, hg1⟩)
      go_ret; exact ⟨rfl, K0.out.fresh hg1, same_of HO.out hg1⟩
    · have hb1' : decide (wt < 2) = false := by simpa using hb1
      by_cases hb2 : 262144 < wt
      · rw [show badW wt = true by simp [badW, hb2]]
        simp only [if_true]
        have hb2' : decide (262144 < wt) = true := by simpa using hb2
        clear hG hx e1 e2 H hO
        go_enter Tryz.func34, Tryz.ntmps34
        go_wp2_with (go_at_call 62; refine A.out.mono ?_; rintro e w1 ⟨rfl, hg1⟩)
        go_ret; exact ⟨rfl, K0.out.fresh hg1, same_of HO.out hg1⟩
      · have hb2' : decide (262144 < wt) = false := by simpa using hb2
        rw [show badW wt = false by simp [badW]; omega]
        simp only [Bool.false_eq_true, if_false]
        have ho := hG.own i x hx h0
        by_cases hon' : ¬ x.on = true
        · rw [if_neg hon']
          have hon : x.on = false := by simpa using hon'
          clear hon'
          have GC : Hid (∀ w1, Hb w1 h O b qb S → w1.cell? ⟨b i, 6, none⟩ = some (.bool false) ∧ w1.cell? ⟨b i, 5, none⟩ = some (.int .u64 x.own.rm) ∧ w1.cell? ⟨b i, 3, none⟩ = some (.int .u64 x.own.wt) ∧ (∀ j, w1.frozen? ⟨b i, j, none⟩ = false) ∧ ¬ O (b i)) := Lib.hid fun w1 K => by
            obtain ⟨c0, c1, c2, c3, c4, c5, c6, c7, cf⟩ := K.cells hx
            rw [hon] at c6
            exact ⟨c6, c5, c3, cf, K.apart hx⟩
          have PU : Hid (∀ w1, Hb w1 h O b qb S → Hb ((w1.setCell ⟨b i, 5, none⟩ (.int .u64 (Wide.quo x.own.rm wt x.own.wt))).setCell ⟨b i, 3, none⟩ (.int .u64 wt)) h O b qb (S.set i (some { x with own := ownW x.own wt }))) := Lib.hid fun w1 K => by
            have k1 := K.put hx (x' := { x with own := { x.own with rm := Wide.quo x.own.rm wt x.own.wt } }) rfl 5 (.int .u64 (Wide.quo x.own.rm wt x.own.wt)) rfl
            have k2 := k1.put (Hs.set_same _ _ _) (x' := { x with own := ownW x.own wt }) rfl 3 (.int .u64 wt) rfl
            rw [set_set] at k2
            exact k2
          have MD := Lib.hid (fun w1 => Wide.mulDiv x.own.rm wt x.own.wt w1 (by have := ho.2; unfold OkE at this; unfold Wide.U64; omega) (by unfold Wide.U64; omega) (by have := ho.2; unfold OkE at this; unfold Wide.U64; omega))
          clear hG hx e1 e2 H hO ho hon
          generalize S.set i (some { x with own := ownW x.own wt }) = S1 at *
          generalize Wide.quo x.own.rm wt x.own.wt = qq at *
          generalize Wide.rst x.own.rm wt x.own.wt = rr at *
          generalize Wide.can x.own.rm wt x.own.wt = cc at *
          generalize x.own.rm = xrm at *
          generalize x.own.wt = xwt at *
          go_enter Tryz.func34, Tryz.ntmps34
          go_wp2_with (go_at_call 62; refine A.out.mono ?_; rintro e w1 ⟨rfl, hg1⟩; have K1 := Lib.hid (K0.out.fresh hg1); obtain ⟨c6, c5, c3, cf, nO⟩ := GC.out _ K1.out)
          have S1' := Lib.hid (same_of HO.out hg1)
          have HO1 : Hid (∀ k, O k → k < w1.heap.size) := Lib.hid fun k hk => Nat.lt_of_lt_of_le (HO.out k hk) hg1.size
          have cf5 := cf 5
          have cf3 := cf 3
          clear hg1 A c6 cf
          go_region_with (first
            | (go_at_call 84; refine (MD.out _).mono ?_; rintro e w2 ⟨rfl, hg2⟩; replace hg2 := undrew hg2; have K2 := Lib.hid (K1.out.fresh hg2); have S2' := Lib.hid (S1'.out.trans (same_of HO1.out hg2)); obtain ⟨d6, d5, d3, df, nO2⟩ := GC.out _ K2.out; have df5 := df 5; have df3 := df 3; clear hg2 df d6))
          all_goals
            have d3' : (w2.setCell ⟨b i, 5, none⟩ (.int .u64 qq)).cell? ⟨b i, 3, none⟩ = some (.int .u64 xwt) := by go_simp
            have f3' : (w2.setCell ⟨b i, 5, none⟩ (.int .u64 qq)).frozen? ⟨b i, 3, none⟩ = false := by go_simp
            go_wp2_with fail
            go_ret
            exact ⟨rfl, PU.out _ K2.out, (S2'.out.trans (Same.setCell (p := ⟨b i, 5, none⟩) nO _)).trans (Same.setCell (p := ⟨b i, 3, none⟩) nO _)⟩
        · have hon : x.on = true := by simpa using hon'
          rw [if_pos hon]
          clear hon'
          obtain ⟨p, y, f1, f2, f3⟩ := hG.out i x hx hon
          rw [f1]
          simp only [f2]
          have hsy := hG.q p y f2
          have hid := up_id hG hx h0
          have her : errWeigh y.q (gid i) wt = 0 := by
            unfold errWeigh
            rw [f3]
            simp only [if_true]
            exact Vrun.cerr_in (by omega) (by omega) (by omega) (by omega)
          obtain ⟨hne, _⟩ := hG.up_ne hx f1
          have hx' : (S.set p (some { y with q := weighS y.q (gid i) wt })).g i = some x := by rw [Hs.set_other _ _ (Ne.symm hne)]; exact hx
          have WG : Hid (∀ w1, Hb w1 h O b qb S → (∀ k, O k → k < w1.heap.size) → Calls Tryz.prog 83 #[.pointer (some ⟨qb p, 0, none⟩), .int .i64 (gid i), .int .u64 wt] w1
              (DidH (.int .i64 0) (S.set p (some { y with q := weighS y.q (gid i) wt })) h O b qb w1)) := by
            refine Lib.hid fun w1 K hk => ?_
            obtain ⟨Oq, q1, q2, q3, q4⟩ := K.que hk f2
            refine (weighs w1 (qb p) Oq y.q (gid i) wt q1 q2 hsy (by unfold I64; omega) hw).mono ?_
            rintro e w2 ⟨rfl, g1, g2⟩
            rw [her]
            exact ⟨rfl, q4 _ _ g1 g2, g2.mono q3⟩
          have GC : Hid (∀ w1, Hb w1 h O b qb S → w1.cell? ⟨b i, 6, none⟩ = some (.bool true) ∧ w1.cell? ⟨b i, 0, none⟩ = some (.pointer (some ⟨b p, 0, none⟩)) ∧ w1.cell? ⟨b p, 1, none⟩ = some (.pointer (some ⟨qb p, 0, none⟩)) ∧ w1.cell? ⟨b i, 2, none⟩ = some (.int .i64 (gid i))) := Lib.hid fun w1 K => by
            obtain ⟨c0, c1, c2, c3, c4, c5, c6, c7, cf⟩ := K.cells hx
            obtain ⟨_, d1, _⟩ := K.cells f2
            rw [hon] at c6
            rw [f1] at c0
            rw [hid.1] at c2
            exact ⟨c6, c0, d1, c2⟩
          have GC' : Hid (∀ w1, Hb w1 h O b qb (S.set p (some { y with q := weighS y.q (gid i) wt })) → w1.cell? ⟨b i, 0, none⟩ = some (.pointer (some ⟨b p, 0, none⟩)) ∧ w1.cell? ⟨b p, 1, none⟩ = some (.pointer (some ⟨qb p, 0, none⟩)) ∧ w1.cell? ⟨b i, 2, none⟩ = some (.int .i64 (gid i))) := Lib.hid fun w1 K => by
            obtain ⟨c0, c1, c2, c3, c4, c5, c6, c7, cf⟩ := K.cells hx'
            obtain ⟨_, d1, _⟩ := K.cells (Hs.set_same _ _ _)
            rw [f1] at c0
            rw [hid.1] at c2
            exact ⟨c0, d1, c2⟩
          clear hG hx e1 e2 H hO ho hon hx' her hid hsy f1 f2 f3 hne
          generalize S.set p (some { y with q := weighS y.q (gid i) wt }) = S1 at *
          generalize gid i = gi at *
          go_enter Tryz.func34, Tryz.ntmps34
          go_wp2_with (go_at_call 62; refine A.out.mono ?_; rintro e w1 ⟨rfl, hg1⟩; have K1 := Lib.hid (K0.out.fresh hg1); obtain ⟨c6, c0, c1, c2⟩ := GC.out _ K1.out)
          have S1' := Lib.hid (same_of HO.out (ft hg1 (drew_below w1)))
          have HO1 : Hid (∀ k, O k → k < w1.drew.heap.size) := Lib.hid fun k hk => Nat.lt_of_lt_of_le (HO.out k hk) hg1.size
          clear hg1 A c6
          go_region_held3 (fun w' => w'.cell? ⟨b i, 0, none⟩ = some (.pointer (some ⟨b p, 0, none⟩)) ∧ w'.cell? ⟨b p, 1, none⟩ = some (.pointer (some ⟨qb p, 0, none⟩)) ∧ w'.cell? ⟨b i, 2, none⟩ = some (.int .i64 gi)) (first | exact ⟨c0, c1, c2⟩ | exact ⟨l0, l1, l2⟩)
            (first
              | (go_at_call 83; refine (WG.out _ (K1.out.fresh (drew_below _)) HO1.out).mono ?_; rintro e w2 ⟨rfl, K2, s2⟩; obtain ⟨l0, l1, l2⟩ := GC'.out _ K2; have K2 := Lib.hid K2))
          go_wp2_with fail
          go_ret
          exact ⟨rfl, K2.out, S1'.out.trans s2⟩
  · rw [e1]
    rw [e2] at A
    clear hG e1 e2 H hO
    go_enter Tryz.func34, Tryz.ntmps34
    go_wp2_with (go_at_call 62; refine A.out.mono ?_; rintro e w1 ⟨rfl, hg1⟩)
    go_ret; exact ⟨rfl, K0.out.fresh hg1, same_of HO.out hg1⟩
end Go.Proofs.YtnnjbonejbmgdaaGreat.Hr

/- The calls of package hier, as a caller's law sees them. Conditions: the queues are sound. -/
namespace Go.Proofs.YtnnjbonejbmgdaaGreat.Hr
open Go.ChangeShapes Go.WideShapes Go.ChangeAt Go.RowKit Tree Queue
set_option linter.unusedVariables false
set_option linter.unusedSimpArgs false
set_option maxRecDepth 100000

theorem putH_good {dep : Nat → Nat} {S : Hs} (hG : GoodD dep S) (g : Int) {e : Ent} (hv : I64 e.v) (hr : 0 ≤ e.rm) : GoodD dep (putH S g e) := by
  unfold putH
  rcases grp_cases S g with ⟨i, x, rfl, hi, hx, e1, _⟩ | ⟨e1, _⟩
  · rw [e1]
    simp only [Int.toNat_natCast]
    split
    · rename_i hh
      exact (hG.put hx hh.2 (by show 0 ≤ 2 * e.id; omega) (by show 2 * e.id < 128; omega) (by show (2 * e.id) % 2 = 0; omega) hv hr).settle 9 i
    · exact hG
  · rw [e1]; exact hG
theorem dropH_good {dep : Nat → Nat} {S : Hs} (hG : GoodD dep S) (g n : Int) : GoodD dep (dropH S g n) := by
  unfold dropH
  rcases grp_cases S g with ⟨i, x, rfl, hi, hx, e1, _⟩ | ⟨e1, _⟩
  · rw [e1]
    simp only [Int.toNat_natCast]
    split
    · rename_i hh
      exact (hG.drop hx hh.2 (by omega)).settle 9 i
    · exact hG
  · rw [e1]; exact hG
theorem niceH_good {dep : Nat → Nat} {S : Hs} (hG : GoodD dep S) (g n : Int) {wt : Int} (hw : 0 ≤ wt) : GoodD dep (niceH S g n wt) := by
  unfold niceH
  rcases grp_cases S g with ⟨i, x, rfl, hi, hx, e1, _⟩ | ⟨e1, _⟩
  · rw [e1]
    simp only [Int.toNat_natCast]
    split
    · exact hG.weigh hx _ _ hw
    · exact hG
  · rw [e1]; exact hG
theorem stopH_good {dep : Nat → Nat} {S : Hs} (hG : GoodD dep S) (g : Int) (is : Bool) : GoodD dep (stopH S g is) := by
  unfold stopH
  rcases lnk_cases S g with ⟨i, x, rfl, _, hi, hx, e1, _⟩ | ⟨e1, _⟩
  · rw [e1]
    simp only [Int.toNat_natCast]
    exact (hG.halt_ hx is).settle 9 i
  · rw [e1]; exact hG
theorem pickS_good {dep : Nat → Nat} {S : Hs} (hG : GoodD dep S) : GoodD dep (pickS S) := GoodD.walk (asks_pick S.gr) 9 0 hG
theorem linkH_good {S : Hs} (hG : Good S) (g p : Int) : Good (linkH S g p) := by
  obtain ⟨dep, hG⟩ := hG
  unfold linkH
  split
  · rename_i hz
    unfold errLinkH at hz
    rcases grp_cases S p with ⟨i, y, rfl, hi, hy, e1, _⟩ | ⟨e1, _⟩
    · rw [e1] at hz
      simp only [Int.toNat_natCast] at hz
      split at hz
      · cases hz
      · rename_i hg
        split at hz
        · cases hz
        · rename_i hs
          split at hz
          · cases hz
          · rename_i hd
            have hg' : 1 ≤ g ∧ g < 32 := Classical.not_not.1 hg
            rw [hG.depth 9 hy (by have := hG.deep i y hy; omega)] at hd
            have hn : S.g g.toNat = none := by
              unfold grp at hs
              rw [if_pos (by omega)] at hs
              simpa using hs
            rw [Int.toNat_natCast]
            exact ⟨_, hG.link_ hn (by omega) (by omega) hy (by omega)⟩
    · rw [e1] at hz; cases hz
  · exact ⟨dep, hG⟩
/-- Queues that a law holds. -/
def Lw (h : Nat) (O : Nat → Prop) (S : Hs) (W : World) : Prop := (∃ b qb, Hb W h O b qb S) ∧ (∀ k, O k → k < W.heap.size)
def DidL (v : Value) (S : Hs) (h : Nat) (O : Nat → Prop) (w : World) (e : Ending) (w' : World) : Prop := e = .returned v ∧ Lw h O S w' ∧ Same O w w'
section
variable {w w' : World} {h : Nat} {O : Nat → Prop} {S : Hs}
theorem Lw.fresh (L : Lw h O S w) (hg : Below w.heap.size w w') : Lw h O S w' := ⟨L.1.imp fun b K => K.imp fun qb K => K.fresh hg, fun k hk => Nat.lt_of_lt_of_le (L.2 k hk) hg.size⟩
theorem Lw.away (L : Lw h O S w) {p : Addr} (hp : O p.block) (u : Value) : Lw h O S (w.setCell p u) := ⟨L.1.imp fun b K => K.imp fun qb K => K.away hp u, fun k hk => by rw [size_setCell]; exact L.2 k hk⟩
theorem Lw.other (L : Lw h O S w) {O' : Nat → Prop} (hO : ∀ k, O' k → O k ∨ w.heap.size ≤ k) (hO2 : ∀ k, O' k → k < w.heap.size) : Lw h O' S w := ⟨L.1.imp fun b K => K.imp fun qb K => K.other hO, hO2⟩
theorem DidL.of {v : Value} {b qb : Nat → Nat} {S' : Hs} (hO : ∀ k, O k → k < w.heap.size) {e : Ending} (D : DidH v S' h O b qb w e w') : DidL v S' h O w e w' :=
  ⟨D.1, ⟨⟨b, qb, D.2.1⟩, fun k hk => Nat.lt_of_lt_of_le (hO k hk) D.2.2.size⟩, D.2.2⟩
theorem Lput (L : Lw h O S w) (hG : Good S) (g : Int) (e : Ent) (hv : I64 e.v) (hw : 0 ≤ e.wt) (hr : 0 ≤ e.rm) : Calls Tryz.prog 32 #[.pointer (some ⟨h, 0, none⟩), .int .i64 g, e.val] w (DidL (.int .i64 (errPutH S g e)) (putH S g e) h O w) := by
  obtain ⟨⟨b, qb, K⟩, hO⟩ := L
  obtain ⟨dep, hG⟩ := hG
  exact (put_ w h O b qb S K hO hG g e hv hw hr).mono fun _ _ D => DidL.of hO D
theorem Ldrop (L : Lw h O S w) (hG : Good S) (g n : Int) : Calls Tryz.prog 28 #[.pointer (some ⟨h, 0, none⟩), .int .i64 g, .int .i64 n] w (DidL (.tuple #[(dropE S g n).val, .int .i64 (errDropH S g n)]) (dropH S g n) h O w) := by
  obtain ⟨⟨b, qb, K⟩, hO⟩ := L
  obtain ⟨dep, hG⟩ := hG
  exact (drop_ w h O b qb S K hO hG g n).mono fun _ _ D => DidL.of hO D
theorem Lnice (L : Lw h O S w) (hG : Good S) (g n wt : Int) (hw : 0 ≤ wt) : Calls Tryz.prog 33 #[.pointer (some ⟨h, 0, none⟩), .int .i64 g, .int .i64 n, .int .u64 wt] w (DidL (.int .i64 (errNiceH S g n wt)) (niceH S g n wt) h O w) := by
  obtain ⟨⟨b, qb, K⟩, hO⟩ := L
  obtain ⟨dep, hG⟩ := hG
  exact (nice_ w h O b qb S K hO hG g n wt hw).mono fun _ _ D => DidL.of hO D
theorem Lstop (L : Lw h O S w) (hG : Good S) (g : Int) (is : Bool) : Calls Tryz.prog 35 #[.pointer (some ⟨h, 0, none⟩), .int .i64 g, .bool is] w (DidL (.int .i64 (errL S g)) (stopH S g is) h O w) := by
  obtain ⟨⟨b, qb, K⟩, hO⟩ := L
  obtain ⟨dep, hG⟩ := hG
  exact (stop_ w h O b qb S K hO hG g is).mono fun _ _ D => DidL.of hO D
theorem Lweigh (L : Lw h O S w) (hG : Good S) (g wt : Int) (hw : 0 ≤ wt) (hw2 : wt ≤ 18446744073709551615) : Calls Tryz.prog 34 #[.pointer (some ⟨h, 0, none⟩), .int .i64 g, .int .u64 wt] w (DidL (.int .i64 (errWeighH S g wt)) (weighH S g wt) h O w) := by
  obtain ⟨⟨b, qb, K⟩, hO⟩ := L
  obtain ⟨dep, hG⟩ := hG
  exact (weigh_ w h O b qb S K hO hG g wt hw hw2).mono fun _ _ D => DidL.of hO D
theorem Lpick (L : Lw h O S w) (hG : Good S) : Calls Tryz.prog 36 #[.pointer (some ⟨h, 0, none⟩)] w (DidL (.int .i64 (pickN S)) (pickS S) h O w) := by
  obtain ⟨⟨b, qb, K⟩, hO⟩ := L
  obtain ⟨dep, hG⟩ := hG
  exact (pick_ w h O b qb S K hO hG).mono fun _ _ D => DidL.of hO D
theorem Lyield (L : Lw h O S w) (hG : Good S) : Calls Tryz.prog 37 #[.pointer (some ⟨h, 0, none⟩)] w (DidL (.int .i64 (pickN (yieldS S))) (pickS (yieldS S)) h O w) := by
  obtain ⟨⟨b, qb, K⟩, hO⟩ := L
  obtain ⟨dep, hG⟩ := hG
  exact (yield_ w h O b qb S K hO hG).mono fun _ _ D => DidL.of hO D
theorem Lrunning (L : Lw h O S w) (hG : Good S) : Calls Tryz.prog 17 #[.pointer (some ⟨h, 0, none⟩)] w (DidL (.int .i64 (runS S)) S h O w) := by
  obtain ⟨⟨b, qb, K⟩, hO⟩ := L
  obtain ⟨dep, hG⟩ := hG
  exact (running_ w h O b qb S K hO hG).mono fun _ _ D => DidL.of hO D
theorem Lcharge (L : Lw h O S w) (hG : Good S) (ns : Int) (hn : 0 ≤ ns) : Calls Tryz.prog 22 #[.pointer (some ⟨h, 0, none⟩), .int .u64 ns] w (DidL (.int .i64 (errChargeH S ns)) (chargeH S ns) h O w) := by
  obtain ⟨⟨b, qb, K⟩, hO⟩ := L
  obtain ⟨dep, hG⟩ := hG
  exact (charge_ w h O b qb S K hO hG ns hn).mono fun _ _ D => DidL.of hO D
theorem Llink (L : Lw h O S w) (hG : Good S) (g p : Int) : Calls Tryz.prog 29 #[.pointer (some ⟨h, 0, none⟩), .int .i64 g, .int .i64 p] w (DidL (.int .i64 (errLinkH S g p)) (linkH S g p) h O w) := by
  obtain ⟨⟨b, qb, K⟩, hO⟩ := L
  obtain ⟨dep, hG⟩ := hG
  exact (link_ w h O b qb S K hO hG g p).mono fun _ _ ⟨b', qb', D⟩ => DidL.of hO D
theorem Lmin (L : Lw h O S w) (g : Int) : Calls Tryz.prog 26 #[.pointer (some ⟨h, 0, none⟩), .int .i64 g] w (Is (.int .i64 (minS S g)) w) := by
  obtain ⟨⟨b, qb, K⟩, hO⟩ := L
  exact min_ w h O b qb S K g
theorem Lon (L : Lw h O S w) (g : Int) : Calls Tryz.prog 20 #[.pointer (some ⟨h, 0, none⟩), .int .i64 g] w (Is (.bool (onS S g)) w) := by
  obtain ⟨⟨b, qb, K⟩, hO⟩ := L
  exact on_ w h O b qb S K g
theorem Lstopped (L : Lw h O S w) (g : Int) : Calls Tryz.prog 21 #[.pointer (some ⟨h, 0, none⟩), .int .i64 g] w (Is (.bool (haltS S g)) w) := by
  obtain ⟨⟨b, qb, K⟩, hO⟩ := L
  exact stopped_ w h O b qb S K g
theorem Lload (L : Lw h O S w) (hG : Good S) (g : Int) : Calls Tryz.prog 19 #[.pointer (some ⟨h, 0, none⟩), .int .i64 g] w (Is (.int .u64 (loadS S g)) w) := by
  obtain ⟨⟨b, qb, K⟩, hO⟩ := L
  obtain ⟨dep, hG⟩ := hG
  exact load_ w h O b qb S K hG.q g
theorem Lents (L : Lw h O S w) (hG : Good S) (g : Int) : Calls Tryz.prog 18 #[.pointer (some ⟨h, 0, none⟩), .int .i64 g] w (Queue.Told (entsS S g) w) := by
  obtain ⟨⟨b, qb, K⟩, hO⟩ := L
  obtain ⟨dep, hG⟩ := hG
  exact ents_ w h O b qb S K hG.q g
end
/-- What New makes, for a law. -/
def BornL (S : Hs) (w : World) (e : Ending) (w' : World) : Prop := ∃ h, w.heap.size ≤ h ∧ e = .returned (.pointer (some ⟨h, 0, none⟩)) ∧ Below w.heap.size w w' ∧ h < w'.heap.size ∧ ∀ O : Nat → Prop, (∀ k, O k → k < w.heap.size) → Lw h O S w'
theorem Lnew (w : World) (cr gr : Int) : Calls Tryz.prog 10 #[.int .i64 cr, .int .i64 gr] w (BornL (newS cr gr) w) := by
  refine (new_ w cr gr).mono ?_
  rintro e w' ⟨h, b, qb, h1, rfl, h2, h3⟩
  exact ⟨h, h1, rfl, h2, (h3 (fun _ => False) (fun _ e => e.elim)).lt, fun O hO => ⟨⟨b, qb, h3 O hO⟩, fun k hk => Nat.lt_of_lt_of_le (hO k hk) h2.size⟩⟩
theorem goodOf {S : Hs} {dep : Nat → Nat} (h : GoodD dep S) : Good S := ⟨dep, h⟩
theorem Good.put {S : Hs} (h : Good S) (g : Int) {e : Ent} (hv : I64 e.v) (hr : 0 ≤ e.rm) : Good (putH S g e) := h.imp fun _ h => putH_good h g hv hr
theorem Good.drop {S : Hs} (h : Good S) (g n : Int) : Good (dropH S g n) := h.imp fun _ h => dropH_good h g n
theorem Good.stop {S : Hs} (h : Good S) (g : Int) (is : Bool) : Good (stopH S g is) := h.imp fun _ h => stopH_good h g is
theorem Good.weigh {S : Hs} (h : Good S) (g wt : Int) : Good (weighH S g wt) := h.imp fun _ h => weighH_good h g wt
theorem Good.pick {S : Hs} (h : Good S) : Good (pickS S) := h.imp fun _ h => pickS_good h
theorem Good.yield {S : Hs} (h : Good S) : Good (yieldS S) := h.imp fun _ h => yieldS_good h
theorem Good.charge {S : Hs} (h : Good S) {ns : Int} (hn : 0 ≤ ns) : Good (chargeH S ns) := h.imp fun _ h => chargeH_good h hn
end Go.Proofs.YtnnjbonejbmgdaaGreat.Hr

/- That the laws' small example works. Conditions: none. -/
namespace Go.Proofs.YtnnjbonejbmgdaaGreat.Hr
open Go.ChangeShapes Go.WideShapes Go.ChangeAt Go.RowKit Tree Queue
set_option linter.unusedVariables false
set_option linter.unusedSimpArgs false
set_option maxRecDepth 100000

abbrev IsTrue (w : World) (e : Ending) (w' : World) : Prop := e = .returned (.bool true) ∧ Below w.heap.size w w'
def aw0 : Hs := newS 0 0
def aw1 : Hs := linkH aw0 1 0
def aw2 : Hs := putH aw1 0 ⟨0, 1024, 0, 0⟩
def aw3 : Hs := putH aw2 1 ⟨1, 1024, 0, 0⟩
def aw4 : Hs := pickS aw3
def aw5 : Hs := chargeH aw4 9
def aw6 : Hs := pickS aw5
theorem aw_l : errLinkH aw0 1 0 = 0 := by decide +kernel
theorem aw_p : errPutH aw1 0 ⟨0, 1024, 0, 0⟩ = 0 := by decide +kernel
theorem aw_q : errPutH aw2 1 ⟨1, 1024, 0, 0⟩ = 0 := by decide +kernel
theorem aw_n : pickN aw3 = 0 := by decide +kernel
theorem aw_c : errChargeH aw4 9 = 0 := by decide +kernel
theorem aw_m : pickN aw5 = 1 := by decide +kernel
theorem aw_o : onS aw6 1 = true := by decide +kernel
theorem aw_r : runS aw6 = 1 := by decide +kernel
theorem ag0 : Good aw0 := ⟨_, newS_good (by unfold I64; omega) (by unfold I64; omega)⟩
theorem ag1 : Good aw1 := linkH_good ag0 1 0
theorem ag2 : Good aw2 := ag1.put 0 (by unfold I64; simp) (by simp)
theorem ag3 : Good aw3 := ag2.put 1 (by unfold I64; simp) (by simp)
theorem ag4 : Good aw4 := ag3.pick
theorem ag5 : Good aw5 := ag4.charge (by omega)
theorem ag6 : Good aw6 := ag5.pick
set_option maxHeartbeats 4000000 in
theorem awake (w : World) : Calls Tryz.prog 9 #[] w (IsTrue w) := by
  have N : Hid (Calls Tryz.prog 10 #[.int .i64 0, .int .i64 0] w (BornL aw0 w)) := Lib.hid (Lnew w 0 0)
  have LK : Hid (∀ w' h, Lw h (· < w.heap.size) aw0 w' → Calls Tryz.prog 29 #[.pointer (some ⟨h, 0, none⟩), .int .i64 1, .int .i64 0] w' (DidL (.int .i64 0) aw1 h (· < w.heap.size) w')) := Lib.hid fun w' h L => by
    have := Llink L ag0 1 0
    rw [aw_l] at this
    exact this
  have P1 : Hid (∀ w' h, Lw h (· < w.heap.size) aw1 w' → Calls Tryz.prog 32 #[.pointer (some ⟨h, 0, none⟩), .int .i64 0, .agg #[.int .i64 0, .int .u64 1024, .int .i64 0, .int .u64 0]] w' (DidL (.int .i64 0) aw2 h (· < w.heap.size) w')) := Lib.hid fun w' h L => by
    have := Lput L ag1 0 ⟨0, 1024, 0, 0⟩ (by unfold I64; simp) (by simp) (by simp)
    rw [aw_p] at this
    exact this
  have P2 : Hid (∀ w' h, Lw h (· < w.heap.size) aw2 w' → Calls Tryz.prog 32 #[.pointer (some ⟨h, 0, none⟩), .int .i64 1, .agg #[.int .i64 1, .int .u64 1024, .int .i64 0, .int .u64 0]] w' (DidL (.int .i64 0) aw3 h (· < w.heap.size) w')) := Lib.hid fun w' h L => by
    have := Lput L ag2 1 ⟨1, 1024, 0, 0⟩ (by unfold I64; simp) (by simp) (by simp)
    rw [aw_q] at this
    exact this
  have K1 : Hid (∀ w' h, Lw h (· < w.heap.size) aw3 w' → Calls Tryz.prog 36 #[.pointer (some ⟨h, 0, none⟩)] w' (DidL (.int .i64 0) aw4 h (· < w.heap.size) w')) := Lib.hid fun w' h L => by
    have := Lpick L ag3
    rw [aw_n] at this
    exact this
  have C : Hid (∀ w' h, Lw h (· < w.heap.size) aw4 w' → Calls Tryz.prog 22 #[.pointer (some ⟨h, 0, none⟩), .int .u64 9] w' (DidL (.int .i64 0) aw5 h (· < w.heap.size) w')) := Lib.hid fun w' h L => by
    have := Lcharge L ag4 9 (by omega)
    rw [aw_c] at this
    exact this
  have K2 : Hid (∀ w' h, Lw h (· < w.heap.size) aw5 w' → Calls Tryz.prog 36 #[.pointer (some ⟨h, 0, none⟩)] w' (DidL (.int .i64 1) aw6 h (· < w.heap.size) w')) := Lib.hid fun w' h L => by
    have := Lpick L ag5
    rw [aw_m] at this
    exact this
  have RU : Hid (∀ w' h, Lw h (· < w.heap.size) aw6 w' → Calls Tryz.prog 17 #[.pointer (some ⟨h, 0, none⟩)] w' (DidL (.int .i64 1) aw6 h (· < w.heap.size) w')) := Lib.hid fun w' h L => by
    have := Lrunning L ag6
    rw [aw_r] at this
    exact this
  have ON : Hid (∀ w' h, Lw h (· < w.heap.size) aw6 w' → Calls Tryz.prog 20 #[.pointer (some ⟨h, 0, none⟩), .int .i64 1] w' (Is (.bool true) w')) := Lib.hid fun w' h L => by
    have := Lon L 1
    rw [aw_o] at this
    exact this
  generalize aw0 = s0 at *
  generalize aw1 = s1 at *
  generalize aw2 = s2 at *
  generalize aw3 = s3 at *
  generalize aw4 = s4 at *
  generalize aw5 = s5 at *
  generalize aw6 = s6 at *
  go_enter Tryz.func9, Tryz.ntmps9
  go_wp2_with (first
    | (go_at_call 10; refine N.out.mono ?_; rintro e w1 ⟨h, hh, rfl, hg1, hlt, hL⟩; have L0 := Lib.hid (hL (· < w.heap.size) (fun k hk => hk)); have S0 : Hid (Same (· < w.heap.size) w w1) := Lib.hid (Same.of hg1 (fun k hk => hk)); clear hL hg1)
    | (go_at_call 29; refine (LK.out _ _ L0.out).mono ?_; rintro e w2 ⟨rfl, L1, q1⟩; have L1 := Lib.hid L1; have S1 := Lib.hid (S0.out.trans q1); clear q1)
    | (go_at_call 32; refine (P1.out _ _ L1.out).mono ?_; rintro e w3 ⟨rfl, L2, q2⟩; have L2 := Lib.hid L2; have S2 := Lib.hid (S1.out.trans q2); clear q2 L1)
    | (go_at_call 32; refine (P2.out _ _ L2.out).mono ?_; rintro e w4 ⟨rfl, L3, q3⟩; have L3 := Lib.hid L3; have S3 := Lib.hid (S2.out.trans q3); clear q3)
    | (go_at_call 36; refine (K1.out _ _ L3.out).mono ?_; rintro e w5 ⟨rfl, L4, q4⟩; have L4 := Lib.hid L4; have S4 := Lib.hid (S3.out.trans q4); clear q4 L3)
    | (go_at_call 22; refine (C.out _ _ L4.out).mono ?_; rintro e w6 ⟨rfl, L5, q5⟩; have L5 := Lib.hid L5; have S5 := Lib.hid (S4.out.trans q5); clear q5)
    | (go_at_call 36; refine (K2.out _ _ L5.out).mono ?_; rintro e w7 ⟨rfl, L6, q6⟩; have L6 := Lib.hid L6; have S6 := Lib.hid (S5.out.trans q6); clear q6 L5)
    | (go_at_call 20; refine (ON.out _ _ L6.out).mono ?_; rintro e w8 ⟨rfl, hg8⟩; have L7 := Lib.hid (L6.out.fresh hg8); have S7 := Lib.hid (S6.out.trans (Same.of hg8 L6.out.2)); clear hg8)
    | (go_at_call 17; refine (RU.out _ _ L7.out).mono ?_; rintro e w9 ⟨rfl, L8, q8⟩; have S8 := Lib.hid (S7.out.trans q8); clear q8))
  go_ret
  exact ⟨rfl, S8.out.below⟩
end Go.Proofs.YtnnjbonejbmgdaaGreat.Hr
