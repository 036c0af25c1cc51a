/- What walk and Walk of package rbtree answer. Conditions: the nodes lie apart from the row that is filled. -/
import Derived.Test.YtdigakgfehaabaaQueueMem
import Derived.Deep.RegionHeld3
import Derived.Deep.AppendLies
namespace Go.Proofs.Ytdigakgfehaabaa.Queue
open Go.ChangeShapes Go.WideShapes Go.ChangeAt Go.RowKit Tree
set_option linter.unusedVariables false
set_option linter.unusedSimpArgs false
set_option maxRecDepth 100000

def cellsK : List Ky → List Value
  | [] => []
  | k :: l => .int .i64 k.1 :: .int .i64 k.2 :: cellsK l
theorem cellsK_append (a b : List Ky) : cellsK (a ++ b) = cellsK a ++ cellsK b := by
  induction a with
  | nil => rfl
  | cons k l ih => simp [cellsK, ih]
/-- A row in memory that lies in no block of O. -/
def Row (w : World) (O : Nat → Prop) (e : TypeId) (size : Nat) (v : Value) (n : Nat) (xs : List Value) : Prop := w.ownsRow 0 e size v n xs ∧ ∀ k, v.ownBlock = some k → ¬ O k
section
variable {w w' : World} {O : Nat → Prop} {e : TypeId} {size : Nat} {v : Value} {n : Nat} {xs : List Value}
theorem Row.lt (h : Row w O e size v n xs) {k : Nat} (hk : v.ownBlock = some k) : k < w.heap.size := (h.1.lt k hk).2
theorem Row.on (h : Row w O e size v n xs) (hb : ∀ k, v.ownBlock = some k → w'.heap[k]? = w.heap[k]?) : Row w' O e size v n xs := by
  refine ⟨⟨h.1.1, ?_⟩, h.2⟩
  rcases h.1.2 with h1 | ⟨g, cap, cur, rfl, h0, hg, h1⟩
  · exact .inl h1
  · exact .inr ⟨g, cap, cur, rfl, h0, by rw [hb g rfl, hg], h1⟩
theorem Row.fresh (h : Row w O e size v n xs) (hb : Below w.heap.size w w') : Row w' O e size v n xs := h.on fun k hk => hb.block k (h.lt hk)
theorem Row.other (h : Row w O e size v n xs) {O' : Nat → Prop} (hb : ∀ k, v.ownBlock = some k → ¬ O' k) : Row w O' e size v n xs := ⟨h.1, hb⟩
end
theorem Same.app {w w2 w4 : World} {O O' : Nat → Prop} {o : Obj} {e : TypeId} {size n : Nat} {v2 : Value} {xs : List Value} (h : Same O w w2) (hO : ∀ k, O k → k < w.heap.size) (hr : Row w2 O' e size v2 n xs) (hOO : ∀ k, O k → O' k) (hg : (w2.alloc o).grownBy w4 v2.ownBlock) : Same O w w4 := by
  have hb := (Below.refl w2.heap.size w2).alloc (Nat.le_refl _) o
  refine ⟨hg.os.trans h.os, hg.tape.trans h.tape, hg.output.trans h.output, Nat.le_trans h.size (Nat.le_trans hb.size hg.size), fun k hk => ?_⟩
  have hk2 : k < w2.heap.size := Nat.lt_of_lt_of_le (hO k hk) h.size
  rw [hg.block k (Nat.lt_of_lt_of_le hk2 hb.size) (fun e => hr.2 k e.symm (hOO k hk)), hb.block k hk2, h.block k hk]
theorem Same.app0 {w w2 w4 : World} {O O' : Nat → Prop} {e : TypeId} {size n : Nat} {v2 : Value} {xs : List Value} (h : Same O w w2) (hO : ∀ k, O k → k < w.heap.size) (hr : Row w2 O' e size v2 n xs) (hOO : ∀ k, O k → O' k) (hg : w2.grownBy w4 v2.ownBlock) : Same O w w4 := by
  refine ⟨hg.os.trans h.os, hg.tape.trans h.tape, hg.output.trans h.output, Nat.le_trans h.size hg.size, fun k hk => ?_⟩
  rw [hg.block k (Nat.lt_of_lt_of_le (hO k hk) h.size) (fun e => hr.2 k e.symm (hOO k hk)), h.block k hk]
theorem row_of {w w2 w4 : World} {O : Nat → Prop} {e : TypeId} {size n cap g : Nat} {v2 : Value} {xs : List Value} (hO : ∀ k, O k → k < w.heap.size) (hs : w.heap.size ≤ w2.heap.size) (hown : w4.ownsRow 0 e size (.slice (some ⟨g, 0, none⟩) n cap) n xs) (h1 : O g → v2.ownBlock = some g → False) (hat : v2.ownBlock = some g ∨ w2.heap.size ≤ g) :
    Row w4 O e size (.slice (some ⟨g, 0, none⟩) n cap) n xs := by
  refine ⟨hown, fun k hk e => ?_⟩
  simp [Value.ownBlock] at hk
  subst hk
  rcases hat with h | h
  · exact h1 e h
  · have := hO _ e; omega
/-- A row told, and what was held apart from it. -/
def Fills (O : Nat → Prop) (n : Nat) (xs : List Value) (w : World) (e : Ending) (w' : World) : Prop := ∃ v', e = .returned v' ∧ Row w' O 76 2 v' n xs ∧ Same O w w'
theorem infoK : (Try.prog.info? 76).map (fun i => (i.zero, i.size, i.bytes)) = some (some (.agg #[.int .i64 0, .int .i64 0]), 2, 16) := by kernel_rfl

theorem walk_nil (w : World) (v : Value) : Calls Try.prog 85 #[.pointer none, v] w (fun e w' => e = .returned v ∧ w = w') := by
  go_enter Try.func85, Try.ntmps85
  go_wp2_with fail
  go_ret; exact ⟨rfl, rfl⟩
set_option maxHeartbeats 4000000 in
theorem walks (T : Tr) : ∀ (w : World) (O : Nat → Prop) (v : Value) (n : Nat) (xs : List Value), In w T → (∀ b ∈ T.bl, O b) → (∀ k, O k → k < w.heap.size) → Row w O 76 2 v n xs → n + T.keys.length ≤ 1000 →
    Calls Try.prog 85 #[.pointer T.at, v] w (Fills O (n + T.keys.length) (xs ++ cellsK T.keys) w) := by
  induction T with
  | nil =>
    intro w O v n xs _ _ _ hr _
    refine (walk_nil w v).mono ?_
    rintro e w' ⟨rfl, rfl⟩
    exact ⟨v, rfl, by simpa [Tr.keys, cellsK] using hr, Same.refl _ _⟩
  | node b c l kv ki r ihl ihr =>
    intro w O v n xs h hb hO hr hn
    have hbl : O b := hb b (by simp [Tr.bl])
    have hl : ∀ k ∈ l.bl, O k := fun k hk => hb k (by simp [Tr.bl, hk])
    have hrr : ∀ k ∈ r.bl, O k := fun k hk => hb k (by simp [Tr.bl, hk])
    simp only [Tr.keys, List.length_append, List.length_cons] at hn
    obtain ⟨a0, a1, a2, a3, a4, af⟩ := h.1.cells
    obtain ⟨i0, hi, hz0, hz1, hz2⟩ := info_parts infoK
    have hbs := h.1.lt
    have LG : Hid (∀ w' (O' : Nat → Prop), (In w' l ∧ (∀ k ∈ l.bl, O' k) ∧ (∀ k, O' k → k < w'.heap.size) ∧ Row w' O' 76 2 v n xs ∧ (∀ k, O k → O' k) ∧ Same O w w') → Calls Try.prog 85 #[.pointer l.at, v] w' (fun e w2 => ∃ v2, e = .returned v2 ∧ (Row w2 O' 76 2 v2 (n + l.keys.length) (xs ++ cellsK l.keys) ∧ Same O w w2 ∧ (∀ k, O' k → w2.heap[k]? = w'.heap[k]?) ∧ ∀ k, O' k → O k ∨ k < w'.heap.size))) := by
      rintro w' O' ⟨c1, c2, c3, c4, c5, c6⟩
      refine (ihl w' O' v n xs c1 c2 c3 c4 (by omega)).mono ?_
      rintro e w2 ⟨v2, rfl, hr2, hs2⟩
      exact ⟨v2, rfl, hr2, c6.trans (hs2.mono c5), hs2.block, fun k hk => .inr (c3 k hk)⟩
    have OA : Hid (In w.drew l ∧ (∀ k ∈ l.bl, O k) ∧ (∀ k, O k → k < w.drew.heap.size) ∧ Row w.drew O 76 2 v n xs ∧ (∀ k, O k → O k) ∧ Same O w w.drew) := ⟨h.2.1.drew, hl, hO, hr.on fun _ _ => rfl, fun _ hk => hk, ⟨rfl, rfl, rfl, Nat.le_refl _, fun _ _ => rfl⟩⟩
    have OB : Hid (In (w.alloc (.cells #[.int .i64 kv, .int .i64 ki] 76)).drew l ∧ (∀ k ∈ l.bl, (O k ∨ k = w.heap.size)) ∧ (∀ k, (O k ∨ k = w.heap.size) → k < (w.alloc (.cells #[.int .i64 kv, .int .i64 ki] 76)).drew.heap.size) ∧ Row (w.alloc (.cells #[.int .i64 kv, .int .i64 ki] 76)).drew (fun k => O k ∨ k = w.heap.size) 76 2 v n xs ∧ (∀ k, O k → (O k ∨ k = w.heap.size)) ∧ Same O w (w.alloc (.cells #[.int .i64 kv, .int .i64 ki] 76)).drew) :=
      ⟨(h.2.1.alloc _).drew, fun k hk => .inl (hl k hk), by rintro k (hk | rfl); have := hO k hk; simp [World.drew]; omega; simp [World.drew],
        ((hr.fresh ((Below.refl _ w).alloc (Nat.le_refl _) _)).on fun _ _ => rfl).other (by rintro k hk (e | rfl); exact hr.2 k hk e; exact absurd (hr.lt hk) (by omega)), fun _ hk => .inl hk, Same.of ((Below.refl _ w).alloc (Nat.le_refl _) _).drew hO⟩
    have ON : Hid (∀ w', Same O w w' → Calls Try.prog 74 #[.pointer (some ⟨b, 0, none⟩)] w' (Still (.pointer l.at) w') ∧ Calls Try.prog 83 #[.pointer (some ⟨b, 0, none⟩)] w' (Still (.pointer r.at) w')) :=
      fun w' g => ⟨onLeft w' (h.1.on (g.block b hbl)), onRight w' (h.1.on (g.block b hbl))⟩
    have RI : Hid (∀ w' v' n' xs', Same O w w' → Row w' O 76 2 v' n' xs' → n' + r.keys.length ≤ 1000 → Calls Try.prog 85 #[.pointer r.at, v'] w' (Fills O (n' + r.keys.length) (xs' ++ cellsK r.keys) w')) :=
      fun w' v' n' xs' g hr' hn' => ihr w' O v' n' xs' (h.2.2.on fun k hk => g.block k (hrr k hk)) hrr (fun k hk => Nat.lt_of_lt_of_le (hO k hk) g.size) hr' hn'
    have SA : Hid (Same O w w.drew) := ⟨rfl, rfl, rfl, Nat.le_refl _, fun _ _ => rfl⟩
    have SB : Hid (∀ o, Same O w (w.alloc o).drew) := fun o => Same.of ((Below.refl _ w).alloc (Nat.le_refl _) o).drew hO
    rw [at_node]
    have hnr := hr
    have E : Hid (xs ++ cellsK (Tr.node b c l kv ki r).keys = ((xs ++ cellsK l.keys) ++ [.int .i64 kv, .int .i64 ki]) ++ cellsK r.keys ∧ n + (Tr.node b c l kv ki r).keys.length = (n + l.keys.length + 1) + r.keys.length) := by
      refine ⟨by simp [Tr.keys, cellsK_append, cellsK], by simp [Tr.keys]; omega⟩
    clear ihl ihr h hb hl hrr a2 a3 a4 af
    generalize l.at = la at *
    generalize r.at = ra at *
    go_enter Try.func85, Try.ntmps85
    go_wp2_with fail
    have NB : Hid (∀ (w2 : World), (∀ k, (O k ∨ k = w.heap.size) → w2.heap[k]? = (w.alloc (.cells #[.int .i64 kv, .int .i64 ki] 76)).drew.heap[k]?) → w2.heap[w.heap.size]? = some (.cells #[.int .i64 kv, .int .i64 ki] 76 (0, 0))) := fun w2 hb => (hb _ (.inr rfl)).trans (heap_alloc_new w _)
    go_region_held3 (fun w' => w'.cell? ⟨b, 0, none⟩ = some (.int .i64 kv) ∧ w'.cell? ⟨b, 1, none⟩ = some (.int .i64 ki)) (first | exact ⟨a0, a1⟩ | exact ⟨q0, q1⟩ | exact ⟨u0, u1⟩ | go_keep)
      (first
        | (go_at_call 74; refine ((ON.out _ ?_).1).mono ?_; (first | exact SA.out | exact SB.out _); rintro e w1 ⟨rfl, rfl⟩)
        | (go_at_call 85; refine (LG.out _ _ (by first | exact OA.out | exact OB.out)).mono ?_; rintro e w2 ⟨v2, rfl, hr2, hs2, hbk, hok⟩; have q0 := (World.cell?_of_block (a := ⟨b, 0, none⟩) (hs2.block b hbl)).trans a0; have q1 := (World.cell?_of_block (a := ⟨b, 1, none⟩) (hs2.block b hbl)).trans a1)
        | (refine step_append_lies _ (by rfl) _ _ _ (by rfl) 0 76 i0 _ 2 16 Try.underlying103 hi hz0 hz1 hz2 rfl (by omega) v2 (n + l.keys.length) (xs ++ cellsK l.keys) (by rfl) (hr2.fresh ((Below.refl _ w2).alloc (Nat.le_refl _) _)).1 ⟨w2.heap.size, 0, none⟩ 1 1 [.int .i64 kv, .int .i64 ki] (by rfl) (by rfl) (World.news_of_block (cs := #[.int .i64 kv, .int .i64 ki]) (t := 76) (fr := (0, 0)) (heap_alloc_new w2 _)) (by simp [Value.oneCell']) (by omega) (by simp only [maxLen]; omega) (by omega) (Nat.zero_le _) (w2.heap.size + 1) (by simp) ?_; intro g cap w4 hown hgrow hat hlt; have hS4 := hs2.app hO hr2 (fun k hk => hk) hgrow; have RO := row_of hO hs2.size hown (fun e h => hr2.2 g h e) (hat.imp id (fun e => (by omega : w2.heap.size ≤ g))); have u0 := (World.cell?_of_block (a := ⟨b, 0, none⟩) (hS4.block b hbl)).trans a0; have u1 := (World.cell?_of_block (a := ⟨b, 1, none⟩) (hS4.block b hbl)).trans a1)
        | (refine step_append_lies _ (by rfl) _ _ _ (by rfl) 0 76 i0 _ 2 16 Try.underlying103 hi hz0 hz1 hz2 rfl (by omega) v2 (n + l.keys.length) (xs ++ cellsK l.keys) (by rfl) hr2.1 ⟨w.heap.size, 0, none⟩ 1 1 [.int .i64 kv, .int .i64 ki] (by rfl) (by rfl) (World.news_of_block (cs := #[.int .i64 kv, .int .i64 ki]) (t := 76) (fr := (0, 0)) (NB.out w2 hbk)) (by simp [Value.oneCell']) (by omega) (by simp only [maxLen]; omega) (by omega) (Nat.zero_le _) w2.heap.size rfl ?_; intro g cap w4 hown hgrow hat hlt; have hS4 := hs2.app0 hO hr2 (fun k hk => .inl hk) hgrow; have RO := row_of hO hs2.size hown (fun e h => hr2.2 g h (.inl e)) (hat.imp id (fun e => (by omega : w2.heap.size ≤ g))); have u0 := (World.cell?_of_block (a := ⟨b, 0, none⟩) (hS4.block b hbl)).trans a0; have u1 := (World.cell?_of_block (a := ⟨b, 1, none⟩) (hS4.block b hbl)).trans a1))
    all_goals
      go_wp2_with (first
        | (go_at_call 83; refine ((ON.out _ hS4).2).mono ?_; rintro e w5 ⟨rfl, rfl⟩)
        | (go_at_call 85; refine (RI.out _ _ _ _ hS4 RO (by omega)).mono ?_; rintro e w5 ⟨v5, rfl, hr5, hs5⟩))
      go_ret
      exact ⟨v5, rfl, by rw [E.out.1, E.out.2]; exact hr5, hS4.trans hs5⟩
end Go.Proofs.Ytdigakgfehaabaa.Queue
