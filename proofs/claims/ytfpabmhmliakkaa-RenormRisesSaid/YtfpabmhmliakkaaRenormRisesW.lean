/- The walk of RenormRises. Conditions: each argument is a number of its kind; the slice takes at most 2^47 - 4096 bytes. -/
import Derived.Test.YtfpabmhmliakkaaRenormLaws
import Derived.Maps.AppendAt
import Derived.Deep.AppendLies
namespace Go.Proofs.Ytfpabmhmliakkaa.Renorm
open Go.ChangeShapes Go.WideShapes Go.ChangeAt Go.RowKit Fix
set_option linter.unusedVariables false
set_option linter.unusedSimpArgs false

theorem infoL : (Try.prog.info? 2).map (fun i => (i.zero, i.size, i.bytes)) = some (some (.int .i64 0), 1, 8) := by kernel_rfl
theorem info_parts {o : Option TypeInfo} {z : Option Value} {s b : Nat} (h : o.map (fun i => (i.zero, i.size, i.bytes)) = some (z, s, b)) : ∃ i, o = some i ∧ i.zero = z ∧ i.size = s ∧ i.bytes = b := by
  cases o with
  | none => simp at h
  | some i => simp at h; exact ⟨i, rfl, h.1, h.2.1, h.2.2⟩
theorem made {W : World} {base : Nat} {e : TypeId} {g0 : Nat} (h : W.heap.size = g0) (hb : base ≤ g0) : (W.alloc (.cells #[] e)).ownsRow base e 1 (.slice (some ⟨g0, 0, none⟩) 0 0) 0 [] := by
  subst h
  exact World.ownsRow_made W #[] 0 hb (by simp [maxLen]) rfl
theorem cell_alloc {w : World} {a : Addr} {v : Value} (h : w.cell? a = some v) (o : Obj) : (w.alloc o).cell? a = some v :=
  (World.cell?_of_block (Below.heap_alloc w o a.block (World.block_lt_of_cell? w a h))).trans h
theorem add_at (b o j : Nat) : (⟨b, o, none⟩ : Addr).add j = ⟨b, o + j, none⟩ := by unfold Addr.add; split <;> simp_all

/-- A slice of the call's own, not nil, appended to from a slice of one-cell things that came in, nil or not. -/
theorem wpList_append_in {P : Program} (w : World) {ops : Array Oper} {rest : List Oper} {o : Oper} {a : Act} {Q : Exit → Act → World → Prop} (hgd : o.guard = none) (s x : Operand) (t : TypeId)
    (ho : o.op = .call { callee := .builtin .append, args := #[s, x], argTypes := #[t, t] })
    (base : Nat) (e : TypeId) (i : TypeInfo) (z : Value) (bytes : Nat) (ht : P.underlying t = some (.slice e)) (hi : P.info? e = some i) (hz : i.zero = some z)
    (hsize : i.size = 1) (hby : i.bytes = bytes) (hzs : z.cells.size = 1)
    (g0 n c0 : Nat) (xs : List Value) (hs : a.eval s = .slice (some ⟨g0, 0, none⟩) n c0) (hown : w.ownsRow base e 1 (.slice (some ⟨g0, 0, none⟩) n c0) n xs)
    (v : Option Addr) (m c : Nat) (ys : List Value) (hx : a.eval x = .slice v m c) (hl : ys.length = m) (hnil : v = none → m = 0 ∧ c = 0) (hys : ∀ ad, v = some ad → ∀ j u, ys[j]? = some u → w.cell? (ad.add j) = some u) (h1 : ∀ y ∈ ys, y.oneCell' = true)
    (h63 : n + m ≤ maxLen) (hbytes : (n + m) * bytes ≤ 140737488355328) (hbase : base ≤ w.heap.size) (H : Nat) (hH : w.heap.size = H)
    (h : ∀ g cap w', w'.ownsRow base e 1 (.slice (some ⟨g, 0, none⟩) (n + m) cap) (n + m) (xs ++ ys) → w.grownBy w' (some g0) → (g = g0 ∨ g = H) → wpList P ops Q rest (a.put o.dst (.slice (some ⟨g, 0, none⟩) (n + m) cap)) w') :
    wpList P ops Q (o :: rest) a w := by
  cases v with
  | none =>
    obtain ⟨rfl, rfl⟩ := hnil rfl
    have hys : ys = [] := List.eq_nil_of_length_eq_zero hl
    subst hys
    refine wpList_plain hgd fun K hK' => ?_
    have hrun := run_append_owned_none (P := P) w base t o.type e i 1 ht hi _ n xs hown
    unfold Oper.wp
    simp [execOp, ho, resolve, invoke, builtin, hs, hx, hrun, Result.andThen]
    exact hK' _ _ (by simpa using h g0 c0 w (by simpa using hown) (World.grownBy.refl _ _) (.inl rfl))
  | some ad =>
    refine wpList_append_own_at w hgd s x t ho base e i z 1 bytes ht hi hz hsize hby hzs (by decide) _ n xs hs hown ad m c ys hx (by omega) (hys ad rfl) h1 h63 hbytes hbase ?_
    intro v' w' k1 k2 k3 k4
    rcases k1.2 with ⟨rfl, _⟩ | ⟨g', cap', cur', rfl, _⟩
    · have := k3.1 rfl
      simp at this
    · refine h g' cap' w' k1 k2 ?_
      rcases k4 with k4 | k4
      · exact .inl (by simpa [Value.ownBlock] using k4)
      · exact .inr (by rw [← hH]; simpa [Value.ownBlock] using k4)

def zs (z : Nat → Int) (n : Nat) : List Value := (List.range n).map fun j => Value.int .i64 (z j)
theorem zs_length (z : Nat → Int) (n : Nat) : (zs z n).length = n := by simp [zs]
theorem zs_at {z : Nat → Int} {n j : Nat} {u : Value} (h : (zs z n)[j]? = some u) : j < n ∧ u = .int .i64 (z j) := by
  simp [zs] at h
  obtain ⟨k, hk, e⟩ := h
  have : k = j ∧ j < n := by
    by_cases hj : j < n
    · simp [List.getElem?_range hj] at hk; omega
    · simp [List.getElem?_eq_none (show (List.range n).length ≤ j by simp; omega)] at hk
  obtain ⟨rfl, h2⟩ := this
  exact ⟨h2, e.symm⟩
theorem zs_one (z : Nat → Int) (n : Nat) : ∀ y ∈ zs z n, y.oneCell' = true := by intro y hy; obtain ⟨_, _, rfl⟩ := List.mem_map.1 hy; rfl
theorem zs_more (z : Nat → Int) (n : Nat) (x : Int) : zs z n ++ [.int .i64 x] = zs (more z n x) (n + 1) := by
  simp only [zs, List.range_succ, List.map_append, List.map_cons, List.map_nil]
  congr 1
  · apply List.map_congr_left
    intro j hj
    simp at hj
    simp [more, hj]
  · simp [more]
theorem Lies.src {v : Option Addr} {len : Nat} {z : Nat → Int} {w : World} (h : Lies v len z w) : ∀ ad, v = some ad → ∀ j u, (zs z len)[j]? = some u → w.cell? (ad.add j) = some u := by
  intro ad e j u hu
  obtain ⟨hj, rfl⟩ := zs_at hu
  obtain ⟨b, o, e', _, hc⟩ := h j hj
  rw [e] at e'
  cases e'
  rw [add_at]; exact hc
theorem lies_own {w : World} {B g n cap : Nat} {e : TypeId} {z : Nat → Int} (h : w.ownsRow B e 1 (.slice (some ⟨g, 0, none⟩) n cap) n (zs z n)) : Lies (some ⟨g, 0, none⟩) n z w := by
  intro j hj
  have hlt := (h.lt g rfl).2
  refine ⟨g, 0, rfl, hlt, ?_⟩
  rw [Nat.zero_add, h.cellAt _ (by omega)]
  simp [zs, hj]

def RiseI (len : Nat) (w1 : World) (t : Value) (wr : World) : Prop := ∃ k : Nat, k ≤ len ∧ t = .int .i64 k ∧ wr = w1

set_option maxRecDepth 100000 in
set_option maxHeartbeats 1000000 in
theorem rises_as (m n p x : Int) (v : Option Addr) (len cap : Nat) (z : Nat → Int) (w : World) (room : len * 8 ≤ 140737488351232) (HN : Hid (v = none → len = 0 ∧ cap = 0)) (HC : Hid (Lies v len z w))
    (M1 : Hid (∀ w, Lies v len z w → Calls Try.prog 18 #[.int .i64 m, .slice v len cap] w (One n w)))
    (M2 : Hid (∀ a c w, Lies (some a) (len + 1) (more z len x) w → Calls Try.prog 18 #[.int .i64 m, .slice (some a) (len + 1) c] w (One p w)))
    (M3 : Hid (∀ w, Lies v len z w → Calls Try.prog 18 #[.int .i64 n, .slice v len cap] w (One n w)))
    (h1 : m ≤ n) (H2 : Hid (∀ j, j < len → ¬ (m < n ∧ z j < n))) (H3 : Hid (len = 0 → n = m ∧ p = max m x)) (H4 : Hid (0 < len → p ≤ n)) :
    Calls Try.prog 8 #[.int .i64 m, .slice v len cap, .int .i64 x] w (Yes w) := by
  obtain ⟨i0, hi, hz0, hz1, hz2⟩ := info_parts infoL
  have hg := Below.refl w.heap.size w
  have h1' : ¬ n < m := by omega
  go_enter Try.func8, Try.ntmps8
  go_wp2_with (first
    | (go_at_call 9; refine (awake _).mono ?_; rintro e w1 ⟨rfl, hg1⟩; replace HC := Lib.hid (HC.out.fresh hg1); replace hg := fresh_trans hg hg1; clear hg1)
    | (go_at_call 18; refine (M1.out _ HC.out).mono ?_; rintro e w2 ⟨rfl, rfl⟩))
  go_loopw [9] (fun t wr => RiseI len w1 t wr) (fun i _ => len - (intOf i).toNat)
  case atStart => exact ⟨0, by omega, rfl, rfl⟩
  case round =>
    obtain ⟨k, hk, rfl, rfl⟩ := hrel
    by_cases hlt : k < len
    · have h3 : (k : Int) < len := by omega
      have h4 := H2.out k hlt
      obtain ⟨b, o, rfl, hb, hc⟩ := HC.out k hlt
      by_cases h5 : m < n
      · have h6 : ¬ z k < n := fun h => h4 ⟨h5, h⟩
        clear h4
        go_wp2
        go_roundw
        case rel => exact ⟨k + 1, by omega, by go_num, rfl⟩
        case measure => simp [intOf]; omega
      · clear h4
        go_wp2
        go_roundw
        case rel => exact ⟨k + 1, by omega, by go_num, rfl⟩
        case measure => simp [intOf]; omega
    · have h3 : ¬ (k : Int) < len := by omega
      have hs0 := hg.size
      have hy := HC.out.src
      have hy1 : ∀ ad, v = some ad → ∀ j u, (zs z len)[j]? = some u → (wr.alloc (.cells #[] 2)).cell? (ad.add j) = some u := fun ad e j u hu => cell_alloc (hy ad e j u hu) _
      clear hy
      have fin : ∀ (g1 c1 : Nat) (w2 : World) (g2 c2 : Nat) (w3 : World), w2.ownsRow wr.heap.size 2 1 (.slice (some ⟨g1, 0, none⟩) len c1) len (zs z len) → (wr.alloc (.cells #[] 2)).grownBy w2 (some wr.heap.size) →
          w3.ownsRow wr.heap.size 2 1 (.slice (some ⟨g2, 0, none⟩) (len + 1) c2) (len + 1) (zs z len ++ [.int .i64 x]) → (w2.alloc (.cells #[.int .i64 x] 2)).grownBy w3 (some g1) →
          Hid (Lies (some ⟨g2, 0, none⟩) (len + 1) (more z len x) w3) ∧ Hid (Lies v len z w3) ∧ Below w.heap.size w w3 := by
        intro g1 c1 w2 g2 c2 w3 o2 k2 o3 k3
        have l1 := (o2.lt g1 rfl).1
        have b2 : Below wr.heap.size wr w2 := ((Below.refl _ wr).alloc (Nat.le_refl _) _).grown k2 (by simp) (by intro k hk; simp at hk; omega)
        have b3 : Below wr.heap.size wr w3 := (b2.alloc b2.size _).grown k3 (by have := b2.size; simp; omega) (by intro k hk; simp at hk; omega)
        rw [zs_more] at o3
        exact ⟨Lib.hid (lies_own o3), Lib.hid (HC.out.fresh b3), fresh_trans hg b3⟩
      have HF := Lib.hid fin
      clear fin
      by_cases h0 : len = 0
      · obtain ⟨rfl, rfl⟩ := H3.out h0
        have h0' : ((len : Int) == 0) = true := by simp [h0]
        clear h0
        go_wp2_with (first
          | (at_builtin; refine wpList_append_in _ rfl (.tmp 36) (.tmp 37) 28 rfl wr.heap.size 2 i0 _ 8 Try.underlying28 hi hz0 hz1 hz2 rfl wr.heap.size 0 0 [] rfl (made rfl (Nat.le_refl _)) v len cap (zs z len) rfl (zs_length z len) HN.out hy1 (zs_one z len) (by simp only [maxLen]; omega) (by omega) (by simp) (wr.heap.size + 1) (by simp) ?_; intro g1 c1 w2 own1 grow1 at1; simp only [Nat.zero_add, List.nil_append] at own1 ⊢)
          | (at_builtin; refine wpList_append_lies _ rfl (.tmp 38) (.tmp 40) 28 rfl wr.heap.size 2 i0 _ 1 8 Try.underlying28 hi hz0 hz1 hz2 rfl (by decide) (.slice (some ⟨g1, 0, none⟩) len c1) len (zs z len) rfl (own1.alloc _) ⟨w2.heap.size, 0, none⟩ 1 1 [.int .i64 x] rfl rfl (World.news_of_block (heap_alloc_new w2 _)) (by simp [Value.oneCell']) (by decide) (by simp only [maxLen]; omega) (by omega) (by have := grow1.size; simp at this; simp; omega) (w2.heap.size + 1) (by simp) ?_; intro g2 c2 w3 own2 grow2 at2 lt2; obtain ⟨HD, HE, hb3⟩ := HF.out g1 c1 w2 g2 c2 w3 own1 grow1 own2 grow2)
          | (go_at_call 18; first | ((with_reducible refine (M2.out _ _ _ HD.out).mono ?_); rintro e w4 ⟨rfl, rfl⟩) | ((with_reducible refine (M3.out _ HE.out).mono ?_); rintro e w4 ⟨rfl, rfl⟩)))
        all_goals
          go_ret
          exact yes_of (by simp; try omega) hb3
      · have h7 := H4.out (by omega)
        have h8 : (0 : Int) < len := by omega
        have h0' : ((len : Int) == 0) = false := by simpa using h0
        clear h0
        go_wp2_with (first
          | (at_builtin; refine wpList_append_in _ rfl (.tmp 36) (.tmp 37) 28 rfl wr.heap.size 2 i0 _ 8 Try.underlying28 hi hz0 hz1 hz2 rfl wr.heap.size 0 0 [] rfl (made rfl (Nat.le_refl _)) v len cap (zs z len) rfl (zs_length z len) HN.out hy1 (zs_one z len) (by simp only [maxLen]; omega) (by omega) (by simp) (wr.heap.size + 1) (by simp) ?_; intro g1 c1 w2 own1 grow1 at1; simp only [Nat.zero_add, List.nil_append] at own1 ⊢)
          | (at_builtin; refine wpList_append_lies _ rfl (.tmp 38) (.tmp 40) 28 rfl wr.heap.size 2 i0 _ 1 8 Try.underlying28 hi hz0 hz1 hz2 rfl (by decide) (.slice (some ⟨g1, 0, none⟩) len c1) len (zs z len) rfl (own1.alloc _) ⟨w2.heap.size, 0, none⟩ 1 1 [.int .i64 x] rfl rfl (World.news_of_block (heap_alloc_new w2 _)) (by simp [Value.oneCell']) (by decide) (by simp only [maxLen]; omega) (by omega) (by have := grow1.size; simp at this; simp; omega) (w2.heap.size + 1) (by simp) ?_; intro g2 c2 w3 own2 grow2 at2 lt2; obtain ⟨HD, HE, hb3⟩ := HF.out g1 c1 w2 g2 c2 w3 own1 grow1 own2 grow2)
          | (go_at_call 18; first | ((with_reducible refine (M2.out _ _ _ HD.out).mono ?_); rintro e w4 ⟨rfl, rfl⟩) | ((with_reducible refine (M3.out _ HE.out).mono ?_); rintro e w4 ⟨rfl, rfl⟩)))
        all_goals
          go_ret
          exact yes_of (by simp; try omega) hb3
theorem risesLaw (m : Int) (v : Option Addr) (len cap : Nat) (z : Nat → Int) (x : Int) (w : World) (room : len * 8 ≤ 140737488351232) (hn : v = none → len = 0 ∧ cap = 0) (hc : Lies v len z w) :
    Calls Try.prog 8 #[.int .i64 m, .slice v len cap, .int .i64 x] w (Yes w) := by
  refine rises_as m (hi m z len) (hi m (more z len x) (len + 1)) x v len cap z w room (Lib.hid hn) (Lib.hid hc) (Lib.hid fun w h => highers m v len cap z w (by omega) (Lib.hid h)) (Lib.hid fun a c w h => highers m (some a) (len + 1) c _ w (by omega) (Lib.hid h))
    (Lib.hid fun w h => by have := highers (hi m z len) v len cap z w (by omega) (Lib.hid h); rwa [hi_again] at this) (hi_ge m z len) (Lib.hid fun j hj => hi_le m z hj) (Lib.hid fun e => ?_) (Lib.hid fun e => ?_)
  · subst e
    exact ⟨hi_none m z, hi_one m z x⟩
  · rcases hi_more m z len x with h | h
    · exact h
    · omega
end Go.Proofs.Ytfpabmhmliakkaa.Renorm
