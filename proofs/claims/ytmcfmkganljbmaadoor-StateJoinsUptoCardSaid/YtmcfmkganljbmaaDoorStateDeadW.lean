/- The walk of StateDead. Conditions: the rows are not too long for a machine. -/
import Derived.Test.YtmcfmkganljbmaaDoorStateScript
import Derived.Deep.AppendLies
import Derived.Maps.AppendAt
import Derived.WalkSmall
namespace Go.Proofs.YtmcfmkganljbmaaDoor.State
open Go.ChangeShapes Go.WideShapes Go.ChangeAt Go.RowKit
set_option linter.unusedVariables false
set_option linter.unusedSimpArgs false
set_option maxRecDepth 100000

theorem info_parts {o : Option TypeInfo} {z : Option Value} {s b : Nat} (h : o.map (fun i => (i.zero, i.size, i.bytes)) = some (z, s, b)) : ∃ i, o = some i ∧ i.zero = z ∧ i.size = s ∧ i.bytes = b := by
  cases o with
  | none => simp at h
  | some i => simp at h; exact ⟨i, rfl, h.1, h.2.1, h.2.2⟩
theorem infoL : (Tryd.prog.info? 3).map (fun i => (i.zero, i.size, i.bytes)) = some (some (.int .i64 0), 1, 8) := by kernel_rfl
theorem add_at (b o j : Nat) : (⟨b, o, none⟩ : Addr).add j = ⟨b, o + j, none⟩ := by unfold Addr.add; split <;> simp_all
theorem lt_of {w : World} {k : Nat} {o : Obj} (h : w.heap[k]? = some o) : k < w.heap.size := (Array.getElem?_eq_some_iff.1 h).1
theorem owns_fresh {w w' : World} {B n size : Nat} {e : TypeId} {v : Value} {xs : List Value} (h : w.ownsRow B e size v n xs) (hB : Below w.heap.size w w') : w'.ownsRow B e size v n xs := by
  refine ⟨h.1, ?_⟩
  rcases h.2 with h1 | ⟨g, cap, cur, rfl, h0, hg, h1⟩
  · exact .inl h1
  · exact .inr ⟨g, cap, cur, rfl, h0, by rw [hB.block g (lt_of hg), hg], h1⟩
theorem made {W : World} {base : Nat} {e : TypeId} {g0 : Nat} (h : W.heap.size = g0) (hb : base ≤ g0) : (W.alloc (.cells #[] e)).ownsRow base e 1 (.slice (some ⟨g0, 0, none⟩) 0 0) 0 [] := by
  subst h
  exact World.ownsRow_made W #[] 0 hb (by simp [maxLen]) rfl

/-- A slice of the call's own, not nil, appended to from a slice of one-cell things that came in, nil or not. -/
theorem wpList_append_in {P : Program} (w : World) {ops : Array Oper} {rest : List Oper} {o : Oper} {a : Act} {Q : Exit → Act → World → Prop} (hgd : o.guard = none) (s x : Operand) (t : TypeId)
    (ho : o.op = .call { callee := .builtin .append, args := #[s, x], argTypes := #[t, t] })
    (base : Nat) (e : TypeId) (i : TypeInfo) (z : Value) (bytes : Nat) (ht : P.underlying t = some (.slice e)) (hi : P.info? e = some i) (hz : i.zero = some z)
    (hsize : i.size = 1) (hby : i.bytes = bytes) (hzs : z.cells.size = 1)
    (g0 n c0 : Nat) (xs : List Value) (hs : a.eval s = .slice (some ⟨g0, 0, none⟩) n c0) (hown : w.ownsRow base e 1 (.slice (some ⟨g0, 0, none⟩) n c0) n xs)
    (v : Option Addr) (m c : Nat) (ys : List Value) (hx : a.eval x = .slice v m c) (hl : ys.length = m) (hnil : v = none → m = 0 ∧ c = 0) (hys : ∀ ad, v = some ad → ∀ j u, ys[j]? = some u → w.cell? (ad.add j) = some u) (h1 : ∀ y ∈ ys, y.oneCell' = true)
    (h63 : n + m ≤ maxLen) (hbytes : (n + m) * bytes ≤ 140737488355328) (hbase : base ≤ w.heap.size) (H : Nat) (hH : w.heap.size = H)
    (h : ∀ g cap w', w'.ownsRow base e 1 (.slice (some ⟨g, 0, none⟩) (n + m) cap) (n + m) (xs ++ ys) → w.grownBy w' (some g0) → (g = g0 ∨ g = H) → wpList P ops Q rest (a.put o.dst (.slice (some ⟨g, 0, none⟩) (n + m) cap)) w') :
    wpList P ops Q (o :: rest) a w := by
  cases v with
  | none =>
    obtain ⟨rfl, rfl⟩ := hnil rfl
    have hys : ys = [] := List.eq_nil_of_length_eq_zero hl
    subst hys
    refine wpList_plain hgd fun K hK' => ?_
    have hrun := run_append_owned_none (P := P) w base t o.type e i 1 ht hi _ n xs hown
    unfold Oper.wp
    simp [execOp, ho, resolve, invoke, builtin, hs, hx, hrun, Result.andThen]
    exact hK' _ _ (by simpa using h g0 c0 w (by simpa using hown) (World.grownBy.refl _ _) (.inl rfl))
  | some ad =>
    refine wpList_append_own_at w hgd s x t ho base e i z 1 bytes ht hi hz hsize hby hzs (by decide) _ n xs hs hown ad m c ys hx (by omega) (hys ad rfl) h1 h63 hbytes hbase ?_
    intro v' w' k1 k2 k3 k4
    rcases k1.2 with ⟨rfl, _⟩ | ⟨g', cap', cur', rfl, _⟩
    · have := k3.1 rfl
      simp at this
    · refine h g' cap' w' k1 k2 ?_
      rcases k4 with k4 | k4
      · exact .inl (by simpa [Value.ownBlock] using k4)
      · exact .inr (by rw [← hH]; simpa [Value.ownBlock] using k4)

def us (z : Nat → Int) (n : Nat) : List Value := (List.range n).map fun j => .int .i64 (z j)
theorem us_length (z : Nat → Int) (n : Nat) : (us z n).length = n := by simp [us]
theorem us_at {z : Nat → Int} {n j : Nat} {u : Value} (h : (us z n)[j]? = some u) : j < n ∧ u = .int .i64 (z j) := by
  simp [us] at h
  obtain ⟨k, hk, e⟩ := h
  have : k = j ∧ j < n := by
    by_cases hj : j < n
    · simp [List.getElem?_range hj] at hk; omega
    · simp [List.getElem?_eq_none (show (List.range n).length ≤ j by simp; omega)] at hk
  obtain ⟨rfl, h2⟩ := this
  exact ⟨h2, e.symm⟩
theorem us_one (z : Nat → Int) (n : Nat) : ∀ y ∈ us z n, y.oneCell' = true := by intro y hy; obtain ⟨_, _, rfl⟩ := List.mem_map.1 hy; rfl
theorem us_both (z y : Nat → Int) (n m : Nat) : us z n ++ us y m = us (both z n y) (n + m) := by
  apply List.ext_getElem?
  intro j
  by_cases h : j < n
  · rw [List.getElem?_append_left (by rw [us_length]; exact h)]
    simp [us, h, show j < n + m by omega, both]
  · rw [List.getElem?_append_right (by rw [us_length]; omega), us_length]
    by_cases h2 : j < n + m
    · simp [us, h2, show j - n < m by omega, both, h]
    · rw [List.getElem?_eq_none (by rw [us_length]; omega), List.getElem?_eq_none (by rw [us_length]; omega)]
theorem Lies.src {v : Option Addr} {len : Nat} {z : Nat → Int} {w : World} (h : Lies v len z w) : ∀ ad, v = some ad → ∀ j u, (us z len)[j]? = some u → w.cell? (ad.add j) = some u := by
  intro ad e j u hu
  obtain ⟨hj, rfl⟩ := us_at hu
  obtain ⟨b, o, e', _, hc⟩ := h j hj
  rw [e] at e'
  cases e'
  rw [add_at]; exact hc
theorem lies_own {w : World} {B g n cap : Nat} {e : TypeId} {z : Nat → Int} (h : w.ownsRow B e 1 (.slice (some ⟨g, 0, none⟩) n cap) n (us z n)) : Lies (some ⟨g, 0, none⟩) n z w := by
  intro j hj
  have hlt := (h.lt g rfl).2
  refine ⟨g, 0, rfl, hlt, ?_⟩
  rw [Nat.zero_add, h.cellAt _ (by omega)]
  simp [us, hj]

/-- Behind a row that is refused, or does not end with one that runs. -/
theorem dead_no (v y : Option Addr) (n m cap cp : Nat) (z : Nat → Int) (w : World) (hn : n ≤ 1048576) (hT : Tab w) (hc : Lies v n z w) (h : ¬ ((script z n).2.2 = 0 ∧ (script z n).1 = 3)) :
    Calls Tryd.prog 3 #[.slice v n cap, .slice y m cp] w (Yes w) := by
  have hg := Below.refl w.heap.size w
  have S := Lib.hid (shown w hT)
  have R := Lib.hid (fun w' (h : Below w.heap.size w w') => runs_to v n cap z w' (by omega) (hT.fresh h) (hc.fresh h))
  unfold IsRun at R
  have OK1 := (script_ok z n).2
  clear hT hc
  generalize (script z n).1 = s at *
  generalize (script z n).2.1 = k at *
  generalize (script z n).2.2 = e at *
  by_cases h0 : e = 0
  · subst h0
    have h1 : (s == 3) = false := by simpa using h
    have h2 : (s != 3) = true := by simpa using h
    clear h OK1
    go_enter Tryd.func3, Tryd.ntmps3
    go_wp2_with (first
      | (go_at_call 6; refine S.out.mono ?_; rintro e w1 ⟨rfl, hg1⟩; replace hg := fresh_trans hg hg1; clear hg1)
      | (go_at_call 7; refine (R.out _ hg).mono ?_; rintro e w2 ⟨rfl, hg1⟩; replace hg := fresh_trans hg hg1; clear hg1))
    go_ret
    exact yes_of rfl hg
  · have h1 : (e == 0) = false := by simpa using h0
    have h2 : (e != 0) = true := by simpa using h0
    obtain rfl := OK1 h0
    clear h h0 OK1
    go_enter Tryd.func3, Tryd.ntmps3
    go_wp2_with (first
      | (go_at_call 6; refine S.out.mono ?_; rintro e w1 ⟨rfl, hg1⟩; replace hg := fresh_trans hg hg1; clear hg1)
      | (go_at_call 7; refine (R.out _ hg).mono ?_; rintro e w2 ⟨rfl, hg1⟩; replace hg := fresh_trans hg hg1; clear hg1))
    go_ret
    exact yes_of rfl hg
end Go.Proofs.YtmcfmkganljbmaaDoor.State
