/- The trees of GtreeDeep, as plain data: a chain of eight groups, and then groups within the root. Conditions: none. -/
import Derived.Test.YtcfdpbidhanldaaGtDestroy
import Derived.Test.YtcfdpbidhanldaaGtGrown
namespace Go.Proofs.Ytcfdpbidhanldaa.Gt
open Go.ChangeShapes Go.WideShapes Go.ChangeAt Go.RowKit Hp
set_option linter.unusedVariables false
set_option linter.unusedSimpArgs false

/-- Within which place the k-th group comes. -/
def par (k : Nat) : Nat := if k < 8 then k else 0
def pls (k : Nat) : List Pl := ⟨0, 0, true, 0⟩ :: (List.range k).map fun j => ⟨(par j : Nat), 0, true, 0⟩
def D (k : Nat) : St := ⟨32, pls k, []⟩
theorem pls_length (k : Nat) : (pls k).length = k + 1 := by simp [pls]
theorem pls_succ (k : Nat) : pls (k + 1) = pls k ++ [⟨(par k : Nat), 0, true, 0⟩] := by simp [pls, List.range_succ]
theorem D_zero : D 0 = st0 := rfl
theorem D_put {k : Nat} (hk : k < 31) : (D k).put (par k) 0 = ⟨D (k + 1), ((k + 1 : Nat) : Int), 0, 0⟩ := by
  have h : (((pls k).length : Nat) : Int) < 32 := by rw [pls_length]; omega
  show (if (((pls k).length : Nat) : Int) < 32 then (⟨⟨32, pls k ++ [⟨(par k : Nat), 0, true, 0⟩], []⟩, (((pls k).length : Nat) : Int), 0, 0⟩ : PutR) else ⟨⟨32, pls k, []⟩, 0, 0, 3⟩) = _
  rw [if_pos h, pls_length, ← pls_succ]
  rfl
theorem D_full (x y : Int) : (D 31).put x y = ⟨D 31, 0, 0, 3⟩ := by
  have h : ¬ (((pls 31).length : Nat) : Int) < 32 := by rw [pls_length]; omega
  show (if (((pls 31).length : Nat) : Int) < 32 then (⟨⟨32, pls 31 ++ [⟨x, y, true, 0⟩], []⟩, (((pls 31).length : Nat) : Int), 0, 0⟩ : PutR) else ⟨⟨32, pls 31, []⟩, 0, 0, 3⟩) = _
  rw [if_neg h]
  rfl
theorem D_inv {k : Nat} (hk : k ≤ 31) : Inv 0 (D k) := by
  induction k with
  | zero => exact (Inv.new (r := 32) (by omega) (by omega)).afterPut (Int.le_refl _) 0 0
  | succ k ih =>
    have h := (ih (by omega)).afterPut (Int.le_refl _) (par k : Nat) 0
    rwa [D_put (by omega)] at h
theorem D_at {k j : Nat} (hj : j < k) : (D k).pl[j + 1]? = some ⟨(par j : Nat), 0, true, 0⟩ := by
  show (pls k)[j + 1]? = _
  simp [pls, hj]
theorem D_root (k : Nat) : (D k).names 0 0 = true := rfl
theorem D_named {k j : Nat} (hj : j < k) : (D k).names ((j + 1 : Nat) : Int) 0 = true ∧ (D k).thing ((j + 1 : Nat) : Int) 0 = (par j : Nat) ∧ (D k).tgen ((j + 1 : Nat) : Int) 0 = 0 := names_at (D_at hj) rfl
theorem Ups.step' {st : St} {i g p q : Int} {l : List (Int × Int)} (hn : st.names i g = true) (hr : isRoot i g = false) (h1 : st.thing i g = p) (h2 : st.tgen i g = q) (h : Ups st p q l) : Ups st i g ((p, q) :: l) := by
  subst h1 h2; exact .step hn hr h
theorem notRoot (j : Nat) (g : Int) : isRoot ((j + 1 : Nat) : Int) g = false := by
  have : (((j + 1 : Nat) : Int) == 0) = false := by simp; omega
  unfold isRoot
  rw [this, Bool.false_and]
/-- The way up from the j-th of the chain. -/
def chain : Nat → List (Int × Int)
  | 0 => []
  | j + 1 => ((j : Int), 0) :: chain j
theorem chain_length (j : Nat) : (chain j).length = j := by
  induction j with
  | zero => rfl
  | succ j ih => simp [chain, ih]
theorem D_chain {k j : Nat} (hj : j ≤ k) (h8 : j ≤ 8) : Ups (D k) (j : Int) 0 (chain j) := by
  induction j with
  | zero => exact .root (D_root k)
  | succ j ih =>
    obtain ⟨h1, h2, h3⟩ := D_named (show j < k by omega)
    rw [show par j = j from if_pos (by omega)] at h2
    exact .step' h1 (notRoot j 0) h2 h3 (ih (by omega) (by omega))
theorem D_ok {k : Nat} : Ok (D k) := by
  refine ⟨D_root k, fun i g hn => ?_⟩
  obtain ⟨m, q, rfl, hq, hf, hg⟩ := St.named hn
  cases m with
  | zero =>
    have : q = ⟨0, 0, true, 0⟩ := by simpa [D, pls] using hq.symm
    subst this
    simp only at hg
    subst hg
    exact ⟨[], .root (D_root k), by simp⟩
  | succ j =>
    have hj : j < k := by
      have := (List.getElem?_eq_some_iff.1 hq).1
      simp only [D, pls_length] at this; omega
    rw [D_at hj] at hq
    cases hq
    simp only at hg
    subst hg
    by_cases h8 : j < 8
    · exact ⟨chain (j + 1), D_chain (by omega) (by omega), by rw [chain_length]; omega⟩
    · obtain ⟨h1, h2, h3⟩ := D_named hj
      rw [show par j = 0 from if_neg h8] at h2
      exact ⟨[(0, 0)], .step' h1 (notRoot j 0) h2 h3 (.root (D_root k)), by simp⟩

/-- Behind the last one's end; and behind another one's coming in its place. -/
def E1 : St := (D 31).free 31 0
def E2 : St := (E1.put 0 0).st
theorem E1_inv : Inv 1 E1 := (D_inv (Nat.le_refl _)).afterFree 31 0
theorem E2_inv : Inv 1 E2 := E1_inv.afterPut (by decide) 0 0
theorem E1_root : E1.names 0 0 = true := by decide +kernel
theorem E2_root : E2.names 0 0 = true := by decide +kernel
theorem E1_gone : E1.names 31 0 = false := by decide +kernel
theorem E2_gone : E2.names 31 0 = false := by decide +kernel
theorem E1_put : (E1.put 0 0).i = 31 ∧ (E1.put 0 0).g = 1 ∧ (E1.put 0 0).n = 0 := by decide +kernel
theorem E1_chain : Ups E1 8 0 (chain 8) :=
  .step' (by decide +kernel) (by decide) (by decide +kernel) (by decide +kernel) <| .step' (by decide +kernel) (by decide) (by decide +kernel) (by decide +kernel) <|
  .step' (by decide +kernel) (by decide) (by decide +kernel) (by decide +kernel) <| .step' (by decide +kernel) (by decide) (by decide +kernel) (by decide +kernel) <|
  .step' (by decide +kernel) (by decide) (by decide +kernel) (by decide +kernel) <| .step' (by decide +kernel) (by decide) (by decide +kernel) (by decide +kernel) <|
  .step' (by decide +kernel) (by decide) (by decide +kernel) (by decide +kernel) <| .step' (by decide +kernel) (by decide) (by decide +kernel) (by decide +kernel) <| .root E1_root
theorem last_alone : ((hs (D 31).pl (D 31).pl.length).filter fun q => kid? (D 31) q.1 q.2 31 0) = [] := by decide +kernel

section
variable {w : World} {tb b : Nat} {O : Nat → Prop}
theorem create_step {k : Nat} (hk : k < 8) (h : Tre w tb b O (D k)) (hO : ∀ k, O k → k < w.heap.size) :
    Calls Try.prog 13 #[.pointer (some ⟨tb, 0, none⟩), .agg #[.int .i64 k, .int .i64 0]] w (Did (.tuple #[.agg #[.int .i64 ((k + 1 : Nat) : Int), .int .i64 0], .int .i64 0]) (D (k + 1)) tb b O w) := by
  have := create_some w tb b O 0 (D k) k 0 (chain k) h (D_inv (by omega)) hO (D_chain (Nat.le_refl _) (by omega)) (by rw [chain_length]; exact hk)
  have e := D_put (k := k) (by omega)
  rw [show par k = k from if_pos hk] at e
  rwa [e] at this
theorem create_over (h : Tre w tb b O (D 8)) :
    Calls Try.prog 13 #[.pointer (some ⟨tb, 0, none⟩), .agg #[.int .i64 8, .int .i64 0]] w (IsTwo 0 0 5 w) :=
  create_deep w tb b O (D 8) 8 0 (chain 8) h (D_inv (by omega)).l1 (D_chain (k := 8) (j := 8) (Nat.le_refl _) (Nat.le_refl _)) (chain_length 8)
theorem create_side {k : Nat} (hk : 8 ≤ k) (h31 : k < 31) (h : Tre w tb b O (D k)) (hO : ∀ k, O k → k < w.heap.size) :
    Calls Try.prog 13 #[.pointer (some ⟨tb, 0, none⟩), .agg #[.int .i64 0, .int .i64 0]] w (Did (.tuple #[.agg #[.int .i64 ((k + 1 : Nat) : Int), .int .i64 0], .int .i64 0]) (D (k + 1)) tb b O w) := by
  have := create_some w tb b O 0 (D k) 0 0 [] h (D_inv (by omega)) hO (.root (D_root k)) (by decide)
  have e := D_put (k := k) h31
  rw [show par k = 0 from if_neg (by omega)] at e
  have e' : (D k).put 0 0 = ⟨D (k + 1), ((k + 1 : Nat) : Int), 0, 0⟩ := e
  rwa [e'] at this
theorem create_more (h : Tre w tb b O (D 31)) (hO : ∀ k, O k → k < w.heap.size) :
    Calls Try.prog 13 #[.pointer (some ⟨tb, 0, none⟩), .agg #[.int .i64 0, .int .i64 0]] w (Did (.tuple #[.agg #[.int .i64 0, .int .i64 0], .int .i64 3]) (D 31) tb b O w) := by
  have := create_some w tb b O 0 (D 31) 0 0 [] h (D_inv (Nat.le_refl _)) hO (.root (D_root 31)) (by decide)
  rwa [D_full] at this
theorem destroy_last (h : Tre w tb b O (D 31)) (hO : ∀ k, O k → k < w.heap.size) :
    Calls Try.prog 15 #[.pointer (some ⟨tb, 0, none⟩), .agg #[.int .i64 31, .int .i64 0]] w (Did (.int .i64 0) E1 tb b O w) :=
  destroy_some w tb b O 0 (by decide) (D 31) 31 0 h (D_inv (Nat.le_refl _)) D_ok hO (D_named (k := 31) (j := 30) (by decide)).1 (by decide) last_alone
theorem create_back (h : Tre w tb b O E1) (hO : ∀ k, O k → k < w.heap.size) :
    Calls Try.prog 13 #[.pointer (some ⟨tb, 0, none⟩), .agg #[.int .i64 0, .int .i64 0]] w (Did (.tuple #[.agg #[.int .i64 31, .int .i64 1], .int .i64 0]) E2 tb b O w) := by
  have := create_some w tb b O 1 E1 0 0 [] h E1_inv hO (.root E1_root) (by decide)
  rwa [E1_put.1, E1_put.2.1, E1_put.2.2] at this
theorem create_below (h : Tre w tb b O E1) :
    Calls Try.prog 13 #[.pointer (some ⟨tb, 0, none⟩), .agg #[.int .i64 8, .int .i64 0]] w (IsTwo 0 0 5 w) :=
  create_deep w tb b O E1 8 0 (chain 8) h E1_inv.l1 E1_chain (chain_length 8)
end
end Go.Proofs.Ytcfdpbidhanldaa.Gt
