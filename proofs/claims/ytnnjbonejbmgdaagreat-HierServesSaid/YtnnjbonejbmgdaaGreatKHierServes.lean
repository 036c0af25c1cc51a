/- For any three numbers of 16 bits, any pieces of work and any number of 32 bits the law HierServes returns true: what the task that runs is served, each one above it is, by its weight; nobody else goes on. Conditions: none. -/
import Derived.Test.YtnnjbonejbmgdaaGreatPkK
import Derived.BigRegion
import Derived.Deep.RegionHeld3
import Derived.Test.YtnnjbonejbmgdaaGreatPkF
import Derived.Deep.LoopGhost
import Derived.Deep.RegionWith
import Derived.Test.YtnnjbonejbmgdaaGreatPkA
import Derived.Deep.Slices
import Derived.Test.YtnnjbonejbmgdaaGreatRows
import Derived.WalkKit
import Derived.ProofKit
import Derived.OpenShut
namespace Go.Proofs.YtnnjbonejbmgdaaGreat.Hr
open Queue
set_option linter.unusedVariables false
set_option linter.unusedSimpArgs false

def Sett (S : Hs) : Prop := ∀ k x, S.g k = some x → k ≠ 0 → x.on = should x
def SettBut (S : Hs) (i : Nat) : Prop := ∀ k x, S.g k = some x → k ≠ 0 → k ≠ i → x.on = should x
theorem Sett.but {S : Hs} (h : Sett S) (i : Nat) : SettBut S i := fun k x hx h0 _ => h k x hx h0
theorem Sett.one {S : Hs} (h : Sett S) (i : Nat) (x' : Gp) : SettBut (S.set i (some x')) i := fun k z hz h0 hk => by
  rw [Hs.set_other _ _ hk] at hz; exact h k z hz h0
/-- One group has changed, but not whether it should stand, nor whether it does. -/
theorem Sett.same {S : Hs} (h : Sett S) {i : Nat} {x x' : Gp} (hx : S.g i = some x) (ho : x'.on = x.on) (hs : should x' = should x) : Sett (S.set i (some x')) := fun k z hz h0 => by
  rcases set_cases hz with ⟨rfl, rfl⟩ | ⟨_, hz⟩
  · rw [ho, hs]; exact h k x hx h0
  · exact h k z hz h0
theorem SettBut.step {dep : Nat → Nat} {S : Hs} (hG : GoodD dep S) {i p : Nat} {x : Gp} (h : SettBut S i) (hx : S.g i = some x) (hp : x.up = some p) (hne : ¬ x.on = should x) : SettBut (stepS S i) p := by
  obtain ⟨hpi, h0⟩ := hG.up_ne hx hp
  obtain ⟨p', y, e1, hy, _⟩ := hG.link i x hx h0
  rw [hp] at e1; cases e1
  rw [stepS_eq hx hp hy]
  intro k z hz hk hkp
  cases ho : x.on
  · rw [ho] at hz hne
    simp only [Bool.false_eq_true, if_false] at hz
    rcases two_cases (S := S) hpi hz with ⟨rfl, rfl⟩ | ⟨rfl, rfl⟩ | ⟨hki, _, hz⟩
    · show true = should x
      cases hs : should x
      · rw [hs] at hne; exact absurd rfl hne
      · rfl
    · exact absurd rfl hkp
    · exact h k z hz hk hki
  · rw [ho] at hz hne
    simp only [if_true] at hz
    rcases two_cases (S := S) hpi hz with ⟨rfl, rfl⟩ | ⟨rfl, rfl⟩ | ⟨hki, _, hz⟩
    · show false = should x
      cases hs : should x
      · rfl
      · rw [hs] at hne; exact absurd rfl hne
    · exact absurd rfl hkp
    · exact h k z hz hk hki
theorem SettBut.all {S : Hs} {i : Nat} (h : SettBut S i) (hi : ∀ x, S.g i = some x → i ≠ 0 → x.on = should x) : Sett S := fun k x hx h0 => by
  by_cases e : k = i
  · subst e; exact hi x hx h0
  · exact h k x hx h0 e
theorem SettBut.settle {dep : Nat → Nat} : ∀ (n : Nat) {S : Hs} {i : Nat} {x : Gp}, GoodD dep S → SettBut S i → S.g i = some x → dep i < n → Sett (settleS n S i)
  | 0, _, _, _, _, _, _, h => absurd h (Nat.not_lt_zero _)
  | n + 1, S, i, x, hG, h, hx, hd => by
    cases hp : x.up with
    | none =>
      rw [settleS_done hx (.inl hp)]
      refine h.all fun z hz h0 => ?_
      rw [hx] at hz; cases hz
      obtain ⟨p, y, e1, _⟩ := hG.link i _ hx h0
      rw [hp] at e1; cases e1
    | some p =>
      by_cases he : x.on = should x
      · rw [settleS_done hx (.inr he)]
        refine h.all fun z hz h0 => ?_
        rw [hx] at hz; cases hz
        exact he
      · rw [settleS_more hx hp he]
        obtain ⟨hpi, h0⟩ := hG.up_ne hx hp
        obtain ⟨p', y, e1, hy, e3⟩ := hG.link i x hx h0
        rw [hp] at e1; cases e1
        have hy' : ∃ y', (stepS S i).g p = some y' := by
          rw [stepS_eq hx hp hy]
          cases x.on
          · simp only [Bool.false_eq_true, if_false]; exact ⟨_, two_p S _ _ hpi⟩
          · simp only [if_true]; exact ⟨_, two_p S _ _ hpi⟩
        obtain ⟨y', hy'⟩ := hy'
        exact SettBut.settle n (hG.step i) (h.step hG hx hp he) hy' (by omega)
theorem Sett.settle {dep : Nat → Nat} {S : Hs} (hs : Sett S) {i : Nat} {x' : Gp} (hG : GoodD dep (S.set i (some x'))) : Sett (settleS 9 (S.set i (some x')) i) := by
  have := hG.deep i x' (Hs.set_same _ _ _)
  exact (hs.one i x').settle 9 hG (Hs.set_same _ _ _) (by omega)
theorem putH_sett {dep : Nat → Nat} {S : Hs} (hG : GoodD dep S) (hs : Sett S) (g : Int) {e : Ent} (hv : I64 e.v) (hr : 0 ≤ e.rm) : Sett (putH S g e) := by
  unfold putH
  rcases grp_cases S g with ⟨i, x, rfl, hi, hx, e1, _⟩ | ⟨e1, _⟩
  · rw [e1]
    simp only [Int.toNat_natCast]
    split
    · rename_i hh
      exact hs.settle (hG.put hx hh.2 (by show 0 ≤ 2 * e.id; omega) (by show 2 * e.id < 128; omega) (by show (2 * e.id) % 2 = 0; omega) hv hr)
    · exact hs
  · rw [e1]; exact hs
theorem dropH_sett {dep : Nat → Nat} {S : Hs} (hG : GoodD dep S) (hs : Sett S) (g n : Int) : Sett (dropH S g n) := by
  unfold dropH
  rcases grp_cases S g with ⟨i, x, rfl, hi, hx, e1, _⟩ | ⟨e1, _⟩
  · rw [e1]
    simp only [Int.toNat_natCast]
    split
    · rename_i hh
      exact hs.settle (hG.drop hx hh.2 (by omega))
    · exact hs
  · rw [e1]; exact hs
theorem stopH_sett {dep : Nat → Nat} {S : Hs} (hG : GoodD dep S) (hs : Sett S) (g : Int) (is : Bool) : Sett (stopH S g is) := by
  unfold stopH
  rcases lnk_cases S g with ⟨i, x, rfl, _, hi, hx, e1, _⟩ | ⟨e1, _⟩
  · rw [e1]
    simp only [Int.toNat_natCast]
    exact hs.settle (hG.halt_ hx is)
  · rw [e1]; exact hs
theorem empty_named {l l' : List Ent} (h : ∀ id, named l id = named l' id) : l.isEmpty = l'.isEmpty := by
  cases l with
  | nil =>
    cases l' with
    | nil => rfl
    | cons e l' => have := h e.id; simp [named] at this
  | cons e l =>
    cases l' with
    | nil => have := h e.id; simp [named] at this
    | cons => rfl
theorem weighS_named (st : St) (id wt j : Int) : named (weighS st id wt).es j = named st.es j := by
  by_cases hz : errWeigh st id wt = 0
  · rw [(weigh_es hz).1, named_setE]
  · unfold weighS; rw [if_neg hz]
theorem chargeS_named (st : St) (ns j : Int) : named (chargeS st ns).es j = named st.es j := by
  by_cases hz : errCharge st ns = 0
  · exact charge_named hz j
  · unfold chargeS; rw [if_neg hz]
theorem should_named {x x' : Gp} (h : ∀ j, named x'.q.es j = named x.q.es j) (hh : x'.halt = x.halt) : should x' = should x := by
  unfold should busy; rw [empty_named h, hh]
theorem weighH_sett {S : Hs} (hs : Sett S) (g wt : Int) : Sett (weighH S g wt) := by
  unfold weighH
  rcases lnk_cases S g with ⟨i, x, rfl, h0, hi, hx, e1, e2⟩ | ⟨e1, _⟩
  · rw [e1]
    simp only [Int.toNat_natCast]
    split
    · exact hs
    · split
      · split
        · exact hs
        · split
          · exact hs
          · rename_i y hy
            exact hs.same hy rfl (should_named (x' := { y with q := weighS y.q _ wt }) (fun j => weighS_named _ _ _ j) rfl)
      · exact hs.same hx rfl rfl
  · rw [e1]; exact hs
theorem niceH_sett {S : Hs} (hs : Sett S) (g n wt : Int) : Sett (niceH S g n wt) := by
  unfold niceH
  rcases grp_cases S g with ⟨i, x, rfl, hi, hx, e1, _⟩ | ⟨e1, _⟩
  · rw [e1]
    simp only [Int.toNat_natCast]
    split
    · exact hs.same hx rfl (should_named (x' := { x with q := weighS x.q (2 * n) wt }) (fun j => weighS_named _ _ _ j) rfl)
    · exact hs
  · rw [e1]; exact hs
theorem walk_sett {c : St → Int} {f : St → St} (hf : ∀ st j, named (f st).es j = named st.es j) : ∀ (n : Nat) {S : Hs} (g : Nat), Sett S → Sett (walkS c f n S g).1
  | 0, _, _, h => h
  | n + 1, S, g, h => by
    cases hx : S.g g with
    | none => rw [walkS, hx]; exact h
    | some x =>
      have h' : Sett (S.set g (some { x with q := f { x.q with cur := c x.q } })) := h.same hx rfl (should_named (x' := { x with q := f { x.q with cur := c x.q } }) (fun j => hf _ j) rfl)
      cases hn : nxt (c x.q) with
      | none => rw [walk_none hx hn]; exact h'
      | some j => rw [walk_some hx hn]; exact walk_sett hf n j h'
theorem pickS_sett {S : Hs} (hs : Sett S) : Sett (pickS S) := walk_sett (fun _ _ => rfl) 9 0 hs
theorem chargeH_sett {S : Hs} (hs : Sett S) (ns : Int) : Sett (chargeH S ns) := by
  unfold chargeH
  split
  · exact hs
  · split
    · exact hs
    · exact walk_sett (fun st j => chargeS_named st ns j) 9 0 hs
theorem yieldS_sett {S : Hs} (hs : Sett S) : Sett (yieldS S) := by
  unfold yieldS
  split
  · exact hs
  · split
    · exact hs
    · rename_i x hx
      exact hs.same hx rfl (should_named (fun _ => rfl) rfl)
theorem linkH_sett {S : Hs} (hs : Sett S) (g p : Int) : Sett (linkH S g p) := by
  unfold linkH
  split
  · intro k z hz h0
    rcases set_cases hz with ⟨rfl, rfl⟩ | ⟨_, hz⟩
    · rfl
    · exact hs k z hz h0
  · exact hs
theorem newS_sett (cr gr : Int) : Sett (newS cr gr) := fun k x hx h0 => by
  unfold newS at hx
  simp only at hx
  rw [if_neg h0] at hx
  cases hx
/-- Sound, and settled. -/
structure Fine (S : Hs) : Prop where
  good : Good S
  sett : Sett S
theorem Fine.put {S : Hs} (h : Fine S) (g : Int) {e : Ent} (hv : I64 e.v) (hr : 0 ≤ e.rm) : Fine (putH S g e) := by obtain ⟨dep, hG⟩ := h.good; exact ⟨⟨dep, putH_good hG g hv hr⟩, putH_sett hG h.sett g hv hr⟩
theorem Fine.drop {S : Hs} (h : Fine S) (g n : Int) : Fine (dropH S g n) := by obtain ⟨dep, hG⟩ := h.good; exact ⟨⟨dep, dropH_good hG g n⟩, dropH_sett hG h.sett g n⟩
theorem Fine.stop {S : Hs} (h : Fine S) (g : Int) (is : Bool) : Fine (stopH S g is) := by obtain ⟨dep, hG⟩ := h.good; exact ⟨⟨dep, stopH_good hG g is⟩, stopH_sett hG h.sett g is⟩
theorem Fine.weigh {S : Hs} (h : Fine S) (g wt : Int) : Fine (weighH S g wt) := ⟨h.good.weigh g wt, weighH_sett h.sett g wt⟩
theorem Fine.nice {S : Hs} (h : Fine S) (g n : Int) {wt : Int} (hw : 0 ≤ wt) : Fine (niceH S g n wt) := by obtain ⟨dep, hG⟩ := h.good; exact ⟨⟨dep, niceH_good hG g n hw⟩, niceH_sett h.sett g n wt⟩
theorem Fine.pick {S : Hs} (h : Fine S) : Fine (pickS S) := ⟨h.good.pick, pickS_sett h.sett⟩
theorem Fine.yield {S : Hs} (h : Fine S) : Fine (yieldS S) := ⟨h.good.yield, yieldS_sett h.sett⟩
theorem Fine.charge {S : Hs} (h : Fine S) {ns : Int} (hn : 0 ≤ ns) : Fine (chargeH S ns) := ⟨h.good.charge hn, chargeH_sett h.sett ns⟩
theorem Fine.link {S : Hs} (h : Fine S) (g p : Int) : Fine (linkH S g p) := ⟨linkH_good h.good g p, linkH_sett h.sett g p⟩
theorem fine_new {cr gr : Int} (h1 : I64 cr) (h2 : I64 gr) : Fine (newS cr gr) := ⟨⟨_, newS_good h1 h2⟩, newS_sett cr gr⟩
end Go.Proofs.YtnnjbonejbmgdaaGreat.Hr

/- The farm's tables: in which group a task is, within which group each one is, a weight. Conditions: a task below 8, a group below 6. -/
namespace Go.Proofs.YtnnjbonejbmgdaaGreat.Hr
open Go.ChangeShapes Go.WideShapes Go.ChangeAt Go.RowKit Tree Queue
set_option linter.unusedVariables false
set_option linter.unusedSimpArgs false
set_option maxRecDepth 100000

def homeN : Nat → Nat
  | 1 => 1
  | 2 => 2
  | 3 => 3
  | 4 => 5
  | 5 => 5
  | 6 => 4
  | _ => 0
def parN : Nat → Nat
  | 2 => 1
  | 3 => 1
  | 5 => 3
  | _ => 0
theorem homes (n : Nat) (hn : n < 8) (w : World) : Calls Tryz.prog 23 #[.int .i64 n] w (Is (.int .i64 (homeN n)) w) := by
  have key : n = 0 ∨ n = 1 ∨ n = 2 ∨ n = 3 ∨ n = 4 ∨ n = 5 ∨ n = 6 ∨ n = 7 := by omega
  rcases key with rfl | rfl | rfl | rfl | rfl | rfl | rfl | rfl
  all_goals
    go_enter Tryz.func23, Tryz.ntmps23
    go_wp2
    go_ret
    exact ⟨rfl, alloc1 w _⟩
theorem parents (n : Nat) (hn : n < 6) (w : World) : Calls Tryz.prog 24 #[.int .i64 n] w (Is (.int .i64 (parN n)) w) := by
  have key : n = 0 ∨ n = 1 ∨ n = 2 ∨ n = 3 ∨ n = 4 ∨ n = 5 := by omega
  rcases key with rfl | rfl | rfl | rfl | rfl | rfl
  all_goals
    go_enter Tryz.func24, Tryz.ntmps24
    go_wp2
    go_ret
    exact ⟨rfl, alloc1 w _⟩
theorem heavys (x : Int) (h0 : 0 ≤ x) (h1 : x ≤ 4294967295) (w : World) : Calls Tryz.prog 56 #[.int .u32 x] w (fun e w' => e = .returned (.int .u64 (64 + x % 4032)) ∧ w' = w) := by
  have k1 : 0 ≤ x % 4032 := by omega
  have k2 : x % 4032 < 4032 := by omega
  go_enter Tryz.func56, Tryz.ntmps56
  go_wp2
  go_ret
  exact ⟨by go_num, rfl⟩
end Go.Proofs.YtnnjbonejbmgdaaGreat.Hr

/- The farm in memory: its queues, what each of eight tasks had when it slept, which are awake. Conditions: as each fact states them. -/
namespace Go.Proofs.YtnnjbonejbmgdaaGreat.Hr
open Go.ChangeShapes Go.WideShapes Go.ChangeAt Go.RowKit Tree Queue
set_option linter.unusedVariables false
set_option linter.unusedSimpArgs false
set_option maxRecDepth 100000

theorem ce_len (l : List Ent) : (cellsE l).length = 4 * l.length := by
  induction l with
  | nil => rfl
  | cons e l ih => simp [cellsE, ih]; omega
theorem ce_at {l : List Ent} {j : Nat} {e : Ent} (h : l[j]? = some e) : (cellsE l)[j * 4]? = some (.int .i64 e.id) ∧ (cellsE l)[j * 4 + 1]? = some (.int .u64 e.wt) ∧ (cellsE l)[j * 4 + 2]? = some (.int .i64 e.v) ∧ (cellsE l)[j * 4 + 3]? = some (.int .u64 e.rm) := by
  induction l generalizing j with
  | nil => simp at h
  | cons q l ih =>
    cases j with
    | zero => simp at h; subst h; simp [cellsE]
    | succ j =>
      simp at h
      obtain ⟨h1, h2, h3, h4⟩ := ih h
      rw [show (j + 1) * 4 = j * 4 + 4 by omega]
      exact ⟨by simpa [cellsE] using h1, by simpa [cellsE] using h2, by simpa [cellsE] using h3, by simpa [cellsE] using h4⟩
theorem ce_set : ∀ (own : List Ent) (i : Nat) (e : Ent), i < own.length → cellsE (own.set i e) = ((((cellsE own).set (i * 4) (.int .i64 e.id)).set (i * 4 + 1) (.int .u64 e.wt)).set (i * 4 + 2) (.int .i64 e.v)).set (i * 4 + 3) (.int .u64 e.rm)
  | [], i, e, h => by simp at h
  | d :: l, 0, e, h => by simp [cellsE]
  | d :: l, i + 1, e, h => by
    have ih := ce_set l i e (by simpa using h)
    rw [List.set_cons_succ]
    simp only [cellsE]
    rw [ih, show (i + 1) * 4 = i * 4 + 1 + 1 + 1 + 1 by omega]
    simp only [List.set_cons_succ]
def boolL (here : List Bool) : List Value := here.map .bool
def farmL (h : Nat) (own : List Ent) (here : List Bool) (cr gr tk : Int) : List Value := .pointer (some ⟨h, 0, none⟩) :: (cellsE own ++ (boolL here ++ [.int .i64 cr, .int .i64 gr, .int .u64 tk]))
/-- A farm's block. -/
structure Fb (w : World) (b h : Nat) (own : List Ent) (here : List Bool) (cr gr tk : Int) : Prop where
  blk : w.heap[b]? = some (.cells (farmL h own here cr gr tk).toArray 58 (0, 0))
  len : own.length = 8
  hen : here.length = 8
section
variable {w w' : World} {b h : Nat} {own : List Ent} {here : List Bool} {cr gr tk : Int}
theorem Fb.on (H : Fb w b h own here cr gr tk) (e : w'.heap[b]? = w.heap[b]?) : Fb w' b h own here cr gr tk := ⟨e.trans H.blk, H.len, H.hen⟩
theorem Fb.lt (H : Fb w b h own here cr gr tk) : b < w.heap.size := lt_of H.blk
theorem Fb.fresh (H : Fb w b h own here cr gr tk) (g : Below w.heap.size w w') : Fb w' b h own here cr gr tk := H.on (g.block b H.lt)
theorem Fb.cells (H : Fb w b h own here cr gr tk) :
    w.cell? ⟨b, 0, none⟩ = some (.pointer (some ⟨h, 0, none⟩)) ∧ w.cell? ⟨b, 41, none⟩ = some (.int .i64 cr) ∧ w.cell? ⟨b, 42, none⟩ = some (.int .i64 gr) ∧ w.cell? ⟨b, 43, none⟩ = some (.int .u64 tk) ∧ (∀ j, w.frozen? ⟨b, j, none⟩ = false) := by
  have hl : (cellsE own).length = 32 := by rw [ce_len, H.len]
  have hh : (boolL here).length = 8 := by unfold boolL; rw [List.length_map, H.hen]
  refine ⟨?_, ?_, ?_, ?_, fun j => frozen_of_row w b j _ _ H.blk⟩
  all_goals rw [cell_of_row w b _ _ _ _ H.blk]
  · rfl
  · simp [farmL, List.getElem?_append_right, hl, hh]
  · simp [farmL, List.getElem?_append_right, hl, hh]
  · simp [farmL, List.getElem?_append_right, hl, hh]
theorem Fb.ownC (H : Fb w b h own here cr gr tk) {i : Nat} {e : Ent} (he : own[i]? = some e) :
    w.cell? ⟨b, 1 + i * 4, none⟩ = some (.int .i64 e.id) ∧ w.cell? ⟨b, 1 + i * 4 + 1, none⟩ = some (.int .u64 e.wt) ∧ w.cell? ⟨b, 1 + i * 4 + 2, none⟩ = some (.int .i64 e.v) ∧ w.cell? ⟨b, 1 + i * 4 + 3, none⟩ = some (.int .u64 e.rm) := by
  obtain ⟨c0, c1, c2, c3⟩ := ce_at he
  have key : ∀ k v, (cellsE own)[k]? = some v → w.cell? ⟨b, 1 + k, none⟩ = some v := by
    intro k v hv
    have hk : k < (cellsE own).length := (List.getElem?_eq_some_iff.1 hv).1
    rw [cell_of_row w b _ _ _ _ H.blk]
    simp only [farmL, List.getElem?_toArray, Nat.add_comm 1 k, List.getElem?_cons_succ]
    rw [List.getElem?_append_left hk]
    exact hv
  exact ⟨key _ _ c0, key _ _ c1, key _ _ c2, key _ _ c3⟩
theorem Fb.hereC (H : Fb w b h own here cr gr tk) {i : Nat} {u : Bool} (he : here[i]? = some u) : w.cell? ⟨b, 33 + i, none⟩ = some (.bool u) := by
  have hl : (cellsE own).length = 32 := by rw [ce_len, H.len]
  have hi : i < here.length := (List.getElem?_eq_some_iff.1 he).1
  rw [cell_of_row w b _ _ _ _ H.blk]
  simp only [farmL, List.getElem?_toArray, show 33 + i = (32 + i) + 1 by omega, List.getElem?_cons_succ]
  rw [List.getElem?_append_right (by omega), hl, show 32 + i - 32 = i by omega, List.getElem?_append_left (by unfold boolL; rw [List.length_map]; exact hi)]
  unfold boolL
  rw [List.getElem?_map, he]; rfl
theorem setIn (x : Value) (l m : List Value) (k : Nat) (v : Value) (h : k < l.length) : (x :: (l ++ m)).set (k + 1) v = x :: (l.set k v ++ m) := by rw [List.set_cons_succ, List.set_append_left _ _ h]
theorem farmL_own (h : Nat) (own : List Ent) (here : List Bool) (cr gr tk : Int) (i : Nat) (e : Ent) (hi : i < own.length) :
    ((((farmL h own here cr gr tk).set (1 + i * 4) (.int .i64 e.id)).set (1 + i * 4 + 1) (.int .u64 e.wt)).set (1 + i * 4 + 2) (.int .i64 e.v)).set (1 + i * 4 + 3) (.int .u64 e.rm) = farmL h (own.set i e) here cr gr tk := by
  have hl := ce_len own
  unfold farmL
  rw [ce_set own i e hi, show 1 + i * 4 + 3 = (i * 4 + 3) + 1 by omega, show 1 + i * 4 + 2 = (i * 4 + 2) + 1 by omega, show 1 + i * 4 + 1 = (i * 4 + 1) + 1 by omega, show 1 + i * 4 = i * 4 + 1 by omega]
  rw [setIn _ _ _ _ _ (by omega), setIn _ _ _ _ _ (by rw [List.length_set]; omega), setIn _ _ _ _ _ (by rw [List.length_set, List.length_set]; omega), setIn _ _ _ _ _ (by rw [List.length_set, List.length_set, List.length_set]; omega)]
/-- One of the eight stored. -/
theorem Fb.setOwn (H : Fb w b h own here cr gr tk) (i : Nat) (hi : i < 8) (e : Ent) :
    Fb ((((w.setCell ⟨b, 1 + i * 4, none⟩ (.int .i64 e.id)).setCell ⟨b, 1 + i * 4 + 1, none⟩ (.int .u64 e.wt)).setCell ⟨b, 1 + i * 4 + 2, none⟩ (.int .i64 e.v)).setCell ⟨b, 1 + i * 4 + 3, none⟩ (.int .u64 e.rm)) b h (own.set i e) here cr gr tk := by
  have h1 := heap_setCell_same w b (1 + i * 4) _ _ (.int .i64 e.id) H.blk
  have h2 := heap_setCell_same _ b (1 + i * 4 + 1) _ _ (.int .u64 e.wt) h1
  have h3 := heap_setCell_same _ b (1 + i * 4 + 2) _ _ (.int .i64 e.v) h2
  have h4 := heap_setCell_same _ b (1 + i * 4 + 3) _ _ (.int .u64 e.rm) h3
  simp only [List.setIfInBounds_toArray] at h4
  rw [farmL_own h own here cr gr tk i e (by rw [H.len]; exact hi)] at h4
  exact ⟨h4, by rw [List.length_set]; exact H.len, H.hen⟩
theorem Fb.setHere (H : Fb w b h own here cr gr tk) (i : Nat) (hi : i < 8) (u : Bool) : Fb (w.setCell ⟨b, 33 + i, none⟩ (.bool u)) b h own (here.set i u) cr gr tk := by
  have hl : (cellsE own).length = 32 := by rw [ce_len, H.len]
  have h1 := heap_setCell_same w b (33 + i) _ _ (.bool u) H.blk
  simp only [List.setIfInBounds_toArray] at h1
  refine ⟨?_, H.len, by rw [List.length_set]; exact H.hen⟩
  rw [h1]
  unfold farmL
  rw [show 33 + i = (32 + i) + 1 by omega, List.set_cons_succ, List.set_append_right _ _ (by omega), hl, show 32 + i - 32 = i by omega, List.set_append_left _ _ (by unfold boolL; rw [List.length_map, H.hen]; exact hi)]
  unfold boolL
  rw [List.map_set]
end
/-- A farm as plain data. -/
structure Fm where
  S : Hs
  own : List Ent
  here : List Bool
  cr : Int
  gr : Int
  tk : Int
/-- A farm that a law holds. -/
structure Fw (w0 : World) (b h : Nat) (O : Nat → Prop) (F : Fm) (W : World) : Prop where
  box : Fb W b h F.own F.here F.cr F.gr F.tk
  que : Lw h (fun j => O j ∨ j = b) F.S W
  same : Same O w0 W
  lo : ¬ O b
section
variable {w0 w w' : World} {b h : Nat} {O : Nat → Prop} {F : Fm}
theorem Fw.fresh (H : Fw w0 b h O F w) (hg : Below w.heap.size w w') : Fw w0 b h O F w' := ⟨H.box.fresh hg, H.que.fresh hg, H.same.trans (Same.of hg fun k hk => H.que.2 k (.inl hk)), H.lo⟩
theorem Fw.did (H : Fw w0 b h O F w) {S' : Hs} {v : Value} {e : Ending} (D : DidL v S' h (fun j => O j ∨ j = b) w e w') : e = .returned v ∧ Fw w0 b h O { F with S := S' } w' :=
  ⟨D.1, H.box.on (D.2.2.block b (.inr rfl)), D.2.1, H.same.trans (D.2.2.mono fun j hj => .inl hj), H.lo⟩
theorem Fw.setHere (H : Fw w0 b h O F w) (i : Nat) (hi : i < 8) (u : Bool) : Fw w0 b h O { F with here := F.here.set i u } (w.setCell ⟨b, 33 + i, none⟩ (.bool u)) :=
  ⟨H.box.setHere i hi u, H.que.away (p := ⟨b, 33 + i, none⟩) (.inr rfl) _, H.same.trans (Same.setCell (p := ⟨b, 33 + i, none⟩) H.lo _), H.lo⟩
theorem Fw.setOwn (H : Fw w0 b h O F w) (i : Nat) (hi : i < 8) (e : Ent) : Fw w0 b h O { F with own := F.own.set i e } ((((w.setCell ⟨b, 1 + i * 4, none⟩ (.int .i64 e.id)).setCell ⟨b, 1 + i * 4 + 1, none⟩ (.int .u64 e.wt)).setCell ⟨b, 1 + i * 4 + 2, none⟩ (.int .i64 e.v)).setCell ⟨b, 1 + i * 4 + 3, none⟩ (.int .u64 e.rm)) :=
  ⟨H.box.setOwn i hi e, (((H.que.away (p := ⟨b, 1 + i * 4, none⟩) (.inr rfl) _).away (p := ⟨b, 1 + i * 4 + 1, none⟩) (.inr rfl) _).away (p := ⟨b, 1 + i * 4 + 2, none⟩) (.inr rfl) _).away (p := ⟨b, 1 + i * 4 + 3, none⟩) (.inr rfl) _,
    (((H.same.trans (Same.setCell (p := ⟨b, 1 + i * 4, none⟩) H.lo _)).trans (Same.setCell (p := ⟨b, 1 + i * 4 + 1, none⟩) H.lo _)).trans (Same.setCell (p := ⟨b, 1 + i * 4 + 2, none⟩) H.lo _)).trans (Same.setCell (p := ⟨b, 1 + i * 4 + 3, none⟩) H.lo _), H.lo⟩
end
end Go.Proofs.YtnnjbonejbmgdaaGreat.Hr

/- What a task's waking or sleeping does to the farm. Conditions: the queues are sound, the task is below 8. -/
namespace Go.Proofs.YtnnjbonejbmgdaaGreat.Hr
open Go.ChangeShapes Go.WideShapes Go.ChangeAt Go.RowKit Tree Queue
set_option linter.unusedVariables false
set_option linter.unusedSimpArgs false
set_option maxRecDepth 100000

theorem Fw.drew {w0 w : World} {b h : Nat} {O : Nat → Prop} {F : Fm} (H : Fw w0 b h O F w) : Fw w0 b h O F w.drew := H.fresh (drew_below _)
def sleepF (F : Fm) (n : Nat) : Fm := { F with S := dropH F.S (homeN n) n, own := F.own.set n (dropE F.S (homeN n) n), here := F.here.set n false }
set_option maxHeartbeats 8000000 in
theorem wake_drop (w0 w : World) (b h : Nat) (O : Nat → Prop) (F : Fm) (H : Fw w0 b h O F w) (hF : Fine F.S) (n : Nat) (hn : n < 8) (hh : F.here[n]? = some true) :
    Calls Tryz.prog 55 #[.pointer (some ⟨b, 0, none⟩), .int .i64 n] w (fun e w' => e = .returned (.tuple #[]) ∧ Fw w0 b h O (sleepF F n) w') := by
  have W0 := Lib.hid H
  have HM := Lib.hid (homes n hn)
  have DR := Lib.hid (fun X (K : Fw w0 b h O F X) => (Ldrop K.que hF.good (homeN n) n).mono fun _ _ D => K.did D)
  unfold sleepF
  clear H
  generalize dropE F.S (homeN n) n = E at *
  obtain ⟨ea, eb, ec, ed⟩ := E
  simp only [Ent.val] at DR
  generalize errDropH F.S (homeN n) n = er at *
  generalize dropH F.S (homeN n) n = S1 at *
  generalize homeN n = g at *
  obtain ⟨c0, c41, c42, c43, cf⟩ := W0.out.box.cells
  have ch := W0.out.box.hereC hh
  have q0 : (n : Int) < 8 := by omega
  have q1 : 0 ≤ (n : Int) := by omega
  go_enter Tryz.func55, Tryz.ntmps55
  go_wp2_with fail
  refine (HM.out _).mono ?_
  rintro e w1 ⟨rfl, g1⟩
  have W1 := Lib.hid (W0.out.fresh g1)
  clear g1 HM W0 c0 c41 c42 c43 cf ch
  obtain ⟨d0, d41, d42, d43, df⟩ := W1.out.box.cells
  have dh := W1.out.box.hereC hh
  go_wp2_with fail
  refine (DR.out _ W1.out).mono ?_
  rintro e w2 ⟨rfl, W2⟩
  replace W2 := Lib.hid W2
  clear DR W1 d0 d41 d42 d43 df dh
  obtain ⟨d0, d41, d42, d43, df⟩ := W2.out.box.cells
  go_wp2_with fail
  have X1 := heap_alloc_new w2 (.cells #[.int .i64 ea, .int .u64 eb, .int .i64 ec, .int .u64 ed] 34)
  have W3 := Lib.hid (W2.out.fresh (alloc1 w2 (.cells #[.int .i64 ea, .int .u64 eb, .int .i64 ec, .int .u64 ed] 34)))
  clear W2 d0 d41 d42 d43 df
  generalize w2.alloc (.cells #[.int .i64 ea, .int .u64 eb, .int .i64 ec, .int .u64 ed] 34) = X3 at *
  generalize w2.heap.size = z at *
  have z0 : X3.cell? ⟨z, 0, none⟩ = some (.int .i64 ea) := by rw [cell_of_row X3 z _ _ _ _ X1]; rfl
  have z1 : X3.cell? ⟨z, 1, none⟩ = some (.int .u64 eb) := by rw [cell_of_row X3 z _ _ _ _ X1]; rfl
  have z2 : X3.cell? ⟨z, 2, none⟩ = some (.int .i64 ec) := by rw [cell_of_row X3 z _ _ _ _ X1]; rfl
  have z3 : X3.cell? ⟨z, 3, none⟩ = some (.int .u64 ed) := by rw [cell_of_row X3 z _ _ _ _ X1]; rfl
  obtain ⟨d0, d41, d42, d43, df⟩ := W3.out.box.cells
  obtain ⟨eo, ho⟩ : ∃ eo, F.own[n]? = some eo := ⟨_, List.getElem?_eq_getElem (by have hl : F.own.length = 8 := W3.out.box.len; omega)⟩
  obtain ⟨o0, o1, o2, o3⟩ := W3.out.box.ownC ho
  clear ho
  have W4 := Lib.hid (W3.out.setOwn n hn ⟨ea, eb, ec, ed⟩).drew
  go_region
  clear W3 X1 z0 z1 z2 z3 d0 d41 d42 d43 df o0 o1 o2 o3
  generalize ((((X3.setCell ⟨b, 1 + n * 4, none⟩ (.int .i64 ea)).setCell ⟨b, 1 + n * 4 + 1, none⟩ (.int .u64 eb)).setCell ⟨b, 1 + n * 4 + 2, none⟩ (.int .i64 ec)).setCell ⟨b, 1 + n * 4 + 3, none⟩ (.int .u64 ed)).drew = X4 at *
  have dh := W4.out.box.hereC hh
  obtain ⟨d0, d41, d42, d43, df⟩ := W4.out.box.cells
  have W5 := Lib.hid (W4.out.setHere n hn false)
  go_wp2_with fail
  refine bodyPost_ret (results_none rfl _ _ _) rfl ?_
  exact ⟨rfl, W5.out⟩
/-- A farm, and a box beside it. -/
structure Fz (w0 : World) (b h : Nat) (O : Nat → Prop) (F : Fm) (z : Nat) (e : Ent) (X : World) : Prop where
  box : Fb X b h F.own F.here F.cr F.gr F.tk
  bx : Bx X z e
  que : Lw h (fun j => (O j ∨ j = b) ∨ j = z) F.S X
  same : Same O w0 X
  lo : ¬ O b
  zo : ¬ O z
  ne : z ≠ b
section
variable {w0 w w' : World} {b h z : Nat} {O : Nat → Prop} {F : Fm} {e : Ent}
theorem Fw.aside (H : Fw w0 b h O F w) (e : Ent) : Fz w0 b h O F w.heap.size e (w.alloc (.cells #[.int .i64 e.id, .int .u64 e.wt, .int .i64 e.v, .int .u64 e.rm] 34)) := by
  have g := alloc1 w (.cells #[.int .i64 e.id, .int .u64 e.wt, .int .i64 e.v, .int .u64 e.rm] 34)
  have hz := lt_of (heap_alloc_new w (.cells #[.int .i64 e.id, .int .u64 e.wt, .int .i64 e.v, .int .u64 e.rm] 34))
  refine ⟨H.box.fresh g, heap_alloc_new w _, ⟨H.que.1.imp fun _ K => K.imp fun _ K => (K.other fun k hk => hk.imp (fun h => h) (fun e => by omega)).fresh g, ?_⟩, H.same.trans (Same.of g fun k hk => H.que.2 k (.inl hk)), H.lo, fun hk => Nat.lt_irrefl _ (H.que.2 _ (.inl hk)), fun e => ?_⟩
  · rintro k (hk | rfl)
    · exact Nat.lt_of_lt_of_le (H.que.2 k hk) g.size
    · exact hz
  · have := H.box.lt; omega
theorem Fz.fresh (H : Fz w0 b h O F z e w) (hg : Below w.heap.size w w') : Fz w0 b h O F z e w' :=
  ⟨H.box.fresh hg, H.bx.on (hg.block _ H.bx.lt), H.que.fresh hg, H.same.trans (Same.of hg fun k hk => H.que.2 k (.inl (.inl hk))), H.lo, H.zo, H.ne⟩
theorem Fz.drew (H : Fz w0 b h O F z e w) : Fz w0 b h O F z e w.drew := H.fresh (drew_below _)
theorem Fz.setV (H : Fz w0 b h O F z e w) (v : Int) : Fz w0 b h O F z { e with v := v } (w.setCell ⟨z, 2, none⟩ (.int .i64 v)) :=
  ⟨H.box.on (Below.heap_setCell _ _ _ _ (Ne.symm H.ne)), H.bx.setV v, H.que.away (p := ⟨z, 2, none⟩) (.inr rfl) _, H.same.trans (Same.setCell (p := ⟨z, 2, none⟩) H.zo _), H.lo, H.zo, H.ne⟩
theorem Fz.did (H : Fz w0 b h O F z e w) {S' : Hs} {v : Value} {x : Ending} (D : DidL v S' h (fun j => (O j ∨ j = b) ∨ j = z) w x w') : x = .returned v ∧ Fz w0 b h O { F with S := S' } z e w' :=
  ⟨D.1, H.box.on (D.2.2.block b (.inl (.inr rfl))), H.bx.on (D.2.2.block z (.inr rfl)), D.2.1, H.same.trans (D.2.2.mono fun j hj => .inl (.inl hj)), H.lo, H.zo, H.ne⟩
theorem Fz.out (H : Fz w0 b h O F z e w) : Fw w0 b h O F w := ⟨H.box, H.que.other (fun k hk => .inl (.inl hk)) (fun k hk => H.que.2 k (.inl hk)), H.same, H.lo⟩
end
def wokenE (F : Fm) (n : Nat) (e : Ent) : Ent := { e with v := max e.v (IntKind.i64.wrap (minS F.S (homeN n) - F.cr)) }
def wakenF (F : Fm) (n : Nat) (e : Ent) : Fm := { F with S := putH F.S (homeN n) (wokenE F n e), here := F.here.set n (errPutH F.S (homeN n) (wokenE F n e) == 0) }
set_option maxHeartbeats 8000000 in
theorem wake_put (w0 w : World) (b h : Nat) (O : Nat → Prop) (F : Fm) (H : Fw w0 b h O F w) (hF : Fine F.S) (n : Nat) (hn : n < 8) (hh : F.here[n]? = some false) (e : Ent) (he : F.own[n]? = some e) (hv : I64 e.v) (hw : 0 ≤ e.wt) (hr : 0 ≤ e.rm) :
    Calls Tryz.prog 55 #[.pointer (some ⟨b, 0, none⟩), .int .i64 n] w (fun x w' => x = .returned (.tuple #[]) ∧ Fw w0 b h O (wakenF F n e) w') := by
  have W0 := Lib.hid H
  have HM := Lib.hid (homes n hn)
  have MN := Lib.hid (fun z X (K : Fz w0 b h O F z e X) => Lmin K.que (homeN n))
  have hwv : I64 (wokenE F n e).v := by
    have := IntKind.wrap_i64 (minS F.S (homeN n) - F.cr)
    unfold wokenE I64 at *
    simp only
    omega
  have PT := Lib.hid (fun z X (K : Fz w0 b h O F z (wokenE F n e) X) => (Lput K.que hF.good (homeN n) (wokenE F n e) hwv hw hr).mono fun _ _ D => K.did D)
  have wk : ({ e with v := (wokenE F n e).v } : Ent) = wokenE F n e := rfl
  have wv : (wokenE F n e).v = max e.v (IntKind.i64.wrap (minS F.S (homeN n) - F.cr)) := rfl
  have wf : (wokenE F n e).id = e.id ∧ (wokenE F n e).wt = e.wt ∧ (wokenE F n e).rm = e.rm := ⟨rfl, rfl, rfl⟩
  unfold wakenF
  clear H hwv
  generalize errPutH F.S (homeN n) (wokenE F n e) = er at *
  generalize putH F.S (homeN n) (wokenE F n e) = S1 at *
  generalize hmn : minS F.S (homeN n) = mn at *
  generalize homeN n = g at *
  generalize wokenE F n e = e2 at *
  obtain ⟨ea, eb, ec, ed⟩ := e
  obtain ⟨fa, fb, fc, fd⟩ := e2
  simp only at wk wv wf hv hw hr
  obtain ⟨rfl, rfl, rfl⟩ := wf
  simp only [Ent.val] at PT
  clear wk hv hw hr hmn
  have q0 : (n : Int) < 8 := by omega
  have q1 : 0 ≤ (n : Int) := by omega
  obtain ⟨c0, c41, c42, c43, cf⟩ := W0.out.box.cells
  have ch := W0.out.box.hereC hh
  go_enter Tryz.func55, Tryz.ntmps55
  go_wp2_with fail
  refine (HM.out _).mono ?_
  rintro e w1 ⟨rfl, g1⟩
  have W1 := Lib.hid (W0.out.fresh g1)
  clear g1 HM W0 c0 c41 c42 c43 cf ch
  obtain ⟨d0, d41, d42, d43, df⟩ := W1.out.box.cells
  have dh := W1.out.box.hereC hh
  obtain ⟨o0, o1, o2, o3⟩ := W1.out.box.ownC he
  go_wp2_with fail
  have W2 := Lib.hid (W1.out.aside ⟨fa, fb, ec, fd⟩)
  clear W1 d0 d41 d42 d43 df dh o0 o1 o2 o3
  simp only at W2
  generalize w1.alloc (.cells #[.int .i64 fa, .int .u64 fb, .int .i64 ec, .int .u64 fd] 34) = X2 at *
  generalize w1.heap.size = z at *
  obtain ⟨d0, d41, d42, d43, df⟩ := W2.out.box.cells
  obtain ⟨lo, hlo⟩ : ∃ lo, IntKind.i64.wrap (mn - F.cr) = lo := ⟨_, rfl⟩
  rw [hlo] at wv
  go_region_held3 (fun w' => w'.cell? ⟨b, 0, none⟩ = some (.pointer (some ⟨h, 0, none⟩)) ∧ w'.cell? ⟨b, 41, none⟩ = some (.int .i64 F.cr)) (first | exact ⟨d0, d41⟩ | exact ⟨l0, l41⟩)
    (first
      | (go_at_call 26; refine (MN.out _ _ W2.out.drew).mono ?_; rintro e w3 ⟨rfl, g3⟩; have W3 := Lib.hid (W2.out.drew.fresh g3); clear g3; obtain ⟨l0, l41, l42, l43, lf⟩ := W3.out.box.cells))
  clear W2 d0 d41 d42 d43 df hlo
  obtain ⟨z0, z1, z2, z3, zf⟩ := W3.out.bx.cells
  simp only at z0 z1 z2 z3
  have zf2 := zf 2
  have W4 := Lib.hid (W3.out.setV fc)
  simp only at W4
  replace wv := wv.symm
  go_wp2_with fail
  clear W3 l0 l41 l42 l43 lf z0 z1 z2 z3 zf zf2 wv
  generalize w3.setCell ⟨z, 2, none⟩ (.int .i64 fc) = X4 at *
  obtain ⟨d0, d41, d42, d43, df⟩ := W4.out.box.cells
  obtain ⟨z0, z1, z2, z3, zf⟩ := W4.out.bx.cells
  simp only at z0 z1 z2 z3
  have hbz : b ≠ z := Ne.symm W4.out.ne
  go_region_held3 (fun w' => w'.cell? ⟨b, 0, none⟩ = some (.pointer (some ⟨h, 0, none⟩)) ∧ w'.cell? ⟨z, 0, none⟩ = some (.int .i64 fa) ∧ w'.cell? ⟨z, 1, none⟩ = some (.int .u64 fb) ∧ w'.cell? ⟨z, 2, none⟩ = some (.int .i64 fc) ∧ w'.cell? ⟨z, 3, none⟩ = some (.int .u64 fd))
    (first | exact ⟨d0, z0, z1, z2, z3⟩ | exact ⟨l0, y0, y1, y2, y3⟩ | exact ⟨(World.cell?_setCell_other _ _ _ _ (by simp)).trans l0, (World.cell?_setCell_far _ _ _ _ hbz).trans y0, (World.cell?_setCell_far _ _ _ _ hbz).trans y1, (World.cell?_setCell_far _ _ _ _ hbz).trans y2, (World.cell?_setCell_far _ _ _ _ hbz).trans y3⟩)
    (first
      | (go_at_call 32; refine (PT.out _ _ W4.out.drew).mono ?_; rintro e w5 ⟨rfl, W5⟩; replace W5 := Lib.hid W5; obtain ⟨l0, l41, l42, l43, lf⟩ := W5.out.box.cells; obtain ⟨y0, y1, y2, y3, yf⟩ := W5.out.bx.cells; simp only at y0 y1 y2 y3; have lh := W5.out.box.hereC hh; have W6 := Lib.hid (W5.out.out.setHere n hn (er == 0))))
  go_wp2_with fail
  go_end0
  exact ⟨rfl, W6.out⟩
end Go.Proofs.YtnnjbonejbmgdaaGreat.Hr

/- A whole number's last three bits. Conditions: none. -/
namespace Go.Proofs.YtnnjbonejbmgdaaGreat.Hr
open Go
theorem and7 (a : Int) : ∃ n : Nat, n < 8 ∧ bits .and .i64 a 7 = (n : Int) := by
  refine ⟨(BitVec.ofInt 64 a &&& BitVec.ofInt 64 7).toNat, ?_, ?_⟩
  · rw [BitVec.toNat_and]
    exact Nat.lt_of_le_of_lt Nat.and_le_right (by decide)
  · have h : (BitVec.ofInt 64 a &&& BitVec.ofInt 64 7).toNat < 8 := by
      rw [BitVec.toNat_and]
      exact Nat.lt_of_le_of_lt Nat.and_le_right (by decide)
    show IntKind.i64.wrap ((BitVec.ofInt 64 a &&& BitVec.ofInt 64 7).toNat : Int) = _
    generalize (BitVec.ofInt 64 a &&& BitVec.ofInt 64 7).toNat = n at *
    rw [IntKind.wrap_i64]
    omega
end Go.Proofs.YtnnjbonejbmgdaaGreat.Hr

/- What a piece of work does to the farm: a group is stopped, or let go, or has another weight. Conditions: the queues are sound, each number is one of its kind. -/
namespace Go.Proofs.YtnnjbonejbmgdaaGreat.Hr
open Go.ChangeShapes Go.WideShapes Go.ChangeAt Go.RowKit Tree Queue
set_option linter.unusedVariables false
set_option linter.unusedSimpArgs false
set_option maxRecDepth 100000

structure Wk where
  kind : Int
  who : Int
  wt : Int
  ns : Int
  is : Bool
def Wk.cells (k : Wk) : Array Value := #[.int .i64 k.kind, .int .i64 k.who, .int .u32 k.wt, .int .u32 k.ns, .bool k.is]
/-- A farm, and a piece of work beside it. -/
structure Fx (w0 : World) (b h : Nat) (O : Nat → Prop) (F : Fm) (z : Nat) (k : Wk) (X : World) : Prop where
  box : Fb X b h F.own F.here F.cr F.gr F.tk
  bx : X.heap[z]? = some (.cells k.cells 54 (0, 0))
  que : Lw h (fun j => (O j ∨ j = b) ∨ j = z) F.S X
  same : Same O w0 X
  lo : ¬ O b
section
variable {w0 w w' : World} {b h z : Nat} {O : Nat → Prop} {F : Fm} {k : Wk}
theorem Fw.beside (H : Fw w0 b h O F w) (k : Wk) : Fx w0 b h O F w.heap.size k (w.alloc (.cells k.cells 54)) := by
  have g := alloc1 w (.cells k.cells 54)
  have hz := lt_of (heap_alloc_new w (.cells k.cells 54))
  refine ⟨H.box.fresh g, heap_alloc_new w _, ⟨H.que.1.imp fun _ K => K.imp fun _ K => (K.other fun k hk => hk.imp (fun h => h) (fun e => by omega)).fresh g, ?_⟩, H.same.trans (Same.of g fun k hk => H.que.2 k (.inl hk)), H.lo⟩
  rintro k (hk | rfl)
  · exact Nat.lt_of_lt_of_le (H.que.2 k hk) g.size
  · exact hz
theorem Fx.fresh (H : Fx w0 b h O F z k w) (hg : Below w.heap.size w w') : Fx w0 b h O F z k w' :=
  ⟨H.box.fresh hg, (hg.block _ (lt_of H.bx)).trans H.bx, H.que.fresh hg, H.same.trans (Same.of hg fun k hk => H.que.2 k (.inl (.inl hk))), H.lo⟩
theorem Fx.drew (H : Fx w0 b h O F z k w) : Fx w0 b h O F z k w.drew := H.fresh (drew_below _)
theorem Fx.did (H : Fx w0 b h O F z k w) {S' : Hs} {v : Value} {x : Ending} (D : DidL v S' h (fun j => (O j ∨ j = b) ∨ j = z) w x w') : x = .returned v ∧ Fx w0 b h O { F with S := S' } z k w' :=
  ⟨D.1, H.box.on (D.2.2.block b (.inl (.inr rfl))), (D.2.2.block z (.inr rfl)).trans H.bx, D.2.1, H.same.trans (D.2.2.mono fun j hj => .inl (.inl hj)), H.lo⟩
theorem Fx.out (H : Fx w0 b h O F z k w) : Fw w0 b h O F w := ⟨H.box, H.que.other (fun k hk => .inl (.inl hk)) (fun k hk => H.que.2 k (.inl hk)), H.same, H.lo⟩
theorem Fx.cells (H : Fx w0 b h O F z k w) : w.cell? ⟨z, 0, none⟩ = some (.int .i64 k.kind) ∧ w.cell? ⟨z, 1, none⟩ = some (.int .i64 k.who) ∧ w.cell? ⟨z, 2, none⟩ = some (.int .u32 k.wt) ∧ w.cell? ⟨z, 3, none⟩ = some (.int .u32 k.ns) ∧ w.cell? ⟨z, 4, none⟩ = some (.bool k.is) := by
  refine ⟨?_, ?_, ?_, ?_, ?_⟩
  all_goals rw [cell_of_row w z _ _ _ _ H.bx]; rfl
end
def whoN (k : Wk) : Nat := (bits .and .i64 k.who 7).toNat
def midS (F : Fm) (k : Wk) : Hs :=
  if k.kind = 1 then stopH F.S (1 + (whoN k % 5 : Nat)) k.is else if k.kind = 2 then weighH F.S (1 + (whoN k % 5 : Nat)) (64 + k.wt % 4032)
  else chargeH (if k.is then pickS (yieldS F.S) else F.S) (k.ns % (F.tk + 1))
theorem midS_fine {F : Fm} (hF : Fine F.S) (k : Wk) (hn : 0 ≤ k.ns) (ht : 0 ≤ F.tk) : Fine (midS F k) := by
  have h0 : 0 ≤ k.ns % (F.tk + 1) := Int.emod_nonneg _ (by omega)
  unfold midS
  split
  · exact hF.stop _ _
  · split
    · exact hF.weigh _ _
    · split
      · exact hF.yield.pick.charge h0
      · exact hF.charge h0
set_option maxHeartbeats 8000000 in
theorem work_stop (w0 w : World) (b h : Nat) (O : Nat → Prop) (F : Fm) (H : Fw w0 b h O F w) (hF : Fine F.S) (k : Wk) (h1 : k.kind = 1) (hn : 0 ≤ k.ns) (ht : 0 ≤ F.tk) :
    Calls Tryz.prog 15 #[.pointer (some ⟨b, 0, none⟩), .agg k.cells] w (fun x w' => x = .returned (.tuple #[]) ∧ Fw w0 b h O { F with S := pickS (midS F k) } w') := by
  have W0 := Lib.hid (H.beside k)
  obtain ⟨m, hm8, hm⟩ := and7 k.who
  have hwm : whoN k = m := by unfold whoN; rw [hm]; rfl
  have ST := Lib.hid (fun X (K : Fx w0 b h O F w.heap.size k X) => (Lstop K.que hF.good (1 + (m % 5 : Nat)) k.is).mono fun _ _ D => K.did D)
  have e1 : midS F k = stopH F.S (1 + (m % 5 : Nat)) k.is := by unfold midS; rw [if_pos h1, hwm]
  have hF1 := midS_fine hF k hn ht
  rw [e1] at hF1 ⊢
  clear e1 hwm hn ht H
  generalize errL F.S (1 + (m % 5 : Nat)) = er at *
  generalize stopH F.S (1 + (m % 5 : Nat)) k.is = S1 at *
  have PK := Lib.hid (fun X (K : Fx w0 b h O { F with S := S1 } w.heap.size k X) => (Lpick K.que hF1.good).mono fun _ _ D => K.did D)
  clear hF1 hF
  simp only at PK
  generalize pickN S1 = pn at *
  generalize pickS S1 = S2 at *
  obtain ⟨r, hr⟩ : ∃ r : Nat, r = m % 5 := ⟨_, rfl⟩
  have hr5 : r < 5 := by omega
  have q1 : (m : Int).tmod 5 = (r : Int) := by rw [hr]; rfl
  have q2 : IntKind.i64.wrap (1 + (r : Int)) = 1 + (r : Int) := by rw [IntKind.wrap_i64]; omega
  rw [← hr] at ST
  clear hr
  obtain ⟨c0, c41, c42, c43, cf⟩ := W0.out.box.cells
  obtain ⟨k0, k1, k2, k3, k4⟩ := W0.out.cells
  have W0' := Lib.hid W0.out.drew
  obtain ⟨kk, kw, kt, kn, ki⟩ := k
  simp only at h1 hm ST
  subst h1
  simp only [Wk.cells] at *
  go_enter Tryz.func15, Tryz.ntmps15
  go_wp2_with fail
  generalize w.alloc (.cells #[.int .i64 1, .int .i64 kw, .int .u32 kt, .int .u32 kn, .bool ki] 54) = X0 at *
  generalize w.heap.size = z at *
  go_region_held3 (fun w' => w'.cell? ⟨b, 0, none⟩ = some (.pointer (some ⟨h, 0, none⟩)) ∧ w'.cell? ⟨z, 4, none⟩ = some (.bool ki)) (first | exact ⟨c0, k4⟩ | exact ⟨l0, y4⟩)
    (first
      | (go_at_call 35; refine (ST.out _ W0'.out).mono ?_; rintro e w1 ⟨rfl, W1⟩; replace W1 := Lib.hid W1; obtain ⟨l0, l41, l42, l43, lf⟩ := W1.out.box.cells; obtain ⟨y0, y1, y2, y3, y4⟩ := W1.out.cells))
  go_wp2_with (go_at_call 36; refine (PK.out _ W1.out).mono ?_; rintro e w2 ⟨rfl, W2⟩; replace W2 := Lib.hid W2.out)
  go_end0
  exact ⟨rfl, W2.out⟩
end Go.Proofs.YtnnjbonejbmgdaaGreat.Hr

/- What a piece of work does to the farm: a group has another weight; a task is served, or yields. Conditions: the queues are sound, each number is one of its kind. -/
namespace Go.Proofs.YtnnjbonejbmgdaaGreat.Hr
open Go.ChangeShapes Go.WideShapes Go.ChangeAt Go.RowKit Tree Queue
set_option linter.unusedVariables false
set_option linter.unusedSimpArgs false
set_option maxRecDepth 100000

set_option maxHeartbeats 8000000 in
theorem work_weigh (w0 w : World) (b h : Nat) (O : Nat → Prop) (F : Fm) (H : Fw w0 b h O F w) (hF : Fine F.S) (k : Wk) (h1 : k.kind = 2) (hkw : 0 ≤ k.wt ∧ k.wt ≤ 4294967295) (hn : 0 ≤ k.ns) (ht : 0 ≤ F.tk) :
    Calls Tryz.prog 15 #[.pointer (some ⟨b, 0, none⟩), .agg k.cells] w (fun x w' => x = .returned (.tuple #[]) ∧ Fw w0 b h O { F with S := pickS (midS F k) } w') := by
  have W0 := Lib.hid (H.beside k)
  obtain ⟨m, hm8, hm⟩ := and7 k.who
  have hwm : whoN k = m := by unfold whoN; rw [hm]; rfl
  have ST := Lib.hid (fun X (K : Fx w0 b h O F w.heap.size k X) => (Lweigh K.que hF.good (1 + (m % 5 : Nat)) (64 + k.wt % 4032) (by omega) (by omega)).mono fun _ _ D => K.did D)
  have e1 : midS F k = weighH F.S (1 + (m % 5 : Nat)) (64 + k.wt % 4032) := by unfold midS; rw [if_neg (by rw [h1]; decide), if_pos h1, hwm]
  have HV := Lib.hid (fun X => heavys k.wt hkw.1 hkw.2 X)
  have hF1 := midS_fine hF k hn ht
  rw [e1] at hF1 ⊢
  clear e1 hwm hn ht H hkw
  generalize errWeighH F.S (1 + (m % 5 : Nat)) (64 + k.wt % 4032) = er at *
  generalize weighH F.S (1 + (m % 5 : Nat)) (64 + k.wt % 4032) = S1 at *
  generalize 64 + k.wt % 4032 = hw at *
  have PK := Lib.hid (fun X (K : Fx w0 b h O { F with S := S1 } w.heap.size k X) => (Lpick K.que hF1.good).mono fun _ _ D => K.did D)
  clear hF1 hF
  simp only at PK
  generalize pickN S1 = pn at *
  generalize pickS S1 = S2 at *
  obtain ⟨r, hr⟩ : ∃ r : Nat, r = m % 5 := ⟨_, rfl⟩
  have hr5 : r < 5 := by omega
  have q1 : (m : Int).tmod 5 = (r : Int) := by rw [hr]; rfl
  have q2 : IntKind.i64.wrap (1 + (r : Int)) = 1 + (r : Int) := by rw [IntKind.wrap_i64]; omega
  rw [← hr] at ST
  clear hr
  obtain ⟨c0, c41, c42, c43, cf⟩ := W0.out.box.cells
  obtain ⟨k0, k1, k2, k3, k4⟩ := W0.out.cells
  have W0' := Lib.hid W0.out.drew
  obtain ⟨kk, kw, kt, kn, ki⟩ := k
  simp only at h1 hm ST HV
  subst h1
  simp only [Wk.cells] at *
  go_enter Tryz.func15, Tryz.ntmps15
  go_wp2_with fail
  generalize w.alloc (.cells #[.int .i64 2, .int .i64 kw, .int .u32 kt, .int .u32 kn, .bool ki] 54) = X0 at *
  generalize w.heap.size = z at *
  go_region_held3 (fun w' => w'.cell? ⟨b, 0, none⟩ = some (.pointer (some ⟨h, 0, none⟩)) ∧ w'.cell? ⟨z, 2, none⟩ = some (.int .u32 kt)) (first | exact ⟨c0, k2⟩ | exact ⟨l0, y2⟩)
    (first
      | (go_at_call 56; refine (HV.out _).mono ?_; rintro e w1 ⟨rfl, rfl⟩)
      | (go_at_call 34; refine (ST.out _ W0'.out).mono ?_; rintro e w1 ⟨rfl, W1⟩; replace W1 := Lib.hid W1; obtain ⟨l0, l41, l42, l43, lf⟩ := W1.out.box.cells; obtain ⟨y0, y1, y2, y3, y4⟩ := W1.out.cells))
  go_wp2_with (go_at_call 36; refine (PK.out _ W1.out).mono ?_; rintro e w2 ⟨rfl, W2⟩; replace W2 := Lib.hid W2.out)
  go_end0
  exact ⟨rfl, W2.out⟩
end Go.Proofs.YtnnjbonejbmgdaaGreat.Hr

/- What a piece of work does to the farm: a task is served, or yields. Conditions: the queues are sound, each number is one of its kind. -/
namespace Go.Proofs.YtnnjbonejbmgdaaGreat.Hr
open Go.ChangeShapes Go.WideShapes Go.ChangeAt Go.RowKit Tree Queue
set_option linter.unusedVariables false
set_option linter.unusedSimpArgs false
set_option maxRecDepth 100000

set_option maxHeartbeats 8000000 in
theorem work_serve (w0 w : World) (b h : Nat) (O : Nat → Prop) (F : Fm) (H : Fw w0 b h O F w) (hF : Fine F.S) (k : Wk) (h0 : ¬ k.kind = 0) (h1 : ¬ k.kind = 1) (h2 : ¬ k.kind = 2) (his : k.is = false) (hn : 0 ≤ k.ns ∧ k.ns ≤ 4294967295) (ht : 0 ≤ F.tk ∧ F.tk ≤ 65536) :
    Calls Tryz.prog 15 #[.pointer (some ⟨b, 0, none⟩), .agg k.cells] w (fun x w' => x = .returned (.tuple #[]) ∧ Fw w0 b h O { F with S := pickS (midS F k) } w') := by
  have W0 := Lib.hid (H.beside k)
  have hj0 : 0 ≤ k.ns % (F.tk + 1) := Int.emod_nonneg _ (by omega)
  have q1 : k.ns.tmod (F.tk + 1) = k.ns % (F.tk + 1) := Int.tmod_eq_emod_of_nonneg hn.1
  have hF1 := midS_fine hF k hn.1 ht.1
  have e1 : midS F k = chargeH (F.S) (k.ns % (F.tk + 1)) := by unfold midS; rw [if_neg h1, if_neg h2, his]; rfl
  rw [e1] at hF1 ⊢
  have hFY := hF
  have CH := Lib.hid (fun X (K : Fx w0 b h O F w.heap.size k X) => (Lcharge K.que hFY.good (k.ns % (F.tk + 1)) hj0).mono fun _ _ D => K.did D)
  clear e1 H hFY
  generalize hjj : k.ns % (F.tk + 1) = j at *
  generalize errChargeH F.S j = er at *
  generalize chargeH F.S j = S1 at *
  have PK := Lib.hid (fun X (K : Fx w0 b h O { F with S := S1 } w.heap.size k X) => (Lpick K.que hF1.good).mono fun _ _ D => K.did D)
  clear hF1 hF hj0
  simp only at PK CH
  generalize pickN S1 = pn at *
  generalize pickS S1 = S2 at *
  obtain ⟨m, hm8, hm⟩ := and7 k.who
  have q2 : IntKind.u64.wrap (F.tk + 1) = F.tk + 1 := by rw [IntKind.wrap_u64]; omega
  have q3 : ¬ F.tk + 1 = 0 := by omega
  have q4 : (F.tk + 1 == 0) = false := beq_eq_false_iff_ne.2 q3
  obtain ⟨c0, c41, c42, c43, cf⟩ := W0.out.box.cells
  obtain ⟨k0, k1, k2, k3, k4⟩ := W0.out.cells
  have W0' := Lib.hid W0.out.drew
  obtain ⟨kk, kw, kt, kn, ki⟩ := k
  simp only at h0 h1 h2 hm his hjj q1 hn
  obtain ⟨hn0, hn1⟩ := hn
  obtain ⟨ht0, ht1⟩ := ht
  have q5 : IntKind.u64.wrap kn = kn := by rw [IntKind.wrap_u64]; omega
  clear hjj
  subst his
  simp only [Wk.cells] at *
  go_enter Tryz.func15, Tryz.ntmps15
  go_wp2_with fail
  generalize w.alloc (.cells #[.int .i64 kk, .int .i64 kw, .int .u32 kt, .int .u32 kn, .bool false] 54) = X0 at *
  generalize w.heap.size = z at *
  go_region_held3 (fun w' => w'.cell? ⟨b, 0, none⟩ = some (.pointer (some ⟨h, 0, none⟩)) ∧ w'.cell? ⟨b, 43, none⟩ = some (.int .u64 F.tk) ∧ w'.cell? ⟨z, 3, none⟩ = some (.int .u32 kn)) (first | exact ⟨c0, c43, k3⟩ | exact ⟨l0, l43, y3⟩)
    (first
      | (go_at_call 22; refine (CH.out _ W0'.out).mono ?_; rintro e w1 ⟨rfl, W1⟩; replace W1 := Lib.hid W1; obtain ⟨l0, l41, l42, l43, lf⟩ := W1.out.box.cells; obtain ⟨y0, y1, y2, y3, y4⟩ := W1.out.cells))
  go_wp2_with (go_at_call 36; refine (PK.out _ W1.out).mono ?_; rintro e w2 ⟨rfl, W2⟩; replace W2 := Lib.hid W2.out)
  go_end0
  exact ⟨rfl, W2.out⟩
set_option maxHeartbeats 8000000 in
theorem work_yield (w0 w : World) (b h : Nat) (O : Nat → Prop) (F : Fm) (H : Fw w0 b h O F w) (hF : Fine F.S) (k : Wk) (h0 : ¬ k.kind = 0) (h1 : ¬ k.kind = 1) (h2 : ¬ k.kind = 2) (his : k.is = true) (hn : 0 ≤ k.ns ∧ k.ns ≤ 4294967295) (ht : 0 ≤ F.tk ∧ F.tk ≤ 65536) :
    Calls Tryz.prog 15 #[.pointer (some ⟨b, 0, none⟩), .agg k.cells] w (fun x w' => x = .returned (.tuple #[]) ∧ Fw w0 b h O { F with S := pickS (midS F k) } w') := by
  have W0 := Lib.hid (H.beside k)
  have hj0 : 0 ≤ k.ns % (F.tk + 1) := Int.emod_nonneg _ (by omega)
  have q1 : k.ns.tmod (F.tk + 1) = k.ns % (F.tk + 1) := Int.tmod_eq_emod_of_nonneg hn.1
  have hF1 := midS_fine hF k hn.1 ht.1
  have e1 : midS F k = chargeH (pickS (yieldS F.S)) (k.ns % (F.tk + 1)) := by unfold midS; rw [if_neg h1, if_neg h2, his]; rfl
  rw [e1] at hF1 ⊢
  have hFY : Fine (pickS (yieldS F.S)) := hF.yield.pick
  have YL := Lib.hid (fun X (K : Fx w0 b h O F w.heap.size k X) => (Lyield K.que hF.good).mono fun _ _ D => K.did D)
  generalize pickN (yieldS F.S) = yn at *
  generalize pickS (yieldS F.S) = SY at *
  have CH := Lib.hid (fun X (K : Fx w0 b h O { F with S := SY } w.heap.size k X) => (Lcharge K.que hFY.good (k.ns % (F.tk + 1)) hj0).mono fun _ _ D => K.did D)
  clear e1 H hFY
  generalize hjj : k.ns % (F.tk + 1) = j at *
  generalize errChargeH SY j = er at *
  generalize chargeH SY j = S1 at *
  have PK := Lib.hid (fun X (K : Fx w0 b h O { F with S := S1 } w.heap.size k X) => (Lpick K.que hF1.good).mono fun _ _ D => K.did D)
  clear hF1 hF hj0
  simp only at PK CH
  generalize pickN S1 = pn at *
  generalize pickS S1 = S2 at *
  obtain ⟨m, hm8, hm⟩ := and7 k.who
  have q2 : IntKind.u64.wrap (F.tk + 1) = F.tk + 1 := by rw [IntKind.wrap_u64]; omega
  have q3 : ¬ F.tk + 1 = 0 := by omega
  have q4 : (F.tk + 1 == 0) = false := beq_eq_false_iff_ne.2 q3
  obtain ⟨c0, c41, c42, c43, cf⟩ := W0.out.box.cells
  obtain ⟨k0, k1, k2, k3, k4⟩ := W0.out.cells
  have W0' := Lib.hid W0.out.drew
  obtain ⟨kk, kw, kt, kn, ki⟩ := k
  simp only at h0 h1 h2 hm his hjj q1 hn
  obtain ⟨hn0, hn1⟩ := hn
  obtain ⟨ht0, ht1⟩ := ht
  have q5 : IntKind.u64.wrap kn = kn := by rw [IntKind.wrap_u64]; omega
  clear hjj
  subst his
  simp only [Wk.cells] at *
  go_enter Tryz.func15, Tryz.ntmps15
  go_wp2_with fail
  generalize w.alloc (.cells #[.int .i64 kk, .int .i64 kw, .int .u32 kt, .int .u32 kn, .bool true] 54) = X0 at *
  generalize w.heap.size = z at *
  refine (YL.out _ W0.out).mono ?_
  rintro e w5 ⟨rfl, W5⟩
  replace W5 := Lib.hid W5
  clear W0 W0' c0 c41 c42 c43 cf k0 k1 k2 k3 k4
  have W0' := Lib.hid W5.out.drew
  obtain ⟨c0, c41, c42, c43, cf⟩ := W5.out.box.cells
  obtain ⟨k0, k1, k2, k3, k4⟩ := W5.out.cells
  simp only at k0 k1 k2 k3 k4
  go_wp2_with fail
  go_region_held3 (fun w' => w'.cell? ⟨b, 0, none⟩ = some (.pointer (some ⟨h, 0, none⟩)) ∧ w'.cell? ⟨b, 43, none⟩ = some (.int .u64 F.tk) ∧ w'.cell? ⟨z, 3, none⟩ = some (.int .u32 kn)) (first | exact ⟨c0, c43, k3⟩ | exact ⟨l0, l43, y3⟩)
    (first
      | (go_at_call 22; refine (CH.out _ W0'.out).mono ?_; rintro e w1 ⟨rfl, W1⟩; replace W1 := Lib.hid W1; obtain ⟨l0, l41, l42, l43, lf⟩ := W1.out.box.cells; obtain ⟨y0, y1, y2, y3, y4⟩ := W1.out.cells))
  go_wp2_with (go_at_call 36; refine (PK.out _ W1.out).mono ?_; rintro e w2 ⟨rfl, W2⟩; replace W2 := Lib.hid W2.out)
  go_end0
  exact ⟨rfl, W2.out⟩
end Go.Proofs.YtnnjbonejbmgdaaGreat.Hr

/- What a piece of work does to the farm, whatever it is. Conditions: the farm is sound, each number is one of its kind. -/
namespace Go.Proofs.YtnnjbonejbmgdaaGreat.Hr
open Go.ChangeShapes Go.WideShapes Go.ChangeAt Go.RowKit Tree Queue
set_option linter.unusedVariables false
set_option linter.unusedSimpArgs false
set_option maxRecDepth 100000

/-- A sound farm. -/
structure Fok (F : Fm) : Prop where
  fine : Fine F.S
  len : F.own.length = 8
  hen : F.here.length = 8
  own : ∀ (n : Nat) (e : Ent), F.own[n]? = some e → I64 e.v ∧ 0 ≤ e.wt ∧ 0 ≤ e.rm
  tk : 0 ≤ F.tk ∧ F.tk ≤ 65536
def wakeF (F : Fm) (n : Nat) : Fm := if F.here[n]? = some true then sleepF F n else match F.own[n]? with
  | some e => wakenF F n e
  | none => F
def workF (F : Fm) (k : Wk) : Fm := if k.kind = 0 then { wakeF F (whoN k) with S := pickS (wakeF F (whoN k)).S } else { F with S := pickS (midS F k) }
theorem dropE_ok {S : Hs} (hG : Good S) (g n : Int) : I64 (dropE S g n).v ∧ 0 ≤ (dropE S g n).wt ∧ 0 ≤ (dropE S g n).rm := by
  obtain ⟨dep, hG⟩ := hG
  unfold dropE
  have zero : I64 Ent.zero.v ∧ 0 ≤ Ent.zero.wt ∧ 0 ≤ Ent.zero.rm := by unfold Ent.zero I64; simp
  rcases grp_cases S g with ⟨i, x, rfl, hi, hx, e1, _⟩ | ⟨e1, _⟩
  · rw [e1]
    simp only
    split
    · rename_i hh
      obtain ⟨e, he, hid⟩ := named_of hh.2
      have hs := hG.q i x hx
      have := hs.each (find x.q.es (2 * n)) (find_of hh.2).1
      unfold I64 at *
      simp only
      omega
    · exact zero
  · rw [e1]; exact zero
theorem wakes (w0 w : World) (b h : Nat) (O : Nat → Prop) (F : Fm) (H : Fw w0 b h O F w) (hF : Fok F) (n : Nat) (hn : n < 8) :
    Calls Tryz.prog 55 #[.pointer (some ⟨b, 0, none⟩), .int .i64 n] w (fun x w' => x = .returned (.tuple #[]) ∧ Fw w0 b h O (wakeF F n) w') := by
  obtain ⟨u, hu⟩ : ∃ u, F.here[n]? = some u := ⟨_, List.getElem?_eq_getElem (by rw [hF.hen]; exact hn)⟩
  obtain ⟨e, he⟩ : ∃ e, F.own[n]? = some e := ⟨_, List.getElem?_eq_getElem (by rw [hF.len]; exact hn)⟩
  obtain ⟨h1, h2, h3⟩ := hF.own n e he
  cases u
  · have : wakeF F n = wakenF F n e := by unfold wakeF; rw [hu, he]; simp
    rw [this]
    exact wake_put w0 w b h O F H hF.fine n hn hu e he h1 h2 h3
  · have : wakeF F n = sleepF F n := by unfold wakeF; rw [hu]; simp
    rw [this]
    exact wake_drop w0 w b h O F H hF.fine n hn hu
theorem wakeF_ok {F : Fm} (hF : Fok F) {n : Nat} (hn : n < 8) : Fok (wakeF F n) := by
  obtain ⟨u, hu⟩ : ∃ u, F.here[n]? = some u := ⟨_, List.getElem?_eq_getElem (by rw [hF.hen]; exact hn)⟩
  obtain ⟨e, he⟩ : ∃ e, F.own[n]? = some e := ⟨_, List.getElem?_eq_getElem (by rw [hF.len]; exact hn)⟩
  obtain ⟨h1, h2, h3⟩ := hF.own n e he
  cases u
  · have : wakeF F n = wakenF F n e := by unfold wakeF; rw [hu, he]; simp
    rw [this]
    refine ⟨hF.fine.put _ ?_ h3, hF.len, by show (F.here.set n _).length = 8; rw [List.length_set]; exact hF.hen, hF.own, hF.tk⟩
    have := IntKind.wrap_i64 (minS F.S (homeN n) - F.cr)
    unfold wokenE I64 at *
    simp only
    omega
  · have : wakeF F n = sleepF F n := by unfold wakeF; rw [hu]; simp
    rw [this]
    refine ⟨hF.fine.drop _ _, by show (F.own.set n _).length = 8; rw [List.length_set]; exact hF.len, by show (F.here.set n _).length = 8; rw [List.length_set]; exact hF.hen, fun j d hd => ?_, hF.tk⟩
    replace hd : (F.own.set n (dropE F.S (homeN n) n))[j]? = some d := hd
    by_cases hj : j = n
    · subst hj
      rw [List.getElem?_set_self (by rw [hF.len]; exact hn)] at hd
      cases hd
      exact dropE_ok hF.fine.good _ _
    · rw [List.getElem?_set_ne (Ne.symm hj)] at hd
      exact hF.own j d hd
theorem who_lt (k : Wk) : whoN k < 8 := by
  obtain ⟨m, hm8, hm⟩ := and7 k.who
  unfold whoN
  rw [hm]
  exact hm8
theorem workF_ok {F : Fm} (hF : Fok F) (k : Wk) (hn : 0 ≤ k.ns) : Fok (workF F k) := by
  unfold workF
  split
  · have h := wakeF_ok hF (who_lt k)
    exact ⟨h.fine.pick, h.len, h.hen, h.own, h.tk⟩
  · exact ⟨(midS_fine hF.fine k hn hF.tk.1).pick, hF.len, hF.hen, hF.own, hF.tk⟩
set_option maxHeartbeats 8000000 in
theorem work_wake (w0 w : World) (b h : Nat) (O : Nat → Prop) (F : Fm) (H : Fw w0 b h O F w) (hF : Fok F) (k : Wk) (h0 : k.kind = 0) :
    Calls Tryz.prog 15 #[.pointer (some ⟨b, 0, none⟩), .agg k.cells] w (fun x w' => x = .returned (.tuple #[]) ∧ Fw w0 b h O { wakeF F (whoN k) with S := pickS (wakeF F (whoN k)).S } w') := by
  obtain ⟨m, hm8, hm⟩ := and7 k.who
  have hwm : whoN k = m := by unfold whoN; rw [hm]; rfl
  rw [hwm]
  have W0 := Lib.hid (H.beside k).out
  have WK := Lib.hid (fun X (K : Fw w0 b h O F X) => wakes w0 X b h O F K hF m hm8)
  have hF1 := wakeF_ok hF hm8
  clear H hF hwm
  generalize wakeF F m = F1 at *
  have PK := Lib.hid (fun X (K : Fw w0 b h O F1 X) => (Lpick K.que hF1.fine.good).mono fun _ _ D => K.did D)
  clear hF1
  generalize pickN F1.S = pn at *
  generalize pickS F1.S = S2 at *
  obtain ⟨kk, kw, kt, kn, ki⟩ := k
  simp only at h0 hm
  subst h0
  simp only [Wk.cells] at *
  go_enter Tryz.func15, Tryz.ntmps15
  go_wp2_with (go_at_call 55; refine (WK.out _ W0.out).mono ?_; rintro e w1 ⟨rfl, W1⟩; replace W1 := Lib.hid W1; obtain ⟨l0, l41, l42, l43, lf⟩ := W1.out.box.cells)
  refine (PK.out _ W1.out).mono ?_
  rintro e w2 ⟨rfl, W2⟩
  replace W2 := Lib.hid W2
  go_wp2_with fail
  go_end0
  exact ⟨rfl, W2.out⟩
theorem works (w0 w : World) (b h : Nat) (O : Nat → Prop) (F : Fm) (H : Fw w0 b h O F w) (hF : Fok F) (k : Wk) (hw : 0 ≤ k.wt ∧ k.wt ≤ 4294967295) (hn : 0 ≤ k.ns ∧ k.ns ≤ 4294967295) :
    Calls Tryz.prog 15 #[.pointer (some ⟨b, 0, none⟩), .agg k.cells] w (fun x w' => x = .returned (.tuple #[]) ∧ Fw w0 b h O (workF F k) w') := by
  unfold workF
  by_cases h0 : k.kind = 0
  · rw [if_pos h0]; exact work_wake w0 w b h O F H hF k h0
  · rw [if_neg h0]
    by_cases h1 : k.kind = 1
    · exact work_stop w0 w b h O F H hF.fine k h1 hn.1 hF.tk.1
    · by_cases h2 : k.kind = 2
      · exact work_weigh w0 w b h O F H hF.fine k h2 hw hn.1 hF.tk.1
      · cases his : k.is
        · exact work_serve w0 w b h O F H hF.fine k h0 h1 h2 his hn hF.tk
        · exact work_yield w0 w b h O F H hF.fine k h0 h1 h2 his hn hF.tk
end Go.Proofs.YtnnjbonejbmgdaaGreat.Hr

/- A farm that is made. Conditions: each argument is a number of 16 bits. -/
namespace Go.Proofs.YtnnjbonejbmgdaaGreat.Hr
open Go.ChangeShapes Go.WideShapes Go.ChangeAt Go.RowKit Tree Queue
set_option linter.unusedVariables false
set_option linter.unusedSimpArgs false
set_option maxRecDepth 100000

def bgS (cr gr : Int) : Nat → Hs
  | 0 => newS cr gr
  | m + 1 => linkH (bgS cr gr m) ((m : Int) + 1) (parN (m + 1))
def ownI : Nat → List Ent
  | 0 => List.replicate 8 Ent.zero
  | n + 1 => (ownI n).set n ⟨n, 1024, 0, 0⟩
def bgF (cr gr tk : Int) (m i : Nat) : Fm := ⟨bgS cr gr m, ownI i, List.replicate 8 false, cr, gr, tk⟩
theorem bgS_fine {cr gr : Int} (h1 : I64 cr) (h2 : I64 gr) : ∀ m, Fine (bgS cr gr m)
  | 0 => fine_new h1 h2
  | m + 1 => (bgS_fine h1 h2 m).link _ _
theorem bgS_err (cr gr : Int) {m : Nat} (hm : m < 5) : errLinkH (bgS cr gr m) ((m : Int) + 1) (parN (m + 1)) = 0 := by
  have key : m = 0 ∨ m = 1 ∨ m = 2 ∨ m = 3 ∨ m = 4 := by omega
  rcases key with rfl | rfl | rfl | rfl | rfl <;> rfl
theorem ownI_len : ∀ n, (ownI n).length = 8
  | 0 => rfl
  | n + 1 => by unfold ownI; rw [List.length_set]; exact ownI_len n
theorem ownI_ok : ∀ (n j : Nat) (e : Ent), n ≤ 8 → (ownI n)[j]? = some e → I64 e.v ∧ 0 ≤ e.wt ∧ 0 ≤ e.rm
  | 0, j, e, _, h => by
    have := List.eq_of_mem_replicate (List.mem_of_getElem? h)
    subst this
    unfold Ent.zero I64; simp
  | n + 1, j, e, hn, h => by
    unfold ownI at h
    by_cases hj : j = n
    · subst hj
      rw [List.getElem?_set_self (by rw [ownI_len]; omega)] at h
      cases h
      unfold I64; simp
    · rw [List.getElem?_set_ne (Ne.symm hj)] at h
      exact ownI_ok n j e (by omega) h
theorem bgF_ok {a b c : Int} (h1 : 0 ≤ a ∧ a ≤ 65535) (h2 : 0 ≤ b ∧ b ≤ 65535) (h3 : 0 ≤ c ∧ c ≤ 65535) : Fok (bgF a b (1 + c) 5 8) :=
  ⟨bgS_fine (by unfold I64; omega) (by unfold I64; omega) 5, ownI_len 8, rfl, fun n e h => ownI_ok 8 n e (by omega) h, by show 0 ≤ 1 + c; omega, by show 1 + c ≤ 65536; omega⟩
def BgI (w0 : World) (b h : Nat) (O : Nat → Prop) (cr gr tk : Int) (left : Nat) (t : Value) (wr : World) : Prop := ∃ m : Nat, m ≤ 5 ∧ left = 5 - m ∧ t = .int .i64 ((m : Int) + 1) ∧ Fw w0 b h O (bgF cr gr tk m 0) wr
def BgJ (w0 : World) (b h : Nat) (O : Nat → Prop) (cr gr tk : Int) (left : Nat) (t : Value) (wr : World) : Prop := ∃ i : Nat, i ≤ 8 ∧ left = 8 - i ∧ t = .int .i64 i ∧ Fw w0 b h O (bgF cr gr tk 5 i) wr
/-- A farm that is made. -/
def Bred (w : World) (F : Fm) (e : Ending) (w' : World) : Prop := ∃ b h, w.heap.size ≤ b ∧ e = .returned (.pointer (some ⟨b, 0, none⟩)) ∧ Fw w b h (· < w.heap.size) F w'
set_option maxHeartbeats 8000000 in
theorem begun (w : World) (a b c : Int) (h1 : 0 ≤ a ∧ a ≤ 65535) (h2 : 0 ≤ b ∧ b ≤ 65535) (h3 : 0 ≤ c ∧ c ≤ 65535) :
    Calls Tryz.prog 14 #[.agg #[.int .u16 a, .int .u16 b, .int .u16 c]] w (Bred w (bgF a b (1 + c) 5 8)) := by
  have NW := Lib.hid (fun X => Lnew X a b)
  obtain ⟨a0, a1⟩ := h1
  obtain ⟨b0, b1⟩ := h2
  obtain ⟨c0, c1⟩ := h3
  have q1 : IntKind.i64.wrap a = a := by rw [IntKind.wrap_i64]; omega
  have q2 : IntKind.i64.wrap b = b := by rw [IntKind.wrap_i64]; omega
  have q3 : IntKind.u64.wrap c = c := by rw [IntKind.wrap_u64]; omega
  have q4 : IntKind.u64.wrap (1 + c) = 1 + c := by rw [IntKind.wrap_u64]; omega
  have hb0 := heap_alloc_new w (.cells #[.int .u16 a, .int .u16 b, .int .u16 c] 47)
  have hg0 := alloc1 w (.cells #[.int .u16 a, .int .u16 b, .int .u16 c] 47)
  go_enter Tryz.func14, Tryz.ntmps14
  go_wp2_with fail
  generalize w.alloc (.cells #[.int .u16 a, .int .u16 b, .int .u16 c] 47) = X0 at *
  have u0 : X0.cell? ⟨w.heap.size, 0, none⟩ = some (.int .u16 a) := by rw [cell_of_row X0 _ _ _ _ _ hb0]; rfl
  have u1 : X0.cell? ⟨w.heap.size, 1, none⟩ = some (.int .u16 b) := by rw [cell_of_row X0 _ _ _ _ _ hb0]; rfl
  have u2 : X0.cell? ⟨w.heap.size, 2, none⟩ = some (.int .u16 c) := by rw [cell_of_row X0 _ _ _ _ _ hb0]; rfl
  have hlt0 := lt_of hb0
  go_region_held3 (fun w' => w'.cell? ⟨w.heap.size, 0, none⟩ = some (.int .u16 a) ∧ w'.cell? ⟨w.heap.size, 1, none⟩ = some (.int .u16 b) ∧ w'.cell? ⟨w.heap.size, 2, none⟩ = some (.int .u16 c)) (first | exact ⟨u0, u1, u2⟩ | exact ⟨y0, y1, y2⟩ | exact ⟨(World.cell?_alloc_lt _ _ _ hy).trans y0, (World.cell?_alloc_lt _ _ _ hy).trans y1, (World.cell?_alloc_lt _ _ _ hy).trans y2⟩)
    (first
      | (go_at_call 10; refine (NW.out _).mono ?_; rintro e w1 ⟨h, hh, rfl, hg1, hlt, hL⟩; replace hg1 := undrew hg1; have y0 := (hg1.cell (p := ⟨w.heap.size, 0, none⟩) hlt0).trans u0; have y1 := (hg1.cell (p := ⟨w.heap.size, 1, none⟩) hlt0).trans u1; have y2 := (hg1.cell (p := ⟨w.heap.size, 2, none⟩) hlt0).trans u2; have hy : w.heap.size < w1.heap.size := Nat.lt_of_lt_of_le hlt0 hg1.size))
  have FW : Hid (Fw w w1.heap.size h (· < w.heap.size) (bgF a b (1 + c) 0 0) (w1.alloc (.cells (farmL h (ownI 0) (List.replicate 8 false) a b (1 + c)).toArray 58))) := by
    have g := alloc1 w1 (.cells (farmL h (ownI 0) (List.replicate 8 false) a b (1 + c)).toArray 58)
    have hz := lt_of (heap_alloc_new w1 (.cells (farmL h (ownI 0) (List.replicate 8 false) a b (1 + c)).toArray 58))
    have hwX : w.heap.size < w1.heap.size := hy
    have L := hL (· < w.heap.size) (fun k hk => Nat.lt_trans hk hlt0)
    refine Lib.hid ⟨⟨heap_alloc_new w1 _, rfl, rfl⟩, ⟨L.1.imp fun _ K => K.imp fun _ K => (K.other fun k hk => hk.imp (fun h => h) (fun e => by omega)).fresh g, ?_⟩, Same.of (ft (ft hg0 hg1) g) (fun k hk => hk), fun hk => by have : w1.heap.size < w.heap.size := hk; omega⟩
    rintro k (hk | rfl)
    · exact Nat.lt_of_lt_of_le (Nat.lt_trans hk hwX) g.size
    · exact hz
  have hwb : w.heap.size ≤ w1.heap.size := Nat.le_of_lt hy
  clear hL hg1 hg0 y0 y1 y2 u0 u1 u2 hb0 hlt0 hlt hh hy NW q1 q2 q3 q4
  simp only [farmL, ownI, List.replicate, cellsE, boolL, List.map, Ent.zero, List.cons_append, List.nil_append] at FW
  generalize hX1 : w1.alloc _ = X1 at *
  clear hX1
  generalize w1.heap.size = fb at *
  obtain ⟨l0, l41, l42, l43, lf⟩ := FW.out.box.cells
  have I0 : Hid (BgI w fb h (· < w.heap.size) a b (1 + c) 5 (.int .i64 1) X1) := Lib.hid ⟨0, by omega, rfl, rfl, FW.out⟩
  clear FW
  go_wp2_with fail
  clear l0 l41 l42 l43 lf
  go_loopg [4] 5 (fun left t wr => BgI w fb h (· < w.heap.size) a b (1 + c) left t wr)
  case atStart => exact I0.out
  case round =>
    clear I0
    obtain ⟨m, hmk, rfl, rfl, hW⟩ := hrel
    by_cases hlt : m < 5
    · have r1 : (m : Int) + 1 ≤ 5 := by omega
      have PA := Lib.hid (fun X => parents (m + 1) (by omega) X)
      have LK := Lib.hid (fun X (K : Fw w fb h (· < w.heap.size) (bgF a b (1 + c) m 0) X) => (Llink K.que (bgS_fine (by unfold I64; omega) (by unfold I64; omega) m).good ((m : Int) + 1) (parN (m + 1))).mono fun _ _ D => K.did D)
      rw [show ((m + 1 : Nat) : Int) = (m : Int) + 1 from rfl] at PA
      have er := bgS_err a b hlt
      have NX : Hid (∀ X, Fw w fb h (· < w.heap.size) { bgF a b (1 + c) m 0 with S := linkH (bgF a b (1 + c) m 0).S ((m : Int) + 1) (parN (m + 1)) } X → BgI w fb h (· < w.heap.size) a b (1 + c) (5 - (m + 1)) (.int .i64 ((m : Int) + 1 + 1)) X) := Lib.hid fun X hX => ⟨m + 1, by omega, rfl, by go_num, hX⟩
      rw [show errLinkH (bgF a b (1 + c) m 0).S ((m : Int) + 1) (parN (m + 1)) = 0 from er] at LK
      have W0 := Lib.hid hW
      have W0' := Lib.hid (hW.fresh (drew_below _))
      clear hW er
      generalize parN (m + 1) = pp at *
      generalize { bgF a b (1 + c) m 0 with S := linkH (bgF a b (1 + c) m 0).S ((m : Int) + 1) pp } = F1 at *
      have r3 : IntKind.i64.wrap ((m : Int) + 1 + 1) = (m : Int) + 1 + 1 := by rw [IntKind.wrap_i64]; omega
      obtain ⟨l0, l41, l42, l43, lf⟩ := W0.out.box.cells
      go_wp2_with fail
      go_region_held3 (fun w' => w'.cell? ⟨fb, 0, none⟩ = some (.pointer (some ⟨h, 0, none⟩))) (first | exact l0 | exact y0 | exact z0)
        (first
          | (go_at_call 24; refine (PA.out _).mono ?_; rintro e w2 ⟨rfl, hg2⟩; have W2 := Lib.hid (W0'.out.fresh hg2); obtain ⟨y0, _, _, _, _⟩ := W2.out.box.cells; clear hg2)
          | (go_at_call 29; refine (LK.out _ W2.out).mono ?_; rintro e w3 ⟨rfl, W3⟩; obtain ⟨z0, _, _, _, _⟩ := W3.box.cells; have NX' := Lib.hid (NX.out _ W3); clear W3))
      go_wp2_with fail
      go_roundg (5 - (m + 1))
      case measure => omega
      case rel => exact NX'.out
    · obtain rfl : m = 5 := by omega
      have r1 : ¬ ((5 : Nat) : Int) + 1 ≤ 5 := by omega
      have J0 : Hid (BgJ w fb h (· < w.heap.size) a b (1 + c) 8 (.int .i64 0) wr) := Lib.hid ⟨0, by omega, rfl, rfl, hW⟩
      clear hW
      go_wp2_with fail
      go_loopg [5] 8 (fun left t wr => BgJ w fb h (· < w.heap.size) a b (1 + c) left t wr)
      case atStart => exact J0.out
      case round =>
        clear J0 r1
        obtain ⟨i, hik, rfl, rfl, hW⟩ := hrel
        by_cases hlt : i < 8
        · have r1 : (i : Int) < 8 := by omega
          have r2 : 0 ≤ (i : Int) := by omega
          obtain ⟨eo, ho⟩ : ∃ eo, (ownI i)[i]? = some eo := ⟨_, List.getElem?_eq_getElem (by rw [ownI_len]; omega)⟩
          obtain ⟨l0, l41, l42, l43, lf⟩ := hW.box.cells
          obtain ⟨o0, o1, o2, o3⟩ := hW.box.ownC ho
          have NX' : Hid (BgJ w fb h (· < w.heap.size) a b (1 + c) (8 - (i + 1)) (.int .i64 ((i : Int) + 1)) _) := Lib.hid ⟨i + 1, by omega, rfl, by go_num, hW.setOwn i hlt ⟨i, 1024, 0, 0⟩⟩
          clear hW ho
          go_wp2_with fail
          go_roundg (8 - (i + 1))
          case measure => omega
          case rel => exact NX'.out
        · obtain rfl : i = 8 := by omega
          have r1 : ¬ ((8 : Nat) : Int) < 8 := by omega
          have W0 := Lib.hid hW
          clear hW
          go_wp2_with fail
          go_ret
          exact ⟨fb, h, hwb, rfl, W0.out⟩
end Go.Proofs.YtnnjbonejbmgdaaGreat.Hr

/- Is no group above a task stopped? Conditions: the farm is sound, the task below 8. -/
namespace Go.Proofs.YtnnjbonejbmgdaaGreat.Hr
open Go.ChangeShapes Go.WideShapes Go.ChangeAt Go.RowKit Tree Queue
set_option linter.unusedVariables false
set_option linter.unusedSimpArgs false
set_option maxRecDepth 100000

def chainG : Nat → List Nat
  | 1 => [1]
  | 2 => [2, 1]
  | 3 => [3, 1]
  | 4 => [4]
  | 5 => [5, 3, 1]
  | _ => []
theorem chainG_up {g : Nat} (h0 : g ≠ 0) (h6 : g < 6) : chainG g = g :: chainG (parN g) := by
  have key : g = 1 ∨ g = 2 ∨ g = 3 ∨ g = 4 ∨ g = 5 := by omega
  rcases key with rfl | rfl | rfl | rfl | rfl <;> rfl
theorem parN_lt (g : Nat) : parN g < 6 := by unfold parN; split <;> decide
theorem homeN_lt (n : Nat) : homeN n < 6 := by unfold homeN; split <;> decide
def freeG (S : Hs) (g : Nat) : Bool := (chainG g).all fun j => !haltS S j
theorem freeG_root (S : Hs) : freeG S 0 = true := rfl
theorem freeG_up {S : Hs} {g : Nat} (h0 : g ≠ 0) (h6 : g < 6) : freeG S g = (!haltS S g && freeG S (parN g)) := by unfold freeG; rw [chainG_up h0 h6]; rfl
def FreeI (w0 w : World) (b h : Nat) (O : Nat → Prop) (F : Fm) (R : Bool) (left : Nat) (t : Value) (wr : World) : Prop := ∃ g : Nat, g < 6 ∧ left = (chainG g).length ∧ t = .int .i64 g ∧ freeG F.S g = R ∧ Fw w0 b h O F wr ∧ Below w.heap.size w wr
set_option maxHeartbeats 8000000 in
theorem frees (w0 w : World) (b h : Nat) (O : Nat → Prop) (F : Fm) (H : Fw w0 b h O F w) (n : Nat) (hn : n < 8) :
    Calls Tryz.prog 16 #[.pointer (some ⟨b, 0, none⟩), .int .i64 n] w (Is (.bool (freeG F.S (homeN n))) w) := by
  have W0 := Lib.hid H
  have HM := Lib.hid (homes n hn)
  have hh := homeN_lt n
  clear H
  have I0 : Hid (∀ w1, Below w.heap.size w w1 → FreeI w0 w b h O F (freeG F.S (homeN n)) (chainG (homeN n)).length (.int .i64 (homeN n)) w1) := Lib.hid fun w1 hg => ⟨homeN n, hh, rfl, rfl, rfl, W0.out.fresh hg, hg⟩
  generalize freeG F.S (homeN n) = R at *
  generalize homeN n = gg at *
  go_enter Tryz.func16, Tryz.ntmps16
  go_wp2_with (go_at_call 23; refine (HM.out _).mono ?_; rintro e w1 ⟨rfl, hg⟩)
  have I1 := Lib.hid (I0.out _ hg)
  clear I0 HM W0 hg hh
  go_loopg [5] (chainG gg).length (fun left t wr => FreeI w0 w b h O F R left t wr)
  case atStart => exact I1.out
  case round =>
    clear I1
    obtain ⟨g, h6, rfl, rfl, hR, hW, hB⟩ := hrel
    by_cases h0 : g = 0
    · subst h0
      have hR' : R = true := by rw [← hR]; rfl
      subst hR'
      have hBB := Lib.hid hB
      clear hR hW hB
      go_wp2_with fail
      go_ret
      exact ⟨rfl, hBB.out⟩
    · have r0 : ((g : Int) == 0) = false := beq_eq_false_iff_ne.2 (by omega)
      have r1 : ¬ (g : Int) = 0 := by omega
      have hup := freeG_up (S := F.S) h0 h6
      have hch := chainG_up h0 h6
      have SP := Lib.hid (fun X (K : Fw w0 b h O F X) => Lstopped K.que g)
      have PA := Lib.hid (fun X => parents g h6 X)
      rw [hR] at hup
      clear hR
      have hp6 := parN_lt g
      have W0 := Lib.hid hW
      have B0 := Lib.hid hB
      obtain ⟨l0, l41, l42, l43, lf⟩ := W0.out.box.cells
      clear hW hB
      generalize parN g = p at *
      have HC := Lib.hid hch
      clear hch
      cases hst : haltS F.S g
      · rw [hst] at hup SP
        have hR' : R = freeG F.S p := by simpa using hup
        have NX := Lib.hid (fun X (g1 : Below wr.heap.size wr X) => (⟨p, hp6, rfl, rfl, hR'.symm, W0.out.fresh g1, ft B0.out g1⟩ : FreeI w0 w b h O F R (chainG p).length (.int .i64 p) X))
        clear hup hst hR'
        go_wp2_with (first
          | (go_at_call 21; refine (SP.out _ W0.out).mono ?_; rintro e w2 ⟨rfl, hg2⟩)
          | (go_at_call 24; refine (PA.out _).mono ?_; rintro e w3 ⟨rfl, hg3⟩; have NX' := Lib.hid (NX.out _ (ft hg2 hg3)); clear hg2 hg3))
        go_roundg (chainG p).length
        case measure => rw [HC.out]; simp
        case rel => exact NX'.out
      · rw [hst] at hup SP
        have hR' : R = false := by simpa using hup
        subst hR'
        clear hup hst
        go_wp2_with (go_at_call 21; refine (SP.out _ W0.out).mono ?_; rintro e w2 ⟨rfl, hg2⟩)
        go_ret
        exact ⟨rfl, ft B0.out hg2⟩
end Go.Proofs.YtnnjbonejbmgdaaGreat.Hr

/- Settling leaves each queue's tasks as they were; nothing of a program. Conditions: as each fact states them. -/
namespace Go.Proofs.YtnnjbonejbmgdaaGreat.Hr
open Go.ChangeShapes Go.WideShapes Go.ChangeAt Go.RowKit Tree Queue
set_option linter.unusedVariables false
set_option linter.unusedSimpArgs false
set_option maxRecDepth 100000

/-- The same groups, the same tasks in their queues. -/
def Alike (S S' : Hs) : Prop := ∀ k, (S.g k = none → S'.g k = none) ∧ ∀ x, S.g k = some x → ∃ x', S'.g k = some x' ∧ x'.up = x.up ∧ ∀ id, id % 2 = 0 → named x'.q.es id = named x.q.es id
theorem Alike.refl (S : Hs) : Alike S S := fun k => ⟨fun h => h, fun x hx => ⟨x, hx, rfl, fun _ _ => rfl⟩⟩
theorem Alike.trans {S S' S'' : Hs} (h : Alike S S') (h' : Alike S' S'') : Alike S S'' := fun k => ⟨fun e => (h' k).1 ((h k).1 e), fun x hx => by
  obtain ⟨y, hy, a, c⟩ := (h k).2 x hx
  obtain ⟨z, hz, a', c'⟩ := (h' k).2 y hy
  exact ⟨z, hz, a'.trans a, fun id hid => (c' id hid).trans (c id hid)⟩⟩
theorem Alike.one {S : Hs} {i : Nat} {x x' : Gp} (hx : S.g i = some x) (hu : x'.up = x.up) (hn : ∀ id, id % 2 = 0 → named x'.q.es id = named x.q.es id) : Alike S (S.set i (some x')) := fun k => by
  by_cases e : k = i
  · subst e
    refine ⟨fun h => (by rw [hx] at h; cases h), fun z hz => ?_⟩
    rw [hx] at hz; cases hz
    exact ⟨x', Hs.set_same _ _ _, hu, hn⟩
  · refine ⟨fun h => by rw [Hs.set_other _ _ e]; exact h, fun z hz => ⟨z, by rw [Hs.set_other _ _ e]; exact hz, rfl, fun _ _ => rfl⟩⟩
theorem Alike.step {dep : Nat → Nat} {S : Hs} (hG : GoodD dep S) {i p : Nat} {x : Gp} (hx : S.g i = some x) (hp : x.up = some p) : Alike S (stepS S i) := by
  obtain ⟨hpi, h0⟩ := hG.up_ne hx hp
  obtain ⟨p', y, e1, hy, _⟩ := hG.link i x hx h0
  rw [hp] at e1; cases e1
  rw [stepS_eq hx hp hy]
  cases ho : x.on
  · obtain ⟨hz, hid, _⟩ := enter_ok hG hx hp hy ho
    simp only [Bool.false_eq_true, if_false]
    refine (Alike.one (x' := { y with q := putS y.q (enterE S x y) }) hy rfl fun id h2 => ?_).trans (Alike.one (x := x) (x' := { x with on := true }) (by rw [Hs.set_other _ _ (Ne.symm hpi)]; exact hx) rfl fun _ _ => rfl)
    show named (putS y.q (enterE S x y)).es id = _
    rw [put_es hz, named_ins]
    have : ¬ id = (enterE S x y).id := by rw [hid]; unfold gid; omega
    simp [this, Ne.symm this]
  · obtain ⟨_, hn⟩ := hG.leave hx hp hy ho
    have hid := (up_id hG hx h0).1
    simp only [if_true]
    refine (Alike.one (x' := { y with q := dropS y.q x.own.id }) hy rfl fun id h2 => ?_).trans (Alike.one (x := x) (x' := { x with own := find y.q.es x.own.id, on := false }) (by rw [Hs.set_other _ _ (Ne.symm hpi)]; exact hx) rfl fun _ _ => rfl)
    show named (dropS y.q x.own.id).es id = _
    rw [drop_es hn, named_drop']
    have : id ≠ x.own.id := by rw [hid]; unfold gid; omega
    simp [this]
theorem Alike.settle {dep : Nat → Nat} : ∀ (n : Nat) {S : Hs} (i : Nat), GoodD dep S → Alike S (settleS n S i)
  | 0, S, i, _ => Alike.refl S
  | n + 1, S, i, hG => by
    unfold settleS
    split
    · exact Alike.refl S
    · rename_i x hx
      split
      · exact Alike.refl S
      · rename_i p hp
        split
        · exact Alike.refl S
        · exact (Alike.step hG hx hp).trans (Alike.settle n p (hG.step i))
theorem Alike.walk {c : St → Int} {f : St → St} (hf : ∀ st j, named (f st).es j = named st.es j) : ∀ (n : Nat) {S : Hs} (g : Nat), Alike S (walkS c f n S g).1
  | 0, S, _ => Alike.refl S
  | n + 1, S, g => by
    cases hx : S.g g with
    | none => rw [walkS, hx]; exact Alike.refl S
    | some x =>
      have h' : Alike S (S.set g (some { x with q := f { x.q with cur := c x.q } })) := Alike.one (x' := { x with q := f { x.q with cur := c x.q } }) hx rfl fun j _ => hf _ j
      cases hn : nxt (c x.q) with
      | none => rw [walk_none hx hn]; exact h'
      | some j => rw [walk_some hx hn]; exact h'.trans (Alike.walk hf n j)
theorem Alike.pick (S : Hs) : Alike S (pickS S) := Alike.walk (fun _ _ => rfl) 9 0
theorem Alike.charge (S : Hs) (ns : Int) : Alike S (chargeH S ns) := by
  unfold chargeH
  split
  · exact Alike.refl S
  · split
    · exact Alike.refl S
    · exact Alike.walk (fun st j => chargeS_named st ns j) 9 0
theorem Alike.yield (S : Hs) : Alike S (yieldS S) := by
  unfold yieldS
  split
  · exact Alike.refl S
  · split
    · exact Alike.refl S
    · rename_i x hx
      exact Alike.one hx rfl fun _ _ => rfl
theorem Alike.weigh (S : Hs) (g wt : Int) : Alike S (weighH S g wt) := by
  unfold weighH
  rcases lnk_cases S g with ⟨i, x, rfl, h0, hi, hx, e1, e2⟩ | ⟨e1, _⟩
  · rw [e1]
    simp only [Int.toNat_natCast]
    split
    · exact Alike.refl S
    · split
      · split
        · exact Alike.refl S
        · split
          · exact Alike.refl S
          · rename_i y hy
            exact Alike.one (x' := { y with q := weighS y.q _ wt }) hy rfl fun j _ => weighS_named _ _ _ j
      · exact Alike.one hx rfl fun _ _ => rfl
  · rw [e1]; exact Alike.refl S
theorem Alike.stop {S : Hs} (hG : Good S) (g : Int) (is : Bool) : Alike S (stopH S g is) := by
  obtain ⟨dep, hG⟩ := hG
  unfold stopH
  rcases lnk_cases S g with ⟨i, x, rfl, _, hi, hx, e1, _⟩ | ⟨e1, _⟩
  · rw [e1]
    simp only [Int.toNat_natCast]
    exact (Alike.one (x' := { x with halt := is }) hx rfl fun _ _ => rfl).trans (Alike.settle 9 i (hG.halt_ hx is))
  · rw [e1]; exact Alike.refl S
/-- Who is awake stands in its group's queue, and nobody else anywhere. -/
structure Herd (S : Hs) (here : List Bool) : Prop where
  six : ∀ k, k < 6 → ∃ x, S.g k = some x ∧ x.up = (if k = 0 then none else some (parN k))
  no : ∀ k, 6 ≤ k → S.g k = none
  task : ∀ k x, S.g k = some x → ∀ id : Int, id % 2 = 0 → named x.q.es id = true → ∃ n : Nat, n < 8 ∧ id = 2 * n ∧ homeN n = k ∧ here[n]? = some true
  here : ∀ n : Nat, n < 8 → here[n]? = some true → ∀ x, S.g (homeN n) = some x → named x.q.es (2 * n) = true
theorem Herd.alike {S S' : Hs} {here : List Bool} (h : Herd S here) (a : Alike S S') : Herd S' here := by
  refine ⟨fun k hk => ?_, fun k hk => (a k).1 (h.no k hk), fun k x' hx' id hid hn => ?_, fun n hn hh x' hx' => ?_⟩
  · obtain ⟨x, hx, hu⟩ := h.six k hk
    obtain ⟨y, hy, e, _⟩ := (a k).2 x hx
    exact ⟨y, hy, e.trans hu⟩
  · by_cases hk : k < 6
    · obtain ⟨x, hx, _⟩ := h.six k hk
      obtain ⟨y, hy, _, e⟩ := (a k).2 x hx
      rw [hx'] at hy; cases hy
      exact h.task k x hx id hid (by rw [← e id hid]; exact hn)
    · rw [(a k).1 (h.no k (by omega))] at hx'; cases hx'
  · obtain ⟨x, hx, _⟩ := h.six (homeN n) (by unfold homeN; split <;> decide)
    obtain ⟨y, hy, _, e⟩ := (a _).2 x hx
    rw [hx'] at hy; cases hy
    rw [e _ (by omega)]
    exact h.here n hn hh x hx
end Go.Proofs.YtnnjbonejbmgdaaGreat.Hr

/- A piece of work leaves who is awake in its group's queue, and nobody else anywhere; nothing of a program. Conditions: as each fact states them. -/
namespace Go.Proofs.YtnnjbonejbmgdaaGreat.Hr
open Go.ChangeShapes Go.WideShapes Go.ChangeAt Go.RowKit Tree Queue
set_option linter.unusedVariables false
set_option linter.unusedSimpArgs false
set_option maxRecDepth 100000

theorem grp_six {S : Hs} {here : List Bool} (h : Herd S here) {g : Nat} (hg : g < 6) : ∃ x, S.g g = some x ∧ grp S g = some x := by
  obtain ⟨x, hx, _⟩ := h.six g hg
  refine ⟨x, hx, ?_⟩
  unfold grp
  rw [if_pos (by omega)]
  simpa using hx
theorem homeN_6 (n : Nat) : homeN n < 6 := by unfold homeN; split <;> decide
theorem here_set {here : List Bool} {n m : Nat} {u v : Bool} (hn : n < here.length) (h : (here.set n u)[m]? = some v) : (m = n ∧ v = u) ∨ (m ≠ n ∧ here[m]? = some v) := by
  by_cases e : m = n
  · subst e
    rw [List.getElem?_set_self hn] at h
    cases h
    exact .inl ⟨rfl, rfl⟩
  · rw [List.getElem?_set_ne (Ne.symm e)] at h
    exact .inr ⟨e, h⟩
theorem Herd.put {S : Hs} {here : List Bool} (h : Herd S here) (hG : Good S) (hl : here.length = 8) {n : Nat} (hn : n < 8) (hh : here[n]? = some false) {e : Ent} (hid : e.id = n) (hv : I64 e.v) (hr : 0 ≤ e.rm) :
    Herd (putH S (homeN n) e) (here.set n (errPutH S (homeN n) e == 0)) := by
  obtain ⟨dep, hG⟩ := hG
  obtain ⟨x, hx, eg⟩ := grp_six h (homeN_6 n)
  unfold putH errPutH
  rw [eg]
  simp only [Int.toNat_natCast]
  have hi : 0 ≤ e.id ∧ e.id < 64 := by omega
  rw [if_pos hi]
  by_cases he : errPut x.q.es (taskE e) = 0
  · rw [if_pos ⟨hi, he⟩, he]
    refine Herd.alike ?_ (Alike.settle 9 (homeN n) (hG.put hx he (by show 0 ≤ 2 * e.id; omega) (by show 2 * e.id < 128; omega) (by show (2 * e.id) % 2 = 0; omega) hv hr))
    have nm : ∀ j, named (putS x.q (taskE e)).es j = (2 * (n : Int) == j || named x.q.es j) := fun j => by
      rw [put_es he, named_ins]
      show (2 * e.id == j || _) = _
      rw [hid]
    refine ⟨fun k hk => ?_, fun k hk => ?_, fun k z hz id h2 hj => ?_, fun m hm hhm z hz => ?_⟩
    · by_cases hk2 : k = homeN n
      · subst hk2
        obtain ⟨y, hy, hu⟩ := h.six _ hk
        rw [hx] at hy; cases hy
        exact ⟨_, Hs.set_same _ _ _, hu⟩
      · rw [Hs.set_other _ _ hk2]; exact h.six k hk
    · rw [Hs.set_other _ _ (by have := homeN_6 n; omega)]; exact h.no k hk
    · rcases set_cases hz with ⟨rfl, rfl⟩ | ⟨hk, hz⟩
      · simp only at hj
        rw [nm] at hj
        by_cases hjn : id = 2 * n
        · exact ⟨n, hn, hjn, rfl, by rw [List.getElem?_set_self (by omega)]; rfl⟩
        · have hj2 : named x.q.es id = true := by simpa [Ne.symm hjn] using hj
          obtain ⟨m, a, b, c, d⟩ := h.task _ x hx id h2 hj2
          exact ⟨m, a, b, c, by rw [List.getElem?_set_ne (by omega)]; exact d⟩
      · obtain ⟨m, a, b, c, d⟩ := h.task k z hz id h2 hj
        have hmn : n ≠ m := fun e => by rw [← e, hh] at d; cases d
        exact ⟨m, a, b, c, by rw [List.getElem?_set_ne hmn]; exact d⟩
    · rcases here_set (by omega) hhm with ⟨rfl, _⟩ | ⟨hne, hhm⟩
      · rw [Hs.set_same] at hz; cases hz
        simp only
        rw [nm]; simp
      · rcases set_cases hz with ⟨ek, rfl⟩ | ⟨_, hz⟩
        · simp only
          rw [nm, h.here m hm hhm x (by rw [ek]; exact hx)]; simp
        · exact h.here m hm hhm z hz
  · rw [if_neg (fun a => he a.2)]
    have hb : (errPut x.q.es (taskE e) == 0) = false := beq_eq_false_iff_ne.2 he
    rw [hb]
    have : here.set n false = here := by
      apply List.ext_getElem?
      intro m
      by_cases e : m = n
      · subst e; rw [List.getElem?_set_self (by omega), hh]
      · rw [List.getElem?_set_ne (Ne.symm e)]
    rw [this]
    exact h
theorem Herd.drop {S : Hs} {here : List Bool} (h : Herd S here) (hG : Good S) (hl : here.length = 8) {n : Nat} (hn : n < 8) (hh : here[n]? = some true) :
    Herd (dropH S (homeN n) n) (here.set n false) ∧ (dropE S (homeN n) n).id = n := by
  obtain ⟨dep, hG⟩ := hG
  obtain ⟨x, hx, eg⟩ := grp_six h (homeN_6 n)
  have hnm := h.here n hn hh x hx
  unfold dropH dropE
  rw [eg]
  simp only [Int.toNat_natCast]
  have hi : (0 ≤ (n : Int) ∧ (n : Int) < 64) ∧ named x.q.es (2 * n) = true := ⟨by omega, hnm⟩
  rw [if_pos hi, if_pos hi]
  refine ⟨?_, rfl⟩
  refine Herd.alike ?_ (Alike.settle 9 (homeN n) (hG.drop hx hnm (by omega)))
  have nm : ∀ j, named (dropS x.q (2 * n)).es j = (decide (j ≠ 2 * (n : Int)) && named x.q.es j) := fun j => by rw [drop_es hnm, named_drop']
  refine ⟨fun k hk => ?_, fun k hk => ?_, fun k z hz id h2 hj => ?_, fun m hm hhm z hz => ?_⟩
  · by_cases hk2 : k = homeN n
    · subst hk2
      obtain ⟨y, hy, hu⟩ := h.six _ hk
      rw [hx] at hy; cases hy
      exact ⟨_, Hs.set_same _ _ _, hu⟩
    · rw [Hs.set_other _ _ hk2]; exact h.six k hk
  · rw [Hs.set_other _ _ (by have := homeN_6 n; omega)]; exact h.no k hk
  · rcases set_cases hz with ⟨rfl, rfl⟩ | ⟨hk, hz⟩
    · simp only at hj
      rw [nm, Bool.and_eq_true, decide_eq_true_iff] at hj
      obtain ⟨m, a, b, c, d⟩ := h.task _ x hx id h2 hj.2
      exact ⟨m, a, b, c, by rw [List.getElem?_set_ne (by omega)]; exact d⟩
    · obtain ⟨m, a, b, c, d⟩ := h.task k z hz id h2 hj
      exact ⟨m, a, b, c, by rw [List.getElem?_set_ne (fun e => hk (by rw [← c, ← e]))]; exact d⟩
  · rcases here_set (by omega) hhm with ⟨_, e⟩ | ⟨hne, hhm⟩
    · cases e
    · rcases set_cases hz with ⟨ek, rfl⟩ | ⟨_, hz⟩
      · simp only
        rw [nm, h.here m hm hhm x (by rw [ek]; exact hx), Bool.and_true, decide_eq_true_iff]
        omega
      · exact h.here m hm hhm z hz
end Go.Proofs.YtnnjbonejbmgdaaGreat.Hr

/- The farm's invariant: each piece of work keeps it; nothing of a program. Conditions: as each fact states them. -/
namespace Go.Proofs.YtnnjbonejbmgdaaGreat.Hr
open Go.ChangeShapes Go.WideShapes Go.ChangeAt Go.RowKit Tree Queue
set_option linter.unusedVariables false
set_option linter.unusedSimpArgs false
set_option maxRecDepth 100000

structure Hok (F : Fm) : Prop where
  ok : Fok F
  herd : Herd F.S F.here
  ids : ∀ (n : Nat) (e : Ent), F.own[n]? = some e → e.id = n
theorem wakeF_hok {F : Fm} (h : Hok F) {n : Nat} (hn : n < 8) : Hok (wakeF F n) := by
  refine ⟨wakeF_ok h.ok hn, ?_, ?_⟩
  all_goals
    obtain ⟨u, hu⟩ : ∃ u, F.here[n]? = some u := ⟨_, List.getElem?_eq_getElem (by rw [h.ok.hen]; exact hn)⟩
    obtain ⟨e, he⟩ : ∃ e, F.own[n]? = some e := ⟨_, List.getElem?_eq_getElem (by rw [h.ok.len]; exact hn)⟩
    obtain ⟨h1, h2, h3⟩ := h.ok.own n e he
  · cases u
    · have : wakeF F n = wakenF F n e := by unfold wakeF; rw [hu, he]; simp
      rw [this]
      refine h.herd.put h.ok.fine.good h.ok.hen hn hu (e := wokenE F n e) (h.ids n e he) ?_ h3
      have := IntKind.wrap_i64 (minS F.S (homeN n) - F.cr)
      unfold wokenE I64 at *
      simp only
      omega
    · have : wakeF F n = sleepF F n := by unfold wakeF; rw [hu]; simp
      rw [this]
      exact (h.herd.drop h.ok.fine.good h.ok.hen hn hu).1
  · cases u
    · have : wakeF F n = wakenF F n e := by unfold wakeF; rw [hu, he]; simp
      rw [this]
      exact h.ids
    · have : wakeF F n = sleepF F n := by unfold wakeF; rw [hu]; simp
      rw [this]
      intro m d hd
      replace hd : (F.own.set n (dropE F.S (homeN n) n))[m]? = some d := hd
      by_cases e2 : m = n
      · subst e2
        rw [List.getElem?_set_self (by rw [h.ok.len]; exact hn)] at hd
        cases hd
        exact (h.herd.drop h.ok.fine.good h.ok.hen hn hu).2
      · rw [List.getElem?_set_ne (Ne.symm e2)] at hd
        exact h.ids m d hd
theorem midS_alike {F : Fm} (h : Hok F) (k : Wk) : Alike F.S (midS F k) := by
  unfold midS
  split
  · exact Alike.stop h.ok.fine.good _ _
  · split
    · exact Alike.weigh _ _ _
    · split
      · exact ((Alike.yield _).trans (Alike.pick _)).trans (Alike.charge _ _)
      · exact Alike.charge _ _
theorem workF_hok {F : Fm} (h : Hok F) (k : Wk) (hn : 0 ≤ k.ns) : Hok (workF F k) := by
  have h0 := workF_ok h.ok k hn
  refine ⟨h0, ?_, ?_⟩
  all_goals
    unfold workF
    split
  · exact (wakeF_hok h (who_lt k)).herd.alike (Alike.pick _)
  · exact h.herd.alike ((midS_alike h k).trans (Alike.pick _))
  · exact (wakeF_hok h (who_lt k)).ids
  · exact h.ids
theorem ownI_id : ∀ (n j : Nat) (e : Ent), n ≤ 8 → j < n → (ownI n)[j]? = some e → e.id = j
  | 0, j, e, _, h0, _ => absurd h0 (Nat.not_lt_zero _)
  | n + 1, j, e, hn, h0, h => by
    unfold ownI at h
    by_cases hj : j = n
    · subst hj
      rw [List.getElem?_set_self (by rw [ownI_len]; omega)] at h
      cases h
      rfl
    · rw [List.getElem?_set_ne (Ne.symm hj)] at h
      exact ownI_id n j e (by omega) (by omega) h
theorem bg_at (a b : Int) (k : Nat) : (bgS a b 5).g k = if k = 0 then some rootG else if k < 6 then some (linkG k (parN k)) else none := by
  have ex : ∀ m, m < 5 → bgS a b (m + 1) = (bgS a b m).set (m + 1) (some (linkG (m + 1) (parN (m + 1)))) := fun m hm => by
    show linkH (bgS a b m) _ _ = _
    unfold linkH
    rw [if_pos (bgS_err a b hm)]
    simp only [Int.toNat_natCast]
    rfl
  rw [ex 4 (by omega), ex 3 (by omega), ex 2 (by omega), ex 1 (by omega), ex 0 (by omega)]
  unfold bgS newS Hs.set
  simp only
  by_cases h0 : k = 0
  · subst h0; rfl
  · have key : k = 1 ∨ k = 2 ∨ k = 3 ∨ k = 4 ∨ k = 5 ∨ 6 ≤ k := by omega
    rcases key with rfl | rfl | rfl | rfl | rfl | h6
    · rfl
    · rfl
    · rfl
    · rfl
    · rfl
    · rw [if_neg (by omega), if_neg (by omega), if_neg (by omega), if_neg (by omega), if_neg (by omega), if_neg h0, if_neg h0, if_neg (by omega)]
theorem bgF_hok {a b c : Int} (h1 : 0 ≤ a ∧ a ≤ 65535) (h2 : 0 ≤ b ∧ b ≤ 65535) (h3 : 0 ≤ c ∧ c ≤ 65535) : Hok (bgF a b (1 + c) 5 8) := by
  refine ⟨bgF_ok h1 h2 h3, ⟨fun k hk => ?_, fun k hk => ?_, fun k x hx id h2 hn => ?_, fun n hn hh => ?_⟩, fun n e he => ?_⟩
  · show ∃ x, (bgS a b 5).g k = some x ∧ _
    rw [bg_at]
    by_cases h0 : k = 0
    · subst h0; exact ⟨_, rfl, rfl⟩
    · rw [if_neg h0, if_pos hk, if_neg h0]; exact ⟨_, rfl, rfl⟩
  · show (bgS a b 5).g k = none
    rw [bg_at, if_neg (by omega), if_neg (by omega)]
  · replace hx : (bgS a b 5).g k = some x := hx
    rw [bg_at] at hx
    have : x.q.es = [] := by
      split at hx
      · cases hx; rfl
      · split at hx
        · cases hx; rfl
        · cases hx
    rw [this] at hn
    cases hn
  · have : (List.replicate 8 false)[n]? = some true := hh
    have := List.eq_of_mem_replicate (List.mem_of_getElem? this)
    cases this
  · have hl : n < 8 := by have := (List.getElem?_eq_some_iff.1 he).1; rw [show (bgF a b (1 + c) 5 8).own = ownI 8 from rfl, ownI_len] at this; exact this
    exact ownI_id 8 n e (by omega) hl he
end Go.Proofs.YtnnjbonejbmgdaaGreat.Hr

/- Somebody waits in the root's queue, if there is one awake with no stopped group above; nothing of a program. Conditions: as each fact states them. -/
namespace Go.Proofs.YtnnjbonejbmgdaaGreat.Hr
open Go.ChangeShapes Go.WideShapes Go.ChangeAt Go.RowKit Tree Queue
set_option linter.unusedVariables false
set_option linter.unusedSimpArgs false
set_option maxRecDepth 100000

theorem busy_named {x : Gp} {id : Int} (h : named x.q.es id = true) : busy x = true := by
  unfold busy
  cases he : x.q.es with
  | nil => rw [he] at h; cases h
  | cons a l => rfl
theorem haltS_at {S : Hs} {g : Nat} {x : Gp} (h0 : g ≠ 0) (h6 : g < 6) (hx : S.g g = some x) : haltS S g = x.halt := by
  unfold haltS
  rw [if_pos (by omega)]
  simp [hx]
theorem busy_up {S : Hs} {here : List Bool} (hF : Fine S) (h : Herd S here) {g : Nat} {x : Gp} (h0 : g ≠ 0) (h6 : g < 6) (hx : S.g g = some x) (hb : busy x = true) (hh : haltS S g = false) :
    ∃ y, S.g (parN g) = some y ∧ busy y = true ∧ named y.q.es (gid g) = true := by
  obtain ⟨⟨dep, hG⟩, hs⟩ := hF
  have hon : x.on = true := by
    rw [hs g x hx h0]
    unfold should
    rw [hb, ← haltS_at h0 h6 hx, hh]
    rfl
  obtain ⟨p, y, e1, e2, e3⟩ := hG.out g x hx hon
  obtain ⟨z, hz, hu⟩ := h.six g h6
  rw [hx] at hz; cases hz
  rw [if_neg h0] at hu
  rw [hu] at e1; cases e1
  exact ⟨y, e2, busy_named e3, e3⟩
theorem root_busy {S : Hs} {here : List Bool} (hF : Fine S) (h : Herd S here) : ∀ (k g : Nat) (x : Gp), (chainG g).length ≤ k → g < 6 → S.g g = some x → busy x = true → freeG S g = true → ∃ r, S.g 0 = some r ∧ busy r = true
  | k, g, x, hk, h6, hx, hb, hf => by
    by_cases h0 : g = 0
    · subst h0; exact ⟨x, hx, hb⟩
    · rw [freeG_up h0 h6, Bool.and_eq_true] at hf
      have hh : haltS S g = false := by simpa using hf.1
      obtain ⟨y, hy, hby, _⟩ := busy_up hF h h0 h6 hx hb hh
      rw [chainG_up h0 h6] at hk
      match k, hk with
      | k + 1, hk => exact root_busy hF h k (parN g) y (by simpa using hk) (parN_lt g) hy hby hf.2
theorem awake_root {S : Hs} {here : List Bool} (hF : Fine S) (h : Herd S here) {n : Nat} (hn : n < 8) (hh : here[n]? = some true) (hf : freeG S (homeN n) = true) : ∃ r, S.g 0 = some r ∧ busy r = true := by
  obtain ⟨x, hx, _⟩ := h.six (homeN n) (homeN_6 n)
  exact root_busy hF h _ _ x (Nat.le_refl _) (homeN_6 n) hx (busy_named (h.here n hn hh x hx)) hf
/-- One of a busy queue is a task that is awake, or a group whose own queue is busy. -/
theorem one_of {S : Hs} {here : List Bool} (hF : Fine S) (h : Herd S here) {g : Nat} {x : Gp} (hx : S.g g = some x) {id : Int} (hn : named x.q.es id = true) :
    (∃ n : Nat, n < 8 ∧ id = 2 * n ∧ homeN n = g ∧ here[n]? = some true) ∨ (∃ j y, j ≠ 0 ∧ j < 6 ∧ id = gid j ∧ S.g j = some y ∧ parN j = g ∧ busy y = true ∧ haltS S j = false) := by
  obtain ⟨⟨dep, hG⟩, hs⟩ := hF
  by_cases h2 : id % 2 = 0
  · exact .inl (h.task g x hx id h2 hn)
  · obtain ⟨e, he, hid⟩ := named_of hn
    obtain ⟨j, y, f1, f2, f3, f4⟩ := hG.inn g x hx e he (by omega)
    have h0 : j ≠ 0 := fun e0 => by
      subst e0
      obtain ⟨r, hr, hu, _⟩ := hG.root
      rw [f2] at hr; cases hr
      rw [f3] at hu; cases hu
    have h6 : j < 6 := by
      rcases Nat.lt_or_ge j 6 with h6 | h6
      · exact h6
      · rw [h.no j h6] at f2; cases f2
    obtain ⟨z, hz, hu⟩ := h.six j h6
    rw [f2] at hz; cases hz
    rw [if_neg h0] at hu
    rw [f3] at hu
    have hp : g = parN j := by simpa using hu
    have hs' := hs j y f2 h0
    rw [f4] at hs'
    unfold should at hs'
    have hb : busy y = true ∧ y.halt = false := by
      have h3 := hs'.symm
      rw [Bool.and_eq_true, Bool.not_eq_true'] at h3
      exact h3
    exact .inr ⟨j, y, h0, h6, by rw [← hid]; exact f1, f2, hp.symm, hb.1, by rw [haltS_at h0 h6 f2]; exact hb.2⟩
end Go.Proofs.YtnnjbonejbmgdaaGreat.Hr

/- Who is picked: a task that is awake with no stopped group above; nothing of a program. Conditions: as each fact states them. -/
namespace Go.Proofs.YtnnjbonejbmgdaaGreat.Hr
open Go.ChangeShapes Go.WideShapes Go.ChangeAt Go.RowKit Tree Queue
set_option linter.unusedVariables false
set_option linter.unusedSimpArgs false
set_option maxRecDepth 100000

theorem chosen_busy {st : St} (g : Int) (h : st.es ≠ []) : named st.es (chosen st g) = true := by
  unfold chosen
  split
  · rename_i hs
    unfold stays at hs
    rw [Bool.and_eq_true] at hs
    have := find_of hs.1
    rw [this.2]
    exact hs.1
  · rename_i hs
    split
    · rename_i ho
      exfalso
      apply hs
      unfold stays
      rw [ho]
      simp only [Bool.and_true]
      unfold other at ho
      obtain ⟨a, ha⟩ : ∃ a, a ∈ st.es := List.exists_mem_of_ne_nil _ h
      by_cases e : a.id = st.cur
      · rw [← e]; exact named_mem ha
      · have : a ∈ drop st.es st.cur := mem_drop.2 ⟨ha, e⟩
        rw [List.head?_eq_none_iff.1 ho] at this
        cases this
    · rename_i o ho
      unfold other at ho
      exact named_mem (mem_drop.1 (List.mem_of_mem_head? ho)).1
theorem chosen_none {st : St} (g : Int) (h : st.es = []) : chosen st g = -1 := by
  unfold chosen stays other
  rw [h]
  rfl
theorem cur_halt {S : Hs} {g : Nat} {x : Gp} (hx : S.g g = some x) (c : Int) (k : Int) : haltS (S.set g (some { x with q := { x.q with cur := c } })) k = haltS S k := by
  unfold haltS
  split
  · by_cases e : k.toNat = g
    · rw [e, Hs.set_same, hx]
    · rw [Hs.set_other _ _ e]
  · rfl
theorem free_halt {S S' : Hs} (h : ∀ k : Int, haltS S' k = haltS S k) (g : Nat) : freeG S' g = freeG S g := by
  unfold freeG
  congr 1
  funext j
  rw [h]
theorem pick_path (gr : Int) {here : List Bool} {dep : Nat → Nat} : ∀ (n : Nat) {S : Hs} {g : Nat} {x : Gp}, GoodD dep S → Sett S → Herd S here → S.g g = some x → 8 < dep g + n → busy x = true → freeG S g = true →
    ∃ m : Nat, m < 8 ∧ (walkS (fun st => chosen st gr) id n S g).2.2 = 2 * m ∧ here[m]? = some true ∧ freeG S (homeN m) = true
  | 0, S, g, x, hG, _, _, hx, hd, _, _ => by have := hG.deep g x hx; omega
  | n + 1, S, g, x, hG, hs, h, hx, hd, hb, hf => by
    have hes : x.q.es ≠ [] := fun e => by unfold busy at hb; rw [e] at hb; cases hb
    have hn := chosen_busy (st := x.q) gr hes
    rcases one_of ⟨⟨dep, hG⟩, hs⟩ h hx hn with ⟨m, hm, e1, e2, e3⟩ | ⟨j, y, h0, h6, e1, hy, e2, e3, e4⟩
    · have hnx : nxt ((fun st => chosen st gr) x.q) = none := by
        show nxt (chosen x.q gr) = none
        unfold nxt
        rw [if_pos (.inr (by rw [e1]; omega))]
      rw [walk_none hx hnx]
      exact ⟨m, hm, e1, e3, by rw [e2]; exact hf⟩
    · have hnx : nxt ((fun st => chosen st gr) x.q) = some j := by
        show nxt (chosen x.q gr) = some j
        unfold nxt
        rw [e1]
        unfold gid
        rw [if_neg (by omega)]
        congr 1
        omega
      rw [walk_some hx hnx]
      have hG1 : GoodD dep (S.set g (some { x with q := { x.q with cur := chosen x.q gr } })) := (asks_pick gr).curG hG hx
      have hs1 : Sett (S.set g (some { x with q := { x.q with cur := chosen x.q gr } })) := hs.same hx rfl (should_named (x' := { x with q := { x.q with cur := chosen x.q gr } }) (fun _ => rfl) rfl)
      have h1 : Herd (S.set g (some { x with q := { x.q with cur := chosen x.q gr } })) here := h.alike (Alike.one (x' := { x with q := { x.q with cur := chosen x.q gr } }) hx rfl fun _ _ => rfl)
      have hfr : ∀ k, freeG (S.set g (some { x with q := { x.q with cur := chosen x.q gr } })) k = freeG S k := free_halt (cur_halt hx _)
      obtain ⟨p, z, u1, u2, u3⟩ := hG.link j y hy h0
      obtain ⟨y', hy', hu⟩ := h.six j h6
      rw [hy] at hy'; cases hy'
      rw [if_neg h0, e2] at hu
      rw [hu] at u1; cases u1
      have hne : j ≠ g := fun e => by rw [e] at u3; omega
      have hy1 : (S.set g (some { x with q := { x.q with cur := chosen x.q gr } })).g j = some y := by rw [Hs.set_other _ _ hne]; exact hy
      obtain ⟨m, a1, a2, a3, a4⟩ := pick_path gr n hG1 hs1 h1 hy1 (by omega) e3 (by rw [hfr, freeG_up h0 h6, e4, e2, hf]; rfl)
      exact ⟨m, a1, a2, a3, by rw [← hfr]; exact a4⟩
/-- Who is picked. -/
theorem picked_is {S : Hs} {here : List Bool} (hF : Fine S) (h : Herd S here) :
    (pickN S = -1 ∧ ∀ n : Nat, n < 8 → here[n]? = some true → freeG S (homeN n) = false) ∨ (∃ m : Nat, m < 8 ∧ pickN S = m ∧ here[m]? = some true ∧ freeG S (homeN m) = true) := by
  obtain ⟨⟨dep, hG⟩, hs⟩ := hF
  obtain ⟨r, hr, _⟩ := hG.root
  cases hb : busy r
  · refine .inl ⟨?_, fun n hn hh => ?_⟩
    · have hes : r.q.es = [] := by unfold busy at hb; simpa using hb
      unfold pickN pickF
      have hnx : nxt ((fun st => chosen st S.gr) r.q) = none := by
        show nxt (chosen r.q S.gr) = none
        rw [chosen_none _ hes]; rfl
      rw [walk_none hr hnx]
      show taskS (chosen r.q S.gr) = -1
      rw [chosen_none _ hes]; rfl
    · cases hf : freeG S (homeN n)
      · rfl
      · obtain ⟨r', hr', hb'⟩ := awake_root ⟨⟨dep, hG⟩, hs⟩ h hn hh hf
        rw [hr] at hr'; cases hr'
        rw [hb] at hb'; cases hb'
  · refine .inr ?_
    obtain ⟨m, a1, a2, a3, a4⟩ := pick_path S.gr 9 hG hs h hr (by rw [hG.dep0]; omega) hb rfl
    refine ⟨m, a1, ?_, a3, a4⟩
    unfold pickN pickF
    rw [a2]
    unfold taskS
    split <;> omega
end Go.Proofs.YtnnjbonejbmgdaaGreat.Hr

/- Who was picked runs; nothing of a program. Conditions: as each fact states them. -/
namespace Go.Proofs.YtnnjbonejbmgdaaGreat.Hr
open Go.ChangeShapes Go.WideShapes Go.ChangeAt Go.RowKit Tree Queue
set_option linter.unusedVariables false
set_option linter.unusedSimpArgs false
set_option maxRecDepth 100000

theorem walk_keeps {c : St → Int} (A : Asks c id) {dep : Nat → Nat} : ∀ (n : Nat) {S : Hs} {g k : Nat}, GoodD dep S → dep k < dep g → (walkS c id n S g).1.g k = S.g k
  | 0, S, g, k, _, _ => rfl
  | n + 1, S, g, k, h, hk => by
    have hkg : k ≠ g := fun e => by rw [e] at hk; exact Nat.lt_irrefl _ hk
    cases hx : S.g g with
    | none => rw [walkS, hx]
    | some x =>
      cases hn : nxt (c x.q) with
      | none => rw [walk_none hx hn]; exact Hs.set_other _ _ hkg
      | some j =>
        rw [walk_some hx hn]
        have hb := A.good (A.curG h hx) (cur_get c S g x)
        rw [bod_cur] at hb
        obtain ⟨y, e1, _, _, e4, e5, _⟩ := h.next hx (A.ask x.q (h.q g x hx) (h.cur g x hx)).2 hn
        rw [walk_keeps A n hb (by omega), Hs.set_other _ _ hkg]
theorem run_again (gr : Int) {dep : Nat → Nat} : ∀ (n : Nat) {S : Hs} {g : Nat} {x : Gp}, GoodD dep S → S.g g = some x →
    (walkS (fun st => st.cur) id n (walkS (fun st => chosen st gr) id n S g).1 g).2.2 = (walkS (fun st => chosen st gr) id n S g).2.2
  | 0, S, g, x, _, _ => rfl
  | n + 1, S, g, x, h, hx => by
    have hb : GoodD dep (S.set g (some { x with q := { x.q with cur := chosen x.q gr } })) := (asks_pick gr).curG h hx
    cases hn : nxt ((fun st => chosen st gr) x.q) with
    | none =>
      rw [walk_none hx hn]
      have h2 : (S.set g (some { x with q := id { x.q with cur := (fun st => chosen st gr) x.q } })).g g = some { x with q := { x.q with cur := chosen x.q gr } } := Hs.set_same _ _ _
      rw [walk_none h2 hn]
    | some j =>
      obtain ⟨y, e1, _, _, e4, e5, _⟩ := h.next hx ((asks_pick gr).ask x.q (h.q g x hx) (h.cur g x hx)).2 hn
      rw [walk_some hx hn]
      have h1 : (walkS (fun st => chosen st gr) id n (S.set g (some { x with q := id { x.q with cur := (fun st => chosen st gr) x.q } })) j).1.g g = some { x with q := { x.q with cur := chosen x.q gr } } := by
        exact (walk_keeps (asks_pick gr) n (g := j) (k := g) hb (by omega)).trans (Hs.set_same _ _ _)
      rw [walk_some h1 hn]
      refine (congrArg (fun S' => (walkS (fun st => st.cur) id n S' j).2.2) (set_self h1)).trans ?_
      exact run_again gr n (g := j) hb (by rw [Hs.set_other _ _ e5]; exact e1)
theorem runs_picked {S : Hs} (hG : Good S) : runS (pickS S) = pickN S := by
  obtain ⟨dep, hG⟩ := hG
  obtain ⟨r, hr, _⟩ := hG.root
  unfold runS pickS pickN pickF
  rw [run_again S.gr 9 hG hr]
theorem walk_halt {c : St → Int} : ∀ (n : Nat) {S : Hs} (g : Nat) (k : Int), haltS (walkS c id n S g).1 k = haltS S k
  | 0, S, g, k => rfl
  | n + 1, S, g, k => by
    cases hx : S.g g with
    | none => rw [walkS, hx]
    | some x =>
      cases hn : nxt (c x.q) with
      | none => rw [walk_none hx hn]; exact cur_halt hx _ k
      | some j => rw [walk_some hx hn, walk_halt n j k]; exact cur_halt hx _ k
theorem pick_free (S : Hs) (g : Nat) : freeG (pickS S) g = freeG S g := free_halt (fun k => walk_halt 9 0 k) g
/-- Behind Pick: who runs. -/
theorem runner_is {S : Hs} {here : List Bool} (hF : Fine S) (h : Herd S here) :
    (runS (pickS S) = -1 ∧ ∀ n : Nat, n < 8 → here[n]? = some true → freeG (pickS S) (homeN n) = false) ∨ (∃ m : Nat, m < 8 ∧ runS (pickS S) = m ∧ here[m]? = some true ∧ freeG (pickS S) (homeN m) = true) := by
  rw [runs_picked hF.good]
  rcases picked_is hF h with ⟨a, b⟩ | ⟨m, a, b, c, d⟩
  · exact .inl ⟨a, fun n hn hh => by rw [pick_free]; exact b n hn hh⟩
  · exact .inr ⟨m, a, b, c, by rw [pick_free]; exact d⟩
theorem worked_runner {F : Fm} (h : Hok F) (k : Wk) (hn : 0 ≤ k.ns) :
    (runS (workF F k).S = -1 ∧ ∀ n : Nat, n < 8 → (workF F k).here[n]? = some true → freeG (workF F k).S (homeN n) = false) ∨ (∃ m : Nat, m < 8 ∧ runS (workF F k).S = m ∧ (workF F k).here[m]? = some true ∧ freeG (workF F k).S (homeN m) = true) := by
  unfold workF
  split
  · have hw := wakeF_hok h (who_lt k)
    exact runner_is hw.ok.fine hw.herd
  · exact runner_is (midS_fine h.ok.fine k hn h.ok.tk.1) (h.herd.alike (midS_alike h k))
end Go.Proofs.YtnnjbonejbmgdaaGreat.Hr

/- The walk of HierRuns. Conditions: each number is one of its kind, the list can be read. -/
namespace Go.Proofs.YtnnjbonejbmgdaaGreat.Hr
open Go.ChangeShapes Go.WideShapes Go.ChangeAt Go.RowKit Tree Queue
set_option linter.unusedVariables false
set_option linter.unusedSimpArgs false
set_option maxRecDepth 100000

def OkWk (k : Wk) : Prop := (0 ≤ k.wt ∧ k.wt ≤ 4294967295) ∧ (0 ≤ k.ns ∧ k.ns ≤ 4294967295)
/-- A list of pieces of work that can be read. -/
def WorksL (u : Option Addr) (len : Nat) (w : World) : Prop := ∀ j, j < len → ∃ k off, u = some ⟨k, off, none⟩ ∧ k < w.heap.size ∧ ∃ x : Wk, OkWk x ∧
  w.cell? ⟨k, off + j * 5, none⟩ = some (.int .i64 x.kind) ∧ w.cell? ⟨k, off + j * 5 + 1, none⟩ = some (.int .i64 x.who) ∧ w.cell? ⟨k, off + j * 5 + 2, none⟩ = some (.int .u32 x.wt) ∧ w.cell? ⟨k, off + j * 5 + 3, none⟩ = some (.int .u32 x.ns) ∧ w.cell? ⟨k, off + j * 5 + 4, none⟩ = some (.bool x.is)
theorem WorksL.fresh {u : Option Addr} {len : Nat} {w w' : World} (h : WorksL u len w) (g : Below w.heap.size w w') : WorksL u len w' := fun j hj => by
  obtain ⟨k, off, e1, e2, x, ox, c0, c1, c2, c3, c4⟩ := h j hj
  exact ⟨k, off, e1, Nat.lt_of_lt_of_le e2 g.size, x, ox, (g.cell (p := ⟨k, _, none⟩) e2).trans c0, (g.cell (p := ⟨k, _, none⟩) e2).trans c1, (g.cell (p := ⟨k, _, none⟩) e2).trans c2, (g.cell (p := ⟨k, _, none⟩) e2).trans c3, (g.cell (p := ⟨k, _, none⟩) e2).trans c4⟩
def RunL (w1 : World) (b h : Nat) (left : Nat) (t : Value) (wr : World) : Prop := ∃ (i : Nat) (F : Fm), left = 120 - i ∧ t = .int .i64 i ∧ Hok F ∧ Fw w1 b h (· < w1.heap.size) F wr
def mayB (F : Fm) (n : Nat) : Bool := F.here[n]?.getD false && freeG F.S (homeN n)
def someB (F : Fm) (n : Nat) : Bool := (List.range n).any (mayB F)
theorem someB_next (F : Fm) (n : Nat) : someB F (n + 1) = (someB F n || mayB F n) := by unfold someB; rw [List.range_succ, List.any_append]; simp
def RunN (w1 : World) (b h : Nat) (F : Fm) (left : Nat) (t8 t9 : Value) (wr : World) : Prop := ∃ n : Nat, n ≤ 8 ∧ left = 8 - n ∧ t8 = .bool (someB F n) ∧ t9 = .int .i64 n ∧ Fw w1 b h (· < w1.heap.size) F wr
set_option maxHeartbeats 8000000 in
theorem runsLaw (a b c : Int) (u : Option Addr) (len cap : Nat) (w : World) (ha : 0 ≤ a ∧ a ≤ 65535) (hb : 0 ≤ b ∧ b ≤ 65535) (hc : 0 ≤ c ∧ c ≤ 65535) (hl : len ≤ 9223372036854775807) (hW : WorksL u len w) :
    Calls Tryz.prog 4 #[.agg #[.int .u16 a, .int .u16 b, .int .u16 c], .slice u len cap] w (IsTrue w) := by
  have hA := heap_alloc_new w (.cells #[.int .u16 a, .int .u16 b, .int .u16 c] 47)
  have gA := alloc1 w (.cells #[.int .u16 a, .int .u16 b, .int .u16 c] 47)
  replace hW := Lib.hid hW
  have AW := Lib.hid (fun X => awake X)
  have BG := Lib.hid (fun X => begun X a b c ha hb hc)
  go_enter Tryz.func4, Tryz.ntmps4
  go_wp2_with fail
  refine (AW.out _).mono ?_
  rintro e w1 ⟨rfl, hg1⟩
  replace hA := (hg1.block _ (lt_of hA)).trans hA
  have hgw := ft gA hg1
  replace hW := Lib.hid (hW.out.fresh hgw)
  have a0 : w1.cell? ⟨w.heap.size, 0, none⟩ = some (.int .u16 a) := by rw [cell_of_row w1 _ _ _ _ _ hA]; rfl
  have a1 : w1.cell? ⟨w.heap.size, 1, none⟩ = some (.int .u16 b) := by rw [cell_of_row w1 _ _ _ _ _ hA]; rfl
  have a2 : w1.cell? ⟨w.heap.size, 2, none⟩ = some (.int .u16 c) := by rw [cell_of_row w1 _ _ _ _ _ hA]; rfl
  clear hg1 gA hA AW
  go_wp2_with fail
  refine (BG.out _).mono ?_
  rintro e w2 ⟨fb, h, hfb, rfl, hF⟩
  have R0 : Hid (RunL w1 fb h 120 (.int .i64 0) w2) := Lib.hid ⟨0, _, rfl, rfl, bgF_hok ha hb hc, hF⟩
  clear hF a0 a1 a2 BG
  go_wp2_with fail
  go_loopg [7] 120 (fun left t7 wr => RunL w1 fb h left t7 wr)
  case atStart => exact R0.out
  case round =>
    clear R0
    obtain ⟨i, F, rfl, rfl, hK, hQ⟩ := hrel
    have hbw := Lib.hid (ft hgw hQ.same.below)
    by_cases hlt : i < len ∧ i < 120
    · obtain ⟨h1, h2⟩ := hlt
      have q1 : (i : Int) < len := by omega
      have q2 : (i : Int) < 120 := by omega
      obtain ⟨kb, off, rfl, hkb, x, hx, c0, c1, c2, c3, c4⟩ := (hW.out.fresh hQ.same.below) i h1
      have WK := Lib.hid (works w1 wr fb h (· < w1.heap.size) F hQ hK.ok x hx.1 hx.2)
      have hK1 := workF_hok hK x hx.2.1
      have hR := worked_runner hK x hx.2.1
      simp only [Wk.cells] at WK
      clear hK hQ hx
      generalize workF F x = F1 at *
      go_wp2_with fail
      refine WK.out.mono ?_
      rintro e w3 ⟨rfl, hQ3⟩
      clear WK c0 c1 c2 c3 c4
      have N0 : Hid (RunN w1 fb h F1 8 (.bool false) (.int .i64 0) w3) := Lib.hid ⟨0, by omega, rfl, rfl, rfl, hQ3⟩
      clear hQ3
      go_wp2_with fail
      go_loopg [8, 9] 8 (fun left t8 t9 wr => RunN w1 fb h F1 left t8 t9 wr)
      case atStart => exact N0.out
      case round =>
        clear N0
        obtain ⟨n, hn8, rfl, rfl, rfl, hQ4⟩ := hrel
        by_cases hlt2 : n < 8
        · have r1 : (n : Int) < 8 := by omega
          have r2 : 0 ≤ (n : Int) := by omega
          obtain ⟨hv, hh⟩ : ∃ hv, F1.here[n]? = some hv := ⟨_, List.getElem?_eq_getElem (by rw [hK1.ok.hen]; exact hlt2)⟩
          have FR := Lib.hid (frees w1 wr fb h (· < w1.heap.size) F1 hQ4 n hlt2)
          have hmay : mayB F1 n = (hv && freeG F1.S (homeN n)) := by unfold mayB; rw [hh]; rfl
          have NX := Lib.hid (fun X (K : Fw w1 fb h (· < w1.heap.size) F1 X) => (⟨n + 1, by omega, rfl, by rw [someB_next, hmay], by go_num, K⟩ : RunN w1 fb h F1 (8 - (n + 1)) (.bool (someB F1 n || (hv && freeG F1.S (homeN n)))) (.int .i64 ((n : Int) + 1)) X))
          obtain ⟨l0, l41, l42, l43, lf⟩ := hQ4.box.cells
          have lh := hQ4.box.hereC hh
          have W4 := Lib.hid hQ4
          clear hQ4 hh hmay
          generalize freeG F1.S (homeN n) = fr at *
          generalize someB F1 n = sb at *
          cases hv
          · simp only [Bool.false_and, Bool.or_false] at NX
            have NX' := Lib.hid (NX.out _ W4.out)
            clear NX FR
            cases sb
            all_goals
              go_wp2_with fail
              go_roundg (8 - (n + 1))
              case measure => omega
              case rel => exact NX'.out
          · simp only [Bool.true_and] at NX
            cases sb <;> cases fr
            all_goals
              simp only [Bool.or_true, Bool.or_false, Bool.or_self, Bool.true_or, Bool.false_or] at NX
              go_wp2_with (go_at_call 16; refine FR.out.mono ?_; rintro e w4 ⟨rfl, hg4⟩; have NX' := Lib.hid (NX.out _ (W4.out.fresh hg4)))
              go_roundg (8 - (n + 1))
              case measure => omega
              case rel => exact NX'.out
        · obtain rfl : n = 8 := by omega
          have r1 : ¬ ((8 : Nat) : Int) < 8 := by omega
          have RU := Lib.hid (fun X (K : Fw w1 fb h (· < w1.heap.size) F1 X) => (Lrunning K.que hK1.ok.fine.good).mono fun _ _ D => K.did D)
          have W4 := Lib.hid hQ4
          have NX := Lib.hid (fun X (K : Fw w1 fb h (· < w1.heap.size) F1 X) => (⟨i + 1, F1, rfl, by go_num, hK1, K⟩ : RunL w1 fb h (120 - (i + 1)) (.int .i64 ((i : Int) + 1)) X))
          obtain ⟨l0, l41, l42, l43, lf⟩ := hQ4.box.cells
          clear hQ4
          rcases hR with ⟨e1, e2⟩ | ⟨m, hm, e1, e2, e3⟩
          · have hsb : someB F1 8 = false := by
              unfold someB
              rw [List.any_eq_false]
              intro n hn
              have hn8 : n < 8 := List.mem_range.1 hn
              unfold mayB
              cases hh : F1.here[n]? with
              | none => simp
              | some v =>
                cases v
                · simp
                · simp [e2 n hn8 hh]
            rw [hsb]
            rw [e1] at RU
            clear e1 e2 hsb
            go_wp2_with (go_at_call 17; refine (RU.out _ W4.out).mono ?_; rintro e w5 ⟨rfl, W5⟩; have NX' := Lib.hid (NX.out _ W5))
            go_roundg (120 - (i + 1))
            case measure => omega
            case rel => exact NX'.out
          · have hsb : someB F1 8 = true := by
              unfold someB
              rw [List.any_eq_true]
              exact ⟨m, List.mem_range.2 hm, by unfold mayB; rw [e2, e3]; rfl⟩
            rw [hsb]
            rw [e1] at RU
            have FR := Lib.hid (fun X (K : Fw w1 fb h (· < w1.heap.size) F1 X) => frees w1 X fb h (· < w1.heap.size) F1 K m hm)
            rw [e3] at FR
            have m1 : ¬ 7 < (m : Int) := by omega
            have m2 : 0 ≤ (m : Int) := by omega
            have m3 : (m : Int) < 8 := by omega
            clear e1 e3 hsb
            go_wp2_with (first
              | (go_at_call 17; refine (RU.out _ W4.out).mono ?_; rintro e w5 ⟨rfl, W5⟩; replace W5 := Lib.hid W5; obtain ⟨y0, y41, y42, y43, yf⟩ := W5.out.box.cells; have yh := W5.out.box.hereC e2)
              | (go_at_call 16; refine (FR.out _ W5.out).mono ?_; rintro e w6 ⟨rfl, hg6⟩; have NX' := Lib.hid (NX.out _ (W5.out.fresh hg6))))
            go_roundg (120 - (i + 1))
            case measure => omega
            case rel => exact NX'.out
    · have W5 := hbw.out
      have hbw' := Lib.hid W5
      clear W5 hbw hK hQ
      have hcond : ¬ ((i : Int) < len) ∨ ¬ ((i : Int) < 120) := by
        by_cases e : i < len
        · exact .inr (by omega)
        · exact .inl (by omega)
      by_cases hi : (i : Int) < len
      · have hj : ¬ (i : Int) < 120 := hcond.resolve_left (fun e => e hi)
        clear hcond hlt
        go_wp2_with fail
        go_ret
        exact ⟨rfl, hbw'.out⟩
      · clear hcond hlt
        go_wp2_with fail
        go_ret
        exact ⟨rfl, hbw'.out⟩
end Go.Proofs.YtnnjbonejbmgdaaGreat.Hr

/- What doleref08.Same answers of two lists that are the same; and what is dropped and put again stands as it did. Conditions: none. -/
namespace Go.Proofs.YtnnjbonejbmgdaaGreat.Queue
open Go.ChangeShapes Go.WideShapes Go.ChangeAt Go.RowKit Tree
set_option linter.unusedVariables false
set_option linter.unusedSimpArgs false
set_option maxRecDepth 100000

theorem cellsE_at {l : List Ent} {j : Nat} {e : Ent} (h : l[j]? = some e) : (cellsE l)[j * 4]? = some (.int .i64 e.id) ∧ (cellsE l)[j * 4 + 1]? = some (.int .u64 e.wt) ∧ (cellsE l)[j * 4 + 2]? = some (.int .i64 e.v) ∧ (cellsE l)[j * 4 + 3]? = some (.int .u64 e.rm) := by
  induction l generalizing j with
  | nil => simp at h
  | cons q l ih =>
    cases j with
    | zero => simp at h; subst h; simp [cellsE]
    | succ j =>
      simp at h
      obtain ⟨h1, h2, h3, h4⟩ := ih h
      rw [show (j + 1) * 4 = j * 4 + 4 by omega]
      exact ⟨by simpa [cellsE] using h1, by simpa [cellsE] using h2, by simpa [cellsE] using h3, by simpa [cellsE] using h4⟩
/-- A list of entities in memory: each at its place. -/
def Lst (v : Option Addr) (es : List Ent) (w : World) : Prop := ∀ j e, es[j]? = some e → ∃ g, v = some ⟨g, 0, none⟩ ∧ g < w.heap.size ∧ w.cell? ⟨g, j * 4, none⟩ = some (.int .i64 e.id) ∧ w.cell? ⟨g, j * 4 + 1, none⟩ = some (.int .u64 e.wt) ∧ w.cell? ⟨g, j * 4 + 2, none⟩ = some (.int .i64 e.v) ∧ w.cell? ⟨g, j * 4 + 3, none⟩ = some (.int .u64 e.rm)
theorem Row.lst {w : World} {O : Nat → Prop} {ao : Option Addr} {n cap : Nat} {es : List Ent} (h : Row w O 34 4 (.slice ao n cap) n (cellsE es)) (hn : n = es.length) : Lst ao es w := by
  intro j e he
  have hj : j < es.length := (List.getElem?_eq_some_iff.1 he).1
  rcases h.1.2 with ⟨h1, h2⟩ | ⟨g, cap', cur, hv, _, _, _⟩
  · omega
  · simp only [Value.slice.injEq] at hv
    obtain ⟨rfl, _, _⟩ := hv
    obtain ⟨c0, c1, c2, c3⟩ := cellsE_at he
    have add : ∀ n, (⟨g, 0, none⟩ : Addr).add n = ⟨g, n, none⟩ := fun n => by unfold Addr.add; split <;> simp_all
    have k := fun j u hx => h.1.cells (g := g) rfl j u hx
    refine ⟨g, rfl, (h.1.lt g rfl).2, ?_, ?_, ?_, ?_⟩
    · have := k _ _ c0; rwa [add] at this
    · have := k _ _ c1; rwa [add] at this
    · have := k _ _ c2; rwa [add] at this
    · have := k _ _ c3; rwa [add] at this
theorem drewNN (W : World) (a b : Nat) : (W.drewN a).drewN b = W.drewN (a + b) := by simp [World.drewN, Nat.add_assoc]
def SameI (n : Nat) (W : World) (left : Nat) (t : Value) (wr : World) : Prop := ∃ j nn : Nat, j ≤ n ∧ left = n - j ∧ t = .int .i64 j ∧ Hid (wr = W.drewN nn)
theorem Lst.fresh {v : Option Addr} {es : List Ent} {w w' : World} (h : Lst v es w) (hg : Below w.heap.size w w') : Lst v es w' := by
  intro j e he
  obtain ⟨g, h1, h2, h3, h4, h5, h6⟩ := h j e he
  exact ⟨g, h1, Nat.lt_of_lt_of_le h2 hg.size, (hg.cell (p := ⟨g, _, none⟩) h2).trans h3, (hg.cell (p := ⟨g, _, none⟩) h2).trans h4, (hg.cell (p := ⟨g, _, none⟩) h2).trans h5, (hg.cell (p := ⟨g, _, none⟩) h2).trans h6⟩
set_option maxHeartbeats 2000000 in
/-- Two lists that are the same. -/
theorem sames (w : World) (a b : Option Addr) (ca cb : Nat) (es : List Ent) (hl : es.length ≤ 1000) (ha : Lst a es w) (hb : Lst b es w) :
    Calls Tryz.prog 52 #[.slice a es.length ca, .slice b es.length cb] w (Is (.bool true) w) := by
  have HA := Lib.hid ha
  have HB := Lib.hid hb
  clear ha hb
  generalize hlen : es.length = len at *
  go_enter Tryz.func52, Tryz.ntmps52
  go_wp2_with fail
  go_loopg [5] len (fun left t wr => SameI len w left t wr)
  case atStart => exact ⟨0, 0, by omega, rfl, rfl, rfl⟩
  case round =>
    obtain ⟨j, nn, hj, rfl, rfl, HW⟩ := hrel
    have hBW : Below w.heap.size w wr := by rw [HW.out]; exact drawn w nn
    by_cases hjl : j < len
    · have hjl1 : (j : Int) < len := by omega
      obtain ⟨e, he⟩ : ∃ e, es[j]? = some e := ⟨_, List.getElem?_eq_getElem (by omega)⟩
      obtain ⟨g1, e1, _, x0, x1, x2, x3⟩ := HA.out.fresh hBW j e he
      obtain ⟨g2, e2, _, y0, y1, y2, y3⟩ := HB.out.fresh hBW j e he
      subst e1 e2
      obtain ⟨ei, ew, ev, er⟩ := e
      simp only at x0 x1 x2 x3 y0 y1 y2 y3
      go_wp2_with fail
      go_quiet (fail)
      go_wp2_with fail
      go_roundg (len - (j + 1))
      case measure => omega
      case rel => exact ⟨j + 1, nn + nq, by omega, rfl, by go_num, Lib.hid (by rw [HW.out, drewNN])⟩
    · obtain rfl : j = len := by omega
      go_wp2_with fail
      go_ret
      exact ⟨rfl, hBW⟩
/-- What is dropped and put again stands as it did. -/
theorem insE_drop {es : List Ent} (hs : Sorted (es.map Ent.key)) (ho : Once es) {e : Ent} (he : e ∈ es) : insE e (drop es e.id) = es := by
  induction es with
  | nil => simp at he
  | cons x l ih =>
    unfold Sorted at hs
    rw [List.map_cons, List.pairwise_cons] at hs
    unfold Once at ho
    rw [List.pairwise_cons] at ho
    rcases List.mem_cons.1 he with rfl | he'
    · have hd : drop (e :: l) e.id = l := by
        unfold drop
        rw [List.filter_cons, if_neg (by simp), List.filter_eq_self]
        intro y hy
        simp
        exact fun h => ho.1 y hy h.symm
      rw [hd]
      cases l with
      | nil => rfl
      | cons y l => simp only [insE]; rw [if_pos (hs.1 y.key (by simp))]
    · have hx : x.id ≠ e.id := ho.1 e he'
      have hd : drop (x :: l) e.id = x :: drop l e.id := by
        unfold drop
        rw [List.filter_cons, if_pos (by simp [hx])]
      rw [hd]
      simp only [insE]
      rw [if_neg (lt_asymm (hs.1 e.key (List.mem_map.2 ⟨e, he', rfl⟩))), ih hs.2 ho.2 he']
end Go.Proofs.YtnnjbonejbmgdaaGreat.Queue

/- How many stand in each queue of the farm; nothing of a program. Conditions: as each fact states them. -/
namespace Go.Proofs.YtnnjbonejbmgdaaGreat.Hr
open Go.ChangeShapes Go.WideShapes Go.ChangeAt Go.RowKit Tree Queue
set_option linter.unusedVariables false
set_option linter.unusedSimpArgs false
set_option maxRecDepth 100000

def b2 (x : Bool) : Nat := if x then 1 else 0
def cnt (l : List Ent) : Nat → Nat
  | 0 => 0
  | n + 1 => cnt l n + b2 (named l n)
theorem cnt_same {l l' : List Ent} : ∀ n : Nat, (∀ i : Nat, i < n → named l i = named l' i) → cnt l n = cnt l' n
  | 0, _ => rfl
  | n + 1, h => by rw [cnt, cnt, cnt_same n (fun i hi => h i (by omega)), h n (by omega)]
theorem len_cnt : ∀ (n : Nat) (l : List Ent), Once l → (∀ e ∈ l, 0 ≤ e.id ∧ e.id < n) → l.length = cnt l n
  | 0, l, _, h => by
    cases l with
    | nil => rfl
    | cons e l => have := h e (by simp); omega
  | n + 1, l, ho, h => by
    have ih := len_cnt n (Queue.drop l n) (once_drop ho _) (fun e he => by
      obtain ⟨h1, h2⟩ := mem_drop.1 he
      have := h e h1
      exact ⟨this.1, by push_cast at this; omega⟩)
    have e1 := cnt_same (l := Queue.drop l n) (l' := l) n (fun i hi => by rw [named_drop']; simp; omega)
    rw [cnt]
    cases hn : named l n
    · rw [drop_none hn] at ih; simp [b2]; exact ih
    · have := len_drop ho hn
      simp [b2]
      omega
def hB (F : Fm) (n : Nat) : Bool := F.here[n]?.getD false
def oB (F : Fm) (j : Nat) : Bool := onS F.S j
def cntF (f : Nat → Bool) : Nat → Nat
  | 0 => 0
  | n + 1 => cntF f n + b2 (f n)
theorem cnt_cntF {l : List Ent} {f : Nat → Bool} : ∀ n : Nat, (∀ i : Nat, i < n → named l i = f i) → cnt l n = cntF f n
  | 0, _ => rfl
  | n + 1, h => by rw [cnt, cntF, cnt_cntF n (fun i hi => h i (by omega)), h n (by omega)]
def tab (F : Fm) (g i : Nat) : Bool := if i % 2 = 0 then decide (homeN (i / 2) = g) && hB F (i / 2) else if i / 2 < 6 then decide (i / 2 ≠ 0 ∧ parN (i / 2) = g) && oB F (i / 2) else false
theorem ents_at {F : Fm} {g : Nat} {x : Gp} (hg : g < 32) (hx : F.S.g g = some x) : entsS F.S g = x.q.es ∧ loadS F.S g = total x.q.es ∧ minS F.S g = x.q.min := by
  unfold entsS loadS minS
  rw [if_pos (by omega), if_pos (by omega), if_pos (by omega)]
  simp [hx]
theorem on_at {F : Fm} {g : Nat} {x : Gp} (h0 : g ≠ 0) (hg : g < 32) (hx : F.S.g g = some x) : onS F.S g = x.on ∧ haltS F.S g = x.halt := by
  unfold onS haltS
  rw [if_pos (by omega), if_pos (by omega)]
  simp [hx]
theorem par_lt (j : Nat) : parN j < 6 := by unfold parN; split <;> decide
theorem home_lt (j : Nat) : homeN j < 6 := by unfold homeN; split <;> decide
theorem named_tab {F : Fm} (h : Hok F) {g i : Nat} (hg : g < 6) (hi : i < 16) : named (entsS F.S g) i = tab F g i := by
  obtain ⟨x, hx, hu⟩ := h.herd.six g hg
  rw [(ents_at (by omega) hx).1]
  obtain ⟨dep, hG⟩ := h.ok.fine.good
  unfold tab
  by_cases h2 : i % 2 = 0
  · rw [if_pos h2]
    apply Bool.eq_iff_iff.2
    rw [Bool.and_eq_true, decide_eq_true_iff]
    constructor
    · intro hn
      obtain ⟨n, n8, e1, e2, e3⟩ := h.herd.task g x hx i (by omega) hn
      obtain rfl : n = i / 2 := by omega
      exact ⟨e2, by unfold hB; rw [e3]; rfl⟩
    · rintro ⟨e1, e2⟩
      have e3 : F.here[i / 2]? = some true := by
        unfold hB at e2
        cases hh : F.here[i / 2]? with
        | none => rw [hh] at e2; cases e2
        | some u => rw [hh] at e2; simp at e2; rw [e2]
      have := h.herd.here (i / 2) (by omega) e3 x (by rw [e1]; exact hx)
      rwa [show (2 * ((i / 2 : Nat) : Int)) = (i : Int) by omega] at this
  · rw [if_neg h2]
    have ei : (i : Int) = gid (i / 2) := by unfold gid; omega
    split
    · rename_i h6
      apply Bool.eq_iff_iff.2
      rw [Bool.and_eq_true, decide_eq_true_iff]
      obtain ⟨y, hy, hyu⟩ := h.herd.six (i / 2) h6
      constructor
      · intro hn
        obtain ⟨e, he, hid⟩ := named_of hn
        obtain ⟨j, z, e1, e2, e3, e4⟩ := hG.inn g x hx e he (by omega)
        rw [hid, ei] at e1
        obtain rfl := gid_inj e1
        rw [hy] at e2; cases e2
        rw [hyu] at e3
        have h0 : i / 2 ≠ 0 := by intro e0; rw [if_pos e0] at e3; cases e3
        rw [if_neg h0] at e3
        refine ⟨⟨h0, Option.some.inj e3⟩, ?_⟩
        unfold oB
        rw [(on_at h0 (by omega) hy).1]; exact e4
      · rintro ⟨⟨h0, e1⟩, e2⟩
        unfold oB at e2
        rw [(on_at h0 (by omega) hy).1] at e2
        obtain ⟨p, z, f1, f2, f3⟩ := hG.out (i / 2) y hy e2
        rw [hyu, if_neg h0, e1] at f1
        cases f1
        rw [hx] at f2; cases f2
        rwa [← ei] at f3
    · cases hn : named x.q.es i
      · rfl
      · obtain ⟨e, he, hid⟩ := named_of hn
        obtain ⟨j, z, e1, e2, _⟩ := hG.inn g x hx e he (by omega)
        rw [hid, ei] at e1
        obtain rfl := gid_inj e1
        rw [h.herd.no _ (by omega)] at e2; cases e2
theorem len_tab {F : Fm} (h : Hok F) {g : Nat} (hg : g < 6) : (entsS F.S g).length = cntF (tab F g) 16 := by
  obtain ⟨x, hx, _⟩ := h.herd.six g hg
  obtain ⟨dep, hG⟩ := h.ok.fine.good
  have hs := hG.q g x hx
  rw [← cnt_cntF 16 (fun i hi => named_tab h hg hi), (ents_at (by omega) hx).1]
  refine len_cnt 16 _ hs.once fun e he => ⟨(hs.each e he).1, ?_⟩
  have h0 := (hs.each e he).1
  by_cases h2 : e.id % 2 = 0
  · obtain ⟨n, n8, e1, _⟩ := h.herd.task g x hx e.id h2 (named_mem he)
    omega
  · obtain ⟨j, z, e1, e2, _⟩ := hG.inn g x hx e he (by omega)
    have : j < 6 := by
      by_cases hj : j < 6
      · exact hj
      · rw [h.herd.no j (by omega)] at e2; cases e2
    rw [e1]; unfold gid; omega
theorem lens {F : Fm} (h : Hok F) : (entsS F.S (0 : Nat)).length = b2 (hB F 0) + b2 (hB F 7) + b2 (oB F 1) + b2 (oB F 4) ∧ (entsS F.S (1 : Nat)).length = b2 (hB F 1) + b2 (oB F 2) + b2 (oB F 3) ∧ (entsS F.S (2 : Nat)).length = b2 (hB F 2) ∧
    (entsS F.S (3 : Nat)).length = b2 (hB F 3) + b2 (oB F 5) ∧ (entsS F.S (4 : Nat)).length = b2 (hB F 6) ∧ (entsS F.S (5 : Nat)).length = b2 (hB F 4) + b2 (hB F 5) := by
  refine ⟨?_, ?_, ?_, ?_, ?_, ?_⟩
  all_goals
    rw [len_tab h (by decide)]
    simp [cntF, tab, homeN, parN, b2]
    try omega
/-- What the law counts. -/
def manyF (F : Fm) : Nat → Int
  | 0 => 0
  | g + 1 => manyF F g + (entsS F.S (g : Nat)).length - (if g = 0 then 0 else b2 (oB F g))
def lessF (F : Fm) (m : Int) : Nat → Int
  | 0 => m
  | n + 1 => lessF F m n - b2 (hB F n)
theorem many_none {F : Fm} (h : Hok F) : lessF F (manyF F 6) 8 = 0 := by
  obtain ⟨l0, l1, l2, l3, l4, l5⟩ := lens h
  push_cast at l0 l1 l2 l3 l4 l5
  simp [lessF, manyF]
  omega
def loadF (F : Fm) : Nat → Int
  | 0 => 0
  | g + 1 => loadF F g + loadS F.S (g : Nat)
/-- What stands, and what is told of it. -/
theorem stand_at {F : Fm} (h : Hok F) {g : Nat} (h0 : g ≠ 0) (hg : g < 6) : onS F.S g = (decide (0 < (entsS F.S g).length) && !haltS F.S g) := by
  obtain ⟨x, hx, _⟩ := h.herd.six g hg
  rw [(on_at h0 (by omega) hx).1, (on_at h0 (by omega) hx).2, (ents_at (by omega) hx).1, h.ok.fine.sett g x hx h0]
  unfold should busy
  cases x.q.es <;> simp
end Go.Proofs.YtnnjbonejbmgdaaGreat.Hr

/- The walk of HierStands. Conditions: each number is one of its kind, the list can be read. -/
namespace Go.Proofs.YtnnjbonejbmgdaaGreat.Hr
open Go.ChangeShapes Go.WideShapes Go.ChangeAt Go.RowKit Tree Queue
set_option linter.unusedVariables false
set_option linter.unusedSimpArgs false
set_option maxRecDepth 100000

theorem total_take {es : List Ent} {k : Nat} {e : Ent} (h : es[k]? = some e) : total (es.take (k + 1)) = total (es.take k) + e.wt := by
  rw [List.take_add_one, h]
  unfold total
  simp
theorem b2_le (x : Bool) : b2 x ≤ 1 := by unfold b2; split <;> omega
theorem ents_few {F : Fm} (h : Hok F) (g : Nat) : (entsS F.S (g : Nat)).length ≤ 128 ∧ (∀ e ∈ entsS F.S (g : Nat), 0 ≤ e.wt ∧ e.wt ≤ 262144) ∧ loadS F.S (g : Nat) = total (entsS F.S (g : Nat)) := by
  obtain ⟨dep, hG⟩ := h.ok.fine.good
  rcases ptrQ_cases F.S (g : Nat) with ⟨i, x, _, _, hx, _, e2, e3, _⟩ | ⟨_, e2, e3, _⟩
  · rw [e2, e3]
    have hs := hG.q i x hx
    exact ⟨hs.few, (sound_few hs).1, rfl⟩
  · rw [e2, e3]
    exact ⟨by simp, by simp, rfl⟩
theorem load_bd {F : Fm} (h : Hok F) : ∀ g : Nat, 0 ≤ loadF F g ∧ loadF F g ≤ 33554432 * (g : Int)
  | 0 => by simp [loadF]
  | g + 1 => by
    obtain ⟨h1, h2⟩ := load_bd h g
    obtain ⟨e1, e2, e3⟩ := ents_few h g
    obtain ⟨h3, h4⟩ := total_bd e2
    rw [loadF, e3]
    omega
theorem many_bd {F : Fm} (h : Hok F) : ∀ g : Nat, -(g : Int) ≤ manyF F g ∧ manyF F g ≤ 128 * (g : Int)
  | 0 => by simp [manyF]
  | g + 1 => by
    obtain ⟨h1, h2⟩ := many_bd h g
    obtain ⟨e1, _⟩ := ents_few h g
    have := b2_le (oB F g)
    rw [manyF]
    split <;> omega
theorem less_bd {F : Fm} (m : Int) : ∀ n : Nat, m - n ≤ lessF F m n ∧ lessF F m n ≤ m
  | 0 => by simp [lessF]
  | n + 1 => by
    obtain ⟨h1, h2⟩ := less_bd (F := F) m n
    have := b2_le (hB F n)
    rw [lessF]
    omega
def StL (w1 : World) (b h : Nat) (left : Nat) (t : Value) (wr : World) : Prop := ∃ (i : Nat) (F : Fm), left = 100 - i ∧ t = .int .i64 i ∧ Hok F ∧ Fw w1 b h (· < w1.heap.size) F wr
def StG (w1 : World) (b h : Nat) (F : Fm) (left : Nat) (t8 t9 t10 t11 : Value) (wr : World) : Prop := ∃ g : Nat, g ≤ 6 ∧ left = 6 - g ∧ t8 = .int .i64 (manyF F g) ∧ t9 = .int .u64 (loadF F g) ∧ t10 = .int .u64 (loadF F g) ∧ t11 = .int .i64 g ∧ Fw w1 b h (· < w1.heap.size) F wr
def StK (w4 : World) (es : List Ent) (base : Int) (left : Nat) (t10 t13 : Value) (wr : World) : Prop := ∃ k : Nat, k ≤ es.length ∧ left = es.length - k ∧ t10 = .int .u64 (base + total (es.take k)) ∧ t13 = .int .i64 k ∧ Below w4.heap.size w4 wr
def StN (w1 : World) (b h : Nat) (F : Fm) (left : Nat) (t8 t14 : Value) (wr : World) : Prop := ∃ n : Nat, n ≤ 8 ∧ left = 8 - n ∧ t8 = .int .i64 (lessF F (manyF F 6) n) ∧ t14 = .int .i64 n ∧ Fw w1 b h (· < w1.heap.size) F wr
set_option maxHeartbeats 8000000 in
theorem standsLaw (a b c : Int) (u : Option Addr) (len cap : Nat) (w : World) (ha : 0 ≤ a ∧ a ≤ 65535) (hb : 0 ≤ b ∧ b ≤ 65535) (hc : 0 ≤ c ∧ c ≤ 65535) (hl : len ≤ 9223372036854775807) (hW : WorksL u len w) :
    Calls Tryz.prog 5 #[.agg #[.int .u16 a, .int .u16 b, .int .u16 c], .slice u len cap] w (IsTrue w) := by
  have hA := heap_alloc_new w (.cells #[.int .u16 a, .int .u16 b, .int .u16 c] 47)
  have gA := alloc1 w (.cells #[.int .u16 a, .int .u16 b, .int .u16 c] 47)
  replace hW := Lib.hid hW
  have AW := Lib.hid (fun X => awake X)
  have BG := Lib.hid (fun X => begun X a b c ha hb hc)
  go_enter Tryz.func5, Tryz.ntmps5
  go_wp2_with fail
  refine (AW.out _).mono ?_
  rintro e w1 ⟨rfl, hg1⟩
  replace hA := (hg1.block _ (lt_of hA)).trans hA
  have hgw := ft gA hg1
  replace hW := Lib.hid (hW.out.fresh hgw)
  have a0 : w1.cell? ⟨w.heap.size, 0, none⟩ = some (.int .u16 a) := by rw [cell_of_row w1 _ _ _ _ _ hA]; rfl
  have a1 : w1.cell? ⟨w.heap.size, 1, none⟩ = some (.int .u16 b) := by rw [cell_of_row w1 _ _ _ _ _ hA]; rfl
  have a2 : w1.cell? ⟨w.heap.size, 2, none⟩ = some (.int .u16 c) := by rw [cell_of_row w1 _ _ _ _ _ hA]; rfl
  clear hg1 gA hA AW
  go_wp2_with fail
  refine (BG.out _).mono ?_
  rintro e w2 ⟨fb, h, hfb, rfl, hF⟩
  have R0 : Hid (StL w1 fb h 100 (.int .i64 0) w2) := Lib.hid ⟨0, _, rfl, rfl, bgF_hok ha hb hc, hF⟩
  clear hF a0 a1 a2 BG
  go_wp2_with fail
  go_loopg [7] 100 (fun left t7 wr => StL w1 fb h left t7 wr)
  case atStart => exact R0.out
  case round =>
    clear R0
    obtain ⟨i, F, rfl, rfl, hK, hQ⟩ := hrel
    have hbw := Lib.hid (ft hgw hQ.same.below)
    by_cases hlt : i < len ∧ i < 100
    · obtain ⟨h1, h2⟩ := hlt
      have q1 : (i : Int) < len := by omega
      have q2 : (i : Int) < 100 := by omega
      obtain ⟨kb, off, rfl, hkb, x, hx, c0, c1, c2, c3, c4⟩ := (hW.out.fresh hQ.same.below) i h1
      have WK := Lib.hid (works w1 wr fb h (· < w1.heap.size) F hQ hK.ok x hx.1 hx.2)
      have hK1 := workF_hok hK x hx.2.1
      simp only [Wk.cells] at WK
      clear hK hQ hx
      generalize workF F x = F1 at *
      go_wp2_with fail
      refine WK.out.mono ?_
      rintro e w3 ⟨rfl, hQ3⟩
      clear WK c0 c1 c2 c3 c4
      have N0 : Hid (StG w1 fb h F1 6 (.int .i64 0) (.int .u64 0) (.int .u64 0) (.int .i64 0) w3) := Lib.hid ⟨0, by omega, rfl, rfl, rfl, rfl, rfl, hQ3⟩
      clear hQ3
      go_wp2_with fail
      go_loopg [8, 9, 10, 11] 6 (fun left t8 t9 t10 t11 wr => StG w1 fb h F1 left t8 t9 t10 t11 wr)
      case atStart => exact N0.out
      case round =>
        clear N0
        obtain ⟨g, hg6, rfl, rfl, rfl, rfl, rfl, hQ4⟩ := hrel
        by_cases hlt2 : g < 6
        · have r1 : (g : Int) ≤ 5 := by omega
          have r2 : 0 ≤ (g : Int) := by omega
          obtain ⟨e1, e2, e3⟩ := ents_few hK1 g
          obtain ⟨e4, e5⟩ := total_bd e2
          obtain ⟨b1, b2'⟩ := load_bd hK1 g
          obtain ⟨b3, b4⟩ := many_bd hK1 g
          have EN := Lib.hid (Lents hQ4.que hK1.ok.fine.good g)
          have LD := Lib.hid (fun X (K : Fw w1 fb h (· < w1.heap.size) F1 X) => Lload K.que hK1.ok.fine.good g)
          have ON := Lib.hid (fun X (K : Fw w1 fb h (· < w1.heap.size) F1 X) => Lon K.que g)
          have HT := Lib.hid (fun X (K : Fw w1 fb h (· < w1.heap.size) F1 X) => Lstopped K.que g)
          have SA := Lib.hid (fun h0 : g ≠ 0 => stand_at hK1 h0 hlt2)
          have NX := Lib.hid (fun X (m l : Int) (i1 : Int) (hm : m = manyF F1 (g + 1)) (hl : l = loadF F1 (g + 1)) (h1 : i1 = (g : Int) + 1) (K : Fw w1 fb h (· < w1.heap.size) F1 X) => (show StG w1 fb h F1 (6 - (g + 1)) (.int .i64 m) (.int .u64 l) (.int .u64 l) (.int .i64 i1) X from ⟨g + 1, by omega, rfl, by rw [hm], by rw [hl], by rw [hl], by rw [h1]; go_num, K⟩))
          have HM := Lib.hid (show manyF F1 (g + 1) = manyF F1 g + (entsS F1.S g).length - (if g = 0 then 0 else b2 (onS F1.S g)) from rfl)
          have HL := Lib.hid (show loadF F1 (g + 1) = loadF F1 g + loadS F1.S g from rfl)
          rw [e3] at LD HL
          generalize manyF F1 (g + 1) = m2 at *
          generalize loadF F1 (g + 1) = l2 at *
          clear e3
          have W4 := Lib.hid hQ4
          obtain ⟨l0, l41, l42, l43, lf⟩ := hQ4.box.cells
          clear hQ4
          generalize entsS F1.S g = es at *
          generalize onS F1.S g = on at *
          generalize haltS F1.S g = ht at *
          generalize hm : manyF F1 g = mny at *
          generalize hd : loadF F1 g = ld at *
          clear hm hd
          have e6 : (es.length : Int) ≤ 128 := by omega
          have ET := Lib.hid e2
          clear e2
          go_wp2_with fail
          go_at_call 18; refine EN.out.mono ?_; rintro e w4 ⟨lv, rfl, hr, hg4⟩
          obtain ⟨ao, cp, rfl, hao, hcp⟩ := hr.shape
          have LS := Lib.hid (Row.lst hr rfl)
          have W5 := Lib.hid (W4.out.fresh hg4)
          obtain ⟨m0, m41, m42, m43, mf⟩ := W5.out.box.cells
          clear EN l0 l41 l42 l43 lf hr hao hcp W4 hg4
          go_wp2_with (go_at_call 19; refine (LD.out _ W5.out).mono ?_; rintro e w5 ⟨rfl, hg5⟩)
          have W6 := Lib.hid (W5.out.fresh hg5)
          replace LS := Lib.hid (LS.out.fresh hg5)
          clear m0 m41 m42 m43 mf W5 LD hg5
          have K0 : Hid (StK w5 es ld es.length (.int .u64 ld) (.int .i64 0) w5) := Lib.hid ⟨0, by omega, by omega, by simp [total], rfl, Below.refl _ _⟩
          generalize htt : total es = tt at *
          have HTT := Lib.hid htt
          clear htt
          go_wp2_with fail
          go_loopg [10, 13] es.length (fun left t10 t13 wr => StK w5 es ld left t10 t13 wr)
          case atStart => exact K0.out
          case round =>
            clear K0
            obtain ⟨k, hk, rfl, rfl, rfl, hg6'⟩ := hrel
            by_cases hlt3 : k < es.length
            · have s1 : (k : Int) < es.length := by omega
              obtain ⟨en, he⟩ : ∃ en, es[k]? = some en := ⟨_, List.getElem?_eq_getElem hlt3⟩
              obtain ⟨gg, rfl, hgg, d0, d1, d2, d3⟩ := (LS.out.fresh hg6') k en he
              obtain ⟨t0, t1⟩ := total_bd (es := es.take k) (fun e h => ET.out e (List.mem_of_mem_take h))
              have t2 : (es.take k).length ≤ 128 := by rw [List.length_take]; omega
              have t3 := ET.out en (List.mem_of_getElem? he)
              have N := Lib.hid (show StK w5 es ld (es.length - (k + 1)) (.int .u64 (ld + total (es.take k) + en.wt)) (.int .i64 ((k : Int) + 1)) wr from ⟨k + 1, by omega, rfl, by rw [total_take he]; congr 1; omega, by go_num, hg6'⟩)
              generalize total (es.take k) = tk at *
              obtain ⟨ei, ew, ev, er⟩ := en
              simp only at d0 d1 d2 d3 N t3
              clear he
              go_wp2_with fail
              go_roundg (es.length - (k + 1))
              case measure => omega
              case rel => exact N.out
            · obtain rfl : k = es.length := by omega
              have s1 : ¬ (es.length : Int) < es.length := by omega
              rw [List.take_length, HTT.out]
              have W7 := Lib.hid (W6.out.fresh hg6')
              obtain ⟨m0, m41, m42, m43, mf⟩ := W7.out.box.cells
              clear W6 hg6' LS
              by_cases hz : g = 0
              · subst hz
                have N := Lib.hid (NX.out _ (mny + es.length) (ld + tt) 1 (by have := HM.out; simp at this; omega) HL.out.symm (by omega) W7.out)
                clear NX ON HT SA W7 HM HL
                go_wp2_with fail
                go_roundg (6 - (0 + 1))
                case measure => omega
                case rel => exact N.out
              · have z1 : 0 < (g : Int) := by omega
                have hon := SA.out hz
                clear SA
                by_cases hp : 0 < es.length
                · have hp' : 0 < (es.length : Int) := by omega
                  simp only [hp, decide_true, Bool.true_and] at hon
                  subst hon
                  cases ht
                  · have N := Lib.hid (fun X (K : Fw w1 fb h (· < w1.heap.size) F1 X) => NX.out X (mny + es.length - 1) (ld + tt) ((g : Int) + 1) (by have := HM.out; simp [hz, b2] at this; omega) HL.out.symm rfl K)
                    clear NX HM HL
                    go_wp2_with (first
                      | (go_at_call 20; refine (ON.out _ W7.out).mono ?_; rintro e w6 ⟨rfl, hg6⟩; replace W7 := Lib.hid (W7.out.fresh hg6); clear hg6; clear m0 m41 m42 m43 mf; obtain ⟨m0, m41, m42, m43, mf⟩ := W7.out.box.cells)
                      | (go_at_call 21; refine (HT.out _ W7.out).mono ?_; rintro e w6 ⟨rfl, hg6⟩; replace W7 := Lib.hid (W7.out.fresh hg6); clear hg6; clear m0 m41 m42 m43 mf; obtain ⟨m0, m41, m42, m43, mf⟩ := W7.out.box.cells))
                    have N' := Lib.hid (N.out _ W7.out)
                    go_roundg (6 - (g + 1))
                    case measure => omega
                    case rel => exact N'.out
                  · have N := Lib.hid (fun X (K : Fw w1 fb h (· < w1.heap.size) F1 X) => NX.out X (mny + es.length) (ld + tt) ((g : Int) + 1) (by have := HM.out; simp [hz, b2] at this; omega) HL.out.symm rfl K)
                    clear NX HM HL
                    go_wp2_with (first
                      | (go_at_call 20; refine (ON.out _ W7.out).mono ?_; rintro e w6 ⟨rfl, hg6⟩; replace W7 := Lib.hid (W7.out.fresh hg6); clear hg6; clear m0 m41 m42 m43 mf; obtain ⟨m0, m41, m42, m43, mf⟩ := W7.out.box.cells)
                      | (go_at_call 21; refine (HT.out _ W7.out).mono ?_; rintro e w6 ⟨rfl, hg6⟩; replace W7 := Lib.hid (W7.out.fresh hg6); clear hg6; clear m0 m41 m42 m43 mf; obtain ⟨m0, m41, m42, m43, mf⟩ := W7.out.box.cells))
                    have N' := Lib.hid (N.out _ W7.out)
                    go_roundg (6 - (g + 1))
                    case measure => omega
                    case rel => exact N'.out
                · have hp' : ¬ 0 < (es.length : Int) := by omega
                  simp only [hp, decide_false, Bool.false_and] at hon
                  subst hon
                  have N := Lib.hid (fun X (K : Fw w1 fb h (· < w1.heap.size) F1 X) => NX.out X (mny + es.length) (ld + tt) ((g : Int) + 1) (by have := HM.out; simp [hz, b2] at this; omega) HL.out.symm rfl K)
                  clear NX HM HL
                  go_wp2_with (first
                    | (go_at_call 20; refine (ON.out _ W7.out).mono ?_; rintro e w6 ⟨rfl, hg6⟩; replace W7 := Lib.hid (W7.out.fresh hg6); clear hg6; clear m0 m41 m42 m43 mf; obtain ⟨m0, m41, m42, m43, mf⟩ := W7.out.box.cells)
                    | (go_at_call 21; refine (HT.out _ W7.out).mono ?_; rintro e w6 ⟨rfl, hg6⟩; replace W7 := Lib.hid (W7.out.fresh hg6); clear hg6; clear m0 m41 m42 m43 mf; obtain ⟨m0, m41, m42, m43, mf⟩ := W7.out.box.cells))
                  have N' := Lib.hid (N.out _ W7.out)
                  go_roundg (6 - (g + 1))
                  case measure => omega
                  case rel => exact N'.out
        · obtain rfl : g = 6 := by omega
          have r1 : ¬ ((6 : Nat) : Int) ≤ 5 := by omega
          have MZ := Lib.hid (many_none hK1)
          have LB := Lib.hid (less_bd (F := F1) (manyF F1 6))
          have MB := many_bd hK1 6
          have NX := Lib.hid (fun X (K : Fw w1 fb h (· < w1.heap.size) F1 X) => (show StL w1 fb h (100 - (i + 1)) (.int .i64 ((i : Int) + 1)) X from ⟨i + 1, F1, rfl, by go_num, hK1, K⟩))
          have S0 : Hid (StN w1 fb h F1 8 (.int .i64 (manyF F1 6)) (.int .i64 0) wr) := Lib.hid ⟨0, by omega, rfl, rfl, rfl, hQ4⟩
          have hl2 : (loadF F1 6 == loadF F1 6) = true := by simp
          have hen := hK1.ok.hen
          clear hQ4 hK1
          generalize loadF F1 6 = ld at *
          generalize hm : manyF F1 6 = mny at *
          have HM := Lib.hid hm
          clear hm
          go_wp2_with fail
          go_loopg [8, 14] 8 (fun left t8 t14 wr => StN w1 fb h F1 left t8 t14 wr)
          case atStart => exact S0.out
          case round =>
            clear S0
            obtain ⟨n, hn8, rfl, rfl, rfl, hQ5⟩ := hrel
            rw [HM.out]
            obtain ⟨lb1, lb2⟩ := LB.out n
            by_cases hlt3 : n < 8
            · have s1 : (n : Int) < 8 := by omega
              have s2 : 0 ≤ (n : Int) := by omega
              obtain ⟨hv, hh⟩ : ∃ hv, F1.here[n]? = some hv := ⟨_, List.getElem?_eq_getElem (by rw [hen]; exact hlt3)⟩
              have hbv : hB F1 n = hv := by unfold hB; rw [hh]; rfl
              have NN := Lib.hid (fun (m : Int) (i1 : Int) (hm : m = lessF F1 mny n - b2 hv) (h1 : i1 = (n : Int) + 1) => (show StN w1 fb h F1 (8 - (n + 1)) (.int .i64 m) (.int .i64 i1) wr from ⟨n + 1, by omega, rfl, by rw [hm, lessF, hbv, HM.out], by rw [h1]; go_num, hQ5⟩))
              obtain ⟨l0, l41, l42, l43, lf⟩ := hQ5.box.cells
              have lh := hQ5.box.hereC hh
              clear hQ5 hh hbv
              generalize lessF F1 mny n = lm at *
              cases hv
              · have N := Lib.hid (NN.out lm ((n : Int) + 1) (by simp [b2]) rfl)
                clear NN
                go_wp2_with fail
                go_roundg (8 - (n + 1))
                case measure => omega
                case rel => exact N.out
              · have N := Lib.hid (NN.out (lm - 1) ((n : Int) + 1) (by simp [b2]) rfl)
                clear NN
                go_wp2_with fail
                go_roundg (8 - (n + 1))
                case measure => omega
                case rel => exact N.out
            · obtain rfl : n = 8 := by omega
              have s1 : ¬ ((8 : Nat) : Int) < 8 := by omega
              have N := Lib.hid (NX.out _ hQ5)
              have hz := MZ.out
              rw [hz]
              clear hQ5 NX MZ LB lb1 lb2 hz
              go_wp2_with fail
              go_roundg (100 - (i + 1))
              case measure => omega
              case rel => exact N.out
    · have W5 := hbw.out
      have hbw' := Lib.hid W5
      clear W5 hbw hK hQ
      have hcond : ¬ ((i : Int) < len) ∨ ¬ ((i : Int) < 100) := by
        by_cases e : i < len
        · exact .inr (by omega)
        · exact .inl (by omega)
      by_cases hi : (i : Int) < len
      · have hj : ¬ (i : Int) < 100 := hcond.resolve_left (fun e => e hi)
        clear hcond hlt
        go_wp2_with fail
        go_ret
        exact ⟨rfl, hbw'.out⟩
      · clear hcond hlt
        go_wp2_with fail
        go_ret
        exact ⟨rfl, hbw'.out⟩
end Go.Proofs.YtnnjbonejbmgdaaGreat.Hr

/- All vruntimes of a queue lie near its least one, whatever is done with it. Conditions: as each fact states them. -/
namespace Go.Proofs.YtnnjbonejbmgdaaGreat.Queue
open Tree
set_option linter.unusedVariables false
set_option linter.unusedSimpArgs false

def mostOf (tk : Int) : Int := (1024 * tk + 63) / 64
/-- Entities in order, near m. -/
structure Lie (es : List Ent) (m cr gr M : Int) : Prop where
  sorted : Sorted (es.map Ent.key)
  low : ∀ e ∈ es, m - cr ≤ e.v
  high : ∀ e ∈ es, e.v ≤ m + gr + M
theorem key_le {a b : Ent} (h : lt a.key b.key) : a.v ≤ b.v := by
  unfold lt Ent.key at h; simp only at h; omega
theorem head_le {e : Ent} {l : List Ent} (h : Sorted ((e :: l).map Ent.key)) : ∀ x ∈ e :: l, e.v ≤ x.v := by
  intro x hx
  rcases List.mem_cons.1 hx with rfl | hx
  · exact Int.le_refl _
  · have := (List.pairwise_cons.1 h).1 x.key (List.mem_map.2 ⟨x, hx, rfl⟩)
    exact key_le this
theorem Lie.drop {es : List Ent} {m cr gr M : Int} (h : Lie es m cr gr M) (id : Int) : Lie (drop es id) m cr gr M := by
  refine ⟨?_, fun e he => h.low e (mem_drop.1 he).1, fun e he => h.high e (mem_drop.1 he).1⟩
  have : (Queue.drop es id).map Ent.key |>.Sublist (es.map Ent.key) := (List.filter_sublist).map _
  exact h.sorted.sublist this
theorem key_mem {es : List Ent} {e : Ent} (h : named es e.id = false) : e.key ∉ es.map Ent.key := fun hm => by
  rw [key_named hm] at h; cases h
theorem Lie.ins {es : List Ent} {m cr gr M : Int} (h : Lie es m cr gr M) {e : Ent} (hn : named es e.id = false) (h1 : m - cr ≤ e.v) (h2 : e.v ≤ m + gr + M) : Lie (insE e es) m cr gr M := by
  refine ⟨?_, fun x hx => ?_, fun x hx => ?_⟩
  · rw [insE_key]; exact sorted_ins h.sorted (key_mem hn)
  · rcases mem_insE.1 hx with rfl | hx
    · exact h1
    · exact h.low x hx
  · rcases mem_insE.1 hx with rfl | hx
    · exact h2
    · exact h.high x hx
theorem rise_cons {st : St} {e : Ent} {l : List Ent} (h : st.es = e :: l) : rise st = { st with min := max st.min e.v } := by
  obtain ⟨es, c, m, f⟩ := st
  simp only at h
  subst h
  rfl
theorem rise_nil {st : St} (h : st.es = []) : rise st = st := by
  obtain ⟨es, c, m, f⟩ := st
  simp only at h
  subst h
  rfl
/-- Near, and nobody behind the least one is ahead of it. -/
structure Near (st : St) (cr gr M : Int) : Prop where
  lie : Lie st.es st.min cr gr M
  head : ∀ e l, st.es = e :: l → e.v ≤ st.min
theorem Lie.rise {st : St} {cr gr M : Int} (h : Lie st.es st.min cr gr M) (hc : 0 ≤ cr) (hg : 0 ≤ gr + M) : Near (rise st) cr gr M ∧ st.min ≤ (rise st).min ∧ (rise st).min ≤ st.min + gr + M := by
  cases he : st.es with
  | nil =>
    rw [rise_nil he]
    exact ⟨⟨h, fun e l h1 => by rw [he] at h1; cases h1⟩, Int.le_refl _, by omega⟩
  | cons e l =>
    rw [rise_cons he]
    have hh := h.high e (by rw [he]; simp)
    have hs := head_le (by rw [← he]; exact h.sorted)
    rw [← he] at hs
    refine ⟨⟨⟨h.sorted, fun x hx => ?_, fun x hx => ?_⟩, fun e' l' h1 => ?_⟩, by simp only; omega, by simp only; omega⟩
    · have h1 := hs x hx
      have h2 := h.low x hx
      simp only; omega
    · have h2 := h.high x hx
      simp only; omega
    · simp only at h1
      rw [he] at h1; cases h1
      simp only; omega
theorem hold_in {c : Int} (h0 : 0 ≤ c) (h1 : c ≤ 65535) : Fix.hold c 0 1099511627776 = c := by unfold Fix.hold; rw [if_neg (by omega), if_neg (by omega)]
theorem ends_in {n : Int} (h0 : -9223372036854775808 ≤ n) (h1 : n ≤ 9223372036854775807) : Fix.ends n = n := by unfold Fix.ends; rw [if_neg (by omega), if_neg (by omega)]
theorem reach_in {v g : Int} (h0 : 0 ≤ g) (h1 : g ≤ 65535) (h2 : -65535 ≤ v) (h3 : v ≤ 4611686018427387904) : reach v g = v + g := by
  unfold reach; rw [hold_in h0 h1, ends_in (by omega) (by omega)]
theorem wake_in {o m c : Int} (h0 : 0 ≤ c) (h1 : c ≤ 65535) (h2 : 0 ≤ m) (h3 : m ≤ 4611686018427387904) : Renorm.wake o m c = max o (m - c) := by
  unfold Renorm.wake; rw [hold_in h0 h1, ends_in (by omega) (by omega)]

/-- What is the case of each term. -/
structure Terms (cr gr tk : Int) : Prop where
  c0 : 0 ≤ cr
  c1 : cr ≤ 65535
  g0 : 0 ≤ gr
  g1 : gr ≤ 65535
  t0 : 1 ≤ tk
  t1 : tk ≤ 65536
theorem Terms.most {cr gr tk : Int} (h : Terms cr gr tk) : 0 ≤ mostOf tk ∧ mostOf tk ≤ 1048577 := by
  have := h.t0; have := h.t1; unfold mostOf; omega
/-- Who is current behind a choice is no further ahead than the granularity. -/
theorem other_mem {st : St} {o : Ent} (h : other st = some o) : o ∈ st.es ∧ o.id ≠ st.cur := by
  unfold other at h
  exact mem_drop.1 (List.mem_of_mem_head? h)
theorem other_head {st : St} (ho : Once st.es) {e : Ent} {l : List Ent} (he : st.es = e :: l) {o : Ent} (h : other st = some o) : o = e ∨ (e.id = st.cur ∧ l.head? = some o) := by
  rw [other_first he ho] at h
  split at h
  · rename_i h1; exact .inr ⟨h1, h⟩
  · exact .inl (Option.some.inj h).symm
theorem other_none {st : St} (ho : Once st.es) (h : other st = none) {x : Ent} (hx : x ∈ st.es) : x.id = st.cur := by
  unfold other at h
  have h0 : Queue.drop st.es st.cur = [] := by simpa using h
  by_cases e : x.id = st.cur
  · exact e
  · have : x ∈ Queue.drop st.es st.cur := mem_drop.2 ⟨hx, e⟩
    rw [h0] at this; cases this
theorem chosen_low {st : St} {cr gr tk M : Int} (T : Terms cr gr tk) (ho : Once st.es) (h : Near st cr gr M) (hm : 0 ≤ st.min) (hM : st.min + gr + M ≤ 4611686018427387904) {x : Ent} (hx : x ∈ st.es) (hid : x.id = chosen st gr) : x.v ≤ st.min + gr := by
  have g0 := T.g0
  have g1 := T.g1
  have c1 := T.c1
  have B : ∀ y ∈ st.es, -65535 ≤ y.v ∧ y.v ≤ 4611686018427387904 := fun y hy => by
    have h1 := h.lie.low y hy; have h2 := h.lie.high y hy; omega
  cases hes : st.es with
  | nil => rw [hes] at hx; cases hx
  | cons e l =>
    have he : e.v ≤ st.min := h.head e l hes
    have hem : e ∈ st.es := by rw [hes]; simp
    have hs := head_le (by rw [← hes]; exact h.lie.sorted)
    rw [← hes] at hs
    unfold chosen at hid
    split at hid
    · rename_i hst
      unfold stays at hst
      rw [Bool.and_eq_true] at hst
      obtain ⟨f1, f2⟩ := find_of hst.1
      have hxf : x = find st.es st.cur := once_eq ho hx f1 hid
      cases hoo : other st with
      | none =>
        have h1 := other_none ho hoo hem
        have : x = e := once_eq ho hx hem (by rw [hid, f2, h1])
        subst this; omega
      | some o =>
        rw [hoo] at hst
        have h2 : (find st.es st.cur).v ≤ reach o.v gr := by simpa using hst.2
        obtain ⟨om, _⟩ := other_mem hoo
        rw [reach_in g0 g1 (B o om).1 (B o om).2, ← hxf] at h2
        rcases other_head ho hes hoo with rfl | ⟨h3, _⟩
        · omega
        · have : x = e := once_eq ho hx hem (by rw [hid, f2, h3])
          subst this; omega
    · rename_i hst
      split at hid
      · rename_i hoo
        have := other_none ho hoo hx
        have h1 := other_none ho hoo hem
        have : x = e := once_eq ho hx hem (by rw [this, h1])
        subst this; omega
      · rename_i o hoo
        obtain ⟨om, hne⟩ := other_mem hoo
        have hxo : x = o := once_eq ho hx om hid
        subst hxo
        rcases other_head ho hes hoo with rfl | ⟨h3, _⟩
        · omega
        · have hn : named st.es st.cur = true := List.any_eq_true.2 ⟨e, hem, by simp [h3]⟩
          obtain ⟨f1, f2⟩ := find_of hn
          have hef : find st.es st.cur = e := once_eq ho f1 hem (by rw [f2, h3])
          have h2 : ¬ e.v ≤ reach x.v gr := fun h2 => hst (by unfold stays; rw [hn, hoo, hef]; simpa using h2)
          rw [reach_in g0 g1 (B x om).1 (B x om).2] at h2
          omega
theorem yielded_low {st : St} {cr gr tk M : Int} (T : Terms cr gr tk) (ho : Once st.es) (h : Near st cr gr M) (hm : 0 ≤ st.min) (hM : st.min + gr + M ≤ 4611686018427387904) {x : Ent} (hx : x ∈ st.es) (hid : x.id = yielded st gr) : x.v ≤ st.min + gr := by
  have g0 := T.g0
  have g1 := T.g1
  have c1 := T.c1
  have B : ∀ y ∈ st.es, -65535 ≤ y.v ∧ y.v ≤ 4611686018427387904 := fun y hy => by
    have h1 := h.lie.low y hy; have h2 := h.lie.high y hy; omega
  unfold yielded at hid
  split at hid
  · rename_i hgo
    unfold goes at hgo
    rw [Bool.and_eq_true] at hgo
    cases hoo : other st with
    | none => rw [hoo] at hgo; simp at hgo
    | some o =>
      rw [hoo] at hgo hid
      simp only at hid
      obtain ⟨om, hne⟩ := other_mem hoo
      have hxo : x = o := once_eq ho hx om hid
      subst hxo
      cases hes : st.es with
      | nil => rw [hes] at hx; cases hx
      | cons e l =>
        have he : e.v ≤ st.min := h.head e l hes
        have hem : e ∈ st.es := by rw [hes]; simp
        obtain ⟨f1, f2⟩ := find_of hgo.1
        rcases other_head ho hes hoo with rfl | ⟨h3, _⟩
        · omega
        · have hef : find st.es st.cur = e := once_eq ho f1 hem (by rw [f2, h3])
          have h2 : x.v ≤ reach (find st.es st.cur).v gr := by simpa using hgo.2
          rw [hef, reach_in g0 g1 (B e hem).1 (B e hem).2] at h2
          omega
  · exact chosen_low T ho h hm hM hx hid
theorem charge_most {rm wt ns tk : Int} (r0 : 0 ≤ rm) (r1 : rm < wt) (w0 : 64 ≤ wt) (n0 : 0 ≤ ns) (n1 : ns ≤ tk) : 0 ≤ (rm + 1024 * ns) / wt ∧ (rm + 1024 * ns) / wt ≤ mostOf tk := by
  have h0 : 0 ≤ (rm + 1024 * ns) / wt := Int.ediv_nonneg (by omega) (by omega)
  refine ⟨h0, ?_⟩
  have h1 := Int.ediv_mul_le (rm + 1024 * ns) (show wt ≠ 0 by omega)
  generalize (rm + 1024 * ns) / wt = q at *
  unfold mostOf
  by_cases hq : q = 0
  · subst hq; omega
  · have h2 : (q - 1) * 64 ≤ (q - 1) * wt := Int.mul_le_mul_of_nonneg_left w0 (by omega)
    rw [Int.sub_mul, Int.sub_mul, Int.one_mul, Int.one_mul] at h2
    omega
theorem Near.charge {st : St} {cr gr tk ns : Int} (T : Terms cr gr tk) (S : Sound st) (h : Near st cr gr (mostOf tk)) (hm : 0 ≤ st.min) (hM : st.min + gr + mostOf tk ≤ 2305843009213693952) (hv : ∀ e ∈ st.es, 64 ≤ e.wt ∧ e.wt ≤ 4095)
    (hlow : ∀ x ∈ st.es, x.id = st.cur → x.v ≤ st.min + gr) (n0 : 0 ≤ ns) (n1 : ns ≤ tk) :
    Near (chargeS st ns) cr gr (mostOf tk) ∧ st.min ≤ (chargeS st ns).min ∧ (chargeS st ns).min ≤ st.min + gr + mostOf tk ∧ (chargeS st ns).flag = st.flag ∧ ∀ e ∈ (chargeS st ns).es, 64 ≤ e.wt ∧ e.wt ≤ 4095 := by
  have hmo := T.most
  have g0 := T.g0
  have c0 := T.c0
  have c1 := T.c1
  by_cases hz : errCharge st ns = 0
  · have hnm : named st.es st.cur = true := by
      unfold errCharge at hz
      cases hh : named st.es st.cur
      · rw [hh] at hz; simp at hz
      · rfl
    have hce : Vrun.cerr (find st.es st.cur).wt (find st.es st.cur).rm ns = 0 := by unfold errCharge at hz; rw [hnm] at hz; simpa using hz
    obtain ⟨f1, f2⟩ := find_of hnm
    have he := S.each _ f1
    have hw := hv _ f1
    obtain ⟨s1, s2, s3, s4, s5, s6, s7⟩ := served_ok (e := find st.es st.cur) n0 he.2.2.1 he.2.2.2.1 he.2.2.2.2.1 he.2.2.2.2.2.1 hce
    obtain ⟨q0, q1⟩ := charge_most he.2.2.2.2.1 he.2.2.2.2.2.1 hw.1 n0 n1
    have l1 := h.lie.low _ f1
    have l2 := hlow _ f1 f2
    have ev : (served (find st.es st.cur) ns).v = (find st.es st.cur).v + ((find st.es st.cur).rm + 1024 * ns) / (find st.es st.cur).wt := by
      show Fix.ends (_ + Vrun.cval _ _ _) = _
      rw [s6]; exact ends_in (by omega) (by omega)
    have eo : over (find st.es st.cur) ns = false := by
      unfold over Fix.fits
      rw [s6]
      simp; omega
    have e0 : chargeS st ns = rise { st with es := insE (served (find st.es st.cur) ns) (Queue.drop st.es st.cur), flag := st.flag || over (find st.es st.cur) ns } := if_pos hz
    have hl : Lie (insE (served (find st.es st.cur) ns) (Queue.drop st.es st.cur)) st.min cr gr (mostOf tk) :=
      (h.lie.drop st.cur).ins (by rw [s1, f2, named_drop]; simp) (by rw [ev]; omega) (by rw [ev]; omega)
    obtain ⟨r1, r2, r3⟩ := Lie.rise (st := { st with es := insE (served (find st.es st.cur) ns) (Queue.drop st.es st.cur), flag := st.flag || over (find st.es st.cur) ns }) hl c0 (by omega)
    rw [e0]
    refine ⟨r1, r2, r3, by rw [rise_flag, eo]; simp, fun e he => ?_⟩
    rw [rise_es] at he
    rcases mem_insE.1 he with rfl | he
    · rw [s2]; exact hw
    · exact hv e (mem_drop.1 he).1
  · have e0 : chargeS st ns = st := if_neg hz
    rw [e0]
    exact ⟨h, Int.le_refl _, by omega, rfl, hv⟩

theorem Near.cur {st : St} {cr gr M : Int} (h : Near st cr gr M) (c : Int) : Near { st with cur := c } cr gr M := ⟨h.lie, h.head⟩
theorem yielded_is (st : St) (g : Int) : yielded st g = -1 ∨ named st.es (yielded st g) = true := by
  unfold yielded
  split
  · split
    · exact .inl rfl
    · rename_i o ho
      exact .inr (List.any_eq_true.2 ⟨o, (other_mem ho).1, by simp⟩)
  · exact chosen_is st g
theorem setE_mem {e x : Ent} {es : List Ent} (h : x ∈ setE e es) : x = e ∨ x ∈ es := by
  unfold setE at h
  obtain ⟨d, hd, rfl⟩ := List.mem_map.1 h
  split
  · exact .inl rfl
  · exact .inr hd
end Go.Proofs.YtnnjbonejbmgdaaGreat.Queue

/- All queues within one another stay near, whatever is done; nothing of a program. Conditions: as each fact states them. -/
namespace Go.Proofs.YtnnjbonejbmgdaaGreat.Hr
open Go.ChangeShapes Go.WideShapes Go.ChangeAt Go.RowKit Tree Queue
set_option linter.unusedVariables false
set_option linter.unusedSimpArgs false
set_option maxRecDepth 100000

/-- One queue. -/
structure Nq (st : St) (cr gr tk N : Int) : Prop where
  near : Near st cr gr (mostOf tk)
  min0 : 0 ≤ st.min
  minN : st.min ≤ N * (gr + mostOf tk)
  flag : st.flag = false
  wts : ∀ e ∈ st.es, 64 ≤ e.wt ∧ e.wt ≤ 4095
section
variable {st : St} {cr gr tk N : Int}
theorem Nq.more (h : Nq st cr gr tk N) (T : Terms cr gr tk) {N' : Int} (hN : N ≤ N') : Nq st cr gr tk N' := by
  have hmo := T.most
  have g0 := T.g0
  have := Int.mul_le_mul_of_nonneg_right hN (show 0 ≤ gr + mostOf tk by omega)
  exact ⟨h.near, h.min0, Int.le_trans h.minN this, h.flag, h.wts⟩
theorem Nq.size (h : Nq st cr gr tk N) (T : Terms cr gr tk) (hN : N ≤ 10000) : st.min + gr + mostOf tk ≤ 2305843009213693952 := by
  have hmo := T.most
  have g0 := T.g0
  have g1 := T.g1
  have := Int.mul_le_mul_of_nonneg_right hN (show 0 ≤ gr + mostOf tk by omega)
  have := h.minN
  omega
theorem Nq.up (h : Nq st cr gr tk N) (T : Terms cr gr tk) {st' : St} (h1 : Near st' cr gr (mostOf tk)) (h2 : st.min ≤ st'.min) (h3 : st'.min ≤ st.min + gr + mostOf tk) (h4 : st'.flag = st.flag) (h5 : ∀ e ∈ st'.es, 64 ≤ e.wt ∧ e.wt ≤ 4095) : Nq st' cr gr tk (N + 1) ∧ st.min ≤ st'.min := by
  have e : (N + 1) * (gr + mostOf tk) = N * (gr + mostOf tk) + (gr + mostOf tk) := by rw [Int.add_mul, Int.one_mul]
  have h6 := h.min0
  have h7 := h.minN
  exact ⟨⟨h1, by omega, by omega, h4.trans h.flag, h5⟩, h2⟩
theorem Nq.put (h : Nq st cr gr tk N) (T : Terms cr gr tk) {e : Ent} (h1 : st.min - cr ≤ e.v) (h2 : e.v ≤ st.min + gr + mostOf tk) (hw : 64 ≤ e.wt ∧ e.wt ≤ 4095) : Nq (putS st e) cr gr tk (N + 1) ∧ st.min ≤ (putS st e).min := by
  have hmo := T.most
  have g0 := T.g0
  have c0 := T.c0
  unfold putS
  split
  · rename_i hz
    obtain ⟨_, _, hn, _⟩ := errPut_zero hz
    obtain ⟨r1, r2, r3⟩ := Lie.rise (st := { st with es := insE e st.es }) (h.near.lie.ins hn h1 h2) c0 (by omega)
    refine h.up T r1 r2 r3 (rise_flag _) fun d hd => ?_
    rw [rise_es] at hd
    rcases mem_insE.1 hd with rfl | hd
    · exact hw
    · exact h.wts d hd
  · exact ⟨h.more T (by omega), Int.le_refl _⟩
theorem Nq.drop (h : Nq st cr gr tk N) (T : Terms cr gr tk) (id : Int) : Nq (dropS st id) cr gr tk (N + 1) ∧ st.min ≤ (dropS st id).min := by
  have hmo := T.most
  have g0 := T.g0
  have c0 := T.c0
  unfold dropS
  split
  · obtain ⟨r1, r2, r3⟩ := Lie.rise (st := { st with es := Queue.drop st.es id, cur := if st.cur = id then -1 else st.cur }) (h.near.lie.drop id) c0 (by omega)
    refine h.up T r1 r2 r3 (rise_flag _) fun d hd => ?_
    rw [rise_es] at hd
    exact h.wts d (mem_drop.1 hd).1
  · exact ⟨h.more T (by omega), Int.le_refl _⟩
theorem Nq.weigh (h : Nq st cr gr tk N) (T : Terms cr gr tk) (S : Sound st) (id : Int) {x : Int} (hx : 64 ≤ x ∧ x ≤ 4095) : Nq (weighS st id x) cr gr tk (N + 1) ∧ st.min ≤ (weighS st id x).min := by
  have hmo := T.most
  have g0 := T.g0
  have c0 := T.c0
  unfold weighS
  split
  · rename_i hz
    have hnm : named st.es id = true := by
      unfold errWeigh at hz
      cases hh : named st.es id
      · rw [hh] at hz; simp at hz
      · rfl
    obtain ⟨f1, f2⟩ := find_of hnm
    have hk' := setE_keys (e := weighed (find st.es id) x) S.once f1 rfl rfl
    have hl : Lie (setE (weighed (find st.es id) x) st.es) st.min cr gr (mostOf tk) := by
      refine ⟨by rw [hk']; exact h.near.lie.sorted, fun e he => ?_, fun e he => ?_⟩
      · rcases setE_mem he with rfl | he
        · exact (show st.min - cr ≤ (find st.es id).v from h.near.lie.low _ f1)
        · exact h.near.lie.low e he
      · rcases setE_mem he with rfl | he
        · exact (show (find st.es id).v ≤ st.min + gr + mostOf tk from h.near.lie.high _ f1)
        · exact h.near.lie.high e he
    obtain ⟨r1, r2, r3⟩ := Lie.rise (st := { st with es := setE (weighed (find st.es id) x) st.es }) hl c0 (by omega)
    refine h.up T r1 r2 r3 (rise_flag _) fun e he => ?_
    rw [rise_es] at he
    rcases setE_mem he with rfl | he
    · exact hx
    · exact h.wts e he
  · exact ⟨h.more T (by omega), Int.le_refl _⟩
theorem Nq.charge (h : Nq st cr gr tk N) (T : Terms cr gr tk) (S : Sound st) (hN : N ≤ 10000) (hlow : ∀ x ∈ st.es, x.id = st.cur → x.v ≤ st.min + gr) {ns : Int} (n0 : 0 ≤ ns) (n1 : ns ≤ tk) : Nq (chargeS st ns) cr gr tk (N + 1) ∧ st.min ≤ (chargeS st ns).min := by
  obtain ⟨r1, r2, r3, r4, r5⟩ := h.near.charge T S h.min0 (h.size T hN) h.wts hlow n0 n1
  exact h.up T r1 r2 r3 r4 r5
theorem Nq.cur_ (h : Nq st cr gr tk N) (c : Int) : Nq { st with cur := c } cr gr tk N := ⟨h.near.cur c, h.min0, h.minN, h.flag, h.wts⟩
end

/-- All queues; lo: no least one is below it. -/
structure Ns (S : Hs) (cr gr tk N : Int) (lo : Nat → Int) : Prop where
  crE : S.cr = cr
  grE : S.gr = gr
  q : ∀ i x, S.g i = some x → Nq x.q cr gr tk N
  wt : ∀ i x, S.g i = some x → i ≠ 0 → 64 ≤ x.own.wt ∧ x.own.wt ≤ 4095
  own : ∀ i x p y, S.g i = some x → x.up = some p → S.g p = some y → x.own.v ≤ y.q.min + gr + mostOf tk
  lo : ∀ i x, S.g i = some x → lo i ≤ x.q.min
section
variable {S : Hs} {cr gr tk N : Int} {lo : Nat → Int}
theorem Ns.more (h : Ns S cr gr tk N lo) (T : Terms cr gr tk) {N' : Int} (hN : N ≤ N') : Ns S cr gr tk N' lo :=
  ⟨h.crE, h.grE, fun i x hx => (h.q i x hx).more T hN, h.wt, h.own, h.lo⟩
theorem Ns.put1 (h : Ns S cr gr tk N lo) (T : Terms cr gr tk) {i : Nat} {x : Gp} (hx : S.g i = some x) {x' : Gp} {N' : Int} (hu : x'.up = x.up) (hq : Nq x'.q cr gr tk N') (hN : N ≤ N') (hm : x.q.min ≤ x'.q.min)
    (hw : i ≠ 0 → 64 ≤ x'.own.wt ∧ x'.own.wt ≤ 4095) (ho : ∀ p y, x.up = some p → S.g p = some y → x'.own.v ≤ y.q.min + gr + mostOf tk) : Ns (S.set i (some x')) cr gr tk N' lo := by
  refine ⟨h.crE, h.grE, fun k z hz => ?_, fun k z hz h0 => ?_, fun k z p y hz hp hy => ?_, fun k z hz => ?_⟩
  · rcases set_cases hz with ⟨rfl, rfl⟩ | ⟨_, hz⟩
    · exact hq
    · exact (h.q k z hz).more T hN
  · rcases set_cases hz with ⟨rfl, rfl⟩ | ⟨_, hz⟩
    · exact hw h0
    · exact h.wt k z hz h0
  · rcases set_cases hz with ⟨rfl, rfl⟩ | ⟨_, hz2⟩
    · rw [hu] at hp
      rcases set_cases hy with ⟨rfl, rfl⟩ | ⟨_, hy⟩
      · have := ho _ _ hp hx; omega
      · exact ho _ _ hp hy
    · rcases set_cases hy with ⟨rfl, rfl⟩ | ⟨_, hy2⟩
      · have := h.own k z _ x hz2 hp hx; omega
      · exact h.own k z p y hz2 hp hy2
  · rcases set_cases hz with ⟨rfl, rfl⟩ | ⟨_, hz⟩
    · have := h.lo _ x hx; omega
    · exact h.lo k z hz
theorem Ns.queue (h : Ns S cr gr tk N lo) (T : Terms cr gr tk) {i : Nat} {x : Gp} (hx : S.g i = some x) {q' : St} {N' : Int} (hq : Nq q' cr gr tk N') (hN : N ≤ N') (hm : x.q.min ≤ q'.min) : Ns (S.set i (some { x with q := q' })) cr gr tk N' lo :=
  h.put1 T hx rfl hq hN hm (h.wt i x hx) (fun p y hp hy => h.own i x p y hx hp hy)
theorem Ns.step (h : Ns S cr gr tk N lo) (T : Terms cr gr tk) {dep : Nat → Nat} (hG : GoodD dep S) (hN : N ≤ 10000) (i : Nat) : Ns (stepS S i) cr gr tk (N + 1) lo := by
  cases hx : S.g i with
  | none => unfold stepS; rw [hx]; exact h.more T (by omega)
  | some x =>
    cases hp : x.up with
    | none => unfold stepS; rw [hx]; simp only [hp]; exact h.more T (by omega)
    | some p =>
      obtain ⟨hpi, h0⟩ := hG.up_ne hx hp
      obtain ⟨p', y, e1, hy, _⟩ := hG.link i x hx h0
      rw [hp] at e1; cases e1
      rw [stepS_eq hx hp hy]
      have hqy := h.q p y hy
      have hown := h.own i x p y hx hp hy
      have hsz := hqy.size T hN
      have m0 := hqy.min0
      have hmo := T.most
      have g0 := T.g0
      have c0 := T.c0
      cases ho : x.on
      · simp only [Bool.false_eq_true, if_false]
        have ev : (enterE S x y).v = max x.own.v (y.q.min - cr) := by
          show Renorm.wake x.own.v y.q.min S.cr = _
          rw [h.crE]; exact wake_in T.c0 T.c1 m0 (by omega)
        obtain ⟨r1, r2⟩ := hqy.put T (e := enterE S x y) (by rw [ev]; omega) (by rw [ev]; omega) (h.wt i x hx h0)
        have h1 := h.queue T hy r1 (by omega) r2
        have hx1 : (S.set p (some { y with q := putS y.q (enterE S x y) })).g i = some x := by rw [Hs.set_other _ _ (Ne.symm hpi)]; exact hx
        exact h1.put1 T hx1 (x' := { x with on := true }) rfl (h1.q i x hx1) (Int.le_refl _) (Int.le_refl _) (h1.wt i x hx1) (fun p y hp hy => h1.own i x p y hx1 hp hy)
      · simp only [if_true]
        obtain ⟨_, hn⟩ := hG.leave hx hp hy ho
        obtain ⟨f1, f2⟩ := find_of hn
        obtain ⟨r1, r2⟩ := hqy.drop T x.own.id
        have h1 := h.queue T hy r1 (by omega) r2
        have hx1 : (S.set p (some { y with q := dropS y.q x.own.id })).g i = some x := by rw [Hs.set_other _ _ (Ne.symm hpi)]; exact hx
        have hhi := hqy.near.lie.high _ f1
        refine h1.put1 T hx1 (x' := { x with own := find y.q.es x.own.id, on := false }) rfl (h1.q i x hx1) (Int.le_refl _) (Int.le_refl _) (fun _ => hqy.wts _ f1) (fun p2 y2 hp2 hy2 => ?_)
        rw [hp] at hp2; cases hp2
        rw [Hs.set_same] at hy2; cases hy2
        simp only; omega
theorem Ns.settle {dep : Nat → Nat} (T : Terms cr gr tk) : ∀ (n : Nat) {S : Hs} {N : Int} (i : Nat), Ns S cr gr tk N lo → GoodD dep S → N + n ≤ 10000 → Ns (settleS n S i) cr gr tk (N + n) lo
  | 0, S, N, i, h, _, _ => by simpa [settleS] using h
  | n + 1, S, N, i, h, hG, hN => by
    unfold settleS
    split
    · exact h.more T (by omega)
    · rename_i x hx
      split
      · exact h.more T (by omega)
      · rename_i p hp
        split
        · exact h.more T (by omega)
        · have := Ns.settle T n p (h.step T hG (by omega) i) (hG.step i) (by omega)
          exact this.more T (by omega)
theorem Ns.putT (h : Ns S cr gr tk N lo) (T : Terms cr gr tk) {dep : Nat → Nat} (hG : GoodD dep S) (hN : N + 10 ≤ 10000) (g : Int) {e : Ent} (hv : I64 e.v) (hr : 0 ≤ e.rm) (hw : 64 ≤ e.wt ∧ e.wt ≤ 4095)
    (hl : ∀ x, grp S g = some x → x.q.min - cr ≤ e.v ∧ e.v ≤ x.q.min + gr + mostOf tk) : Ns (putH S g e) cr gr tk (N + 10) lo := by
  unfold putH
  rcases grp_cases S g with ⟨i, x, rfl, hi, hx, e1, _⟩ | ⟨e1, _⟩
  · rw [e1]
    simp only [Int.toNat_natCast]
    split
    · rename_i hh
      have hG1 := hG.put hx hh.2 (by show 0 ≤ 2 * e.id; omega) (by show 2 * e.id < 128; omega) (by show (2 * e.id) % 2 = 0; omega) hv hr
      obtain ⟨l1, l2⟩ := hl x e1
      obtain ⟨r1, r2⟩ := (h.q i x hx).put T (e := taskE e) l1 l2 hw
      exact ((h.queue T hx r1 (by omega) r2).settle T 9 i hG1 (by omega)).more T (by omega)
    · exact h.more T (by omega)
  · rw [e1]; exact h.more T (by omega)
theorem Ns.dropT (h : Ns S cr gr tk N lo) (T : Terms cr gr tk) {dep : Nat → Nat} (hG : GoodD dep S) (hN : N + 10 ≤ 10000) (g n : Int) : Ns (dropH S g n) cr gr tk (N + 10) lo := by
  unfold dropH
  rcases grp_cases S g with ⟨i, x, rfl, hi, hx, e1, _⟩ | ⟨e1, _⟩
  · rw [e1]
    simp only [Int.toNat_natCast]
    split
    · rename_i hh
      obtain ⟨r1, r2⟩ := (h.q i x hx).drop T (2 * n)
      exact ((h.queue T hx r1 (by omega) r2).settle T 9 i (hG.drop hx hh.2 (by omega)) (by omega)).more T (by omega)
    · exact h.more T (by omega)
  · rw [e1]; exact h.more T (by omega)
theorem Ns.stop (h : Ns S cr gr tk N lo) (T : Terms cr gr tk) {dep : Nat → Nat} (hG : GoodD dep S) (hN : N + 10 ≤ 10000) (g : Int) (is : Bool) : Ns (stopH S g is) cr gr tk (N + 10) lo := by
  unfold stopH
  rcases lnk_cases S g with ⟨i, x, rfl, _, hi, hx, e1, _⟩ | ⟨e1, _⟩
  · rw [e1]
    simp only [Int.toNat_natCast]
    have h1 : Ns (S.set i (some { x with halt := is })) cr gr tk N lo := h.put1 T hx rfl (h.q i x hx) (Int.le_refl _) (Int.le_refl _) (h.wt i x hx) (fun p y hp hy => h.own i x p y hx hp hy)
    exact (h1.settle T 9 i (hG.halt_ hx is) (by omega)).more T (by omega)
  · rw [e1]; exact h.more T (by omega)
theorem Ns.weigh (h : Ns S cr gr tk N lo) (T : Terms cr gr tk) {dep : Nat → Nat} (hG : GoodD dep S) (g : Int) {wt : Int} (hw : 64 ≤ wt ∧ wt ≤ 4095) : Ns (weighH S g wt) cr gr tk (N + 10) lo := by
  unfold weighH
  rcases lnk_cases S g with ⟨i, x, rfl, h0, hi, hx, e1, e2⟩ | ⟨e1, _⟩
  · rw [e1]
    simp only [Int.toNat_natCast]
    split
    · exact h.more T (by omega)
    · split
      · split
        · exact h.more T (by omega)
        · split
          · exact h.more T (by omega)
          · rename_i p hp _ y hy
            obtain ⟨r1, r2⟩ := (h.q _ y hy).weigh T (hG.q _ y hy) (gid i) hw
            exact (h.queue T hy r1 (by omega) r2).more T (by omega)
      · have h1 : Ns (S.set i (some { x with own := ownW x.own wt })) cr gr tk N lo := h.put1 T hx rfl (h.q i x hx) (Int.le_refl _) (Int.le_refl _) (fun _ => hw) (fun p y hp hy => h.own i x p y hx hp hy)
        exact h1.more T (by omega)
  · rw [e1]; exact h.more T (by omega)
theorem Ns.ask (T : Terms cr gr tk) {c : St → Int} : ∀ (n : Nat) {S : Hs} (g : Nat), Ns S cr gr tk N lo → Ns (walkS c id n S g).1 cr gr tk N lo
  | 0, S, _, h => h
  | n + 1, S, g, h => by
    cases hx : S.g g with
    | none => rw [walkS, hx]; exact h
    | some x =>
      have h' : Ns (S.set g (some { x with q := id { x.q with cur := c x.q } })) cr gr tk N lo := h.queue T hx ((h.q g x hx).cur_ _) (Int.le_refl _) (Int.le_refl _)
      cases hn : nxt (c x.q) with
      | none => rw [walk_none hx hn]; exact h'
      | some j => rw [walk_some hx hn]; exact Ns.ask T n j h'
theorem Ns.yield (h : Ns S cr gr tk N lo) (T : Terms cr gr tk) : Ns (yieldS S) cr gr tk N lo := by
  unfold yieldS
  split
  · exact h
  · split
    · exact h
    · rename_i x hx
      exact h.queue T hx ((h.q _ x hx).cur_ _) (Int.le_refl _) (Int.le_refl _)

/-- Along the way of who runs, each current one is no further ahead than the granularity. -/
def LowP (gr : Int) : Nat → Hs → Nat → Prop
  | 0, _, _ => True
  | n + 1, S, g => ∀ x, S.g g = some x → (∀ e ∈ x.q.es, e.id = x.q.cur → e.v ≤ x.q.min + gr) ∧ ∀ j, nxt x.q.cur = some j → LowP gr n S j
theorem LowP.keep {dep : Nat → Nat} : ∀ (n : Nat) {S S' : Hs} {j : Nat}, GoodD dep S → (∀ k, dep j ≤ dep k → S'.g k = S.g k) → LowP gr n S j → LowP gr n S' j
  | 0, _, _, _, _, _, _ => trivial
  | n + 1, S, S', j, hG, hk, h => fun x hx => by
    rw [hk j (Nat.le_refl _)] at hx
    obtain ⟨h1, h2⟩ := h x hx
    refine ⟨h1, fun j' hj' => ?_⟩
    obtain ⟨y, _, _, _, e, _⟩ := hG.next hx (hG.cur j x hx) hj'
    exact LowP.keep n hG (fun k hk' => hk k (by omega)) (h2 j' hj')
theorem pick_low (T : Terms cr gr tk) (hN : N ≤ 10000) {dep : Nat → Nat} : ∀ (n : Nat) {S : Hs} {g : Nat}, GoodD dep S → Ns S cr gr tk N lo → LowP gr n (walkS (fun st => chosen st gr) id n S g).1 g
  | 0, _, _, _, _ => trivial
  | n + 1, S, g, hG, h => by
    have hmo := T.most
    cases hx : S.g g with
    | none =>
      rw [walkS, hx]
      intro x hx'
      rw [hx] at hx'; cases hx'
    | some x =>
      have hG1 : GoodD dep (S.set g (some { x with q := { x.q with cur := chosen x.q gr } })) := (asks_pick gr).curG hG hx
      have h1 : Ns (S.set g (some { x with q := { x.q with cur := chosen x.q gr } })) cr gr tk N lo := h.queue T hx ((h.q g x hx).cur_ _) (Int.le_refl _) (Int.le_refl _)
      have hq := h.q g x hx
      have hsz := hq.size T hN
      have first : ∀ e ∈ x.q.es, e.id = chosen x.q gr → e.v ≤ x.q.min + gr := fun e he hid => chosen_low T (hG.q g x hx).once hq.near hq.min0 (by omega) he hid
      cases hn : nxt (chosen x.q gr) with
      | none =>
        rw [walk_none (c := fun st => chosen st gr) hx hn]
        intro z hz
        have hz : (S.set g (some { x with q := { x.q with cur := chosen x.q gr } })).g g = some z := hz
        rw [Hs.set_same] at hz
        cases hz
        exact ⟨first, fun j hj => by rw [hn] at hj; cases hj⟩
      | some j =>
        rw [walk_some (c := fun st => chosen st gr) hx hn]
        have hx1 : (S.set g (some { x with q := { x.q with cur := chosen x.q gr } })).g g = some { x with q := { x.q with cur := chosen x.q gr } } := Hs.set_same _ _ _
        obtain ⟨y, _, _, _, e, _⟩ := hG1.next hx1 (hG1.cur g _ hx1) hn
        have hk := walk_keeps (asks_pick gr) n (k := g) (g := j) hG1 (by omega)
        intro z hz
        have hz : (walkS (fun st => chosen st gr) id n (S.set g (some { x with q := { x.q with cur := chosen x.q gr } })) j).1.g g = some z := hz
        rw [hk, hx1] at hz
        cases hz
        refine ⟨first, fun j' hj' => ?_⟩
        have hj' : nxt (chosen x.q gr) = some j' := hj'
        rw [hn] at hj'; cases hj'
        exact pick_low T hN n hG1 h1
theorem Ns.serve (T : Terms cr gr tk) {dep : Nat → Nat} {ns : Int} (n0 : 0 ≤ ns) (n1 : ns ≤ tk) : ∀ (n : Nat) {S : Hs} {g : Nat} {N : Int}, GoodD dep S → Ns S cr gr tk N lo → LowP gr n S g → N + n ≤ 10000 → Ns (walkS (fun st => st.cur) (fun st => chargeS st ns) n S g).1 cr gr tk (N + n) lo
  | 0, S, g, N, _, h, _, _ => by simpa [walkS] using h
  | n + 1, S, g, N, hG, h, hl, hN => by
    cases hx : S.g g with
    | none => rw [walkS, hx]; exact h.more T (by omega)
    | some x =>
      obtain ⟨l1, l2⟩ := hl x hx
      have hG1 : GoodD dep (S.set g (some { x with q := chargeS { x.q with cur := x.q.cur } ns })) := (asks_charge n0).good hG hx
      obtain ⟨r1, r2⟩ := (h.q g x hx).charge T (hG.q g x hx) (by omega) l1 n0 n1
      have h1 : Ns (S.set g (some { x with q := chargeS { x.q with cur := x.q.cur } ns })) cr gr tk (N + 1) lo := h.queue T hx r1 (by omega) r2
      cases hn : nxt x.q.cur with
      | none => rw [walk_none (c := fun st => st.cur) hx hn]; exact h1.more T (by omega)
      | some j =>
        rw [walk_some (c := fun st => st.cur) hx hn]
        obtain ⟨y, _, _, _, e, _⟩ := hG.next hx (hG.cur g x hx) hn
        have hl1 := LowP.keep (gr := gr) n (S' := S.set g (some { x with q := chargeS { x.q with cur := x.q.cur } ns })) hG (fun k hk => Hs.set_other _ _ (fun e2 => by rw [e2] at hk; omega)) (l2 j hn)
        exact (Ns.serve T n0 n1 n hG1 h1 hl1 (by omega)).more T (by omega)
end
end Go.Proofs.YtnnjbonejbmgdaaGreat.Hr

/- The farm stays near, whatever work is done; nothing of a program. Conditions: as each fact states them. -/
namespace Go.Proofs.YtnnjbonejbmgdaaGreat.Hr
open Go.ChangeShapes Go.WideShapes Go.ChangeAt Go.RowKit Tree Queue
set_option linter.unusedVariables false
set_option linter.unusedSimpArgs false
set_option maxRecDepth 100000

def loF (S : Hs) (k : Nat) : Int := match S.g k with
  | some x => x.q.min
  | none => 0
theorem loF_at {S : Hs} {k : Nat} {x : Gp} (h : S.g k = some x) : loF S k = x.q.min := by unfold loF; rw [h]
theorem Ns.at_ {S : Hs} {cr gr tk N : Int} {lo lo' : Nat → Int} (h : Ns S cr gr tk N lo) (hl : ∀ i x, S.g i = some x → lo' i ≤ x.q.min) : Ns S cr gr tk N lo' := ⟨h.crE, h.grE, h.q, h.wt, h.own, hl⟩
structure Nf (F : Fm) (N : Int) : Prop where
  terms : Terms F.cr F.gr F.tk
  ns : Ns F.S F.cr F.gr F.tk N (loF F.S)
  low : LowP F.gr 9 F.S 0
  task : ∀ (n : Nat) (e : Ent), F.own[n]? = some e → (64 ≤ e.wt ∧ e.wt ≤ 4095) ∧ ∀ x, F.S.g (homeN n) = some x → e.v ≤ x.q.min + F.gr + mostOf F.tk
/-- What is behind a deed, and the choice of who runs. -/
theorem Nf.picked {F : Fm} {N : Int} (h : Nf F N) (hK : Hok F) {S' : Hs} {own' : List Ent} {here' : List Bool} (hG : Good S') (h' : Ns S' F.cr F.gr F.tk (N + 20) (loF F.S)) (hN : N + 20 ≤ 10000)
    (ho : ∀ (n : Nat) (e : Ent), own'[n]? = some e → F.own[n]? = some e ∨ ((64 ≤ e.wt ∧ e.wt ≤ 4095) ∧ ∀ x, F.S.g (homeN n) = some x → e.v ≤ x.q.min + F.gr + mostOf F.tk)) :
    Nf { F with S := pickS S', own := own', here := here' } (N + 20) := by
  obtain ⟨dep, hG⟩ := hG
  have hp : Ns (pickS S') F.cr F.gr F.tk (N + 20) (loF F.S) := Ns.ask h.terms 9 0 h'
  refine ⟨h.terms, hp.at_ (fun i x hx => by rw [loF_at hx]; exact Int.le_refl _), ?_, fun n e he => ?_⟩
  · show LowP F.gr 9 (pickS S') 0
    have := pick_low h.terms hN 9 (g := 0) hG h'
    unfold pickS pickF
    rw [h'.grE]
    exact this
  · have key : (64 ≤ e.wt ∧ e.wt ≤ 4095) ∧ ∀ x, F.S.g (homeN n) = some x → e.v ≤ x.q.min + F.gr + mostOf F.tk := (ho n e he).elim (h.task n e) id
    refine ⟨key.1, fun x hx => ?_⟩
    obtain ⟨y, hy, _⟩ := hK.herd.six (homeN n) (home_lt n)
    have h1 := key.2 y hy
    have h2 := hp.lo (homeN n) x hx
    rw [loF_at hy] at h2
    show e.v ≤ x.q.min + F.gr + mostOf F.tk
    omega
theorem workF_near {F : Fm} {N : Int} (h : Nf F N) (hK : Hok F) (k : Wk) (hw : 0 ≤ k.wt) (hn : 0 ≤ k.ns) (hN : N + 20 ≤ 10000) : Nf (workF F k) (N + 20) := by
  have T := h.terms
  have hG := hK.ok.fine.good
  obtain ⟨dep, hGd⟩ := hG
  have hmo := T.most
  unfold workF
  split
  · have h8 := who_lt k
    generalize whoN k = n at *
    obtain ⟨u, hu⟩ : ∃ u, F.here[n]? = some u := ⟨_, List.getElem?_eq_getElem (by rw [hK.ok.hen]; exact h8)⟩
    obtain ⟨e, he⟩ : ∃ e, F.own[n]? = some e := ⟨_, List.getElem?_eq_getElem (by rw [hK.ok.len]; exact h8)⟩
    obtain ⟨x, hx, _⟩ := hK.herd.six (homeN n) (home_lt n)
    have hg : grp F.S (homeN n) = some x := by
      have := home_lt n
      unfold grp; rw [if_pos (by omega)]; simpa using hx
    have hq := h.ns.q _ x hx
    cases u
    · have ew : wakeF F n = wakenF F n e := by unfold wakeF; rw [hu, he]; simp
      rw [ew]
      obtain ⟨o1, o2, o3⟩ := hK.ok.own n e he
      obtain ⟨t1, t2⟩ := h.task n e he
      have t3 := t2 x hx
      have m0 := hq.min0
      have hsz := hq.size T (by omega)
      have c0 := T.c0
      have c1 := T.c1
      have g0 := T.g0
      have hmin : minS F.S (homeN n) = x.q.min := (ents_at (by have := home_lt n; omega) hx).2.2
      have hwr : (wokenE F n e).v = max e.v (x.q.min - F.cr) := by
        show max e.v (IntKind.i64.wrap _) = _
        rw [hmin, IntKind.wrap_i64]; omega
      have hI : I64 (wokenE F n e).v := by rw [hwr]; unfold I64 at *; omega
      have hP := h.ns.putT T hGd (by omega) (homeN n) (e := wokenE F n e) hI o3 t1 (fun y hy => by
        rw [hg] at hy; cases hy
        rw [hwr]; omega)
      exact h.picked hK (S' := putH F.S (homeN n) (wokenE F n e)) ((hK.ok.fine.put _ hI o3).good) (hP.more T (by omega)) hN (fun m d hd => .inl hd)
    · have ew : wakeF F n = sleepF F n := by unfold wakeF; rw [hu]; simp
      rw [ew]
      have hnm := hK.herd.here n h8 hu x hx
      obtain ⟨f1, f2⟩ := find_of hnm
      have hP := h.ns.dropT T hGd (by omega) (homeN n) n
      refine h.picked hK (S' := dropH F.S (homeN n) n) ((hK.ok.fine.drop _ _).good) (hP.more T (by omega)) hN (fun m d hd => ?_)
      replace hd : (F.own.set n (dropE F.S (homeN n) n))[m]? = some d := hd
      by_cases e2 : m = n
      · subst e2
        rw [List.getElem?_set_self (by rw [hK.ok.len]; exact h8)] at hd
        cases hd
        refine .inr ?_
        have ed : dropE F.S (homeN m) m = { find x.q.es (2 * m) with id := m } := by
          unfold dropE; rw [hg]; simp only; rw [if_pos ⟨by omega, hnm⟩]
        rw [ed]
        have w1 := hq.wts _ f1
        have w2 := hq.near.lie.high _ f1
        refine ⟨w1, fun y hy => ?_⟩
        rw [hx] at hy; cases hy
        exact w2
      · rw [List.getElem?_set_ne (Ne.symm e2)] at hd
        exact .inl hd
  · refine h.picked hK (S' := midS F k) (midS_fine hK.ok.fine k hn hK.ok.tk.1).good ?_ hN (fun m d hd => .inl hd)
    unfold midS
    split
    · exact (h.ns.stop T hGd (by omega) _ _).more T (by omega)
    · split
      · exact (h.ns.weigh T hGd _ (by omega)).more T (by omega)
      · have n0 : 0 ≤ k.ns % (F.tk + 1) := Int.emod_nonneg _ (by have := T.t0; omega)
        have n1 : k.ns % (F.tk + 1) ≤ F.tk := by have := Int.emod_lt_of_pos k.ns (show 0 < F.tk + 1 by have := T.t0; omega); omega
        have go : ∀ S0, Good S0 → Ns S0 F.cr F.gr F.tk N (loF F.S) → LowP F.gr 9 S0 0 → Ns (chargeH S0 (k.ns % (F.tk + 1))) F.cr F.gr F.tk (N + 20) (loF F.S) := fun S0 g0 s0 l0 => by
          obtain ⟨d0, g0⟩ := g0
          unfold chargeH
          split
          · exact s0.more T (by omega)
          · split
            · exact s0.more T (by omega)
            · exact (Ns.serve T n0 n1 9 g0 s0 l0 (by omega)).more T (by omega)
        cases k.is
        · simp only [Bool.false_eq_true, if_false]
          exact go F.S ⟨dep, hGd⟩ h.ns h.low
        · simp only [if_true]
          have hy := hK.ok.fine.yield
          have hs := h.ns.yield T
          refine go _ hy.pick.good (Ns.ask T 9 0 hs) ?_
          obtain ⟨d1, g1⟩ := hy.good
          have := pick_low T (by omega) 9 (g := 0) g1 hs
          unfold pickS pickF
          rw [hs.grE]
          exact this
theorem ownI_wt : ∀ (n j : Nat) (e : Ent), n ≤ 8 → j < n → (ownI n)[j]? = some e → e = ⟨j, 1024, 0, 0⟩
  | 0, j, e, _, h0, _ => absurd h0 (Nat.not_lt_zero _)
  | n + 1, j, e, hn, h0, h => by
    unfold ownI at h
    by_cases hj : j = n
    · subst hj
      rw [List.getElem?_set_self (by rw [ownI_len]; omega)] at h
      cases h
      rfl
    · rw [List.getElem?_set_ne (Ne.symm hj)] at h
      exact ownI_wt n j e (by omega) (by omega) h
theorem new_nq {cr gr tk : Int} (T : Terms cr gr tk) : Nq St.new cr gr tk 0 :=
  ⟨⟨⟨List.Pairwise.nil, fun e he => by simp [St.new] at he, fun e he => by simp [St.new] at he⟩, fun e l h => by simp [St.new] at h⟩, by simp [St.new], by simp [St.new], rfl, fun e he => by simp [St.new] at he⟩
theorem bgF_near {a b c : Int} (h1 : 0 ≤ a ∧ a ≤ 65535) (h2 : 0 ≤ b ∧ b ≤ 65535) (h3 : 0 ≤ c ∧ c ≤ 65535) : Nf (bgF a b (1 + c) 5 8) 0 := by
  have T : Terms a b (1 + c) := ⟨h1.1, h1.2, h2.1, h2.2, by omega, by omega⟩
  have hmo := T.most
  have key : ∀ k x, (bgS a b 5).g k = some x → x.q = St.new ∧ (k ≠ 0 → x.own.wt = 1024) ∧ x.own.v = 0 := fun k x hx => by
    rw [bg_at] at hx
    split at hx
    · cases hx; exact ⟨rfl, fun h => absurd ‹_› h, rfl⟩
    · split at hx
      · cases hx; exact ⟨rfl, fun _ => rfl, rfl⟩
      · cases hx
  have cg : ∀ m, (bgS a b m).cr = a ∧ (bgS a b m).gr = b := by
    intro m
    induction m with
    | zero => exact ⟨rfl, rfl⟩
    | succ m ih =>
      unfold bgS linkH
      split
      · exact ih
      · exact ih
  refine ⟨T, ⟨(cg 5).1, (cg 5).2, fun i x hx => ?_, fun i x hx h0 => ?_, fun i x p y hx hp hy => ?_, fun i x hx => ?_⟩, fun x hx => ⟨fun e he => ?_, fun j hj => ?_⟩, fun n e he => ?_⟩
  · rw [(key i x hx).1]; exact new_nq T
  · have := (key i x hx).2.1 h0; omega
  · rw [(key i x hx).2.2, (key p y hy).1]
    show (0 : Int) ≤ 0 + b + mostOf (1 + c)
    omega
  · rw [loF_at hx]; exact Int.le_refl _
  · rw [(key 0 x hx).1] at he; simp [St.new] at he
  · rw [(key 0 x hx).1] at hj
    simp [St.new, nxt] at hj
  · have hl : n < 8 := by have := (List.getElem?_eq_some_iff.1 he).1; rw [show (bgF a b (1 + c) 5 8).own = ownI 8 from rfl, ownI_len] at this; exact this
    rw [ownI_wt 8 n e (by omega) hl he]
    refine ⟨by simp, fun x hx => ?_⟩
    rw [(key _ x hx).1]
    show (0 : Int) ≤ 0 + b + mostOf (1 + c)
    omega
/-- What the law asks of a queue. -/
theorem near_at {F : Fm} {N : Int} (h : Nf F N) (hK : Hok F) {g : Nat} (hg : g < 6) : (∀ e ∈ entsS F.S (g : Nat), minS F.S (g : Nat) - F.cr ≤ e.v ∧ e.v ≤ minS F.S (g : Nat) + F.gr + mostOf F.tk) ∧ 0 ≤ minS F.S (g : Nat) ∧ minS F.S (g : Nat) ≤ N * (F.gr + mostOf F.tk) := by
  obtain ⟨x, hx, _⟩ := hK.herd.six g hg
  obtain ⟨e1, _, e3⟩ := ents_at (F := F) (show g < 32 by omega) hx
  rw [e1, e3]
  have hq := h.ns.q g x hx
  exact ⟨fun e he => ⟨hq.near.lie.low e he, hq.near.lie.high e he⟩, hq.min0, hq.minN⟩
theorem flag_at {F : Fm} {N : Int} (h : Nf F N) : ∀ i x, F.S.g i = some x → x.q.flag = false := fun i x hx => (h.ns.q i x hx).flag
end Go.Proofs.YtnnjbonejbmgdaaGreat.Hr

/- What Flag of package hier answers: did anything run over in any queue? Conditions: the queues are sound. -/
namespace Go.Proofs.YtnnjbonejbmgdaaGreat.Hr
open Go.ChangeShapes Go.WideShapes Go.ChangeAt Go.RowKit Tree Queue
set_option linter.unusedVariables false
set_option linter.unusedSimpArgs false
set_option maxRecDepth 100000

def flS (S : Hs) (i : Nat) : Bool := match S.g i with
  | some x => x.q.flag
  | none => false
def flagS (S : Hs) : Bool := (List.range 32).any (flS S)
theorem gflag_nil (w : World) : Calls Tryz.prog 68 #[.pointer none] w (Is (.bool false) w) := by
  go_enter Tryz.func68, Tryz.ntmps68
  go_wp2
  go_ret; exact ⟨rfl, Below.refl _ _⟩
theorem gflag (w : World) (h : Nat) (O : Nat → Prop) (b qb : Nat → Nat) (S : Hs) (H : Hb w h O b qb S) (i : Nat) (hi : i < 32) : Calls Tryz.prog 68 #[.pointer (ptrG S b i)] w (Is (.bool (flS S i)) w) := by
  unfold ptrG flS
  cases hx : S.g i with
  | none => exact gflag_nil w
  | some x =>
    have M := Lib.hid (fun w1 (hg : Below w.heap.size w w1) => flags w1 (qb i) _ x.q (que_at (H.fresh hg) hx))
    have hg := Below.refl w.heap.size w
    obtain ⟨_, d1, _⟩ := H.cells hx
    simp only [Option.map_some]
    unfold toG
    generalize x.q.flag = v at *
    clear H hx
    go_enter Tryz.func68, Tryz.ntmps68
    go_wp2_with (go_at_call 118; refine (M.out _ hg).mono ?_; rintro e w2 ⟨rfl, hg2⟩)
    go_ret; exact ⟨rfl, hg2⟩
def IdxI (S : Hs) (w : World) (left : Nat) (t : Value) (wr : World) : Prop := ∃ k : Nat, k ≤ 32 ∧ left = 32 - k ∧ t = .int .i64 k ∧ (∀ j, j < k → flS S j = false) ∧ Below w.heap.size w wr
set_option maxHeartbeats 4000000 in
theorem index_ (w : World) (h : Nat) (O : Nat → Prop) (b qb : Nat → Nat) (S : Hs) (H : Hb w h O b qb S) :
    Calls Tryz.prog 117 #[.slice (some ⟨h, 2, none⟩) 32 32, .func (.func 68) #[] #[]] w (fun e w' => ∃ r : Int, e = .returned (.int .i64 r) ∧ (flagS S = decide (0 ≤ r)) ∧ Below w.heap.size w w') := by
  have FL := Lib.hid (fun w1 (hg : Below w.heap.size w w1) i hi => gflag w1 h O b qb S (H.fresh hg) i hi)
  have CG := Lib.hid (fun w1 (hg : Below w.heap.size w w1) => (H.fresh hg).top.2.2.1)
  clear H
  go_enter Tryz.func117, Tryz.ntmps117
  go_wp2_with fail
  go_loopg [8] 32 (fun left t wr => IdxI S w left t wr)
  case atStart => exact ⟨0, by omega, rfl, rfl, fun j hj => by omega, Below.refl _ _⟩
  case round =>
    obtain ⟨k, hk, rfl, rfl, hno, hg⟩ := hrel
    by_cases hlt : k < 32
    · have q1 : (k : Int) < 32 := by omega
      have c := CG.out _ hg k hlt
      have F := Lib.hid (FL.out _ hg k hlt)
      have HN := Lib.hid hno
      have HG := Lib.hid hg
      clear hno hg FL CG
      generalize ptrG S b k = p at *
      cases hf : flS S k
      · rw [hf] at F
        have N := Lib.hid (fun W (hw : Below wr.heap.size wr W) => (show IdxI S w (32 - (k + 1)) (.int .i64 ((k : Int) + 1)) W from ⟨k + 1, by omega, rfl, by go_num, fun j hj => by
          by_cases e : j = k
          · rw [e]; exact hf
          · exact HN.out j (by omega), ft HG.out hw⟩))
        clear hf
        go_wp2_with (go_at_call 68; refine F.out.mono ?_; rintro e w1 ⟨rfl, hg1⟩)
        go_roundg (32 - (k + 1))
        case measure => omega
        case rel => exact N.out _ hg1
      · rw [hf] at F
        have E := Lib.hid (show flagS S = decide (0 ≤ (k : Int)) from by
          unfold flagS
          rw [decide_eq_true (by omega), List.any_eq_true]
          exact ⟨k, List.mem_range.2 hlt, hf⟩)
        clear hf
        go_wp2_with (go_at_call 68; refine F.out.mono ?_; rintro e w1 ⟨rfl, hg1⟩)
        go_ret
        exact ⟨_, rfl, E.out, ft HG.out hg1⟩
    · obtain rfl : k = 32 := by omega
      have q1 : ¬ ((32 : Nat) : Int) < 32 := by omega
      have E := Lib.hid (show flagS S = decide (0 ≤ (-1 : Int)) from by
        unfold flagS
        rw [decide_eq_false (by omega), List.any_eq_false]
        intro j hj
        rw [hno j (List.mem_range.1 hj)]
        simp)
      have HG := Lib.hid hg
      clear hno hg FL CG
      go_wp2_with fail
      go_ret
      exact ⟨_, rfl, E.out, HG.out⟩
theorem contains_ (w : World) (h : Nat) (O : Nat → Prop) (b qb : Nat → Nat) (S : Hs) (H : Hb w h O b qb S) :
    Calls Tryz.prog 67 #[.slice (some ⟨h, 2, none⟩) 32 32, .func (.func 68) #[] #[]] w (Is (.bool (flagS S)) w) := by
  have I := Lib.hid (index_ w h O b qb S H)
  clear H
  go_enter Tryz.func67, Tryz.ntmps67
  go_wp2_with (go_at_call 117; refine I.out.mono ?_; rintro e w1 ⟨r, rfl, hr, hg1⟩)
  go_ret
  exact ⟨by rw [hr]; rfl, hg1⟩
theorem flag_ (w : World) (h : Nat) (O : Nat → Prop) (b qb : Nat → Nat) (S : Hs) (H : Hb w h O b qb S) : Calls Tryz.prog 27 #[.pointer (some ⟨h, 0, none⟩)] w (Is (.bool (flagS S)) w) := by
  have C := Lib.hid (contains_ w h O b qb S H)
  clear H
  go_enter Tryz.func27, Tryz.ntmps27
  go_wp2_with (go_at_call 67; refine C.out.mono ?_; rintro e w1 ⟨rfl, hg1⟩)
  go_ret
  exact ⟨rfl, hg1⟩
theorem Lflag {h : Nat} {O : Nat → Prop} {S : Hs} {w : World} (L : Lw h O S w) : Calls Tryz.prog 27 #[.pointer (some ⟨h, 0, none⟩)] w (Is (.bool (flagS S)) w) := by
  obtain ⟨⟨b, qb, H⟩, _⟩ := L
  exact flag_ w h O b qb S H
end Go.Proofs.YtnnjbonejbmgdaaGreat.Hr

/- The walk of HierNear. Conditions: each number is one of its kind, the list can be read. -/
namespace Go.Proofs.YtnnjbonejbmgdaaGreat.Hr
open Go.ChangeShapes Go.WideShapes Go.ChangeAt Go.RowKit Tree Queue
set_option linter.unusedVariables false
set_option linter.unusedSimpArgs false
set_option maxRecDepth 100000

/-- What work leaves as it was. -/
theorem workF_terms (F : Fm) (k : Wk) : (workF F k).cr = F.cr ∧ (workF F k).gr = F.gr ∧ (workF F k).tk = F.tk := by
  unfold workF wakeF sleepF wakenF
  split
  · split
    · exact ⟨rfl, rfl, rfl⟩
    · split <;> exact ⟨rfl, rfl, rfl⟩
  · exact ⟨rfl, rfl, rfl⟩
theorem flag_none {F : Fm} {N : Int} (h : Nf F N) : flagS F.S = false := by
  unfold flagS
  rw [List.any_eq_false]
  intro j _
  unfold flS
  cases hx : F.S.g j with
  | none => simp
  | some x => simp [flag_at h j x hx]
def NrL (w1 : World) (b h : Nat) (a b' c : Int) (left : Nat) (t : Value) (wr : World) : Prop := ∃ (i : Nat) (F : Fm), i ≤ 120 ∧ left = 120 - i ∧ t = .int .i64 i ∧ Hok F ∧ Nf F (20 * (i : Int)) ∧ (F.cr = a ∧ F.gr = b' ∧ F.tk = 1 + c) ∧ Fw w1 b h (· < w1.heap.size) F wr
def NrG (w1 : World) (b h : Nat) (F : Fm) (left : Nat) (t9 : Value) (wr : World) : Prop := ∃ g : Nat, g ≤ 6 ∧ left = 6 - g ∧ t9 = .int .i64 g ∧ Fw w1 b h (· < w1.heap.size) F wr
def NrK (w4 : World) (n : Nat) (left : Nat) (t12 : Value) (wr : World) : Prop := ∃ k : Nat, k ≤ n ∧ left = n - k ∧ t12 = .int .i64 k ∧ Below w4.heap.size w4 wr
set_option maxHeartbeats 8000000 in
theorem nearLaw (a b c : Int) (u : Option Addr) (len cap : Nat) (w : World) (ha : 0 ≤ a ∧ a ≤ 65535) (hb : 0 ≤ b ∧ b ≤ 65535) (hc : 0 ≤ c ∧ c ≤ 65535) (hl : len ≤ 9223372036854775807) (hW : WorksL u len w) :
    Calls Tryz.prog 7 #[.agg #[.int .u16 a, .int .u16 b, .int .u16 c], .slice u len cap] w (IsTrue w) := by
  have hA := heap_alloc_new w (.cells #[.int .u16 a, .int .u16 b, .int .u16 c] 47)
  have gA := alloc1 w (.cells #[.int .u16 a, .int .u16 b, .int .u16 c] 47)
  replace hW := Lib.hid hW
  have AW := Lib.hid (fun X => awake X)
  have BG := Lib.hid (fun X => begun X a b c ha hb hc)
  go_enter Tryz.func7, Tryz.ntmps7
  go_wp2_with fail
  refine (AW.out _).mono ?_
  rintro e w1 ⟨rfl, hg1⟩
  replace hA := (hg1.block _ (lt_of hA)).trans hA
  have hgw := ft gA hg1
  replace hW := Lib.hid (hW.out.fresh hgw)
  have a0 : w1.cell? ⟨w.heap.size, 0, none⟩ = some (.int .u16 a) := by rw [cell_of_row w1 _ _ _ _ _ hA]; rfl
  have a1 : w1.cell? ⟨w.heap.size, 1, none⟩ = some (.int .u16 b) := by rw [cell_of_row w1 _ _ _ _ _ hA]; rfl
  have a2 : w1.cell? ⟨w.heap.size, 2, none⟩ = some (.int .u16 c) := by rw [cell_of_row w1 _ _ _ _ _ hA]; rfl
  clear hg1 gA hA AW
  go_wp2_with fail
  refine (BG.out _).mono ?_
  rintro e w2 ⟨fb, h, hfb, rfl, hF⟩
  have R0 : Hid (NrL w1 fb h a b c 120 (.int .i64 0) w2) := Lib.hid ⟨0, _, by omega, rfl, rfl, bgF_hok ha hb hc, by simpa using bgF_near ha hb hc, ⟨rfl, rfl, rfl⟩, hF⟩
  obtain ⟨l0, l41, l42, l43, lf⟩ := hF.box.cells
  replace l43 : w2.cell? ⟨fb, 43, none⟩ = some (.int .u64 (1 + c)) := l43
  clear hF a0 a1 a2 BG l0 l41 l42 lf
  go_wp2_with fail
  obtain ⟨M, hM⟩ : ∃ M, (1024 * (1 + c) + 63) / 64 = M := ⟨_, rfl⟩
  have hM2 : mostOf (1 + c) = M := hM
  have M0 : 0 ≤ M ∧ M ≤ 1048577 := by omega
  rw [hM]
  replace hM2 := Lib.hid hM2
  clear hM l43
  go_loopg [8] 120 (fun left t8 wr => NrL w1 fb h a b c left t8 wr)
  case atStart => exact R0.out
  case round =>
    clear R0
    obtain ⟨i, F, hi, rfl, rfl, hK, hNf, ⟨t1, t2, t3⟩, hQ⟩ := hrel
    have hbw := Lib.hid (ft hgw hQ.same.below)
    by_cases hlt : i < len ∧ i < 120
    · obtain ⟨h1, h2⟩ := hlt
      have q1 : (i : Int) < len := by omega
      have q2 : (i : Int) < 120 := by omega
      obtain ⟨kb, off, rfl, hkb, x, hx, c0, c1, c2, c3, c4⟩ := (hW.out.fresh hQ.same.below) i h1
      have WK := Lib.hid (works w1 wr fb h (· < w1.heap.size) F hQ hK.ok x hx.1 hx.2)
      have hK1 := workF_hok hK x hx.2.1
      have hN1 := workF_near hNf hK x hx.1.1 hx.2.1 (by omega)
      obtain ⟨u1, u2, u3⟩ := workF_terms F x
      rw [t1] at u1
      rw [t2] at u2
      rw [t3] at u3
      simp only [Wk.cells] at WK
      clear hK hQ hx hNf t1 t2 t3
      generalize workF F x = F1 at *
      go_wp2_with fail
      refine WK.out.mono ?_
      rintro e w3 ⟨rfl, hQ3⟩
      clear WK c0 c1 c2 c3 c4
      have N0 : Hid (NrG w1 fb h F1 6 (.int .i64 0) w3) := Lib.hid ⟨0, by omega, rfl, rfl, hQ3⟩
      clear hQ3
      go_wp2_with fail
      go_loopg [9] 6 (fun left t9 wr => NrG w1 fb h F1 left t9 wr)
      case atStart => exact N0.out
      case round =>
        clear N0
        obtain ⟨g, hg6, rfl, rfl, hQ4⟩ := hrel
        by_cases hlt2 : g < 6
        · have r1 : (g : Int) ≤ 5 := by omega
          have r2 : 0 ≤ (g : Int) := by omega
          obtain ⟨e1, _, _⟩ := ents_few hK1 g
          obtain ⟨nr, m0, mN⟩ := near_at hN1 hK1 hlt2
          rw [u1, u2, u3, hM2.out] at nr
          rw [u2, u3, hM2.out] at mN
          have mB : minS F1.S (g : Nat) ≤ 3000000000 := by
            have : (20 * (i : Int) + 20) * (b + M) ≤ 2420 * (b + M) := Int.mul_le_mul_of_nonneg_right (by omega) (by omega)
            omega
          clear mN
          have EN := Lib.hid (Lents hQ4.que hK1.ok.fine.good g)
          have LM := Lib.hid (fun X (K : Fw w1 fb h (· < w1.heap.size) F1 X) => Lmin K.que g)
          have NX := Lib.hid (fun X (K : Fw w1 fb h (· < w1.heap.size) F1 X) => (show NrG w1 fb h F1 (6 - (g + 1)) (.int .i64 ((g : Int) + 1)) X from ⟨g + 1, by omega, rfl, by go_num, K⟩))
          have W4 := Lib.hid hQ4
          obtain ⟨l0, l41, l42, l43, lf⟩ := hQ4.box.cells
          clear hQ4
          generalize entsS F1.S g = es at *
          generalize minS F1.S g = lw at *
          have e6 : (es.length : Int) ≤ 128 := by omega
          have NE := Lib.hid nr
          clear nr
          go_wp2_with fail
          go_at_call 18; refine EN.out.mono ?_; rintro e w4 ⟨lv, rfl, hr, hg4⟩
          obtain ⟨ao, cp, rfl, hao, hcp⟩ := hr.shape
          have LS := Lib.hid (Row.lst hr rfl)
          have W5 := Lib.hid (W4.out.fresh hg4)
          obtain ⟨m0', m41, m42, m43, mf⟩ := W5.out.box.cells
          clear EN l0 l41 l42 l43 lf hr hao hcp W4 hg4
          go_wp2_with (go_at_call 26; refine (LM.out _ W5.out).mono ?_; rintro e w5 ⟨rfl, hg5⟩)
          have W6 := Lib.hid (W5.out.fresh hg5)
          replace LS := Lib.hid (LS.out.fresh hg5)
          clear m0' m41 m42 m43 mf W5 LM hg5
          have K0 : Hid (NrK w5 es.length es.length (.int .i64 0) w5) := Lib.hid ⟨0, by omega, by omega, rfl, Below.refl _ _⟩
          go_wp2_with fail
          go_loopg [12] es.length (fun left t12 wr => NrK w5 es.length left t12 wr)
          case atStart => exact K0.out
          case round =>
            clear K0
            obtain ⟨k, hk, rfl, rfl, hg6'⟩ := hrel
            by_cases hlt3 : k < es.length
            · have s1 : (k : Int) < es.length := by omega
              obtain ⟨en, he⟩ : ∃ en, es[k]? = some en := ⟨_, List.getElem?_eq_getElem hlt3⟩
              obtain ⟨gg, rfl, hgg, d0, d1, d2, d3⟩ := (LS.out.fresh hg6') k en he
              obtain ⟨n1, n2⟩ := NE.out en (List.mem_of_getElem? he)
              obtain ⟨m0', m41, m42, m43, mf⟩ := (W6.out.fresh hg6').box.cells
              rw [u1] at m41
              rw [u2] at m42
              have N := Lib.hid (fun W (hw : Below wr.heap.size wr W) => (show NrK w5 es.length (es.length - (k + 1)) (.int .i64 ((k : Int) + 1)) W from ⟨k + 1, by omega, rfl, by go_num, ft hg6' hw⟩))
              obtain ⟨ei, ew, ev, er⟩ := en
              simp only at d0 d1 d2 d3 n1 n2
              have n3 : ¬ ev < lw - a := by omega
              have n4 : ¬ lw + b + M < ev := by omega
              clear he
              go_wp2_with fail
              have w1' : IntKind.i64.wrap (lw - a) = lw - a := by rw [IntKind.wrap_i64]; omega
              have w2' : IntKind.i64.wrap (lw + b) = lw + b := by rw [IntKind.wrap_i64]; omega
              have w3' : IntKind.i64.wrap (lw + b + M) = lw + b + M := by rw [IntKind.wrap_i64]; omega
              have p1 : decide (ev < lw - a) = false := by simp; omega
              have p2 : decide (lw + b + M < ev) = false := by simp; omega
              go_quiet (fail)
              go_wp2_with fail
              go_roundg (es.length - (k + 1))
              case measure => omega
              case rel => exact N.out _ (drawn _ nq)
            · obtain rfl : k = es.length := by omega
              have s1 : ¬ (es.length : Int) < es.length := by omega
              have N := Lib.hid (NX.out _ (W6.out.fresh hg6'))
              clear W6 hg6' LS NX
              go_wp2_with fail
              go_roundg (6 - (g + 1))
              case measure => omega
              case rel => exact N.out
        · obtain rfl : g = 6 := by omega
          have r1 : ¬ ((6 : Nat) : Int) ≤ 5 := by omega
          have N := Lib.hid (show NrL w1 fb h a b c (120 - (i + 1)) (.int .i64 ((i : Int) + 1)) wr from ⟨i + 1, F1, by omega, by omega, by go_num, hK1, by rw [show (20 * ((i + 1 : Nat) : Int)) = 20 * (i : Int) + 20 by omega]; exact hN1, ⟨u1, u2, u3⟩, hQ4⟩)
          clear hQ4 hK1 hN1
          go_wp2_with fail
          go_roundg (120 - (i + 1))
          case measure => omega
          case rel => exact N.out
    · have FG := Lib.hid (Lflag hQ.que)
      rw [flag_none hNf] at FG
      obtain ⟨l0, l41, l42, l43, lf⟩ := hQ.box.cells
      clear hK hQ hNf
      have hcond : ¬ ((i : Int) < len) ∨ ¬ ((i : Int) < 120) := by
        by_cases e : i < len
        · exact .inr (by omega)
        · exact .inl (by omega)
      by_cases hi : (i : Int) < len
      · have hj : ¬ (i : Int) < 120 := hcond.resolve_left (fun e => e hi)
        clear hcond hlt
        go_wp2_with (go_at_call 27; refine FG.out.mono ?_; rintro e w5 ⟨rfl, hg5⟩)
        go_ret
        exact ⟨rfl, ft hbw.out hg5⟩
      · clear hcond hlt
        go_wp2_with (go_at_call 27; refine FG.out.mono ?_; rintro e w5 ⟨rfl, hg5⟩)
        go_ret
        exact ⟨rfl, ft hbw.out hg5⟩
end Go.Proofs.YtnnjbonejbmgdaaGreat.Hr

/- Who is served: the way of who runs, and what a charge makes of each queue; nothing of a program. Conditions: as each fact states them. -/
namespace Go.Proofs.YtnnjbonejbmgdaaGreat.Hr
open Go.ChangeShapes Go.WideShapes Go.ChangeAt Go.RowKit Tree Queue
set_option linter.unusedVariables false
set_option linter.unusedSimpArgs false
set_option maxRecDepth 100000

/-- The groups on the way of who runs. -/
def pathL : Nat → Hs → Nat → List Nat
  | 0, _, _ => []
  | n + 1, S, g => match S.g g with
    | none => []
    | some x => g :: (match nxt x.q.cur with
      | none => []
      | some j => pathL n S j)
theorem pathL_none {n : Nat} {S : Hs} {g : Nat} {x : Gp} (hx : S.g g = some x) (h : nxt x.q.cur = none) : pathL (n + 1) S g = [g] := by
  rw [pathL, hx]; simp only [h]
theorem pathL_some {n : Nat} {S : Hs} {g j : Nat} {x : Gp} (hx : S.g g = some x) (h : nxt x.q.cur = some j) : pathL (n + 1) S g = g :: pathL n S j := by
  rw [pathL, hx]; simp only [h]
theorem pathL_keep {dep : Nat → Nat} : ∀ (n : Nat) {S S' : Hs} {j : Nat}, GoodD dep S → (∀ k, dep j ≤ dep k → S'.g k = S.g k) → pathL n S' j = pathL n S j
  | 0, _, _, _, _, _ => rfl
  | n + 1, S, S', j, hG, hk => by
    rw [pathL, pathL, hk j (Nat.le_refl _)]
    cases hx : S.g j with
    | none => rfl
    | some x =>
      simp only
      cases hn : nxt x.q.cur with
      | none => rfl
      | some i =>
        simp only
        obtain ⟨y, _, _, _, e, _⟩ := hG.next hx (hG.cur j x hx) hn
        rw [pathL_keep n hG (fun k hk' => hk k (by omega))]
theorem pathL_dep {dep : Nat → Nat} : ∀ (n : Nat) {S : Hs} {g k : Nat}, GoodD dep S → k ∈ pathL n S g → dep g ≤ dep k
  | 0, _, _, _, _, h => by cases h
  | n + 1, S, g, k, hG, h => by
    cases hx : S.g g with
    | none => rw [pathL, hx] at h; cases h
    | some x =>
      cases hn : nxt x.q.cur with
      | none => rw [pathL_none hx hn] at h; simp at h; subst h; exact Nat.le_refl _
      | some j =>
        rw [pathL_some hx hn] at h
        rcases List.mem_cons.1 h with rfl | h
        · exact Nat.le_refl _
        · obtain ⟨y, _, _, _, e, _⟩ := hG.next hx (hG.cur g x hx) hn
          have := pathL_dep n hG h
          omega
/-- What is so of them. -/
structure PathP (dep : Nat → Nat) (S : Hs) (L : List Nat) (g z : Nat) (e : Int) : Prop where
  first : g ∈ L
  last : z ∈ L
  fin : ∃ x, S.g z = some x ∧ x.q.cur = e ∧ nxt e = none
  deps : ∀ k ∈ L, dep g ≤ dep k ∧ dep k ≤ dep z ∧ ∃ y, S.g k = some y
  up : ∀ k ∈ L, k ≠ g → ∃ x p y, S.g k = some x ∧ x.up = some p ∧ p ∈ L ∧ dep p + 1 = dep k ∧ S.g p = some y ∧ y.q.cur = gid k
  one : ∀ k ∈ L, ∀ k' ∈ L, dep k = dep k' → k = k'
theorem path_is {dep : Nat → Nat} : ∀ (n : Nat) {S : Hs} {g : Nat} {x : Gp}, GoodD dep S → S.g g = some x → 8 < dep g + n → PathP dep S (pathL n S g) g (walkS (fun st => st.cur) id n S g).2.1 (walkS (fun st => st.cur) id n S g).2.2
  | 0, S, g, x, hG, hx, hd => by have := hG.deep g x hx; omega
  | n + 1, S, g, x, hG, hx, hd => by
    have hself : S.set g (some { x with q := id { x.q with cur := x.q.cur } }) = S := set_self hx
    cases hn : nxt x.q.cur with
    | none =>
      rw [pathL_none hx hn, walk_none (c := fun st => st.cur) hx hn]
      refine ⟨by simp, by simp, ⟨x, hx, rfl, hn⟩, fun k hk => ?_, fun k hk h0 => ?_, fun k hk k' hk' _ => ?_⟩
      · simp at hk; subst hk; exact ⟨Nat.le_refl _, Nat.le_refl _, x, hx⟩
      · simp at hk; exact absurd hk h0
      · simp at hk hk'; rw [hk, hk']
    | some j =>
      rw [pathL_some hx hn, walk_some (c := fun st => st.cur) hx hn, hself]
      obtain ⟨y, hy, hu, _, e, _, eg, _⟩ := hG.next hx (hG.cur g x hx) hn
      have ih := path_is n hG hy (by omega)
      refine ⟨by simp, List.mem_cons_of_mem _ ih.last, ih.fin, fun k hk => ?_, fun k hk h0 => ?_, fun k hk k' hk' hdd => ?_⟩
      · rcases List.mem_cons.1 hk with rfl | hk
        · have := ih.deps _ ih.first
          exact ⟨Nat.le_refl _, by omega, x, hx⟩
        · have := ih.deps k hk
          exact ⟨by omega, this.2.1, this.2.2⟩
      · rcases List.mem_cons.1 hk with rfl | hk
        · exact absurd rfl h0
        · by_cases ej : k = j
          · subst ej
            exact ⟨y, g, x, hy, hu, by simp, by omega, hx, eg⟩
          · obtain ⟨a, p, b, h1, h2, h3, h4, h5, h6⟩ := ih.up k hk ej
            exact ⟨a, p, b, h1, h2, List.mem_cons_of_mem _ h3, h4, h5, h6⟩
      · rcases List.mem_cons.1 hk with rfl | hkA <;> rcases List.mem_cons.1 hk' with rfl | hkB
        · rfl
        · have := (ih.deps k' hkB).1; omega
        · have := (ih.deps k hkA).1; omega
        · exact ih.one k hkA k' hkB hdd
/-- What a charge makes of each queue. -/
theorem serve_is {dep : Nat → Nat} {t : Int} (t0 : 0 ≤ t) : ∀ (n : Nat) {S : Hs} {g : Nat}, GoodD dep S → ∀ k, (walkS (fun st => st.cur) (fun st => chargeS st t) n S g).1.g k = (S.g k).map (fun y => if k ∈ pathL n S g then { y with q := chargeS y.q t } else y)
  | 0, S, g, _, k => by
    cases hy : S.g k <;> simp [walkS, pathL, hy]
  | n + 1, S, g, hG, k => by
    cases hx : S.g g with
    | none =>
      rw [walkS, hx, pathL, hx]
      cases hy : S.g k <;> simp [hy]
    | some x =>
      have hG1 : GoodD dep (S.set g (some { x with q := chargeS { x.q with cur := x.q.cur } t })) := (asks_charge t0).good hG hx
      cases hn : nxt x.q.cur with
      | none =>
        rw [walk_none (c := fun st => st.cur) hx hn, pathL_none hx hn]
        show (S.set g (some { x with q := chargeS { x.q with cur := x.q.cur } t })).g k = _
        by_cases e : k = g
        · subst e; rw [Hs.set_same, hx]; simp
        · rw [Hs.set_other _ _ e]; cases hy : S.g k <;> simp [e]
      | some j =>
        rw [walk_some (c := fun st => st.cur) hx hn, pathL_some hx hn]
        obtain ⟨y, _, _, _, ed, _⟩ := hG.next hx (hG.cur g x hx) hn
        have hk : ∀ i, dep j ≤ dep i → (S.set g (some { x with q := chargeS { x.q with cur := x.q.cur } t })).g i = S.g i := fun i hi => Hs.set_other _ _ (fun e => by rw [e] at hi; omega)
        have hg : g ∉ pathL n S j := fun h => by have := pathL_dep n hG h; omega
        have ih := serve_is t0 n (g := j) hG1 k
        rw [pathL_keep n hG hk] at ih
        refine ih.trans ?_
        by_cases e : k = g
        · subst e; rw [Hs.set_same, hx]; simp [hg]
        · rw [Hs.set_other _ _ e]; cases hy : S.g k <;> simp [e]
/-- Who is current stays it. -/
theorem run_cur {S S' : Hs} (h : ∀ k, (S'.g k).map (fun x => x.q.cur) = (S.g k).map (fun x => x.q.cur)) : ∀ (n : Nat) (g : Nat), (walkS (fun st => st.cur) id n S' g).2 = (walkS (fun st => st.cur) id n S g).2
  | 0, _ => rfl
  | n + 1, g => by
    have hg := h g
    cases hx : S.g g with
    | none =>
      rw [hx] at hg
      have hx' : S'.g g = none := by cases h' : S'.g g with
        | none => rfl
        | some y => rw [h'] at hg; cases hg
      rw [walkS, walkS, hx, hx']
    | some x =>
      rw [hx] at hg
      obtain ⟨x', hx', hc⟩ : ∃ x', S'.g g = some x' ∧ x'.q.cur = x.q.cur := by
        cases h' : S'.g g with
        | none => rw [h'] at hg; cases hg
        | some y => rw [h'] at hg; exact ⟨y, rfl, by simpa using hg⟩
      have hself : S.set g (some { x with q := id { x.q with cur := x.q.cur } }) = S := set_self hx
      have hself' : S'.set g (some { x' with q := id { x'.q with cur := x'.q.cur } }) = S' := set_self hx'
      cases hn : nxt x.q.cur with
      | none =>
        rw [walk_none (c := fun st => st.cur) hx hn, walk_none (c := fun st => st.cur) hx' (by show nxt x'.q.cur = none; rw [hc]; exact hn)]
        simp only [hc]
      | some j =>
        rw [walk_some (c := fun st => st.cur) hx hn, walk_some (c := fun st => st.cur) hx' (by show nxt x'.q.cur = some j; rw [hc]; exact hn), hself, hself']
        exact run_cur h n j
theorem chargeS_cur (st : St) (t : Int) : (chargeS st t).cur = st.cur := by
  by_cases h : errCharge st t = 0
  · exact (charge_es h).2
  · unfold chargeS; rw [if_neg h]
theorem runS_charge {S : Hs} (hG : Good S) {t : Int} (t0 : 0 ≤ t) : runS (chargeH S t) = runS S := by
  obtain ⟨dep, hG⟩ := hG
  unfold chargeH
  split
  · rfl
  · split
    · rfl
    · unfold runS
      rw [run_cur (S := S) fun k => ?_]
      rw [serve_is t0 9 hG k]
      cases hy : S.g k with
      | none => rfl
      | some y => simp only [Option.map_some]; split <;> simp [chargeS_cur]
/-- Who isn't the last one on the way tells the next one. -/
theorem path_down {dep : Nat → Nat} {S : Hs} {L : List Nat} {g z : Nat} {e : Int} (P : PathP dep S L g z e) : ∀ (d : Nat) {k : Nat}, k ∈ L → dep k + d = dep z → ∀ k' ∈ L, dep k < dep k' → dep k' ≤ dep z → ∃ j ∈ L, dep j = dep k + 1 := by
  intro d k hk hd k' hk' h1 h2
  obtain ⟨n, hn⟩ : ∃ n, dep k' = dep k + 1 + n := ⟨dep k' - dep k - 1, by omega⟩
  clear h1
  induction n generalizing k' with
  | zero => exact ⟨k', hk', by omega⟩
  | succ n ih =>
    by_cases e : k' = g
    · have := (P.deps k hk).1; subst e; omega
    · obtain ⟨_, p, _, _, _, hp, hdp, _, _⟩ := P.up k' hk' e
      exact ih p hp (by omega) (by omega)
theorem path_cur {dep : Nat → Nat} {S : Hs} {L : List Nat} {g z : Nat} {e : Int} (P : PathP dep S L g z e) {k : Nat} {y : Gp} (hk : k ∈ L) (hy : S.g k = some y) (hd : dep k ≠ dep z) (hc : y.q.cur = -1) : False := by
  have h1 := (P.deps k hk).2.1
  obtain ⟨j, hj, ej⟩ := path_down P (dep z - dep k) hk (by omega) z P.last (by omega) (Nat.le_refl _)
  by_cases e : j = g
  · have := (P.deps k hk).1; subst e; omega
  · obtain ⟨_, p, y', _, _, hp, hdp, hy', hc'⟩ := P.up j hj e
    have : p = k := P.one p hp k hk (by omega)
    subst this
    rw [hy] at hy'; cases hy'
    rw [hc] at hc'
    unfold gid at hc'
    omega
/-- The way of who runs in the farm. -/
structure WayF (dep : Nat → Nat) (F : Fm) (m : Nat) (L : List Nat) : Prop where
  m8 : m < 8
  deep : ∀ k, k < 6 → dep k ≤ 8
  six : ∀ k ∈ L, k < 6
  last : homeN m ∈ L
  most : ∀ k ∈ L, dep k ≤ dep (homeN m)
  cur : ∀ x, F.S.g (homeN m) = some x → x.q.cur = 2 * m
  up : ∀ k ∈ L, k ≠ 0 → parN k ∈ L ∧ dep (parN k) + 1 = dep k ∧ ∀ y, F.S.g (parN k) = some y → y.q.cur = gid k
  one : ∀ k ∈ L, ∀ k' ∈ L, dep k = dep k' → k = k'
  named : ∀ k ∈ L, ∀ y, F.S.g k = some y → named y.q.es y.q.cur = true
theorem way_is {F : Fm} (h : Hok F) {dep : Nat → Nat} (hG : GoodD dep F.S) : (runS F.S = -1) ∨ ∃ m : Nat, runS F.S = m ∧ WayF dep F m (pathL 9 F.S 0) := by
  obtain ⟨r, hr, _, _⟩ := hG.root
  have P := path_is 9 hG hr (by omega)
  obtain ⟨z, hz, e1, e2⟩ := P.fin
  unfold runS
  generalize (walkS (fun st => st.cur) id 9 F.S 0).2.1 = zz at *
  generalize (walkS (fun st => st.cur) id 9 F.S 0).2.2 = e at *
  have lt6 : ∀ k, (∃ y, F.S.g k = some y) → k < 6 := fun k ⟨y, hy⟩ => by
    by_cases hk : k < 6
    · exact hk
    · rw [h.herd.no k (by omega)] at hy; cases hy
  by_cases he : e = -1
  · left; rw [he]; rfl
  · right
    have h2 : e % 2 = 0 := by
      unfold nxt at e2
      split at e2
      · rename_i hh; exact hh.resolve_left he
      · cases e2
    have hnm : Queue.named z.q.es e = true := by
      have := hG.cur zz z hz
      rw [e1] at this
      exact this.resolve_left he
    obtain ⟨m, m8, em, hm, _⟩ := h.herd.task zz z hz e h2 hnm
    refine ⟨m, by unfold taskS; rw [if_neg he]; omega, ⟨m8, fun k hk => ?_, fun k hk => lt6 k (P.deps k hk).2.2, by rw [hm]; exact P.last, fun k hk => by rw [hm]; exact (P.deps k hk).2.1, fun x hx => ?_, fun k hk h0 => ?_, P.one, fun k hk y hy => ?_⟩⟩
    · obtain ⟨x, hx, _⟩ := h.herd.six k hk
      exact hG.deep k x hx
    · rw [hm, hz] at hx; cases hx; rw [e1, em]
    · obtain ⟨x, p, y, hx, hu, hp, hd, hy, hc⟩ := P.up k hk h0
      obtain ⟨x', hx', hu'⟩ := h.herd.six k (lt6 k ⟨x, hx⟩)
      rw [hx] at hx'; cases hx'
      rw [hu, if_neg h0] at hu'
      cases hu'
      exact ⟨hp, hd, fun y' hy' => by rw [hy] at hy'; cases hy'; exact hc⟩
    · refine (hG.cur k y hy).resolve_left fun e3 => ?_
      by_cases ek : k = zz
      · subst ek; rw [hz] at hy; cases hy; exact he (e1 ▸ e3)
      · have hd := P.deps k hk
        have hdz : dep k ≠ dep zz := fun e4 => ek (P.one k hk zz P.last e4)
        exact path_cur P hk hy hdz e3
end Go.Proofs.YtnnjbonejbmgdaaGreat.Hr

/- What a charge makes of each queue of the farm; nothing of a program. Conditions: as each fact states them. -/
namespace Go.Proofs.YtnnjbonejbmgdaaGreat.Hr
open Go.ChangeShapes Go.WideShapes Go.ChangeAt Go.RowKit Tree Queue
set_option linter.unusedVariables false
set_option linter.unusedSimpArgs false
set_option maxRecDepth 100000

/-- An entity, served if it is the one. -/
def mvE (id t : Int) (e : Ent) : Ent := if e.id = id then { e with v := e.v + Vrun.cval e.wt e.rm t, rm := Vrun.crem e.wt e.rm t } else e
def wantF (F : Fm) (L : List Nat) (g : Nat) : Int := if g ∈ L then (match F.S.g g with | some x => x.q.cur | none => -1) else -1
/-- What may be served. -/
structure OkS (t : Int) (e : Ent) : Prop where
  id0 : 0 ≤ e.id ∧ e.id ≤ 1000
  w : 2 ≤ e.wt ∧ e.wt ≤ 262144
  r : 0 ≤ e.rm ∧ e.rm < e.wt
  v : -65535 ≤ e.v ∧ e.v ≤ 4000000000
  c : 0 ≤ Vrun.cval e.wt e.rm t ∧ Vrun.cval e.wt e.rm t ≤ 200000000000
  m : 0 ≤ Vrun.crem e.wt e.rm t ∧ Vrun.crem e.wt e.rm t ≤ 262144
structure MovedP (es es' : List Ent) (id t : Int) : Prop where
  len : es'.length = es.length
  few : es.length ≤ 128
  once : Once es'
  there : ∀ e ∈ es, mvE id t e ∈ es'
  ok : ∀ e ∈ es, OkS t e
  ok' : ∀ e ∈ es', 0 ≤ e.id ∧ e.id ≤ 1000
theorem len_insE' (e : Ent) (l : List Ent) : (insE e l).length = l.length + 1 := len_insE e l
theorem oks_of {F : Fm} {N : Int} (h : Nf F N) (hK : Hok F) (hN : N ≤ 2500) {t : Int} (t0 : 0 ≤ t) (t1 : t ≤ 100000000) {g : Nat} {x : Gp} (hx : F.S.g g = some x) {e : Ent} (he : e ∈ x.q.es) : OkS t e := by
  obtain ⟨dep, hG⟩ := hK.ok.fine.good
  have hs := (hG.q g x hx).each e he
  have hid := hG.ids g x hx e he
  have hq := h.ns.q g x hx
  have T := h.terms
  have hmo := T.most
  have g0 := T.g0
  have g1 := T.g1
  have c1 := T.c1
  have m0 := hq.min0
  have mN := hq.minN
  have := Int.mul_le_mul_of_nonneg_right hN (show 0 ≤ F.gr + mostOf F.tk by omega)
  have l1 := hq.near.lie.low e he
  have l2 := hq.near.lie.high e he
  have w1 := hq.wts e he
  have e1 := Vrun.cval_in (t := t) hs.2.2.1 hs.2.2.2.1 hs.2.2.2.2.2.1 (by omega)
  have e2 := Vrun.crem_in (t := t) hs.2.2.1 hs.2.2.2.1 hs.2.2.2.2.2.1 (by omega)
  have q := Vrun.quot_bd (t := t) hs.2.2.1 hs.2.2.2.2.2.1 hs.2.2.2.2.1 hs.2.2.2.1 t0 (by omega)
  refine ⟨⟨hs.1, by omega⟩, ⟨hs.2.2.1, hs.2.2.2.1⟩, ⟨hs.2.2.2.2.1, hs.2.2.2.2.2.1⟩, ⟨by omega, by omega⟩, ?_, ?_⟩
  · rw [e1]
    have h0 : 0 ≤ (e.rm + 1024 * t) / e.wt := Int.ediv_nonneg (by omega) (by omega)
    have h3 : (e.rm + 1024 * t) / e.wt ≤ e.rm + 1024 * t := Int.ediv_le_self _ (by omega)
    omega
  · rw [e2]
    have h0 := Int.emod_nonneg (e.rm + 1024 * t) (show e.wt ≠ 0 by omega)
    have h3 := Int.emod_lt_of_pos (e.rm + 1024 * t) (show 0 < e.wt by omega)
    omega
theorem moved_at {F : Fm} {N : Int} (h : Nf F N) (hK : Hok F) (hN : N ≤ 2500) {t : Int} (t0 : 0 ≤ t) (t1 : t ≤ 100000000) {dep : Nat → Nat} (hG : GoodD dep F.S) {m : Nat} (hm : runS F.S = m) (W : WayF dep F m (pathL 9 F.S 0)) {g : Nat} (hg : g < 6) :
    MovedP (entsS F.S (g : Nat)) (entsS (chargeH F.S t) (g : Nat)) (wantF F (pathL 9 F.S 0) g) t := by
  obtain ⟨x, hx, _⟩ := hK.herd.six g hg
  have e0 : chargeH F.S t = (walkS (fun st => st.cur) (fun st => chargeS st t) 9 F.S 0).1 := by
    unfold chargeH
    rw [if_neg (by omega), if_neg (by omega)]
  have hk := serve_is t0 9 (g := 0) hG g
  rw [← e0, hx] at hk
  have hs := hG.q g x hx
  have hents : entsS F.S (g : Nat) = x.q.es := (ents_at (F := F) (by omega) hx).1
  have hok : ∀ e ∈ x.q.es, OkS t e := fun e he => oks_of h hK hN t0 t1 hx he
  rw [hents]
  unfold wantF
  by_cases hp : g ∈ pathL 9 F.S 0
  · simp only [hp, if_true, Option.map_some] at hk
    have he' : entsS (chargeH F.S t) (g : Nat) = (chargeS x.q t).es := (ents_at (F := { F with S := chargeH F.S t }) (by omega) hk).1
    rw [he', if_pos hp, hx]
    simp only
    have hnm := W.named g hp x hx
    obtain ⟨f1, f2⟩ := find_of hnm
    have o := hok _ f1
    have hz : errCharge x.q t = 0 := by
      unfold errCharge
      rw [hnm]
      simp only [if_true]
      exact Vrun.cerr_in o.w.1 o.w.2 o.r.2 (by omega)
    obtain ⟨c1, c2⟩ := charge_es hz
    have hsv : Queue.served (find x.q.es x.q.cur) t = { find x.q.es x.q.cur with v := (find x.q.es x.q.cur).v + Vrun.cval (find x.q.es x.q.cur).wt (find x.q.es x.q.cur).rm t, rm := Vrun.crem (find x.q.es x.q.cur).wt (find x.q.es x.q.cur).rm t } := by
      have o1 := o.v
      have o2 := o.c
      have o3 : Fix.ends ((find x.q.es x.q.cur).v + Vrun.cval (find x.q.es x.q.cur).wt (find x.q.es x.q.cur).rm t) = (find x.q.es x.q.cur).v + Vrun.cval (find x.q.es x.q.cur).wt (find x.q.es x.q.cur).rm t := ends_in (by omega) (by omega)
      unfold Queue.served
      rw [o3]
    rw [c1]
    refine ⟨by rw [len_insE]; exact len_drop hs.once hnm, hs.few, ?_, fun e he => ?_, hok, fun e he => ?_⟩
    · have := (hs.charge t0).once
      rwa [c1] at this
    · unfold mvE
      by_cases hid : e.id = x.q.cur
      · rw [if_pos hid]
        have : e = find x.q.es x.q.cur := once_eq hs.once he f1 (by rw [hid, f2])
        rw [mem_insE, hsv, ← this]
        exact .inl rfl
      · rw [if_neg hid]
        exact mem_insE.2 (.inr (mem_drop.2 ⟨he, hid⟩))
    · rcases mem_insE.1 he with rfl | he
      · exact o.id0
      · exact (hok e (mem_drop.1 he).1).id0
  · simp only [hp, if_false, Option.map_some] at hk
    have he' : entsS (chargeH F.S t) (g : Nat) = x.q.es := (ents_at (F := { F with S := chargeH F.S t }) (by omega) hk).1
    rw [he', if_neg hp]
    refine ⟨rfl, hs.few, hs.once, fun e he => ?_, hok, fun e he => (hok e he).id0⟩
    unfold mvE
    have := (hok e he).id0
    rw [if_neg (by omega)]
    exact he
end Go.Proofs.YtnnjbonejbmgdaaGreat.Hr

/- The law's moved: are entities as they were, but one, who was served? Conditions: as each fact states them. -/
namespace Go.Proofs.YtnnjbonejbmgdaaGreat.Hr
open Go.ChangeShapes Go.WideShapes Go.ChangeAt Go.RowKit Tree Queue
set_option linter.unusedVariables false
set_option linter.unusedSimpArgs false
set_option maxRecDepth 100000

theorem may_ (x : Int) (w : World) (h1 : 2 ≤ x) (h2 : x ≤ 262144) : Calls Tryz.prog 116 #[.int .u64 x] w (fun e w' => e = .returned (.bool true) ∧ w' = w) := by
  go_enter Tryz.func116, Tryz.ntmps116
  go_wp2
  go_ret; exact ⟨by simp, rfl⟩
theorem docCharge_ (x r t : Int) (w : World) (h1 : 2 ≤ x) (h2 : x ≤ 262144) (r0 : 0 ≤ r) (r1 : r < x) (t0 : 0 ≤ t) (t1 : t ≤ 1000000000) :
    Calls Tryz.prog 65 #[.int .u64 x, .int .u64 r, .int .u64 t] w (Is (.tuple #[.int .i64 (Vrun.cval x r t), .int .u64 (Vrun.crem x r t), .int .i64 0]) w) := by
  rw [Vrun.cval_in h1 h2 r1 t1, Vrun.crem_in h1 h2 r1 t1]
  obtain ⟨q1, q2, q3, q4⟩ := Vrun.quot_bd h1 r1 r0 h2 t0 t1
  have d0 : (x == 0) = false := by simp; omega
  go_enter Tryz.func65, Tryz.ntmps65
  go_wp2_with (go_at_call 116; refine (may_ x _ h1 h2).mono ?_; rintro e w1 ⟨rfl, rfl⟩)
  go_quiet (fail)
  go_wp2
  go_ret3
  exact ⟨rfl, drawn _ _⟩
def MvI (n : Nat) (w : World) (left : Nat) (t : Value) (wr : World) : Prop := ∃ i : Nat, i ≤ n ∧ left = n - i ∧ t = .int .i64 i ∧ Below w.heap.size w wr
def MvK (es' : List Ent) (ei : Int) (w : World) (left : Nat) (t14 t15 : Value) (wr : World) : Prop := ∃ k : Nat, k ≤ es'.length ∧ left = es'.length - k ∧ t14 = .bool ((es'.take k).any (fun d => decide (d.id = ei))) ∧ t15 = .int .i64 k ∧ Below w.heap.size w wr
theorem put2 {a w2 : World} {B g : Nat} (h : Below B a w2) (hb : B ≤ g) (u2 u3 : Value) : Below B a ((w2.setCell ⟨g, 2, none⟩ u2).setCell ⟨g, 3, none⟩ u3) :=
  (h.setCell (p := ⟨g, 2, none⟩) hb u2).setCell (p := ⟨g, 3, none⟩) hb u3
set_option maxHeartbeats 16000000 in
theorem moved_ (w : World) (a b : Option Addr) (ca cb : Nat) (es es' : List Ent) (id t : Int) (P : MovedP es es' id t) (ha : Lst a es w) (hb : Lst b es' w) (t0 : 0 ≤ t) (t1 : t ≤ 100000000) :
    Calls Tryz.prog 25 #[.slice a es.length ca, .slice b es'.length cb, .int .i64 id, .int .u64 t] w (Is (.bool true) w) := by
  have HA := Lib.hid ha
  have HB := Lib.hid hb
  clear ha hb
  have HL2 := Lib.hid P.len
  rw [P.len]
  have few := P.few
  have HP := Lib.hid P
  clear P
  obtain ⟨n, hlen⟩ : ∃ n, es.length = n := ⟨_, rfl⟩
  rw [hlen] at HL2 few
  rw [hlen]
  have HL := Lib.hid hlen
  clear hlen
  have few2 : (n : Int) ≤ 128 := by omega
  go_enter Tryz.func25, Tryz.ntmps25
  go_wp2_with fail
  go_loopg [9] n (fun left t9 wr => MvI n w left t9 wr)
  case atStart => exact ⟨0, by omega, by omega, rfl, Below.refl _ _⟩
  case round =>
    obtain ⟨i, hi, rfl, rfl, hg⟩ := hrel
    by_cases hlt : i < n
    · have q1 : (i : Int) < n := by omega
      obtain ⟨e, he⟩ : ∃ e, es[i]? = some e := ⟨_, List.getElem?_eq_getElem (by have := HL.out; omega)⟩
      obtain ⟨ga, rfl, hga, a0, a1, a2, a3⟩ := (HA.out.fresh hg) i e he
      have hem := List.mem_of_getElem? he
      have hmem := HP.out.there e hem
      obtain ⟨⟨i0, i1⟩, ⟨w0, w1⟩, ⟨r0, r1⟩, ⟨v0, v1⟩, ⟨k0, k1⟩, ⟨m0, m1⟩⟩ := HP.out.ok e hem
      obtain ⟨ei, ew, ev, er⟩ := e
      simp only at a0 a1 a2 a3 i0 i1 w0 w1 r0 r1 v0 v1 k0 k1 m0 m1
      clear he hem
      have nz := heap_alloc_new wr (.cells #[.int .i64 ei, .int .u64 ew, .int .i64 ev, .int .u64 er] 34 (0, 0))
      have gz := alloc1 wr (.cells #[.int .i64 ei, .int .u64 ew, .int .i64 ev, .int .u64 er] 34)
      by_cases hid : ei = id
      · have hidB : (ei == id) = true := by simpa using hid
        unfold mvE at hmem
        simp only [hid, if_true] at hmem
        subst hid
        have C := Lib.hid (fun W => docCharge_ ew er t W w0 w1 r0 r1 t0 (by omega))
        generalize Vrun.cval ew er t = cv at *
        generalize Vrun.crem ew er t = cm at *
        have HN := Lib.hid nz
        have HG := Lib.hid (ft hg gz)
        have HH := Lib.hid hg
        clear nz gz
        go_wp2_with fail
        go_at_call 65; refine (C.out _).mono ?_; rintro x w3 ⟨rfl, hg3⟩
        have nz := Mem.box_fresh HN.out hg3
        have hz : ((w3.setCell ⟨wr.heap.size, 2, none⟩ (.int .i64 (ev + cv))).setCell ⟨wr.heap.size, 3, none⟩ (.int .u64 cm)).heap[wr.heap.size]? = some (.cells #[.int .i64 ei, .int .u64 ew, .int .i64 (ev + cv), .int .u64 cm] 34 (0, 0)) := Mem.set_block (Mem.set_block nz 2 _) 3 _
        have hwz : Below w.heap.size w ((w3.setCell ⟨wr.heap.size, 2, none⟩ (.int .i64 (ev + cv))).setCell ⟨wr.heap.size, 3, none⟩ (.int .u64 cm)) := put2 (ft HG.out hg3) HH.out.size _ _
        obtain ⟨p0, p1, p2, p3, pf⟩ := Mem.four nz
        clear nz HN HG hg3 C
        go_wp2_with fail
        generalize ((w3.setCell ⟨wr.heap.size, 2, none⟩ (.int .i64 (ev + cv))).setCell ⟨wr.heap.size, 3, none⟩ (.int .u64 cm)) = Wz at *
        generalize wr.heap.size = zz at *
        have HZ := Lib.hid (fun W (hw : Below Wz.heap.size Wz W) => Mem.box_fresh hz hw)
        have HWZ := Lib.hid hwz
        have TH := Lib.hid (show (⟨ei, ew, (ev + cv), cm⟩ : Ent) ∈ es' from hmem)
        have K0 : Hid (MvK es' ei Wz es'.length (.bool false) (.int .i64 0) Wz) := Lib.hid ⟨0, by omega, by omega, by simp, rfl, Below.refl _ _⟩
        clear hz hwz hmem
        go_wp2_with fail
        go_loopg [14, 15] es'.length (fun left t14 t15 wk => MvK es' ei Wz left t14 t15 wk)
        case atStart => exact K0.out
        case round =>
          clear K0
          obtain ⟨k, hk, rfl, rfl, rfl, hgk⟩ := hrel
          by_cases hlk : k < es'.length
          · have s1 : (k : Int) < n := by have := HL2.out; omega
            obtain ⟨d, hd⟩ : ∃ d, es'[k]? = some d := ⟨_, List.getElem?_eq_getElem hlk⟩
            obtain ⟨gg, rfl, hgg, b0, b1, b2', b3⟩ := (HB.out.fresh (ft HWZ.out hgk)) k d hd
            obtain ⟨z0, z1, z2, z3, zf⟩ := Mem.four (HZ.out _ hgk)
            have ta : (es'.take (k + 1)).any (fun d => decide (d.id = ei)) = ((es'.take k).any (fun d => decide (d.id = ei)) || decide (d.id = ei)) := by
              rw [List.take_add_one, hd, List.any_append]; simp
            have NX := Lib.hid (fun (q : Bool) W (hq : q = ((es'.take k).any (fun d => decide (d.id = ei)) || decide (d.id = ei))) (hw : Below wr.heap.size wr W) => (show MvK es' ei Wz (es'.length - (k + 1)) (.bool q) (.int .i64 ((k : Int) + 1)) W from ⟨k + 1, by omega, rfl, by rw [ta, hq], by go_num, ft hgk hw⟩))
            clear ta
            cases hf : (es'.take k).any (fun d => decide (d.id = ei))
            · rw [hf] at NX
              by_cases hde : d.id = ei
              · have hdd : d = ⟨ei, ew, (ev + cv), cm⟩ := once_eq HP.out.once (List.mem_of_getElem? hd) TH.out hde
                have N := Lib.hid (fun W hw => NX.out true W (by simp [hde]) hw)
                subst hdd
                simp only at b0 b1 b2' b3
                clear NX hd hde
                go_wp2_with fail
                go_quiet (fail)
                go_wp2_with fail
                go_roundg (es'.length - (k + 1))
                case measure => omega
                case rel => exact N.out _ (drawn _ nq)
              · have N := Lib.hid (fun W hw => NX.out false W (by simp [hde]) hw)
                obtain ⟨di, dw, dv, dr⟩ := d
                simp only at b0 b1 b2' b3 hde
                have hde2 : (di == ei) = false := by simpa using hde
                clear NX hd
                go_wp2_with fail
                go_quiet (fail)
                go_wp2_with fail
                go_roundg (es'.length - (k + 1))
                case measure => omega
                case rel => exact N.out _ (drawn _ nq)
            · rw [hf] at NX
              have N := Lib.hid (fun W hw => NX.out true W (by simp) hw)
              clear NX hd
              go_wp2_with fail
              go_quiet (fail)
              go_wp2_with fail
              go_roundg (es'.length - (k + 1))
              case measure => omega
              case rel => exact N.out _ (drawn _ nq)
          · obtain rfl : k = es'.length := by omega
            have s1 : ¬ (es'.length : Int) < n := by have := HL2.out; omega
            have hall : (es'.take es'.length).any (fun d => decide (d.id = ei)) = true := by
              rw [List.take_length, List.any_eq_true]
              exact ⟨_, TH.out, by simp⟩
            rw [hall]
            have N := Lib.hid (show MvI n w (n - (i + 1)) (.int .i64 ((i : Int) + 1)) wr from ⟨i + 1, by omega, rfl, by go_num, ft HWZ.out hgk⟩)
            clear hall
            go_wp2_with fail
            go_roundg (n - (i + 1))
            case measure => omega
            case rel => exact N.out
      · have hidB : (ei == id) = false := by simpa using hid
        unfold mvE at hmem
        simp only [hid, if_false] at hmem
        have hz := nz
        have hwz := ft hg gz
        clear nz gz
        go_wp2_with fail
        generalize (wr.alloc (.cells #[.int .i64 ei, .int .u64 ew, .int .i64 ev, .int .u64 er] 34)) = Wz at *
        generalize wr.heap.size = zz at *
        have HZ := Lib.hid (fun W (hw : Below Wz.heap.size Wz W) => Mem.box_fresh hz hw)
        have HWZ := Lib.hid hwz
        have TH := Lib.hid (show (⟨ei, ew, ev, er⟩ : Ent) ∈ es' from hmem)
        have K0 : Hid (MvK es' ei Wz es'.length (.bool false) (.int .i64 0) Wz) := Lib.hid ⟨0, by omega, by omega, by simp, rfl, Below.refl _ _⟩
        clear hz hwz hmem
        go_wp2_with fail
        go_loopg [14, 15] es'.length (fun left t14 t15 wk => MvK es' ei Wz left t14 t15 wk)
        case atStart => exact K0.out
        case round =>
          clear K0
          obtain ⟨k, hk, rfl, rfl, rfl, hgk⟩ := hrel
          by_cases hlk : k < es'.length
          · have s1 : (k : Int) < n := by have := HL2.out; omega
            obtain ⟨d, hd⟩ : ∃ d, es'[k]? = some d := ⟨_, List.getElem?_eq_getElem hlk⟩
            obtain ⟨gg, rfl, hgg, b0, b1, b2', b3⟩ := (HB.out.fresh (ft HWZ.out hgk)) k d hd
            obtain ⟨z0, z1, z2, z3, zf⟩ := Mem.four (HZ.out _ hgk)
            have ta : (es'.take (k + 1)).any (fun d => decide (d.id = ei)) = ((es'.take k).any (fun d => decide (d.id = ei)) || decide (d.id = ei)) := by
              rw [List.take_add_one, hd, List.any_append]; simp
            have NX := Lib.hid (fun (q : Bool) W (hq : q = ((es'.take k).any (fun d => decide (d.id = ei)) || decide (d.id = ei))) (hw : Below wr.heap.size wr W) => (show MvK es' ei Wz (es'.length - (k + 1)) (.bool q) (.int .i64 ((k : Int) + 1)) W from ⟨k + 1, by omega, rfl, by rw [ta, hq], by go_num, ft hgk hw⟩))
            clear ta
            cases hf : (es'.take k).any (fun d => decide (d.id = ei))
            · rw [hf] at NX
              by_cases hde : d.id = ei
              · have hdd : d = ⟨ei, ew, ev, er⟩ := once_eq HP.out.once (List.mem_of_getElem? hd) TH.out hde
                have N := Lib.hid (fun W hw => NX.out true W (by simp [hde]) hw)
                subst hdd
                simp only at b0 b1 b2' b3
                clear NX hd hde
                go_wp2_with fail
                go_quiet (fail)
                go_wp2_with fail
                go_roundg (es'.length - (k + 1))
                case measure => omega
                case rel => exact N.out _ (drawn _ nq)
              · have N := Lib.hid (fun W hw => NX.out false W (by simp [hde]) hw)
                obtain ⟨di, dw, dv, dr⟩ := d
                simp only at b0 b1 b2' b3 hde
                have hde2 : (di == ei) = false := by simpa using hde
                clear NX hd
                go_wp2_with fail
                go_quiet (fail)
                go_wp2_with fail
                go_roundg (es'.length - (k + 1))
                case measure => omega
                case rel => exact N.out _ (drawn _ nq)
            · rw [hf] at NX
              have N := Lib.hid (fun W hw => NX.out true W (by simp) hw)
              clear NX hd
              go_wp2_with fail
              go_quiet (fail)
              go_wp2_with fail
              go_roundg (es'.length - (k + 1))
              case measure => omega
              case rel => exact N.out _ (drawn _ nq)
          · obtain rfl : k = es'.length := by omega
            have s1 : ¬ (es'.length : Int) < n := by have := HL2.out; omega
            have hall : (es'.take es'.length).any (fun d => decide (d.id = ei)) = true := by
              rw [List.take_length, List.any_eq_true]
              exact ⟨_, TH.out, by simp⟩
            rw [hall]
            have N := Lib.hid (show MvI n w (n - (i + 1)) (.int .i64 ((i : Int) + 1)) wr from ⟨i + 1, by omega, rfl, by go_num, ft HWZ.out hgk⟩)
            clear hall
            go_wp2_with fail
            go_roundg (n - (i + 1))
            case measure => omega
            case rel => exact N.out
    · obtain rfl : i = n := by omega
      have q1 : ¬ (i : Int) < i := by omega
      have HG := Lib.hid hg
      clear hg
      go_wp2_with fail
      go_ret
      exact ⟨rfl, HG.out⟩
end Go.Proofs.YtnnjbonejbmgdaaGreat.Hr

/- The walk of HierServes. Conditions: each number is one of its kind, the list can be read. -/
namespace Go.Proofs.YtnnjbonejbmgdaaGreat.Hr
open Go.ChangeShapes Go.WideShapes Go.ChangeAt Go.RowKit Tree Queue
set_option linter.unusedVariables false
set_option linter.unusedSimpArgs false
set_option maxRecDepth 100000

theorem lst_away {ao : Option Addr} {es : List Ent} {w : World} (h : Lst ao es w) {z : Nat} (hne : ∀ g, ao = some ⟨g, 0, none⟩ → g ≠ z) (i : Nat) (u : Value) : Lst ao es (w.setCell ⟨z, i, none⟩ u) := by
  intro j e he
  obtain ⟨g, h1, h2, h3, h4, h5, h6⟩ := h j e he
  have key : ∀ o, (w.setCell ⟨z, i, none⟩ u).cell? ⟨g, o, none⟩ = w.cell? ⟨g, o, none⟩ := fun o => World.cell?_of_block (Below.heap_setCell _ _ _ _ (hne g h1))
  refine ⟨g, h1, by simpa [World.setCell] using h2, ?_, ?_, ?_, ?_⟩
  all_goals rw [key]; assumption
theorem lst_same {ao : Option Addr} {es : List Ent} {O : Nat → Prop} {w w' : World} (h : Lst ao es w) (hs : Same O w w') (hO : ∀ g, ao = some ⟨g, 0, none⟩ → g < w.heap.size → O g) : Lst ao es w' := by
  intro j e he
  obtain ⟨g, h1, h2, h3, h4, h5, h6⟩ := h j e he
  have key : ∀ o, w'.cell? ⟨g, o, none⟩ = w.cell? ⟨g, o, none⟩ := fun o => World.cell?_of_block (hs.block g (hO g h1 h2))
  refine ⟨g, h1, Nat.lt_of_lt_of_le h2 hs.size, ?_, ?_, ?_, ?_⟩
  all_goals rw [key]; assumption
/-- What each queue held: a box of six slices. -/
structure WasB (w : World) (z : Nat) (S : Hs) (g : Nat) (vs : List Value) : Prop where
  len : vs.length = 6
  blk : w.heap[z]? = some (.cells vs.toArray 64 (0, 0))
  row : ∀ j, j < g → ∃ ao cap, vs[j]? = some (.slice ao (entsS S (j : Nat)).length cap) ∧ Lst ao (entsS S (j : Nat)) w ∧ ∀ k, ao = some ⟨k, 0, none⟩ → z < k
theorem WasB.fresh {w w' : World} {z : Nat} {S : Hs} {g : Nat} {vs : List Value} (h : WasB w z S g vs) (hg : Below w.heap.size w w') : WasB w' z S g vs :=
  ⟨h.len, Mem.box_fresh h.blk hg, fun j hj => by obtain ⟨ao, cap, h1, h2, h3⟩ := h.row j hj; exact ⟨ao, cap, h1, h2.fresh hg, h3⟩⟩
theorem WasB.put {w : World} {z : Nat} {S : Hs} {g : Nat} {vs : List Value} (h : WasB w z S g vs) (h6 : g < 6) {ao : Option Addr} {cap : Nat} (hl : Lst ao (entsS S (g : Nat)) w) (hz : ∀ k, ao = some ⟨k, 0, none⟩ → z < k) :
    WasB (w.setCell ⟨z, g, none⟩ (.slice ao (entsS S (g : Nat)).length cap)) z S (g + 1) (vs.set g (.slice ao (entsS S (g : Nat)).length cap)) := by
  refine ⟨by rw [List.length_set]; exact h.len, ?_, fun j hj => ?_⟩
  · rw [Mem.set_block h.blk]; simp
  · by_cases e : j = g
    · subst e
      exact ⟨ao, cap, by rw [List.getElem?_set_self (by rw [h.len]; exact h6)], lst_away hl (fun k hk => by have := hz k hk; omega) _ _, hz⟩
    · obtain ⟨ao', cap', h1, h2, h3⟩ := h.row j (by omega)
      exact ⟨ao', cap', by rw [List.getElem?_set_ne (Ne.symm e)]; exact h1, lst_away h2 (fun k hk => by have := h3 k hk; omega) _ _, h3⟩
theorem WasB.at_ {w : World} {z : Nat} {S : Hs} {g : Nat} {vs : List Value} (h : WasB w z S g vs) {j : Nat} {v : Value} (hj : vs[j]? = some v) : w.cell? ⟨z, j, none⟩ = some v := by
  rw [cell_of_row w z _ _ _ _ h.blk]; simpa using hj
/-- A box of six numbers. -/
def six (f : Nat → Int) : Array Value := #[.int .i64 (f 0), .int .i64 (f 1), .int .i64 (f 2), .int .i64 (f 3), .int .i64 (f 4), .int .i64 (f 5)]
def WantB (w : World) (y : Nat) (f : Nat → Int) : Prop := w.heap[y]? = some (.cells (six f) 67 (0, 0))
theorem six_set {f f' : Nat → Int} {g : Nat} (hg : g < 6) {v : Int} (h0 : f' g = v) (h : ∀ k, k < 6 → k ≠ g → f' k = f k) : (six f).setIfInBounds g (.int .i64 v) = six f' := by
  have key : g = 0 ∨ g = 1 ∨ g = 2 ∨ g = 3 ∨ g = 4 ∨ g = 5 := by omega
  unfold six
  rcases key with rfl | rfl | rfl | rfl | rfl | rfl <;> simp [h0, h]
theorem WantB.put {w : World} {y : Nat} {f f' : Nat → Int} (H : WantB w y f) {g : Nat} (hg : g < 6) {v : Int} (h0 : f' g = v) (h : ∀ k, k < 6 → k ≠ g → f' k = f k) : WantB (w.setCell ⟨y, g, none⟩ (.int .i64 v)) y f' := by
  unfold WantB at *
  rw [Mem.set_block H, six_set hg h0 h]
theorem WantB.at_ {w : World} {y : Nat} {f : Nat → Int} (H : WantB w y f) {g : Nat} (hg : g < 6) : w.cell? ⟨y, g, none⟩ = some (.int .i64 (f g)) := by
  rw [cell_of_row w y _ _ _ _ H]
  have key : g = 0 ∨ g = 1 ∨ g = 2 ∨ g = 3 ∨ g = 4 ∨ g = 5 := by omega
  unfold six
  rcases key with rfl | rfl | rfl | rfl | rfl | rfl <;> rfl
def SvD (w5 : World) (y : Nat) (left : Nat) (t : Value) (wr : World) : Prop := ∃ g : Nat, g ≤ 6 ∧ left = 6 - g ∧ t = .int .i64 g ∧ Below w5.heap.size w5 wr ∧ WantB wr y (fun k => if k < g then -1 else 0)
def SvE (w5 : World) (y : Nat) (F : Fm) (L : List Nat) (dep : Nat → Nat) (left : Nat) (t17 t18 : Value) (wr : World) : Prop := ∃ g : Nat, g ∈ L ∧ left = dep g ∧ t17 = .int .i64 (wantF F L g) ∧ t18 = .int .i64 g ∧ Below w5.heap.size w5 wr ∧ WantB wr y (fun k => if dep g < dep k then wantF F L k else -1)
def SvF (w5 : World) (y : Nat) (F : Fm) (L : List Nat) (left : Nat) (t19 : Value) (wr : World) : Prop := ∃ g : Nat, g ≤ 6 ∧ left = 6 - g ∧ t19 = .int .i64 g ∧ Below w5.heap.size w5 wr ∧ WantB wr y (wantF F L)
theorem want_off {F : Fm} {L : List Nat} {k : Nat} (h : k ∉ L) : wantF F L k = -1 := if_neg h
theorem cell_keep {w w' : World} {p : Addr} {v : Value} (h : w.cell? p = some v) (hg : Below w.heap.size w w') : w'.cell? p = some v := (hg.cell (World.block_lt_of_cell? _ _ h)).trans h
def SvL (w1 : World) (b h : Nat) (left : Nat) (t : Value) (wr : World) : Prop := ∃ (i : Nat) (F : Fm), i ≤ 60 ∧ left = 60 - i ∧ t = .int .i64 i ∧ Hok F ∧ Nf F (20 * (i : Int)) ∧ Fw w1 b h (· < w1.heap.size) F wr
def SvW (W2 : World) (z : Nat) (S : Hs) (left : Nat) (t : Value) (wr : World) : Prop := ∃ (g : Nat) (vs : List Value), g ≤ 6 ∧ left = 6 - g ∧ t = .int .i64 g ∧ Below W2.heap.size W2 wr ∧ WasB wr z S g vs
set_option maxHeartbeats 8000000 in
theorem servesLaw (a b c q : Int) (u : Option Addr) (len cap : Nat) (w : World) (ha : 0 ≤ a ∧ a ≤ 65535) (hb : 0 ≤ b ∧ b ≤ 65535) (hc : 0 ≤ c ∧ c ≤ 65535) (hq0 : 0 ≤ q ∧ q ≤ 4294967295) (hl : len ≤ 9223372036854775807) (hW : WorksL u len w) :
    Calls Tryz.prog 6 #[.agg #[.int .u16 a, .int .u16 b, .int .u16 c], .slice u len cap, .int .u32 q] w (IsTrue w) := by
  have hA := heap_alloc_new w (.cells #[.int .u16 a, .int .u16 b, .int .u16 c] 47)
  have gA := alloc1 w (.cells #[.int .u16 a, .int .u16 b, .int .u16 c] 47)
  replace hW := Lib.hid hW
  have AW := Lib.hid (fun X => awake X)
  have BG := Lib.hid (fun X => begun X a b c ha hb hc)
  go_enter Tryz.func6, Tryz.ntmps6
  go_wp2_with fail
  refine (AW.out _).mono ?_
  rintro e w1 ⟨rfl, hg1⟩
  replace hA := (hg1.block _ (lt_of hA)).trans hA
  have hgw := ft gA hg1
  replace hW := Lib.hid (hW.out.fresh hgw)
  have a0 : w1.cell? ⟨w.heap.size, 0, none⟩ = some (.int .u16 a) := by rw [cell_of_row w1 _ _ _ _ _ hA]; rfl
  have a1 : w1.cell? ⟨w.heap.size, 1, none⟩ = some (.int .u16 b) := by rw [cell_of_row w1 _ _ _ _ _ hA]; rfl
  have a2 : w1.cell? ⟨w.heap.size, 2, none⟩ = some (.int .u16 c) := by rw [cell_of_row w1 _ _ _ _ _ hA]; rfl
  clear hg1 gA hA AW
  go_wp2_with fail
  refine (BG.out _).mono ?_
  rintro e w2 ⟨fb, h, hfb, rfl, hF⟩
  have R0 : Hid (SvL w1 fb h 60 (.int .i64 0) w2) := Lib.hid ⟨0, _, by omega, rfl, rfl, bgF_hok ha hb hc, by simpa using bgF_near ha hb hc, hF⟩
  clear hF a0 a1 a2 BG
  go_wp2_with fail
  go_loopg [9] 60 (fun left t9 wr => SvL w1 fb h left t9 wr)
  case atStart => exact R0.out
  case round =>
    clear R0
    obtain ⟨i, F, hi, rfl, rfl, hK, hNf, hQ⟩ := hrel
    have hbw := Lib.hid (ft hgw hQ.same.below)
    by_cases hlt : i < len ∧ i < 60
    · obtain ⟨h1, h2⟩ := hlt
      have q1 : (i : Int) < len := by omega
      have q2 : (i : Int) < 60 := by omega
      obtain ⟨kb, off, rfl, hkb, x, hx, c0, c1, c2, c3, c4⟩ := (hW.out.fresh hQ.same.below) i h1
      have WK := Lib.hid (works w1 wr fb h (· < w1.heap.size) F hQ hK.ok x hx.1 hx.2)
      have hK1 := workF_hok hK x hx.2.1
      have hN1 := workF_near hNf hK x hx.1.1 hx.2.1 (by omega)
      have NX := Lib.hid (fun X (K : Fw w1 fb h (· < w1.heap.size) (workF F x) X) => (show SvL w1 fb h (60 - (i + 1)) (.int .i64 ((i : Int) + 1)) X from ⟨i + 1, workF F x, by omega, by omega, by go_num, hK1, by rw [show (20 * ((i + 1 : Nat) : Int)) = 20 * (i : Int) + 20 by omega]; exact hN1, K⟩))
      simp only [Wk.cells] at WK
      clear hK hQ hx hNf hK1 hN1
      generalize workF F x = F1 at *
      go_wp2_with fail
      refine WK.out.mono ?_
      rintro e w3 ⟨rfl, hQ3⟩
      have N := Lib.hid (NX.out _ hQ3)
      clear WK c0 c1 c2 c3 c4 NX hQ3
      go_wp2_with fail
      go_roundg (60 - (i + 1))
      case measure => omega
      case rel => exact N.out
    · have RU := Lib.hid ((Lrunning hQ.que hK.ok.fine.good).mono fun _ _ D => hQ.did D)
      have hcond : ((i : Int) < len ∧ ¬ (i : Int) < 60) ∨ ¬ ((i : Int) < len) := by omega
      obtain ⟨l0, l41, l42, l43, lf⟩ := hQ.box.cells
      clear hQ hlt
      rcases hcond with ⟨q1, q2⟩ | q1
      all_goals
        go_wp2_with fail
        go_at_call 17; refine RU.out.mono ?_; rintro e w3 ⟨rfl, hQ3⟩
        have hS3 := hQ3.same
        have hB3 := hQ3.box
        obtain ⟨⟨bb, qb, HB0⟩, hlt3⟩ := hQ3.que
        have HB2 : Hid (Hb w3 h (fun k => (k < w1.heap.size ∨ k = fb) ∨ w3.heap.size ≤ k) bb qb F.S) := Lib.hid (HB0.other (fun k hk => hk))
        have hz3 : w1.heap.size ≤ w3.heap.size := hS3.size
        have BX := Lib.hid hB3
        have SM := Lib.hid hS3
        have fbl := hB3.lt
        clear hQ3 HB0 hlt3 hS3 hB3 RU l0 l41 l42 l43 lf
        obtain ⟨dep, hG⟩ := hK.ok.fine.good
        have hSo := Lib.hid hG.q
        have RI := Lib.hid (way_is hK hG)
        have HGood := Lib.hid hG
        clear hG
        generalize hr : runS F.S = rn at *
        have HR := Lib.hid hr
        clear hr
        have nz := heap_alloc_new w3 (.cells #[.slice none 0 0, .slice none 0 0, .slice none 0 0, .slice none 0 0, .slice none 0 0, .slice none 0 0] 64 (0, 0))
        have I0 : Hid (SvW w3 w3.heap.size F.S 6 (.int .i64 0) (w3.alloc (.cells #[.slice none 0 0, .slice none 0 0, .slice none 0 0, .slice none 0 0, .slice none 0 0, .slice none 0 0] 64))) := Lib.hid ⟨0, _, by omega, rfl, rfl, alloc1 w3 _, ⟨rfl, nz, fun j hj => by omega⟩⟩
        clear nz
        go_wp2_with fail
        generalize (w3.alloc (.cells #[.slice none 0 0, .slice none 0 0, .slice none 0 0, .slice none 0 0, .slice none 0 0, .slice none 0 0] 64)) = w4 at *
        generalize hzz : w3.heap.size = z at *
        go_loopg [12] 6 (fun left t12 wx => SvW w3 z F.S left t12 wx)
        case atStart => exact I0.out
        case round =>
          clear I0
          obtain ⟨g, vs, hg6, rfl, rfl, hg4, hWs⟩ := hrel
          obtain ⟨m0, m41, m42, m43, mf⟩ := (BX.out.fresh hg4).cells
          by_cases hlt2 : g < 6
          · have r1 : (g : Int) ≤ 5 := by omega
            have r2 : 0 ≤ (g : Int) := by omega
            have EN := Lib.hid (ents_ wr h _ bb qb F.S (HB2.out.fresh hg4) hSo.out g)
            have HWs := Lib.hid hWs
            have hzl := lt_of hWs.blk
            have PW := Lib.hid (fun W (hw : Below wr.heap.size wr W) ao cap (hl : Lst ao (entsS F.S (g : Nat)) W) (hzz : ∀ k, ao = some ⟨k, 0, none⟩ → z < k) =>
              (show SvW w3 z F.S (6 - (g + 1)) (.int .i64 ((g : Int) + 1)) (W.setCell ⟨z, g, none⟩ (.slice ao (entsS F.S (g : Nat)).length cap)) from
                ⟨g + 1, _, by omega, rfl, by go_num, (ft hg4 hw).setCell (p := ⟨z, g, none⟩) (by simp only; omega) _, (HWs.out.fresh hw).put hlt2 hl hzz⟩))
            obtain ⟨v0, hv0⟩ : ∃ v0, vs[g]? = some v0 := ⟨_, List.getElem?_eq_getElem (by rw [hWs.len]; exact hlt2)⟩
            have cz := hWs.at_ hv0
            clear hWs
            generalize entsS F.S (g : Nat) = es at *
            go_wp2_with fail
            go_at_call 18; refine EN.out.mono ?_; rintro e w5 ⟨lv, rfl, hr, hg5⟩
            obtain ⟨ao, cp, rfl, hao, hcp⟩ := hr.shape
            have N := Lib.hid (PW.out w5 hg5 ao cp (Row.lst hr rfl) (fun k hk => by
              have := hr.2 k (by rw [hk]; rfl)
              omega))
            have cz5 := (hg5.cell (p := ⟨z, g, none⟩) hzl).trans cz
            have fz5 : ∀ j, w5.frozen? ⟨z, j, none⟩ = false := fun j => frozen_of_row w5 z j _ _ (Mem.box_fresh HWs.out.blk hg5)
            clear hr hao hcp EN PW HWs cz m0 m41 m42 m43 mf
            go_wp2_with fail
            go_roundg (6 - (g + 1))
            case measure => omega
            case rel => exact N.out
          · obtain rfl : g = 6 := by omega
            have r1 : ¬ ((6 : Nat) : Int) ≤ 5 := by omega
            have t0 : 0 ≤ q % 100000000 := Int.emod_nonneg _ (by omega)
            have t1 : q % 100000000 ≤ 99999999 := by have := Int.emod_lt_of_pos q (show (0 : Int) < 100000000 by omega); omega
            obtain ⟨t, ht⟩ : ∃ t, q % 100000000 = t := ⟨_, rfl⟩
            rw [ht] at t0 t1
            have hzs := hg4.size
            have hL : Lw h (fun k => (k < w1.heap.size ∨ k = fb) ∨ (z ≤ k ∧ k < wr.heap.size)) F.S wr :=
              ⟨⟨bb, qb, (HB2.out.fresh hg4).other (fun k hk => .inl (hk.imp id (fun h => h.1)))⟩, fun k hk => by rcases hk with (hk | hk) | hk <;> omega⟩
            have CH := Lib.hid (Lcharge hL ⟨dep, HGood.out⟩ t t0)
            clear hL
            have HG4 := Lib.hid hg4
            have HWs := Lib.hid hWs
            rcases RI.out with hm | ⟨m, hm, WF⟩
            · have he : errChargeH F.S t = 7 := by unfold errChargeH; rw [HR.out, if_pos hm]
              rw [he] at CH
              subst hm
              clear he hWs hg4
              go_wp2_with fail
              go_at_call 22; refine CH.out.mono ?_; rintro e w5 ⟨rfl, _, s5⟩
              have FIN := Lib.hid (hgw.trans ((((SM.out.below).trans (HG4.out.mono (by omega))).trans ((s5.mono (fun k hk => .inl (.inl hk)) : Same (· < w1.heap.size) wr w5).below)).mono hgw.size))
              clear s5 CH
              go_wp2_with fail
              go_ret
              exact ⟨rfl, FIN.out⟩
            · have he : errChargeH F.S t = 0 := by unfold errChargeH; rw [HR.out, if_neg (by omega), if_neg (by omega)]
              rw [he] at CH
              have hrm : runS F.S = m := by rw [HR.out, hm]
              have MV := Lib.hid (fun g (hg : g < 6) => moved_at hNf hK (by omega) t0 (by omega) HGood.out hrm WF hg)
              have RC := Lib.hid (show runS (chargeH F.S t) = m from by rw [runS_charge ⟨dep, HGood.out⟩ t0, hrm])
              have HW := Lib.hid WF
              have hm8 := WF.m8
              subst hm
              have m1 : ¬ (m : Int) < 0 := by omega
              have m2 : ¬ 7 < (m : Int) := by omega
              clear he hWs hg4 WF hrm
              go_wp2_with fail
              go_at_call 22; refine CH.out.mono ?_; rintro e w5 ⟨rfl, L5, s5⟩
              have BX5 := Lib.hid ((BX.out.fresh HG4.out).on (s5.block fb (.inl (.inr rfl))))
              have WS5 : Hid (WasB w5 z F.S 6 vs) := Lib.hid ⟨HWs.out.len, (s5.block z (.inr ⟨Nat.le_refl _, lt_of HWs.out.blk⟩)).trans HWs.out.blk, fun j hj => by
                obtain ⟨ao, cap, h1, h2, h3⟩ := HWs.out.row j hj
                exact ⟨ao, cap, h1, lst_same h2 s5 (fun g hg hgl => .inr ⟨by have := h3 g hg; omega, hgl⟩), h3⟩⟩
              have F5 := Lib.hid (hgw.trans ((((SM.out.below).trans (HG4.out.mono (by omega))).trans ((s5.mono (fun k hk => .inl (.inl hk)) : Same (· < w1.heap.size) wr w5).below)).mono hgw.size))
              have LL5 := Lib.hid L5
              clear CH HWs s5 L5 BX SM HB2 HG4 RI hSo hzs
              have nz := heap_alloc_new w5 (.cells #[.int .i64 0, .int .i64 0, .int .i64 0, .int .i64 0, .int .i64 0, .int .i64 0] 67 (0, 0))
              have D0 : Hid (SvD w5 w5.heap.size 6 (.int .i64 0) (w5.alloc (.cells #[.int .i64 0, .int .i64 0, .int .i64 0, .int .i64 0, .int .i64 0, .int .i64 0] 67))) := Lib.hid ⟨0, by omega, rfl, rfl, alloc1 w5 _, nz⟩
              clear nz
              go_wp2_with fail
              generalize (w5.alloc (.cells #[.int .i64 0, .int .i64 0, .int .i64 0, .int .i64 0, .int .i64 0, .int .i64 0] 67)) = w6 at *
              generalize hyy : w5.heap.size = y at *
              go_loopg [16] 6 (fun left t16 wx => SvD w5 y left t16 wx)
              case atStart => exact D0.out
              case round =>
                clear D0
                obtain ⟨g, hg6, rfl, rfl, hg7, hWn⟩ := hrel
                by_cases hlt2 : g < 6
                · have r1' : (g : Int) ≤ 5 := by omega
                  have r2' : 0 ≤ (g : Int) := by omega
                  have N := Lib.hid (show SvD w5 y (6 - (g + 1)) (.int .i64 ((g : Int) + 1)) (wr.setCell ⟨y, g, none⟩ (.int .i64 (-1))) from ⟨g + 1, by omega, rfl, by go_num, hg7.setCell (p := ⟨y, g, none⟩) (by simp only; omega) _, hWn.put hlt2 (by simp) (fun k hk hne => by split <;> split <;> (try omega) <;> rfl)⟩)
                  have cz := hWn.at_ hlt2
                  have fz : ∀ j, wr.frozen? ⟨y, j, none⟩ = false := fun j => frozen_of_row wr y j _ _ hWn
                  clear hWn hg7
                  go_wp2_with fail
                  go_roundg (6 - (g + 1))
                  case measure => omega
                  case rel => exact N.out
                · obtain rfl : g = 6 := by omega
                  have r1' : ¬ ((6 : Nat) : Int) ≤ 5 := by omega
                  have WS := HW.out
                  have wl : wantF F (pathL 9 F.S 0) (homeN m) = 2 * (m : Int) := by
                    unfold wantF
                    rw [if_pos WS.last]
                    obtain ⟨x, hx, _⟩ := hK.herd.six (homeN m) (home_lt m)
                    rw [hx]
                    exact WS.cur x hx
                  have E0 : Hid (SvE w5 y F (pathL 9 F.S 0) dep (dep (homeN m)) (.int .i64 (2 * (m : Int))) (.int .i64 (homeN m)) wr) := Lib.hid ⟨homeN m, WS.last, rfl, by rw [wl], rfl, hg7, by
                    unfold WantB at *
                    rw [hWn]
                    have key : ∀ k, k < 6 → (if k < 6 then (-1 : Int) else 0) = (if dep (homeN m) < dep k then wantF F (pathL 9 F.S 0) k else -1) := fun k hk => by
                      rw [if_pos hk]
                      split
                      · rw [want_off]; intro hkL; have := WS.most k hkL; omega
                      · rfl
                    unfold six
                    simp only [key 0 (by omega), key 1 (by omega), key 2 (by omega), key 3 (by omega), key 4 (by omega), key 5 (by omega)]⟩
                  have HM := Lib.hid (fun X => homes m hm8 X)
                  clear wl WS
                  clear hWn hg7
                  go_wp2_with (go_at_call 23; refine (HM.out _).mono ?_; rintro e w8 ⟨rfl, hg8⟩)
                  have E1 : Hid (SvE w5 y F (pathL 9 F.S 0) dep (dep (homeN m)) (.int .i64 (2 * (m : Int))) (.int .i64 (homeN m)) w8) := Lib.hid (by
                    obtain ⟨g, hgL, e1, e2, e3, e4, e5⟩ := E0.out
                    exact ⟨g, hgL, e1, e2, e3, e4.trans (hg8.mono e4.size), Mem.box_fresh e5 hg8⟩)
                  clear E0 hg8 HM
                  go_loopg [17, 18] (dep (homeN m)) (fun left t17 t18 wx => SvE w5 y F (pathL 9 F.S 0) dep left t17 t18 wx)
                  case atStart => exact E1.out
                  case round =>
                    clear E1
                    obtain ⟨g, hgL, rfl, rfl, rfl, hg7, hWn⟩ := hrel
                    have WS := HW.out
                    have hg6 := WS.six g hgL
                    have cz := hWn.at_ hg6
                    have fz : ∀ j, wr.frozen? ⟨y, j, none⟩ = false := fun j => frozen_of_row wr y j _ _ hWn
                    have gl : 0 ≤ (g : Int) := by omega
                    have gl2 : (g : Int) < 6 := by omega
                    have NW : Hid (WantB (wr.setCell ⟨y, g, none⟩ (.int .i64 (wantF F (pathL 9 F.S 0) g))) y (fun k => if dep g ≤ dep k then wantF F (pathL 9 F.S 0) k else -1)) := Lib.hid (hWn.put hg6 (by rw [if_pos (Nat.le_refl _)]) (fun k hk hne => by
                      by_cases h1 : dep g < dep k
                      · rw [if_pos h1, if_pos (by omega)]
                      · rw [if_neg h1]
                        by_cases h2 : dep g ≤ dep k
                        · rw [if_pos h2, want_off]
                          intro hkL
                          exact hne (WS.one k hkL g hgL (by omega))
                        · rw [if_neg h2]))
                    have NB := Lib.hid (hg7.setCell (p := ⟨y, g, none⟩) (by simp only; omega) (.int .i64 (wantF F (pathL 9 F.S 0) g)))
                    by_cases h0 : g = 0
                    · subst h0
                      have F0 : Hid (SvF w5 y F (pathL 9 F.S 0) 6 (.int .i64 0) (wr.setCell ⟨y, 0, none⟩ (.int .i64 (wantF F (pathL 9 F.S 0) 0)))) := Lib.hid ⟨0, by omega, rfl, rfl, NB.out, by
                        have := NW.out
                        unfold WantB at this ⊢
                        rw [this]
                        have d0 := HGood.out.dep0
                        have key : ∀ k, (if dep 0 ≤ dep k then wantF F (pathL 9 F.S 0) k else -1) = wantF F (pathL 9 F.S 0) k := fun k => by rw [if_pos (by omega)]
                        simp only [key]⟩
                      clear hWn hg7 NW NB WS
                      have GQ : Hid (Good (chargeH F.S t)) := Lib.hid (Good.charge ⟨dep, HGood.out⟩ t0)
                      generalize pathL 9 F.S 0 = LL at *
                      generalize hv0 : wantF F LL 0 = vv at *
                      clear hv0
                      go_wp2_with fail
                      generalize (wr.setCell ⟨y, 0, none⟩ (.int .i64 vv)) = w8 at *
                      go_loopg [19] 6 (fun left t19 wx => SvF w5 y F LL left t19 wx)
                      case atStart => exact F0.out
                      case round =>
                        clear F0
                        obtain ⟨g, hg6', rfl, rfl, hg8, hWt⟩ := hrel
                        obtain ⟨l0, l41, l42, l43, lf⟩ := (BX5.out.fresh hg8).cells
                        by_cases hlt3 : g < 6
                        · have s1 : (g : Int) ≤ 5 := by omega
                          have s2 : 0 ≤ (g : Int) := by omega
                          have s3 : (g : Int) < 6 := by omega
                          have MG := Lib.hid (MV.out g hlt3)
                          have EN := Lib.hid (fun X (hw : Below wr.heap.size wr X) => Lents (LL5.out.fresh (hg8.trans (hw.mono hg8.size))) GQ.out g)
                          obtain ⟨ao, cap, v1, v2, v3⟩ := (WS5.out.fresh hg8).row g hlt3
                          have cz := (WS5.out.fresh hg8).at_ v1
                          have cy := hWt.at_ hlt3
                          have NX := Lib.hid (fun W (hw : Below wr.heap.size wr W) => (show SvF w5 y F LL (6 - (g + 1)) (.int .i64 ((g : Int) + 1)) W from ⟨g + 1, by omega, rfl, by go_num, hg8.trans (hw.mono hg8.size), Mem.box_fresh hWt hw⟩))
                          have LA := Lib.hid v2
                          clear v1 v2 v3 hWt hg8
                          generalize wantF F LL g = wv at *
                          generalize entsS F.S (g : Nat) = es at *
                          generalize entsS (chargeH F.S t) (g : Nat) = es' at *
                          have CF := Lib.hid (fun W (hw : Below wr.heap.size wr W) => (⟨cell_keep cz hw, cell_keep cy hw, cell_keep l0 hw⟩ : _ ∧ _ ∧ _))
                          go_wp2_with fail
                          go_region_held3 (fun w' => w'.cell? ⟨z, g, none⟩ = some (.slice ao es.length cap) ∧ w'.cell? ⟨y, g, none⟩ = some (.int .i64 wv) ∧ w'.cell? ⟨fb, 0, none⟩ = some (.pointer (some ⟨h, 0, none⟩))) (first | exact ⟨cz, cy, l0⟩ | exact CF.out _ hgY | exact CF.out _ hgX)
                            (first
                              | (go_at_call 18; refine (EN.out _ (by first | exact Below.refl _ _ | exact (Below.refl _ _).drew)).mono ?_; rintro e w9 ⟨lv, rfl, hr, hg9⟩; obtain ⟨ao2, cp2, rfl, hao2, hcp2⟩ := hr.shape; have hgX : Below wr.heap.size wr w9 := (by first | exact hg9 | exact ⟨hg9.os, hg9.tape, hg9.output, hg9.size, hg9.block⟩); have MM := Lib.hid (fun W (hw : Below w9.heap.size w9 W) => moved_ W ao ao2 cap cp2 es es' wv t MG.out ((LA.out.fresh hgX).fresh hw) ((Row.lst hr rfl).fresh hw) t0 (by omega)))
                              | (go_at_call 25; refine (MM.out _ (by first | exact Below.refl _ _ | exact (Below.refl _ _).drew)).mono ?_; rintro e w10 ⟨rfl, hg10⟩; have hgY : Below wr.heap.size wr w10 := ft hgX (by first | exact hg10 | exact ⟨hg10.os, hg10.tape, hg10.output, hg10.size, hg10.block⟩)))
                          all_goals
                            have N := Lib.hid (NX.out _ (by first | exact hgY | exact hgY.drew))
                            clear NX CF EN LA MG
                            go_wp2_with fail
                            go_roundg (6 - (g + 1))
                            case measure => omega
                            case rel => exact N.out
                        · obtain rfl : g = 6 := by omega
                          have s1 : ¬ ((6 : Nat) : Int) ≤ 5 := by omega
                          have RU := Lib.hid (Lrunning (LL5.out.fresh hg8) GQ.out)
                          rw [RC.out] at RU
                          have FIN := Lib.hid (F5.out.trans (hg8.mono F5.out.size))
                          have HO := Lib.hid (show Below w1.heap.size w1 w1 from Below.refl _ _)
                          clear hg8 hWt
                          go_wp2_with (go_at_call 17; refine RU.out.mono ?_; rintro e w9 ⟨rfl, _, s9⟩)
                          go_ret
                          exact ⟨rfl, FIN.out.trans ((s9.mono (fun k hk => .inl (.inl (Nat.lt_of_lt_of_le hk hgw.size)))).below)⟩
                    · have hz0 : ((g : Int) == 0) = false := by simp; omega
                      obtain ⟨u1, u2, u3⟩ := WS.up g hgL h0
                      have wu : wantF F (pathL 9 F.S 0) (parN g) = 2 * (g : Int) + 1 := by
                        unfold wantF
                        rw [if_pos u1]
                        obtain ⟨x, hx, _⟩ := hK.herd.six (parN g) (par_lt g)
                        rw [hx]
                        exact u3 x hx
                      have PM := Lib.hid (fun X => parents g hg6 X)
                      have NX := Lib.hid (fun W (hw : Below (wr.setCell ⟨y, g, none⟩ (.int .i64 (wantF F (pathL 9 F.S 0) g))).heap.size (wr.setCell ⟨y, g, none⟩ (.int .i64 (wantF F (pathL 9 F.S 0) g))) W) =>
                        (show SvE w5 y F (pathL 9 F.S 0) dep (dep (parN g)) (.int .i64 (2 * (g : Int) + 1)) (.int .i64 (parN g)) W from ⟨parN g, u1, rfl, by rw [wu], rfl, NB.out.trans (hw.mono NB.out.size), by
                          have := Mem.box_fresh NW.out hw
                          unfold WantB
                          rw [this]
                          have key : ∀ k, (if dep g ≤ dep k then wantF F (pathL 9 F.S 0) k else -1) = (if dep (parN g) < dep k then wantF F (pathL 9 F.S 0) k else -1) := fun k => by
                            by_cases h1 : dep g ≤ dep k
                            · rw [if_pos h1, if_pos (by omega)]
                            · rw [if_neg h1, if_neg (by omega)]
                          simp only [key]⟩))
                      clear hWn hg7 NW NB u1 u3 wu WS
                      generalize wantF F (pathL 9 F.S 0) g = vv at *
                      go_wp2_with (go_at_call 24; refine (PM.out _).mono ?_; rintro e w9 ⟨rfl, hg9⟩; have N := Lib.hid (NX.out _ hg9))
                      go_roundg (dep (parN g))
                      case measure => omega
                      case rel => exact N.out
end Go.Proofs.YtnnjbonejbmgdaaGreat.Hr

/- A slice of structs of four integers and a bool, opened. Conditions: none. -/
namespace Go.Proofs.YtnnjbonejbmgdaaGreat.Read
open Go.ChangeShapes Go.WideShapes Go.ChangeAt Go.RowKit
set_option linter.unusedVariables false
set_option linter.unusedSimpArgs false

theorem works {H : Type} {enc : TypeId × Value → H} {P : Program} {W : World} {base : Nat} {t e : TypeId} {f0 f1 f2 f3 f4 : Field} {k0 k1 k2 k3 : IntKind} {v : Value} {d : DataW H} {ps : List MemPlace} {r : Reach} (ht : P.underlying t = some (.slice e)) (he : P.underlying e = some (.struct #[f0, f1, f2, f3, f4])) (hC : P.cellsOf e = 5)
    (ho : (f0.offset, f1.offset, f2.offset, f3.offset, f4.offset) = (0, 1, 2, 3, 4)) (hc : (P.cellsOf f0.type, P.cellsOf f1.type, P.cellsOf f2.type, P.cellsOf f3.type, P.cellsOf f4.type) = (1, 1, 1, 1, 1))
    (u0 : P.underlying f0.type = some (.int k0)) (u1 : P.underlying f1.type = some (.int k1)) (u2 : P.underlying f2.type = some (.int k2)) (u3 : P.underlying f3.type = some (.int k3)) (u4 : P.underlying f4.type = some .bool)
    (hv : Value.okWide P W r base t v) (h : DataW.Trod enc P W 0 (fun _ => true) true t v d ps) :
    ∃ (a : Option Addr) (len cap : Nat), v = .slice a len cap ∧ len ≤ 9223372036854775807 ∧ ∀ j, j < len → ∃ k off, a = some ⟨k, off, none⟩ ∧ k < W.heap.size ∧ ∃ (d0 d1 d2 d3 : Int) (d4 : Bool), ((Lit.int k0 d0).wf = true ∧ (Lit.int k1 d1).wf = true ∧ (Lit.int k2 d2).wf = true ∧ (Lit.int k3 d3).wf = true) ∧ W.cell? ⟨k, off + j * 5, none⟩ = some (.int k0 d0) ∧ W.cell? ⟨k, off + j * 5 + 1, none⟩ = some (.int k1 d1) ∧ W.cell? ⟨k, off + j * 5 + 2, none⟩ = some (.int k2 d2) ∧ W.cell? ⟨k, off + j * 5 + 3, none⟩ = some (.int k3 d3) ∧ W.cell? ⟨k, off + j * 5 + 4, none⟩ = some (.bool d4) := by
  obtain ⟨a0, len, cap, rfl⟩ := okWide_slice ht hv
  obtain ⟨fuel, hf⟩ := h
  rcases Go.Deep.open_slice ht hf with ⟨hcs, hx⟩ | ⟨a, len', cap', m, n, D, Pl, hcs, _, hl, hm, hmm, hx, hi⟩
  · simp [Value.cells] at hcs
    obtain ⟨rfl, rfl, rfl⟩ := hcs
    exact ⟨none, 0, 0, rfl, by omega, by intro j hj; omega⟩
  · simp [Value.cells] at hcs
    obtain ⟨rfl, rfl, rfl⟩ := hcs
    simp only [if_true] at hmm
    refine ⟨some a, len, cap, rfl, by unfold maxLen at hm; omega, fun j hj => ?_⟩
    obtain ⟨cs, hcl, htr⟩ := hi j (by omega)
    rw [hC] at hcl
    obtain ⟨_, hlen, hat⟩ := World.cells?_some hcl
    obtain ⟨ys, n', _, _, r3, r4, hfl⟩ := DataW.trod_struct he htr
    have hyl : ys.length = 5 := by first | simpa using r4 | simpa using r3
    simp only [Prod.mk.injEq] at ho hc
    obtain ⟨o0, o1, o2, o3, o4⟩ := ho
    obtain ⟨s0, s1, s2, s3, s4⟩ := hc
    match cs, hlen with
    | [c0, c1, c2, c3, c4], _ =>
      have x0 := hfl 0 f0 rfl
      have x1 := hfl 1 f1 rfl
      have x2 := hfl 2 f2 rfl
      have x3 := hfl 3 f3 rfl
      have x4 := hfl 4 f4 rfl
      rw [o0, s0] at x0
      rw [o1, s1] at x1
      rw [o2, s2] at x2
      rw [o3, s3] at x3
      rw [o4, s4] at x4
      simp only [List.drop_zero, List.drop_succ_cons, List.take_succ_cons, List.take_zero] at x0 x1 x2 x3 x4
      rw [List.getElem?_eq_getElem (show 0 < ys.length by omega)] at x0
      rw [List.getElem?_eq_getElem (show 1 < ys.length by omega)] at x1
      rw [List.getElem?_eq_getElem (show 2 < ys.length by omega)] at x2
      rw [List.getElem?_eq_getElem (show 3 < ys.length by omega)] at x3
      rw [List.getElem?_eq_getElem (show 4 < ys.length by omega)] at x4
      obtain ⟨d0, e0, _, z0⟩ := DataW.trod_int u0 x0
      obtain ⟨d1, e1, _, z1⟩ := DataW.trod_int u1 x1
      obtain ⟨d2, e2, _, z2⟩ := DataW.trod_int u2 x2
      obtain ⟨d3, e3, _, z3⟩ := DataW.trod_int u3 x3
      obtain ⟨d4, e4, _⟩ := DataW.trod_bool u4 x4
      simp only [List.cons.injEq, and_true] at e0 e1 e2 e3 e4
      subst e0 e1 e2 e3 e4
      have w0 := hat 0 (by omega)
      have w1 := hat 1 (by omega)
      have w2 := hat 2 (by omega)
      have w3 := hat 3 (by omega)
      have w4 := hat 4 (by omega)
      rw [Go.Deep.add_add] at w0 w1 w2 w3 w4
      simp only [List.getElem?_cons_zero, List.getElem?_cons_succ] at w0 w1 w2 w3 w4
      obtain ⟨b, off, spot⟩ := a
      have hspot : spot = none := by
        obtain ⟨cs0, hcl0, _⟩ := hi 0 (by omega)
        rw [hC] at hcl0
        obtain ⟨_, hlen0, hat0⟩ := World.cells?_some hcl0
        have w := hat0 0 (by omega)
        rw [List.getElem?_eq_getElem (show 0 < cs0.length by omega)] at w
        simpa [Addr.add] using World.cell?_spot w
      subst hspot
      simp only [Addr.add_lit] at w0 w1 w2 w3 w4
      refine ⟨b, off, rfl, World.block_lt_of_cell? _ _ w0, d0, d1, d2, d3, d4, ⟨z0, z1, z2, z3⟩, w0, ?_, ?_, ?_, ?_⟩
      · rw [Nat.add_assoc]; exact w1
      · rw [Nat.add_assoc]; exact w2
      · rw [Nat.add_assoc]; exact w3
      · rw [Nat.add_assoc]; exact w4
end Go.Proofs.YtnnjbonejbmgdaaGreat.Read

/- For any three numbers of 16 bits, any pieces of work and any number of 32 bits the law HierServes returns true: what the task that runs is served, each one above it is, by its weight; nobody else goes on. Conditions: none. -/
namespace Go.Proofs.YtnnjbonejbmgdaaGreat.hierServes
open Go.ChangeShapes Go.WideShapes Go.ChangeAt Go.RowKit
set_option linter.unusedVariables false

theorem own : ownKnob Tryz.prog.godebug = none := by kernel_rfl
theorem laid : laidOutB Tryz.prog = true := by kernel_rfl
theorem cells46 : Tryz.prog.cellsOf 46 = 1 := by kernel_rfl
theorem cells47 : Tryz.prog.cellsOf 47 = 3 := by kernel_rfl
theorem cells54 : Tryz.prog.cellsOf 54 = 5 := by kernel_rfl
theorem list3 (l : List Int) (h : l.length = 3) : ∃ x0 x1 x2, l = [x0, x1, x2] := by
  match l, h with
  | [x0, x1, x2], _ => exact ⟨x0, x1, x2, rfl⟩

set_option maxRecDepth 100000 in
theorem lifted (os : Os) (started : os.Started) (H : Type) (enc : TypeId × Value → H) :
    ReturnsInHanded {} Tryz.checked os 6 .any (Rows.hierServesSpec.pre6 enc Tryz.prog Tryz.f6 Rows.hierServesRow.domain false) (Rows.hierServesSpec.post enc Tryz.prog Tryz.f6 false true false false) := by
  refine returnsInHanded_of_change_sized (C := Tryz.checked) own started (by kernel_rfl) Tryz.func6
    (ChangeSpec.witness6 (enc := enc) (C := Tryz.checked) false ⟨#[], #[.agg #[.int .u16 0, .int .u16 0, .int .u16 0], .slice none 0 0, .int .u32 0], []⟩ 8 (by kernel_rfl) (by kernel_rfl) (by kernel_rfl) (by kernel_rfl)) ?_
  intro W base args ds gs before hval0 hW hcnd hsz0 _
  have hval : ∀ (j : Nat) t v, Tryz.f6.params[j]? = some t → args[j]? = some v → Value.okWide Tryz.prog W .any base t v := hval0
  have hW' := hW
  obtain ⟨p, q, hA0, hV, rfl, hfz, hnd⟩ := hW
  have hA : DataW.TrodAll enc Tryz.prog W 0 (fun _ => true) true Tryz.f6.params.toList args.toList ds p := hA0
  have hAk := hA
  rw [Tryz.params6] at hA hval
  obtain ⟨v0, vs0, d0, ds0, p0, q0, hargs, rfl, rfl, h0, r0⟩ := trodAll_cons hA
  obtain ⟨v1, vs1, d1, ds1, p1, q1, rfl, rfl, rfl, h1, r1⟩ := trodAll_cons r0
  obtain ⟨v2, vs2, d2, ds2, p2, q2, rfl, rfl, rfl, h2, r2⟩ := trodAll_cons r1
  obtain ⟨rfl, rfl, rfl⟩ := trodAll_nil r2
  obtain rfl : args = #[v0, v1, v2] := by cases args; simp_all
  obtain ⟨rfl, rfl⟩ := trodVars_none hV
  have hsz : (DataW.weightsEach Tryz.prog [47, 48, 52] [d0, d1, d2]).all (· ≤ reachBytes) = true := hsz0
  obtain ⟨l0, ll0, rfl, lw0⟩ := Read.array Tryz.underlying47 Tryz.underlying46 cells46 cells47 (hval 0 47 v0 rfl rfl) h0
  obtain ⟨x0_0, x0_1, x0_2, rfl⟩ : ∃ x0_0 x0_1 x0_2, l0 = [x0_0, x0_1, x0_2] := list3 l0 ll0
  have w0_0 := lw0 x0_0 (by simp)
  have w0_1 := lw0 x0_1 (by simp)
  have w0_2 := lw0 x0_2 (by simp)
  obtain ⟨u1, len1, cap1, rfl, big1, cell1⟩ := Read.works Tryz.underlying48 Tryz.underlying54 cells54 (by kernel_rfl) (by kernel_rfl) Tryz.underlying3 Tryz.underlying3 Tryz.underlying52 Tryz.underlying52 Tryz.underlying4 (hval 1 48 v1 rfl rfl) h1
  obtain ⟨a2, rfl, rfl, rfl, w2⟩ := open_int Tryz.underlying52 (hval 2 52 v2 rfl rfl) h2

  clear hA0 hval0 hsz hsz0
  have hW2 := hW'
  rw [List.append_nil] at hW2
  refine (show Calls Tryz.prog 6 #[.agg #[.int .u16 x0_0, .int .u16 x0_1, .int .u16 x0_2], .slice u1 len1 cap1, .int .u32 a2] W (fun e w' => e = .returned (.bool true) ∧ Below W.heap.size W w') from Hr.servesLaw x0_0 x0_1 x0_2 a2 u1 len1 cap1 W (bounds_u16 w0_0) (bounds_u16 w0_1) (bounds_u16 w0_2) (bounds_u32 w2) big1 (fun j hj => by obtain ⟨kk, off, e1, e2, d0, d1, d2, d3, d4, ⟨z0, z1, z2, z3⟩, c0, c1, c2, c3, c4⟩ := cell1 j hj; exact ⟨kk, off, e1, e2, ⟨d0, d1, d2, d3, d4⟩, ⟨bounds_u32 z2, bounds_u32 z3⟩, c0, c1, c2, c3, c4⟩)).mono fun e W' ⟨he, hg⟩ => ?_
  subst he
  exact ⟨_, rfl, Read.post laid (by kernel_rfl) hg hAk hW2 rfl rfl Tryz.underlying4 rfl⟩

theorem over : Rows.hierServesRow.holds Tryz.pinned (OpenSpec.ofChange Rows.hierServesSpec) :=
  OpenClaim.holds_of_wide 6 Tryz.f6 rfl rfl rfl rfl rfl rfl rfl ⟨rfl, rfl, rfl, rfl, rfl⟩ rfl rfl rfl rfl rfl (by kernel_rfl) Tryz.func6 (by kernel_rfl)
    (of_decide_eq_true (by kernel_rfl)) (by unfold Func.isWrapper; first | (rw [if_pos (by decide +kernel)]; kernel_rfl) | (rw [if_neg (by decide +kernel)]; exact ⟨rfl, rfl⟩))
    (fun os started H enc _ => lifted os started H enc)

/-- THE STATEMENT. -/
theorem proved : Rows.HierServesSaid :=
  over
#print axioms proved
end Go.Proofs.YtnnjbonejbmgdaaGreat.hierServes
