/- Each group stands in a queue just if its own has somebody and it is not stopped: kept by all that is done; nothing of a program. Conditions: as each fact states them. -/
import Derived.Test.YteoemafdknmklaaPkK
import Derived.LaidEqlPtr
import Derived.Test.YteoemafdknmklaaRenormSome
namespace Go.Proofs.Yteoemafdknmklaa.Hr
open Queue
set_option linter.unusedVariables false
set_option linter.unusedSimpArgs false

def Sett (S : Hs) : Prop := ∀ k x, S.g k = some x → k ≠ 0 → x.on = should x
def SettBut (S : Hs) (i : Nat) : Prop := ∀ k x, S.g k = some x → k ≠ 0 → k ≠ i → x.on = should x
theorem Sett.but {S : Hs} (h : Sett S) (i : Nat) : SettBut S i := fun k x hx h0 _ => h k x hx h0
theorem Sett.one {S : Hs} (h : Sett S) (i : Nat) (x' : Gp) : SettBut (S.set i (some x')) i := fun k z hz h0 hk => by
  rw [Hs.set_other _ _ hk] at hz; exact h k z hz h0
/-- One group has changed, but not whether it should stand, nor whether it does. -/
theorem Sett.same {S : Hs} (h : Sett S) {i : Nat} {x x' : Gp} (hx : S.g i = some x) (ho : x'.on = x.on) (hs : should x' = should x) : Sett (S.set i (some x')) := fun k z hz h0 => by
  rcases set_cases hz with ⟨rfl, rfl⟩ | ⟨_, hz⟩
  · rw [ho, hs]; exact h k x hx h0
  · exact h k z hz h0
theorem SettBut.step {dep : Nat → Nat} {S : Hs} (hG : GoodD dep S) {i p : Nat} {x : Gp} (h : SettBut S i) (hx : S.g i = some x) (hp : x.up = some p) (hne : ¬ x.on = should x) : SettBut (stepS S i) p := by
  obtain ⟨hpi, h0⟩ := hG.up_ne hx hp
  obtain ⟨p', y, e1, hy, _⟩ := hG.link i x hx h0
  rw [hp] at e1; cases e1
  rw [stepS_eq hx hp hy]
  intro k z hz hk hkp
  cases ho : x.on
  · rw [ho] at hz hne
    simp only [Bool.false_eq_true, if_false] at hz
    rcases two_cases (S := S) hpi hz with ⟨rfl, rfl⟩ | ⟨rfl, rfl⟩ | ⟨hki, _, hz⟩
    · show true = should x
      cases hs : should x
      · rw [hs] at hne; exact absurd rfl hne
      · rfl
    · exact absurd rfl hkp
    · exact h k z hz hk hki
  · rw [ho] at hz hne
    simp only [if_true] at hz
    rcases two_cases (S := S) hpi hz with ⟨rfl, rfl⟩ | ⟨rfl, rfl⟩ | ⟨hki, _, hz⟩
    · show false = should x
      cases hs : should x
      · rfl
      · rw [hs] at hne; exact absurd rfl hne
    · exact absurd rfl hkp
    · exact h k z hz hk hki
theorem SettBut.all {S : Hs} {i : Nat} (h : SettBut S i) (hi : ∀ x, S.g i = some x → i ≠ 0 → x.on = should x) : Sett S := fun k x hx h0 => by
  by_cases e : k = i
  · subst e; exact hi x hx h0
  · exact h k x hx h0 e
theorem SettBut.settle {dep : Nat → Nat} : ∀ (n : Nat) {S : Hs} {i : Nat} {x : Gp}, GoodD dep S → SettBut S i → S.g i = some x → dep i < n → Sett (settleS n S i)
  | 0, _, _, _, _, _, _, h => absurd h (Nat.not_lt_zero _)
  | n + 1, S, i, x, hG, h, hx, hd => by
    cases hp : x.up with
    | none =>
      rw [settleS_done hx (.inl hp)]
      refine h.all fun z hz h0 => ?_
      rw [hx] at hz; cases hz
      obtain ⟨p, y, e1, _⟩ := hG.link i _ hx h0
      rw [hp] at e1; cases e1
    | some p =>
      by_cases he : x.on = should x
      · rw [settleS_done hx (.inr he)]
        refine h.all fun z hz h0 => ?_
        rw [hx] at hz; cases hz
        exact he
      · rw [settleS_more hx hp he]
        obtain ⟨hpi, h0⟩ := hG.up_ne hx hp
        obtain ⟨p', y, e1, hy, e3⟩ := hG.link i x hx h0
        rw [hp] at e1; cases e1
        have hy' : ∃ y', (stepS S i).g p = some y' := by
          rw [stepS_eq hx hp hy]
          cases x.on
          · simp only [Bool.false_eq_true, if_false]; exact ⟨_, two_p S _ _ hpi⟩
          · simp only [if_true]; exact ⟨_, two_p S _ _ hpi⟩
        obtain ⟨y', hy'⟩ := hy'
        exact SettBut.settle n (hG.step i) (h.step hG hx hp he) hy' (by omega)
theorem Sett.settle {dep : Nat → Nat} {S : Hs} (hs : Sett S) {i : Nat} {x' : Gp} (hG : GoodD dep (S.set i (some x'))) : Sett (settleS 9 (S.set i (some x')) i) := by
  have := hG.deep i x' (Hs.set_same _ _ _)
  exact (hs.one i x').settle 9 hG (Hs.set_same _ _ _) (by omega)
theorem putH_sett {dep : Nat → Nat} {S : Hs} (hG : GoodD dep S) (hs : Sett S) (g : Int) {e : Ent} (hv : I64 e.v) (hr : 0 ≤ e.rm) : Sett (putH S g e) := by
  unfold putH
  rcases grp_cases S g with ⟨i, x, rfl, hi, hx, e1, _⟩ | ⟨e1, _⟩
  · rw [e1]
    simp only [Int.toNat_natCast]
    split
    · rename_i hh
      exact hs.settle (hG.put hx hh.2 (by show 0 ≤ 2 * e.id; omega) (by show 2 * e.id < 128; omega) (by show (2 * e.id) % 2 = 0; omega) hv hr)
    · exact hs
  · rw [e1]; exact hs
theorem dropH_sett {dep : Nat → Nat} {S : Hs} (hG : GoodD dep S) (hs : Sett S) (g n : Int) : Sett (dropH S g n) := by
  unfold dropH
  rcases grp_cases S g with ⟨i, x, rfl, hi, hx, e1, _⟩ | ⟨e1, _⟩
  · rw [e1]
    simp only [Int.toNat_natCast]
    split
    · rename_i hh
      exact hs.settle (hG.drop hx hh.2 (by omega))
    · exact hs
  · rw [e1]; exact hs
theorem stopH_sett {dep : Nat → Nat} {S : Hs} (hG : GoodD dep S) (hs : Sett S) (g : Int) (is : Bool) : Sett (stopH S g is) := by
  unfold stopH
  rcases lnk_cases S g with ⟨i, x, rfl, _, hi, hx, e1, _⟩ | ⟨e1, _⟩
  · rw [e1]
    simp only [Int.toNat_natCast]
    exact hs.settle (hG.halt_ hx is)
  · rw [e1]; exact hs
theorem empty_named {l l' : List Ent} (h : ∀ id, named l id = named l' id) : l.isEmpty = l'.isEmpty := by
  cases l with
  | nil =>
    cases l' with
    | nil => rfl
    | cons e l' => have := h e.id; simp [named] at this
  | cons e l =>
    cases l' with
    | nil => have := h e.id; simp [named] at this
    | cons => rfl
theorem weighS_named (st : St) (id wt j : Int) : named (weighS st id wt).es j = named st.es j := by
  by_cases hz : errWeigh st id wt = 0
  · rw [(weigh_es hz).1, named_setE]
  · unfold weighS; rw [if_neg hz]
theorem chargeS_named (st : St) (ns j : Int) : named (chargeS st ns).es j = named st.es j := by
  by_cases hz : errCharge st ns = 0
  · exact charge_named hz j
  · unfold chargeS; rw [if_neg hz]
theorem should_named {x x' : Gp} (h : ∀ j, named x'.q.es j = named x.q.es j) (hh : x'.halt = x.halt) : should x' = should x := by
  unfold should busy; rw [empty_named h, hh]
theorem weighH_sett {S : Hs} (hs : Sett S) (g wt : Int) : Sett (weighH S g wt) := by
  unfold weighH
  rcases lnk_cases S g with ⟨i, x, rfl, h0, hi, hx, e1, e2⟩ | ⟨e1, _⟩
  · rw [e1]
    simp only [Int.toNat_natCast]
    split
    · exact hs
    · split
      · split
        · exact hs
        · split
          · exact hs
          · rename_i y hy
            exact hs.same hy rfl (should_named (x' := { y with q := weighS y.q _ wt }) (fun j => weighS_named _ _ _ j) rfl)
      · exact hs.same hx rfl rfl
  · rw [e1]; exact hs
theorem niceH_sett {S : Hs} (hs : Sett S) (g n wt : Int) : Sett (niceH S g n wt) := by
  unfold niceH
  rcases grp_cases S g with ⟨i, x, rfl, hi, hx, e1, _⟩ | ⟨e1, _⟩
  · rw [e1]
    simp only [Int.toNat_natCast]
    split
    · exact hs.same hx rfl (should_named (x' := { x with q := weighS x.q (2 * n) wt }) (fun j => weighS_named _ _ _ j) rfl)
    · exact hs
  · rw [e1]; exact hs
theorem walk_sett {c : St → Int} {f : St → St} (hf : ∀ st j, named (f st).es j = named st.es j) : ∀ (n : Nat) {S : Hs} (g : Nat), Sett S → Sett (walkS c f n S g).1
  | 0, _, _, h => h
  | n + 1, S, g, h => by
    cases hx : S.g g with
    | none => rw [walkS, hx]; exact h
    | some x =>
      have h' : Sett (S.set g (some { x with q := f { x.q with cur := c x.q } })) := h.same hx rfl (should_named (x' := { x with q := f { x.q with cur := c x.q } }) (fun j => hf _ j) rfl)
      cases hn : nxt (c x.q) with
      | none => rw [walk_none hx hn]; exact h'
      | some j => rw [walk_some hx hn]; exact walk_sett hf n j h'
theorem pickS_sett {S : Hs} (hs : Sett S) : Sett (pickS S) := walk_sett (fun _ _ => rfl) 9 0 hs
theorem chargeH_sett {S : Hs} (hs : Sett S) (ns : Int) : Sett (chargeH S ns) := by
  unfold chargeH
  split
  · exact hs
  · split
    · exact hs
    · exact walk_sett (fun st j => chargeS_named st ns j) 9 0 hs
theorem yieldS_sett {S : Hs} (hs : Sett S) : Sett (yieldS S) := by
  unfold yieldS
  split
  · exact hs
  · split
    · exact hs
    · rename_i x hx
      exact hs.same hx rfl (should_named (fun _ => rfl) rfl)
theorem linkH_sett {S : Hs} (hs : Sett S) (g p : Int) : Sett (linkH S g p) := by
  unfold linkH
  split
  · intro k z hz h0
    rcases set_cases hz with ⟨rfl, rfl⟩ | ⟨_, hz⟩
    · rfl
    · exact hs k z hz h0
  · exact hs
theorem newS_sett (cr gr : Int) : Sett (newS cr gr) := fun k x hx h0 => by
  unfold newS at hx
  simp only at hx
  rw [if_neg h0] at hx
  cases hx
/-- Sound, and settled. -/
structure Fine (S : Hs) : Prop where
  good : Good S
  sett : Sett S
theorem Fine.put {S : Hs} (h : Fine S) (g : Int) {e : Ent} (hv : I64 e.v) (hr : 0 ≤ e.rm) : Fine (putH S g e) := by obtain ⟨dep, hG⟩ := h.good; exact ⟨⟨dep, putH_good hG g hv hr⟩, putH_sett hG h.sett g hv hr⟩
theorem Fine.drop {S : Hs} (h : Fine S) (g n : Int) : Fine (dropH S g n) := by obtain ⟨dep, hG⟩ := h.good; exact ⟨⟨dep, dropH_good hG g n⟩, dropH_sett hG h.sett g n⟩
theorem Fine.stop {S : Hs} (h : Fine S) (g : Int) (is : Bool) : Fine (stopH S g is) := by obtain ⟨dep, hG⟩ := h.good; exact ⟨⟨dep, stopH_good hG g is⟩, stopH_sett hG h.sett g is⟩
theorem Fine.weigh {S : Hs} (h : Fine S) (g wt : Int) : Fine (weighH S g wt) := ⟨h.good.weigh g wt, weighH_sett h.sett g wt⟩
theorem Fine.nice {S : Hs} (h : Fine S) (g n : Int) {wt : Int} (hw : 0 ≤ wt) : Fine (niceH S g n wt) := by obtain ⟨dep, hG⟩ := h.good; exact ⟨⟨dep, niceH_good hG g n hw⟩, niceH_sett h.sett g n wt⟩
theorem Fine.pick {S : Hs} (h : Fine S) : Fine (pickS S) := ⟨h.good.pick, pickS_sett h.sett⟩
theorem Fine.yield {S : Hs} (h : Fine S) : Fine (yieldS S) := ⟨h.good.yield, yieldS_sett h.sett⟩
theorem Fine.charge {S : Hs} (h : Fine S) {ns : Int} (hn : 0 ≤ ns) : Fine (chargeH S ns) := ⟨h.good.charge hn, chargeH_sett h.sett ns⟩
theorem Fine.link {S : Hs} (h : Fine S) (g p : Int) : Fine (linkH S g p) := ⟨linkH_good h.good g p, linkH_sett h.sett g p⟩
theorem fine_new {cr gr : Int} (h1 : I64 cr) (h2 : I64 gr) : Fine (newS cr gr) := ⟨⟨_, newS_good h1 h2⟩, newS_sett cr gr⟩
end Go.Proofs.Yteoemafdknmklaa.Hr

/- What under and below of package hier answer, and Unlink. Conditions: the queues are sound. -/
namespace Go.Proofs.Yteoemafdknmklaa.Hr
open Go.ChangeShapes Go.WideShapes Go.ChangeAt Go.RowKit Tree Queue
set_option linter.unusedVariables false
set_option linter.unusedSimpArgs false
set_option maxRecDepth 100000

/-- Is a group another one, or within it? -/
def underS : Nat → Hs → Nat → Nat → Bool
  | 0, _, i, t => i == t
  | n + 1, S, i, t => i == t || match S.g i with
    | none => false
    | some x => match x.up with
      | none => false
      | some p => underS n S p t
theorem under_self (n : Nat) (S : Hs) (i : Nat) : underS n S i i = true := by cases n <;> simp [underS]
theorem under_root {n : Nat} {S : Hs} {i t : Nat} {x : Gp} (hx : S.g i = some x) (hu : x.up = none) (hne : i ≠ t) : underS (n + 1) S i t = false := by
  rw [underS, hx]; simp [hu, hne]
theorem under_up {n : Nat} {S : Hs} {i t p : Nat} {x : Gp} (hx : S.g i = some x) (hu : x.up = some p) (hne : i ≠ t) : underS (n + 1) S i t = underS n S p t := by
  rw [underS, hx]; simp [hu, hne]
theorem GoodD.up_cases {dep : Nat → Nat} {S : Hs} (hG : GoodD dep S) {j : Nat} {y : Gp} (hy : S.g j = some y) : (y.up = none ∧ j = 0) ∨ ∃ p z, y.up = some p ∧ S.g p = some z ∧ dep j = dep p + 1 := by
  by_cases h0 : j = 0
  · subst h0
    obtain ⟨r, hr, hu, _⟩ := hG.root
    rw [hy] at hr; cases hr
    exact .inl ⟨hu, rfl⟩
  · obtain ⟨p, z, e1, e2, e3⟩ := hG.link j y hy h0
    exact .inr ⟨p, z, e1, e2, e3⟩
theorem infoG : (Try.prog.info? groupT).map (·.size) = some 8 := by kernel_rfl
theorem eql_same (w : World) (a : Nat) : Sem.run Try.prog (binOp BinOp.eql 38 (.pointer (some ⟨a, 0, none⟩)) (.pointer (some ⟨a, 0, none⟩))) w = .ok (.bool true) w := by
  have h := infoG
  cases hi : Try.prog.info? groupT with
  | none => rw [hi] at h; cases h
  | some j => exact run_eql_ptr_same w _ Try.underlying38 hi
theorem eql_other {w : World} {a c : Nat} {ca cb : Array Value} {ta tb : TypeId} (hne : a ≠ c) (ha : w.heap[a]? = some (.cells ca ta (0, 0))) (hb : w.heap[c]? = some (.cells cb tb (0, 0))) : Sem.run Try.prog (binOp BinOp.eql 38 (.pointer (some ⟨a, 0, none⟩)) (.pointer (some ⟨c, 0, none⟩))) w = .ok (.bool false) w := by
  have h := infoG
  cases hi : Try.prog.info? groupT with
  | none => rw [hi] at h; cases h
  | some j => exact run_eql_ptr_other w Try.underlying38 hi (by rw [hi] at h; simp at h; omega) (fun e => hne (congrArg Addr.block e)) ha hb
def UndI (b : Nat → Nat) (S : Hs) (dep : Nat → Nat) (t : Nat) (R : Bool) (w : World) (k : Nat) (s : Value) (wr : World) : Prop :=
  wr = w ∧ ((∃ j y n, s = .pointer (some ⟨b j, 0, none⟩) ∧ S.g j = some y ∧ k = dep j + 2 ∧ underS (n + 1) S j t = R ∧ dep j ≤ n) ∨ (s = .pointer none ∧ R = false ∧ 1 ≤ k))
theorem under_nil (w : World) (a : Nat) : Calls Try.prog 21 #[.pointer none, .pointer (some ⟨a, 0, none⟩)] w (Is (.bool false) w) := by
  have hg := Below.refl w.heap.size w
  go_enter Try.func21, Try.ntmps21
  go_wp2_with fail
  go_loopg [5] 1 (fun k s wr => s = .pointer none ∧ wr = w)
  case atStart => exact ⟨rfl, rfl⟩
  case round =>
    obtain ⟨rfl, rfl⟩ := hrel
    go_wp2_with fail
    go_ret; exact ⟨rfl, hg⟩
set_option maxHeartbeats 4000000 in
theorem under_ (w : World) (h : Nat) (O : Nat → Prop) (b qb : Nat → Nat) (S : Hs) (H : Hb w h O b qb S) {dep : Nat → Nat} (hG : GoodD dep S) {i t : Nat} {x y : Gp} (hx : S.g i = some x) (hy : S.g t = some y) :
    Calls Try.prog 21 #[.pointer (some ⟨b i, 0, none⟩), .pointer (some ⟨b t, 0, none⟩)] w (Is (.bool (underS 9 S i t)) w) := by
  have hd := hG.deep i x hx
  have GC : Hid (∀ j y, S.g j = some y → w.cell? ⟨b j, 0, none⟩ = some (.pointer (y.up.map (toG b)))) := Lib.hid fun j y hy => (H.cells hy).1
  have HB : Hid (∀ j z, S.g j = some z → w.heap[b j]? = some (.cells (cellsG b qb j z) groupT (0, 0))) := Lib.hid fun j z hz => H.grp hz
  have hbt := H.grp hy
  have BI : Hid (∀ j z, S.g j = some z → (b j = b t ↔ j = t)) := Lib.hid fun j z hz => by
    obtain ⟨o, K, _⟩ := H
    refine ⟨fun e => ?_, fun e => by rw [e]⟩
    have h1 := K.og j z hz
    have h2 := K.og t y hy
    rw [e] at h1
    omega
  have HG := Lib.hid hG
  have hg := Below.refl w.heap.size w
  have st : Hid (UndI b S dep t (underS 9 S i t) w (dep i + 2) (.pointer (some ⟨b i, 0, none⟩)) w) := Lib.hid ⟨rfl, .inl ⟨i, x, 8, rfl, hx, rfl, rfl, by omega⟩⟩
  generalize underS 9 S i t = R at *
  generalize dep i + 2 = K0 at *
  generalize b i = bi at *
  clear H hG hx hd hy
  go_enter Try.func21, Try.ntmps21
  go_wp2_with fail
  go_loopg [5] K0 (fun k s wr => UndI b S dep t R w k s wr)
  case atStart => exact st.out
  case round =>
    clear st
    obtain ⟨rfl, ⟨j, z, n, rfl, hz, hk, hr, hn⟩ | ⟨rfl, rfl, hk⟩⟩ := hrel
    · by_cases hjt : j = t
      · subst hjt
        rw [under_self] at hr
        subst hr
        have heq := eql_same wr (b j)
        clear GC BI HG hz HB hbt
        go_wp2_with fail
        go_ret; exact ⟨by simp, hg⟩
      · have hb : ¬ b j = b t := fun e => hjt ((BI.out j z hz).1 e)
        have c := GC.out j z hz
        have heq := eql_other hb (HB.out j z hz) hbt
        rcases HG.out.up_cases hz with ⟨e1, e2⟩ | ⟨p, u, e1, e2, e3⟩
        · rw [under_root hz e1 hjt] at hr
          replace hr := Lib.hid hr
          rw [e1] at c
          simp only [Option.map_none] at c
          have hk2 : 1 < gk := by omega
          clear e1 e2 hk hn hjt hz HG BI GC HB hbt
          go_wp2_with fail
          go_roundg 1
          case measure => omega
          case rel => exact ⟨rfl, .inr ⟨rfl, hr.out.symm, by omega⟩⟩
        · obtain ⟨m, rfl⟩ : ∃ m, n = m + 1 := ⟨n - 1, by omega⟩
          rw [under_up hz e1 hjt] at hr
          replace hr := Lib.hid hr
          rw [e1] at c
          simp only [Option.map_some, toG] at c
          clear e1
          go_wp2_with fail
          go_roundg (dep p + 2)
          case measure => omega
          case rel => exact ⟨rfl, .inl ⟨p, u, m, rfl, e2, rfl, hr.out, by omega⟩⟩
    · go_wp2_with fail
      go_ret; exact ⟨rfl, hg⟩

/-! ### all within one -/
/-- The numbers of all within a group, rising. -/
def belowL (S : Hs) (t : Nat) : Nat → List Nat
  | 0 => []
  | n + 1 => belowL S t n ++ (if (S.g n).isSome && underS 9 S n t then [n] else [])
def ptrsG (b : Nat → Nat) (l : List Nat) : List Value := l.map fun i => .pointer (some ⟨b i, 0, none⟩)
theorem below_len (S : Hs) (t : Nat) : ∀ n, (belowL S t n).length ≤ n
  | 0 => by simp [belowL]
  | n + 1 => by
    have := below_len S t n
    unfold belowL
    split <;> simp <;> omega
theorem below_mem (S : Hs) (t : Nat) : ∀ n i, i ∈ belowL S t n → i < n ∧ (S.g i).isSome = true ∧ underS 9 S i t = true
  | 0, i, h => by simp [belowL] at h
  | n + 1, i, h => by
    unfold belowL at h
    rw [List.mem_append] at h
    rcases h with h | h
    · have := below_mem S t n i h
      exact ⟨by omega, this.2⟩
    · split at h
      · rename_i hh
        simp at h
        subst h
        simp at hh
        exact ⟨by omega, hh.1, hh.2⟩
      · simp at h
theorem infoPG : (Try.prog.info? 38).map (fun i => (i.zero, i.size, i.bytes)) = some (some (.pointer none), 1, 8) := by kernel_rfl
/-- What below tells. -/
def Belows (b : Nat → Nat) (l : List Nat) (w : World) (e : Ending) (w' : World) : Prop := ∃ v, e = .returned v ∧ Mem.Row w' (· < w.heap.size) 38 1 v l.length (ptrsG b l) ∧ Below w.heap.size w w'
def BelI (S : Hs) (b : Nat → Nat) (t : Nat) (w : World) (s n : Value) (wr : World) : Prop :=
  ∃ (j : Nat) (v : Value), v = s ∧ n = .int .i64 j ∧ j ≤ 32 ∧ Mem.Row wr (· < w.heap.size) 38 1 v (belowL S t j).length (ptrsG b (belowL S t j)) ∧ Below w.heap.size w wr
theorem BelI.step {S : Hs} {b : Nat → Nat} {t : Nat} {w wr : World} {j : Nat} {v : Value} (hj : j < 32) (hR : Mem.Row wr (· < w.heap.size) 38 1 v (belowL S t (j + 1)).length (ptrsG b (belowL S t (j + 1)))) (hg : Below w.heap.size w wr) : BelI S b t w v (.int .i64 ((j : Int) + 1)) wr :=
  ⟨j + 1, v, rfl, by simp, by omega, hR, hg⟩
theorem below_no {S : Hs} {t j : Nat} (h : ((S.g j).isSome && underS 9 S j t) = false) : belowL S t (j + 1) = belowL S t j := by rw [belowL, h]; simp
theorem below_yes {S : Hs} {t j : Nat} (h : ((S.g j).isSome && underS 9 S j t) = true) : belowL S t (j + 1) = belowL S t j ++ [j] := by rw [belowL, h]; simp
def rowG (S : Hs) (b : Nat → Nat) : List Value := [.pointer (ptrG S b 0), .pointer (ptrG S b 1), .pointer (ptrG S b 2), .pointer (ptrG S b 3), .pointer (ptrG S b 4), .pointer (ptrG S b 5), .pointer (ptrG S b 6), .pointer (ptrG S b 7), .pointer (ptrG S b 8), .pointer (ptrG S b 9), .pointer (ptrG S b 10), .pointer (ptrG S b 11), .pointer (ptrG S b 12), .pointer (ptrG S b 13), .pointer (ptrG S b 14), .pointer (ptrG S b 15), .pointer (ptrG S b 16), .pointer (ptrG S b 17), .pointer (ptrG S b 18), .pointer (ptrG S b 19), .pointer (ptrG S b 20), .pointer (ptrG S b 21), .pointer (ptrG S b 22), .pointer (ptrG S b 23), .pointer (ptrG S b 24), .pointer (ptrG S b 25), .pointer (ptrG S b 26), .pointer (ptrG S b 27), .pointer (ptrG S b 28), .pointer (ptrG S b 29), .pointer (ptrG S b 30), .pointer (ptrG S b 31)]
theorem rowG_at (S : Hs) (b : Nat → Nat) : ∀ k, k < 32 → (rowG S b)[k]? = some (.pointer (ptrG S b k)) := by
  intro k hk
  match k, hk with
  | 0, _ | 1, _ | 2, _ | 3, _ | 4, _ | 5, _ | 6, _ | 7, _ | 8, _ | 9, _ | 10, _ | 11, _ | 12, _ | 13, _ | 14, _ | 15, _ | 16, _ | 17, _ | 18, _ | 19, _ | 20, _ | 21, _ | 22, _ | 23, _ | 24, _ | 25, _ | 26, _ | 27, _ | 28, _ | 29, _ | 30, _ | 31, _ => rfl
  | k + 32, hk => omega
theorem rowG_idx (S : Hs) (b : Nat → Nat) : ∀ (k : Nat), k < 32 → ∀ w : World, Sem.run Try.prog (Instr.index 39 (.agg (rowG S b).toArray) (.int .i64 k)) w = .ok (.pointer (ptrG S b k)) w := by
  intro k hk w
  match k, hk with
  | 0, _ | 1, _ | 2, _ | 3, _ | 4, _ | 5, _ | 6, _ | 7, _ | 8, _ | 9, _ | 10, _ | 11, _ | 12, _ | 13, _ | 14, _ | 15, _ | 16, _ | 17, _ | 18, _ | 19, _ | 20, _ | 21, _ | 22, _ | 23, _ | 24, _ | 25, _ | 26, _ | 27, _ | 28, _ | 29, _ | 30, _ | 31, _ => rfl
  | k + 32, hk => omega
theorem rowG_range {S : Hs} {b : Nat → Nat} {w : World} {h : Nat} (cg : ∀ i, i < 32 → w.cell? ⟨h, 2 + i, none⟩ = some (.pointer (ptrG S b i))) : w.rangeAt h 2 (rowG S b) := by
  intro j v hv
  have hj : j < 32 := by
    have := (List.getElem?_eq_some_iff.1 hv).1
    simpa [rowG] using this
  rw [cg j hj, ← hv, rowG_at S b j hj]
set_option maxHeartbeats 8000000 in
theorem below_ (w : World) (h : Nat) (O : Nat → Prop) (b qb : Nat → Nat) (S : Hs) (H : Hb w h O b qb S) {dep : Nat → Nat} (hG : GoodD dep S) {t : Nat} {y : Gp} (hy : S.g t = some y) :
    Calls Try.prog 22 #[.pointer (some ⟨h, 0, none⟩), .pointer (some ⟨b t, 0, none⟩)] w (Belows b (belowL S t 32) w) := by
  obtain ⟨i0, hi, hz0, hz1, hz2⟩ := Mem.info_parts infoPG
  obtain ⟨_, _, cg, _⟩ := H.top
  have hR := rowG_range cg
  have IX := Lib.hid (rowG_idx S b)
  have hl : (Try.prog.info? 39).map (·.size) = some (rowG S b).length := by kernel_rfl
  have UN : Hid (∀ j w1, Below w.heap.size w w1 → Calls Try.prog 21 #[.pointer (ptrG S b j), .pointer (some ⟨b t, 0, none⟩)] w1 (Is (.bool ((S.g j).isSome && underS 9 S j t)) w1)) := by
    refine Lib.hid fun j w1 hg => ?_
    cases hj : S.g j with
    | none => rw [ptrG_none hj]; exact under_nil w1 (b t)
    | some x => rw [ptrG_some hj]; exact under_ w1 h O b qb S (H.fresh hg) hG hj hy
  have PJ : Hid (∀ j, (S.g j).isSome = true → ptrG S b j = some ⟨b j, 0, none⟩) := Lib.hid fun j hj => by
    cases hx : S.g j with
    | none => rw [hx] at hj; cases hj
    | some x => rw [ptrG_some hx]; rfl
  clear cg H hG hy
  generalize rowG S b = R at hR IX hl
  go_enter Try.func22, Try.ntmps22
  go_wp2_with (refine wpList_load_mid rfl 39 _ rfl h 2 rfl R _ hR Try.underlying39 rfl hl ?_)
  clear hR hl
  generalize R.toArray = C at *
  go_loopw [5, 12] (fun s n wr => BelI S b t w s n wr) (fun _ n _ => 32 - (intOf n).toNat)
  case atStart => exact ⟨0, _, rfl, rfl, by omega, ⟨⟨rfl, .inl ⟨rfl, rfl⟩⟩, fun k hk => by cases hk⟩, Below.refl _ _⟩
  case round =>
    obtain ⟨j, v, rfl, rfl, hj, hrow, hb⟩ := hrel
    by_cases hlt : j < 32
    · have hix := IX.out j hlt wr
      have h1 : (j : Int) < 32 := by omega
      have U := Lib.hid (UN.out j wr hb)
      have hlen := below_len S t j
      cases hyes : ((S.g j).isSome && underS 9 S j t)
      · have ST : Hid (∀ w2, Below wr.heap.size wr w2 → BelI S b t w v (.int .i64 ((j : Int) + 1)) w2) := Lib.hid fun w2 hg => BelI.step hlt (by rw [below_no hyes]; exact (hrow.fresh hg)) (ft hb hg)
        rw [hyes] at U
        clear IX UN PJ hrow hb hyes
        generalize ptrG S b j = pj at *
        go_wp2_with (go_at_call 21; refine U.out.mono ?_; rintro e w2 ⟨rfl, hg2⟩)
        go_roundw
        case rel => exact ST.out _ hg2
        case measure => simp [intOf]; omega
      · have hp := PJ.out j (by simp at hyes; exact hyes.1)
        have ST : Hid (∀ v' w2, w2.ownsRow w.heap.size 38 1 v' ((belowL S t j).length + 1) (ptrsG b (belowL S t j) ++ [.pointer (some ⟨b j, 0, none⟩)]) → Below w.heap.size w w2 → BelI S b t w v' (.int .i64 ((j : Int) + 1)) w2) := by
          refine Lib.hid fun v' w2 hown hg => BelI.step hlt ?_ hg
          rw [below_yes hyes]
          refine ⟨?_, fun k hk e => ?_⟩
          · have : ptrsG b (belowL S t j ++ [j]) = ptrsG b (belowL S t j) ++ [.pointer (some ⟨b j, 0, none⟩)] := by simp [ptrsG]
            rw [this, List.length_append]
            exact Mem.owns_lower hown (Nat.zero_le _)
          · have := (hown.lt k hk).1
            omega
        have hown : wr.ownsRow w.heap.size 38 1 v (belowL S t j).length (ptrsG b (belowL S t j)) := by
          refine ⟨hrow.1.1, ?_⟩
          rcases hrow.1.2 with h1 | ⟨g, cap, cur, rfl, h0, hg, h2⟩
          · exact .inl h1
          · exact .inr ⟨g, cap, cur, rfl, by have := hrow.2 g rfl; omega, hg, h2⟩
        rw [hyes] at U
        rw [hp] at U hix
        have hwz := hb.size
        clear IX UN PJ hrow hyes hp
        generalize ptrsG b (belowL S t j) = xs at *
        generalize (belowL S t j).length = ln at *
        go_wp2_with (first
          | (go_at_call 21; refine U.out.mono ?_; rintro e w2 ⟨rfl, hg2⟩; have hown2 := Mem.owns_fresh hown hg2; have hb2 := ft hb hg2; have hzw := hg2.size; clear hown)
          | (at_builtin; refine wpList_append_own _ rfl (.tmp 18) (.tmp 20) 49 rfl w.heap.size 38 i0 _ 1 8 Try.underlying49 hi hz0 hz1 hz2 rfl (by decide) _ _ _ rfl (hown2.alloc _) ⟨w2.heap.size, 0, none⟩ 1 1 [.pointer (some ⟨b j, 0, none⟩)] rfl rfl (World.news_of_block (heap_alloc_new w2 _)) (by simp [Value.oneCell']) (by simp only [maxLen]; omega) (by omega) (by simp; omega) ?_; intro v' w4 hown4 hgrow4 _; have hb4 := (hb2.alloc (by omega) _).grown hgrow4 (by simp; omega) (fun k hk => (hown2.lt k hk).1)))
        go_roundw
        case rel => exact ST.out _ _ hown4 hb4
        case measure => simp [intOf]; omega
    · obtain rfl : j = 32 := by omega
      clear IX UN PJ
      have hr := Lib.hid hrow
      clear hrow
      go_wp2_with fail
      go_ret
      exact ⟨_, rfl, hr.out, hb⟩
end Go.Proofs.Yteoemafdknmklaa.Hr

/- What Unlink and Move of package hier do. Conditions: the queues are sound. -/
namespace Go.Proofs.Yteoemafdknmklaa.Hr
open Go.ChangeShapes Go.WideShapes Go.ChangeAt Go.RowKit Tree Queue
set_option linter.unusedVariables false
set_option linter.unusedSimpArgs false
set_option maxRecDepth 100000

/-- Is there nobody within it, and is it alone? -/
def errUnlinkH (S : Hs) (g : Int) : Int := match lnk S g with
  | none => 1
  | some x => if busy x || decide (1 < (belowL S g.toNat 32).length) then 6 else 0
def unlinkH (S : Hs) (g : Int) : Hs := if errUnlinkH S g = 0 then S.set g.toNat none else S
theorem below_iff (S : Hs) (t : Nat) : ∀ n i, i ∈ belowL S t n ↔ i < n ∧ (S.g i).isSome = true ∧ underS 9 S i t = true := by
  intro n
  induction n with
  | zero => intro i; simp [belowL]
  | succ n ih =>
    intro i
    unfold belowL
    rw [List.mem_append, ih i]
    constructor
    · rintro (h | h)
      · exact ⟨by omega, h.2⟩
      · split at h
        · rename_i hh
          simp at h hh
          subst h
          exact ⟨by omega, hh⟩
        · simp at h
    · rintro ⟨h1, h2, h3⟩
      by_cases e : i = n
      · subst e
        exact .inr (by simp [h2, h3])
      · exact .inl ⟨by omega, h2, h3⟩
/-- One that is alone has none within it. -/
theorem GoodD.alone {dep : Nat → Nat} {S : Hs} (hG : GoodD dep S) {g : Nat} {x : Gp} (hx : S.g g = some x) (hl : ¬ 1 < (belowL S g 32).length) : ∀ i z, S.g i = some z → z.up ≠ some g := by
  intro i z hz hu
  obtain ⟨hne, h0⟩ := hG.up_ne hz hu
  have hg32 := hG.few g x hx
  have hi32 := hG.few i z hz
  have m1 : g ∈ belowL S g 32 := (below_iff S g 32 g).2 ⟨hg32, by rw [hx]; rfl, under_self 9 S g⟩
  have m2 : i ∈ belowL S g 32 := (below_iff S g 32 i).2 ⟨hi32, by rw [hz]; rfl, by rw [under_up hz hu (Ne.symm hne)]; exact under_self 8 S g⟩
  match hL : belowL S g 32 with
  | [] => rw [hL] at m1; cases m1
  | [a] =>
    rw [hL] at m1 m2
    simp at m1 m2
    exact hne (m1.trans m2.symm)
  | a :: c :: l => rw [hL] at hl; simp at hl
theorem GoodD.unlink {dep : Nat → Nat} {S : Hs} (hG : GoodD dep S) {g : Nat} {x : Gp} (hx : S.g g = some x) (h0 : g ≠ 0) (hb : busy x = false) (hon : x.on = false) (ha : ∀ i z, S.g i = some z → z.up ≠ some g) : GoodD dep (S.set g none) := by
  have old : ∀ k z, (S.set g none).g k = some z → k ≠ g ∧ S.g k = some z := fun k z hz => by
    by_cases e : k = g
    · subst e; rw [Hs.set_same] at hz; cases hz
    · rw [Hs.set_other _ _ e] at hz; exact ⟨e, hz⟩
  have keep : ∀ k z, S.g k = some z → k ≠ g → (S.set g none).g k = some z := fun k z hz hk => by rw [Hs.set_other _ _ hk]; exact hz
  refine ⟨hG.cr, hG.gr, ?_, fun i z hz => hG.few i z (old i z hz).2, hG.dep0, fun i z hz => hG.deep i z (old i z hz).2, ?_, fun i z hz => hG.own i z (old i z hz).2, fun i z hz => hG.q i z (old i z hz).2, fun i z hz => hG.ids i z (old i z hz).2, ?_, ?_, fun i z hz => hG.cur i z (old i z hz).2⟩
  · obtain ⟨r, hr, hu, ho⟩ := hG.root
    exact ⟨r, keep 0 r hr (Ne.symm h0), hu, ho⟩
  · intro i z hz hi
    obtain ⟨hk, hz⟩ := old i z hz
    obtain ⟨p, y, e1, e2, e3⟩ := hG.link i z hz hi
    exact ⟨p, y, e1, keep p y e2 (fun e => ha i z hz (by rw [e1, e])), e3⟩
  · intro i z hz e he ho
    obtain ⟨hk, hz⟩ := old i z hz
    obtain ⟨j, y, f1, f2, f3, f4⟩ := hG.inn i z hz e he ho
    exact ⟨j, y, f1, keep j y f2 (fun e => by subst e; rw [hx] at f2; cases f2; rw [hon] at f4; cases f4), f3, f4⟩
  · intro i z hz ho
    obtain ⟨hk, hz⟩ := old i z hz
    obtain ⟨p, y, e1, e2, e3⟩ := hG.out i z hz ho
    exact ⟨p, y, e1, keep p y e2 (fun e => ha i z hz (by rw [e1, e])), e3⟩
theorem topC_unlink {S : Hs} {b : Nat → Nat} {g : Nat} (h32 : g < 32) : (topC S b).setIfInBounds (2 + g) (.pointer none) = topC (S.set g none) b := by
  apply Array.ext_getElem?
  intro k
  by_cases hk : k < 34
  · rw [topC_at _ _ hk]
    by_cases e : k = 2 + g
    · subst e
      rw [Array.getElem?_setIfInBounds_self_of_lt (by rw [topC_size]; omega)]
      unfold cellH
      rw [if_neg (by omega), if_neg (by omega), show 2 + g - 2 = g by omega]
      unfold ptrG
      rw [Hs.set_same]
      rfl
    · rw [Array.getElem?_setIfInBounds_ne (by omega), topC_at _ _ hk]
      unfold cellH
      split
      · rfl
      · split
        · rfl
        · have : k - 2 ≠ g := by omega
          unfold ptrG
          rw [Hs.set_other _ _ this]
  · rw [Array.getElem?_eq_none (by simp [topC_size]; omega), Array.getElem?_eq_none (by rw [topC_size]; omega)]
theorem Hb.unlink {w : World} {h : Nat} {O : Nat → Prop} {b qb : Nat → Nat} {S : Hs} (H : Hb w h O b qb S) {g : Nat} (h32 : g < 32) :
    Hb (w.setCell ⟨h, 2 + g, none⟩ (.pointer none)) h O b qb (S.set g none) ∧ ¬ O h := by
  obtain ⟨o, H, h65⟩ := H
  have hno : ¬ O h := fun e => by have := h65 h e; rw [H.oh] at this; omega
  have old : ∀ k z, (S.set g none).g k = some z → S.g k = some z := fun k z hz => by
    by_cases e : k = g
    · subst e; rw [Hs.set_same] at hz; cases hz
    · rw [Hs.set_other _ _ e] at hz; exact hz
  refine ⟨⟨o, ⟨?_, ?_, ?_, H.oh, fun i z hz => H.og i z (old i z hz), fun i z hz => H.few i z (old i z hz)⟩, h65⟩, hno⟩
  · rw [heap_setCell_same w h (2 + g) _ _ _ H.top, topC_unlink h32]
  · intro i z hz
    have hz := old i z hz
    rw [Below.heap_setCell _ _ _ _ (fun e => by have e' : b i = h := e; have h1 := H.og i z hz; have h2 := H.few i z hz; rw [e', H.oh] at h1; omega)]
    exact H.grp i z hz
  · intro i z hz
    have hz := old i z hz
    exact qu_on (H.que i z hz) fun k _ hk => Below.heap_setCell _ _ _ _ (fun e => by
      have e' : k = h := e
      simp only [ne_eq, Decidable.not_not] at hk
      have := H.few i z hz
      rw [e', H.oh] at hk
      omega)
set_option maxHeartbeats 4000000 in
theorem unlink_ (w : World) (h : Nat) (O : Nat → Prop) (b qb : Nat → Nat) (S : Hs) (H : Hb w h O b qb S) (hO : ∀ k, O k → k < w.heap.size) {dep : Nat → Nat} (hG : GoodD dep S) (g : Int) :
    Calls Try.prog 9 #[.pointer (some ⟨h, 0, none⟩), .int .i64 g] w (DidH (.int .i64 (errUnlinkH S g)) (unlinkH S g) h O b qb w) := by
  have A := Lib.hid (linked_ w h O b qb S H g)
  have HO := Lib.hid hO
  have K0 := Lib.hid H
  rcases lnk_cases S g with ⟨i, x, rfl, h0, hi, hx, e1, e2⟩ | ⟨e1, e2⟩
  · rw [e2] at A
    have er : errUnlinkH S i = if busy x || decide (1 < (belowL S i 32).length) then 6 else 0 := by unfold errUnlinkH; rw [e1]; simp
    have BU := Lib.hid (fun w1 (hg : Below w.heap.size w w1) => busy_ w1 h O b qb S (H.fresh hg) i x hx (hG.q i x hx))
    cases hbu : busy x
    · rw [hbu] at er BU
      simp only [Bool.false_or] at er
      have BL := Lib.hid (fun w1 (hg : Below w.heap.size w w1) => below_ w1 h O b qb S (H.fresh hg) hG hx)
      have hlen := below_len S i 32
      by_cases hl : 1 < (belowL S i 32).length
      · rw [decide_eq_true hl] at er
        simp only [if_true] at er
        have hS : unlinkH S i = S := by unfold unlinkH; rw [if_neg (by omega)]
        rw [er, hS]
        have hl2 : decide (1 < ((belowL S i 32).length : Int)) = true := by simp; omega
        clear hG hx e1 e2 H hO er hS
        unfold Belows at BL
        generalize ptrsG b (belowL S i 32) = xs at *
        generalize (belowL S i 32).length = ln at *
        go_enter Try.func9, Try.ntmps9
        go_wp2_with (first
          | (go_at_call 20; refine A.out.mono ?_; rintro e w1 ⟨rfl, hg1⟩)
          | (go_at_call 24; refine (BU.out _ hg1).mono ?_; rintro e w2 ⟨rfl, hg2⟩; replace hg2 := ft hg1 hg2)
          | (go_at_call 22; refine (BL.out _ hg2).mono ?_; rintro e w3 ⟨v, rfl, hr3, hg3⟩; replace hg3 := ft hg2 hg3; obtain ⟨ao, cap, rfl⟩ := Mem.owns_shape hr3.1))
        go_ret; exact ⟨rfl, K0.out.fresh hg3, same_of HO.out hg3⟩
      · rw [decide_eq_false hl] at er
        simp only [Bool.false_eq_true, if_false] at er
        have hS : unlinkH S i = S.set i none := by unfold unlinkH; rw [if_pos er]; simp
        rw [er, hS]
        have UL : Hid (∀ w1, Hb w1 h O b qb S → Hb (w1.setCell ⟨h, 2 + i, none⟩ (.pointer none)) h O b qb (S.set i none) ∧ ¬ O h) := Lib.hid fun w1 K => K.unlink hi
        have TP : Hid (∀ w1, Hb w1 h O b qb S → w1.cell? ⟨h, 2 + i, none⟩ = some (.pointer (some ⟨b i, 0, none⟩)) ∧ w1.frozen? ⟨h, 2 + i, none⟩ = false) := Lib.hid fun w1 K => by
          obtain ⟨_, _, c, f⟩ := K.top
          have := c i hi
          rw [ptrG_some hx] at this
          exact ⟨this, f _⟩
        have hl2 : decide (1 < ((belowL S i 32).length : Int)) = false := by simp; omega
        have hi2 : (i : Int) < 32 := by omega
        clear hG hx e1 e2 H hO er hS
        generalize S.set i none = S1 at *
        unfold Belows at BL
        generalize ptrsG b (belowL S i 32) = xs at *
        generalize (belowL S i 32).length = ln at *
        go_enter Try.func9, Try.ntmps9
        go_wp2_with (first
          | (go_at_call 20; refine A.out.mono ?_; rintro e w1 ⟨rfl, hg1⟩)
          | (go_at_call 24; refine (BU.out _ hg1).mono ?_; rintro e w2 ⟨rfl, hg2⟩; replace hg2 := ft hg1 hg2)
          | (go_at_call 22; refine (BL.out _ hg2).mono ?_; rintro e w3 ⟨v, rfl, hr3, hg3⟩; replace hg3 := ft hg2 hg3; obtain ⟨ao, cap, rfl⟩ := Mem.owns_shape hr3.1; have K3 := Lib.hid (K0.out.fresh hg3); obtain ⟨t1, t2⟩ := TP.out _ K3.out))
        go_ret; exact ⟨rfl, (UL.out _ K3.out).1, (same_of HO.out hg3).trans (Same.setCell (p := ⟨h, 2 + i, none⟩) (UL.out _ K3.out).2 _)⟩
    · rw [hbu] at er BU
      simp only [Bool.true_or, if_true] at er
      have hS : unlinkH S i = S := by unfold unlinkH; rw [if_neg (by omega)]
      rw [er, hS]
      clear hG hx e1 e2 H hO er hS
      go_enter Try.func9, Try.ntmps9
      go_wp2_with (first
        | (go_at_call 20; refine A.out.mono ?_; rintro e w1 ⟨rfl, hg1⟩)
        | (go_at_call 24; refine (BU.out _ hg1).mono ?_; rintro e w2 ⟨rfl, hg2⟩; replace hg2 := ft hg1 hg2))
      go_ret; exact ⟨rfl, K0.out.fresh hg2, same_of HO.out hg2⟩
  · rw [e2] at A
    have er : errUnlinkH S g = 1 := by unfold errUnlinkH; rw [e1]
    have hS : unlinkH S g = S := by unfold unlinkH; rw [if_neg (by omega)]
    rw [er, hS]
    clear hG e1 e2 H hO er hS
    go_enter Try.func9, Try.ntmps9
    go_wp2_with (go_at_call 20; refine A.out.mono ?_; rintro e w1 ⟨rfl, hg1⟩)
    go_ret; exact ⟨rfl, K0.out.fresh hg1, same_of HO.out hg1⟩
end Go.Proofs.Yteoemafdknmklaa.Hr

/- What Move of package hier leaves sound; nothing of a program. Conditions: as each fact states them. -/
namespace Go.Proofs.Yteoemafdknmklaa.Hr
open Go.ChangeShapes Go.WideShapes Go.ChangeAt Go.RowKit Tree Queue
set_option linter.unusedVariables false
set_option linter.unusedSimpArgs false
set_option maxRecDepth 100000

def busyAt (S : Hs) (i : Nat) : Bool := match S.g i with
  | some x => busy x
  | none => false
def deepAt (S : Hs) (d : Int) (i : Nat) : Bool := decide (8 < (depthS 9 S i : Int) + d)
def errMoveH (S : Hs) (g parent : Int) : Int := match lnk S g with
  | none => 1
  | some _ => match grp S parent with
    | none => 1
    | some _ => if underS 9 S parent.toNat g.toNat then 10 else if (belowL S g.toNat 32).any (busyAt S) then 6
      else if (belowL S g.toNat 32).any (deepAt S ((depthS 9 S parent.toNat : Int) + 1 - depthS 9 S g.toNat)) then 5 else 0
def movedG (x : Gp) (p : Nat) (m n : Int) : Gp := { x with up := some p, own := { x.own with v := Renorm.move x.own.v m n } }
def minOf (S : Hs) (i : Option Nat) : Int := match i with
  | none => 0
  | some j => match S.g j with
    | some y => y.q.min
    | none => 0
def moveH (S : Hs) (g parent : Int) : Hs := if errMoveH S g parent = 0 then (match lnk S g with
  | none => S
  | some x => S.set g.toNat (some (movedG x parent.toNat (minOf S x.up) (minOf S (some parent.toNat))))) else S
theorem move_i64 (v m n : Int) : I64 (Renorm.move v m n) := by
  have := Fix.i64_ends (Renorm.off v m + n)
  unfold Fix.I64 at this
  unfold Renorm.move Renorm.on I64
  omega
theorem under_more {dep : Nat → Nat} {S : Hs} (hG : GoodD dep S) (t : Nat) : ∀ (n i : Nat) (x : Gp), S.g i = some x → dep i ≤ n → underS (n + 1) S i t = underS (n + 2) S i t
  | n, i, x, hx, hn => by
    by_cases hit : i = t
    · subst hit; rw [under_self, under_self]
    · by_cases h0 : i = 0
      · subst h0
        obtain ⟨r, hr, hu, _⟩ := hG.root
        rw [under_root hr hu hit, under_root hr hu hit]
      · obtain ⟨p, y, hp, hy, hd⟩ := hG.link i x hx h0
        rw [under_up hx hp hit, under_up hx hp hit]
        match n, hn with
        | 0, hn => omega
        | n + 1, hn => exact under_more hG t n p y hy (by omega)
theorem under_deep {dep : Nat → Nat} {S : Hs} (hG : GoodD dep S) (t : Nat) : ∀ (n i : Nat) (x : Gp), S.g i = some x → underS n S i t = true → dep t ≤ dep i
  | n, i, x, hx, hu => by
    by_cases hit : i = t
    · subst hit; exact Nat.le_refl _
    · match n, hu with
      | 0, hu => simp [underS] at hu; exact absurd hu hit
      | n + 1, hu =>
        by_cases h0 : i = 0
        · subst h0
          obtain ⟨r, hr, hr0, _⟩ := hG.root
          rw [under_root hr hr0 hit] at hu; cases hu
        · obtain ⟨p, y, hp, hy, hd⟩ := hG.link i x hx h0
          rw [under_up hx hp hit] at hu
          have := under_deep hG t n p y hy hu
          omega
def depM (S : Hs) (dep : Nat → Nat) (i t : Nat) (k : Nat) : Nat := if underS 9 S k i then dep k + dep t + 1 - dep i else dep k
theorem GoodD.move {dep : Nat → Nat} {S : Hs} (hG : GoodD dep S) {i t : Nat} {x z x' : Gp} (hx : S.g i = some x) (h0 : i ≠ 0) (hz : S.g t = some z) (hon : x.on = false) (xu : x'.up = some t) (xq : x'.q = x.q) (xo : x'.on = false)
    (xi : x'.own.id = gid i ∧ OkE x'.own) (hun : underS 9 S t i = false) (hdp : ∀ k y, S.g k = some y → underS 9 S k i = true → dep k + dep t + 1 - dep i ≤ 8) : GoodD (depM S dep i t) (S.set i (some x')) := by
  have hti : t ≠ i := fun e => by rw [e, under_self] at hun; cases hun
  have old : ∀ k y, (S.set i (some x')).g k = some y → (k = i ∧ y = x') ∨ (k ≠ i ∧ S.g k = some y) := fun k y hy => set_cases hy
  have keep : ∀ k y, S.g k = some y → k ≠ i → (S.set i (some x')).g k = some y := fun k y hy hk => by rw [Hs.set_other _ _ hk]; exact hy
  refine ⟨hG.cr, hG.gr, ?_, ?_, ?_, ?_, ?_, ?_, ?_, ?_, ?_, ?_, ?_⟩
  · obtain ⟨r, hr, hu, ho⟩ := hG.root
    exact ⟨r, keep 0 r hr (Ne.symm h0), hu, ho⟩
  · intro k y hy
    rcases old k y hy with ⟨rfl, rfl⟩ | ⟨_, hy⟩
    · exact hG.few _ x hx
    · exact hG.few k y hy
  · obtain ⟨r, hr, hu, ho⟩ := hG.root
    unfold depM
    rw [under_root hr hu (Ne.symm h0)]
    simp [hG.dep0]
  · intro k y hy
    have : ∃ y0, S.g k = some y0 := by
      rcases old k y hy with ⟨rfl, rfl⟩ | ⟨_, hy⟩
      · exact ⟨x, hx⟩
      · exact ⟨y, hy⟩
    obtain ⟨y0, hy0⟩ := this
    unfold depM
    cases hu : underS 9 S k i
    · simpa using hG.deep k y0 hy0
    · simpa using hdp k y0 hy0 hu
  · intro k y hy hk
    rcases old k y hy with ⟨rfl, rfl⟩ | ⟨hki, hy⟩
    · refine ⟨t, z, xu, keep t z hz hti, ?_⟩
      unfold depM
      rw [under_self, hun]
      simp only [if_true, Bool.false_eq_true, if_false]
      omega
    · obtain ⟨p, y', e1, e2, e3⟩ := hG.link k y hy hk
      have hd := hG.deep k y hy
      have hu : underS 9 S k i = underS 9 S p i := by
        rw [under_up hy e1 hki]
        exact under_more hG i 7 p y' e2 (by omega)
      have hd2 : depM S dep i t k = depM S dep i t p + 1 := by
        unfold depM
        rw [hu]
        cases hp : underS 9 S p i
        · simpa using e3
        · have := under_deep hG i 9 p y' e2 hp
          simp only [if_true]
          omega
      by_cases hpi : p = i
      · subst hpi
        exact ⟨p, x', e1, Hs.set_same _ _ _, hd2⟩
      · exact ⟨p, y', e1, keep p y' e2 hpi, hd2⟩
  · intro k y hy hk
    rcases old k y hy with ⟨rfl, rfl⟩ | ⟨_, hy⟩
    · exact xi
    · exact hG.own k y hy hk
  · intro k y hy
    rcases old k y hy with ⟨rfl, rfl⟩ | ⟨_, hy⟩
    · rw [xq]; exact hG.q _ x hx
    · exact hG.q k y hy
  · intro k y hy
    rcases old k y hy with ⟨rfl, rfl⟩ | ⟨_, hy⟩
    · rw [xq]; exact hG.ids _ x hx
    · exact hG.ids k y hy
  · intro k y hy e he ho
    have : ∃ y0, S.g k = some y0 ∧ y0.q = y.q := by
      rcases old k y hy with ⟨rfl, rfl⟩ | ⟨_, hy⟩
      · exact ⟨x, hx, xq.symm⟩
      · exact ⟨y, hy, rfl⟩
    obtain ⟨y0, hy0, hq⟩ := this
    obtain ⟨j, y1, f1, f2, f3, f4⟩ := hG.inn k y0 hy0 e (by rw [hq]; exact he) ho
    refine ⟨j, y1, f1, keep j y1 f2 (fun e => ?_), f3, f4⟩
    subst e
    rw [hx] at f2; cases f2
    rw [hon] at f4; cases f4
  · intro k y hy ho
    rcases old k y hy with ⟨rfl, rfl⟩ | ⟨_, hy⟩
    · rw [xo] at ho; cases ho
    · obtain ⟨p, y', e1, e2, e3⟩ := hG.out k y hy ho
      by_cases hpi : p = i
      · subst hpi
        rw [hx] at e2; cases e2
        exact ⟨p, x', e1, Hs.set_same _ _ _, by rw [xq]; exact e3⟩
      · exact ⟨p, y', e1, keep p y' e2 hpi, e3⟩
  · intro k y hy
    rcases old k y hy with ⟨rfl, rfl⟩ | ⟨_, hy⟩
    · rw [xq]; exact hG.cur _ x hx
    · exact hG.cur k y hy
theorem Fine.move {S : Hs} (h : Fine S) (g p : Int) : Fine (moveH S g p) := by
  obtain ⟨⟨dep, hG⟩, hs⟩ := h
  unfold moveH
  split
  · rename_i her
    unfold errMoveH at her
    rcases lnk_cases S g with ⟨i, x, rfl, h0, hi, hx, e1, _⟩ | ⟨e1, _⟩
    · rw [e1] at her ⊢
      rcases grp_cases S p with ⟨t, z, rfl, ht, hz, f1, _⟩ | ⟨f1, _⟩
      · rw [f1] at her
        simp only [Int.toNat_natCast] at her ⊢
        split at her
        · cases her
        · rename_i hun
          split at her
          · cases her
          · rename_i hbu
            split at her
            · cases her
            · rename_i hdp
              have hun' : underS 9 S t i = false := by cases h : underS 9 S t i; rfl; exact absurd h hun
              have hbx : busy x = false := by
                have := (List.any_eq_false.1 (by simpa using hbu)) i ((below_iff S i 32 i).2 ⟨hi, by rw [hx]; rfl, under_self 9 S i⟩)
                unfold busyAt at this
                rw [hx] at this
                simpa using this
              have hsh : should x = false := by unfold should; rw [hbx]; rfl
              have hon : x.on = false := by rw [hs i x hx h0]; exact hsh
              obtain ⟨o1, o2, o3, o4, o5, o6⟩ := hG.own i x hx h0
              refine ⟨⟨_, hG.move hx h0 hz hon (x' := movedG x t (minOf S x.up) (minOf S (some t))) rfl rfl hon ⟨o1, o2, o3, o4, o5, move_i64 _ _ _⟩ hun' ?_⟩, hs.same hx rfl rfl⟩
              intro k y hy hk
              have hk32 := hG.few k y hy
              have := (List.any_eq_false.1 (by simpa using hdp)) k ((below_iff S i 32 k).2 ⟨hk32, by rw [hy]; rfl, hk⟩)
              unfold deepAt at this
              have d1 := hG.deep k y hy
              have d2 := hG.deep i x hx
              have d3 := hG.deep t z hz
              rw [hG.depth 9 hy (by omega), hG.depth 9 hx (by omega), hG.depth 9 hz (by omega)] at this
              have h8 : (dep k : Int) + ((dep t : Int) + 1 - dep i) ≤ 8 := by simpa using this
              have := under_deep hG i 9 k y hy hk
              omega
      · rw [f1] at her; cases her
    · rw [e1] at her; cases her
  · exact ⟨⟨dep, hG⟩, hs⟩
theorem Fine.unlink {S : Hs} (h : Fine S) (g : Int) : Fine (unlinkH S g) := by
  obtain ⟨⟨dep, hG⟩, hs⟩ := h
  unfold unlinkH
  split
  · rename_i her
    unfold errUnlinkH at her
    rcases lnk_cases S g with ⟨i, x, rfl, h0, hi, hx, e1, _⟩ | ⟨e1, _⟩
    · rw [e1] at her
      simp only [Int.toNat_natCast] at her ⊢
      split at her
      · cases her
      · rename_i hb
        simp only [Bool.or_eq_true, decide_eq_true_eq, not_or] at hb
        have hbx : busy x = false := by simpa using hb.1
        have hsh : should x = false := by unfold should; rw [hbx]; rfl
        have hon : x.on = false := by rw [hs i x hx h0]; exact hsh
        refine ⟨⟨dep, hG.unlink hx h0 hbx hon (hG.alone hx hb.2)⟩, fun k z hz hk => ?_⟩
        by_cases e : k = i
        · subst e; rw [Hs.set_same] at hz; cases hz
        · rw [Hs.set_other _ _ e] at hz; exact hs k z hz hk
    · rw [e1] at her; cases her
  · exact ⟨⟨dep, hG⟩, hs⟩
end Go.Proofs.Yteoemafdknmklaa.Hr

/- What renorm.Off, On and Move return. Conditions: each argument is a number of its kind. -/
namespace Go.Proofs.Yteoemafdknmklaa.Renorm
open Go.ChangeShapes Go.WideShapes Go.ChangeAt Go.RowKit Fix
set_option linter.unusedVariables false
set_option maxRecDepth 100000
set_option linter.unusedSimpArgs false

theorem plus (w : World) : Calls Try.prog 63 #[] w (Gives (.agg #[.func (.func 60) #[] #[], .func (.func 59) #[] #[]]) w) := by
  go_enter Try.func63, Try.ntmps63
  go_wp2
  refine bodyPost_ret (v := .agg #[.func (.func 60) #[] #[], .func (.func 59) #[] #[]]) (by simp [results, Try.results63, go_sem]) rfl ?_
  exact ⟨rfl, by go_grown⟩

theorem of_less (a b : Int) (w : World) (ha : I64 a) (hb : I64 b) :
    Calls Try.prog 62 #[.agg #[.func (.func 76) #[] #[], .func (.func 77) #[] #[]], .int .i64 a, .int .i64 b] w (TwoB (off a b) (offO a b) w) := by
  have m1 := Lib.hid (fun w => Fix.less a b w ha hb)
  have m2 := Lib.hid (fun w => Fix.sub a b w ha hb)
  unfold off offO
  generalize ends (a - b) = x at *
  generalize only (a - b) = y at *
  generalize fits (a - b) = is at *
  go_enter Try.func62, Try.ntmps62
  go_wp2_with (first
    | (go_at_call 77; refine (m2.out _).mono ?_; rintro e w1 ⟨rfl, rfl⟩)
    | (go_at_call 76; refine (m1.out _).mono ?_; rintro e w1 ⟨rfl, hg1⟩))
  go_ret2; exact ⟨rfl, fresh_trans ((Below.refl _ w).alloc (Nat.le_refl _) _) hg1⟩
theorem of_plus (a b : Int) (w : World) (ha : I64 a) (hb : I64 b) :
    Calls Try.prog 62 #[.agg #[.func (.func 60) #[] #[], .func (.func 59) #[] #[]], .int .i64 a, .int .i64 b] w (TwoB (on a b) (onO a b) w) := by
  have m1 := Lib.hid (fun w => Fix.sat a b w ha hb)
  have m2 := Lib.hid (fun w => Fix.add a b w ha hb)
  unfold on onO
  generalize ends (a + b) = x at *
  generalize only (a + b) = y at *
  generalize fits (a + b) = is at *
  go_enter Try.func62, Try.ntmps62
  go_wp2_with (first
    | (go_at_call 59; refine (m2.out _).mono ?_; rintro e w1 ⟨rfl, rfl⟩)
    | (go_at_call 60; refine (m1.out _).mono ?_; rintro e w1 ⟨rfl, hg1⟩))
  go_ret2; exact ⟨rfl, fresh_trans ((Below.refl _ w).alloc (Nat.le_refl _) _) hg1⟩

theorem offs (v m : Int) (w : World) (hv : I64 v) (hm : I64 m) :
    Calls Try.prog 42 #[.int .i64 v, .int .i64 m] w (TwoB (off v m) (offO v m) w) := by
  have m1 := Lib.hid (fun w => of_less v m w hv hm)
  generalize off v m = x at *
  generalize offO v m = y at *
  have hg := Below.refl w.heap.size w
  go_enter Try.func42, Try.ntmps42
  go_wp2_with (first
    | (go_at_call 61; refine (less _).mono ?_; rintro e w1 ⟨rfl, hg1⟩; replace hg := fresh_trans hg hg1; clear hg1)
    | (go_at_call 62; refine (m1.out _).mono ?_; rintro e w1 ⟨rfl, hg1⟩; replace hg := fresh_trans hg hg1; clear hg1))
  go_ret2; exact ⟨rfl, hg⟩
theorem ons (v m : Int) (w : World) (hv : I64 v) (hm : I64 m) :
    Calls Try.prog 43 #[.int .i64 v, .int .i64 m] w (TwoB (on v m) (onO v m) w) := by
  have m1 := Lib.hid (fun w => of_plus v m w hv hm)
  generalize on v m = x at *
  generalize onO v m = y at *
  have hg := Below.refl w.heap.size w
  go_enter Try.func43, Try.ntmps43
  go_wp2_with (first
    | (go_at_call 63; refine (plus _).mono ?_; rintro e w1 ⟨rfl, hg1⟩; replace hg := fresh_trans hg hg1; clear hg1)
    | (go_at_call 62; refine (m1.out _).mono ?_; rintro e w1 ⟨rfl, hg1⟩; replace hg := fresh_trans hg hg1; clear hg1))
  go_ret2; exact ⟨rfl, hg⟩
theorem moves (v f t : Int) (w : World) (hv : I64 v) (hf : I64 f) (ht : I64 t) :
    Calls Try.prog 26 #[.int .i64 v, .int .i64 f, .int .i64 t] w (TwoB (move v f t) (moveO v f t) w) := by
  have m1 := Lib.hid (fun w => offs v f w hv hf)
  have m2 := Lib.hid (fun w => ons (off v f) t w (i64_ends _) ht)
  unfold move moveO
  generalize on (off v f) t = x at *
  generalize onO (off v f) t = y at *
  generalize off v f = o at *
  generalize offO v f = p at *
  have hg := Below.refl w.heap.size w
  cases p
  all_goals
    go_enter Try.func26, Try.ntmps26
    go_wp2_with (first
      | (go_at_call 42; refine (m1.out _).mono ?_; rintro e w1 ⟨rfl, hg1⟩; replace hg := fresh_trans hg hg1; clear hg1)
      | (go_at_call 43; refine (m2.out _).mono ?_; rintro e w1 ⟨rfl, hg1⟩; replace hg := fresh_trans hg hg1; clear hg1))
    go_ret2; exact ⟨rfl, hg⟩
end Go.Proofs.Yteoemafdknmklaa.Renorm

/- What Move of package hier does. Conditions: the queues are sound. -/
namespace Go.Proofs.Yteoemafdknmklaa.Hr
open Go.ChangeShapes Go.WideShapes Go.ChangeAt Go.RowKit Tree Queue
set_option linter.unusedVariables false
set_option linter.unusedSimpArgs false
set_option maxRecDepth 100000

def AnyI (l : List Nat) (pf : Nat → Bool) (w : World) (t : Value) (wr : World) : Prop := ∃ j : Nat, t = .int .i64 j ∧ j ≤ l.length ∧ (∀ k i, k < j → l[k]? = some i → pf i = false) ∧ Below w.heap.size w wr
def IsIdx (is : Bool) (w : World) (e : Ending) (w' : World) : Prop := ∃ z : Int, e = .returned (.int .i64 z) ∧ (0 ≤ z ↔ is = true) ∧ -1 ≤ z ∧ z ≤ 1000 ∧ Below w.heap.size w w'
theorem any_none {l : List Nat} {pf : Nat → Bool} (h : ∀ k i, k < l.length → l[k]? = some i → pf i = false) : l.any pf = false := by
  rw [List.any_eq_false]
  intro i hi
  obtain ⟨k, hk, e⟩ := List.getElem_of_mem hi
  have := h k i hk (by rw [List.getElem?_eq_getElem hk, e])
  simp [this]

set_option maxHeartbeats 4000000 in
theorem indexB_ (w : World) (b : Nat → Nat) (l : List Nat) (pf : Nat → Bool) (v : Value) (O : Nat → Prop) (hrow : Mem.Row w O 38 1 v l.length (ptrsG b l)) (hlen : l.length ≤ 32)
    (hF : ∀ i, i ∈ l → ∀ w1, Below w.heap.size w w1 → Calls Try.prog 24 #[.pointer (some ⟨b i, 0, none⟩)] w1 (Is (.bool (pf i)) w1)) :
    Calls Try.prog 40 #[v, .func (.func 24) #[] #[]] w (IsIdx (l.any pf) w) := by
  obtain ⟨ao, cap, rfl⟩ := Mem.owns_shape hrow.1
  have PC : Hid (∀ j i, l[j]? = some i → ∃ g, ao = some ⟨g, 0, none⟩ ∧ w.cell? ⟨g, j, none⟩ = some (.pointer (some ⟨b i, 0, none⟩)) ∧ g < w.heap.size) := by
    refine Lib.hid fun j i hj => ?_
    obtain ⟨g, c, e, h1, _, _, h2⟩ := Mem.row_cell (k := j) (x := .pointer (some ⟨b i, 0, none⟩)) hrow.1 (by simp [ptrsG, hj])
    cases e
    exact ⟨g, rfl, h1, h2⟩
  have HF := Lib.hid hF
  have hg := Below.refl w.heap.size w
  clear hF hrow
  generalize hn : l.length = n at *
  go_enter Try.func40, Try.ntmps40
  go_wp2_with fail
  go_loopw [8] (fun t wr => AnyI l pf w t wr) (fun t _ => 40 - (intOf t).toNat)
  case atStart => exact ⟨0, rfl, by omega, fun k i hk => absurd hk (Nat.not_lt_zero _), hg⟩
  case round =>
    clear hg
    obtain ⟨j, rfl, hj, hno, hb⟩ := hrel
    by_cases hlt : j < n
    · obtain ⟨i, hi⟩ : ∃ i, l[j]? = some i := ⟨l[j]'(by omega), List.getElem?_eq_getElem (by omega)⟩
      obtain ⟨g, rfl, hc, hgl⟩ := PC.out j i hi
      have hc' := (hb.cell (p := ⟨g, j, none⟩) hgl).trans hc
      have h1 : (j : Int) < n := by omega
      have C := Lib.hid (HF.out i (List.mem_of_getElem? hi) wr hb)
      cases hp : pf i
      · have ST : Hid (∀ w2, Below wr.heap.size wr w2 → AnyI l pf w (.int .i64 ((j : Int) + 1)) w2) := Lib.hid fun w2 hg2 => ⟨j + 1, by simp, by omega, fun k i' hk hi' => by
          by_cases e : k = j
          · subst e; rw [hi] at hi'; cases hi'; exact hp
          · exact hno k i' (by omega) hi', ft hb hg2⟩
        rw [hp] at C
        clear HF PC hno hc hn hi hp
        go_wp2_with (go_at_call 24; refine C.out.mono ?_; rintro e w2 ⟨rfl, hg2⟩)
        go_roundw
        case rel => exact ST.out _ hg2
        case measure => simp [intOf]; omega
      · have DN : Hid (l.any pf = true) := Lib.hid (List.any_eq_true.2 ⟨i, List.mem_of_getElem? hi, hp⟩)
        rw [hp] at C
        clear HF PC hno hc hn hi hp
        generalize l.any pf = an at *
        go_wp2_with (go_at_call 24; refine C.out.mono ?_; rintro e w2 ⟨rfl, hg2⟩)
        go_ret
        exact ⟨j, rfl, ⟨fun _ => DN.out, fun _ => by omega⟩, by omega, by omega, ft hb hg2⟩
    · have hjn : j = n := by omega
      have DN : Hid (l.any pf = false) := Lib.hid (any_none fun k i hk hi => hno k i (by omega) hi)
      have h1 : ¬ (j : Int) < n := by omega
      clear HF PC hno hn hjn
      generalize l.any pf = an at *
      go_wp2_with fail
      go_ret
      exact ⟨-1, rfl, ⟨fun h => absurd h (by omega), fun h => by rw [DN.out] at h; cases h⟩, by omega, by omega, hb⟩
theorem containsB_ (w : World) (b : Nat → Nat) (l : List Nat) (pf : Nat → Bool) (v : Value) (O : Nat → Prop) (hrow : Mem.Row w O 38 1 v l.length (ptrsG b l)) (hlen : l.length ≤ 32)
    (hF : ∀ i, i ∈ l → ∀ w1, Below w.heap.size w w1 → Calls Try.prog 24 #[.pointer (some ⟨b i, 0, none⟩)] w1 (Is (.bool (pf i)) w1)) :
    Calls Try.prog 23 #[v, .func (.func 24) #[] #[]] w (Is (.bool (l.any pf)) w) := by
  have IX := Lib.hid (indexB_ w b l pf v O hrow hlen hF)
  clear hF hrow
  cases hz : l.any pf
  all_goals
    rw [hz] at IX
    go_enter Try.func23, Try.ntmps23
    go_wp2_with (go_at_call 40; refine IX.out.mono ?_; rintro e w1 ⟨z, rfl, hz1, _, _, hg1⟩)
    go_ret
    refine ⟨?_, hg1⟩
    by_cases h0 : 0 ≤ z
    · have := hz1.1 h0; simp_all
    · have h1 : ¬ 0 ≤ z := h0
      simp_all

set_option maxHeartbeats 4000000 in
theorem indexD_ (w : World) (b : Nat → Nat) (l : List Nat) (pf : Nat → Bool) (v : Value) (Bd : Nat) (O : Nat → Prop) (hrow : Mem.Row w O 38 1 v l.length (ptrsG b l)) (hlen : l.length ≤ 32)
    (hF : ∀ i, i ∈ l → ∀ w1, Below w.heap.size w w1 → Calls Try.prog 25 #[.pointer (some ⟨b i, 0, none⟩), .pointer (some ⟨Bd, 0, none⟩)] w1 (Is (.bool (pf i)) w1)) :
    Calls Try.prog 40 #[v, .func (.func 25) #[] #[.pointer (some ⟨Bd, 0, none⟩)]] w (IsIdx (l.any pf) w) := by
  obtain ⟨ao, cap, rfl⟩ := Mem.owns_shape hrow.1
  have PC : Hid (∀ j i, l[j]? = some i → ∃ g, ao = some ⟨g, 0, none⟩ ∧ w.cell? ⟨g, j, none⟩ = some (.pointer (some ⟨b i, 0, none⟩)) ∧ g < w.heap.size) := by
    refine Lib.hid fun j i hj => ?_
    obtain ⟨g, c, e, h1, _, _, h2⟩ := Mem.row_cell (k := j) (x := .pointer (some ⟨b i, 0, none⟩)) hrow.1 (by simp [ptrsG, hj])
    cases e
    exact ⟨g, rfl, h1, h2⟩
  have HF := Lib.hid hF
  have hg := Below.refl w.heap.size w
  clear hF hrow
  generalize hn : l.length = n at *
  go_enter Try.func40, Try.ntmps40
  go_wp2_with fail
  go_loopw [8] (fun t wr => AnyI l pf w t wr) (fun t _ => 40 - (intOf t).toNat)
  case atStart => exact ⟨0, rfl, by omega, fun k i hk => absurd hk (Nat.not_lt_zero _), hg⟩
  case round =>
    clear hg
    obtain ⟨j, rfl, hj, hno, hb⟩ := hrel
    by_cases hlt : j < n
    · obtain ⟨i, hi⟩ : ∃ i, l[j]? = some i := ⟨l[j]'(by omega), List.getElem?_eq_getElem (by omega)⟩
      obtain ⟨g, rfl, hc, hgl⟩ := PC.out j i hi
      have hc' := (hb.cell (p := ⟨g, j, none⟩) hgl).trans hc
      have h1 : (j : Int) < n := by omega
      have C := Lib.hid (HF.out i (List.mem_of_getElem? hi) wr hb)
      cases hp : pf i
      · have ST : Hid (∀ w2, Below wr.heap.size wr w2 → AnyI l pf w (.int .i64 ((j : Int) + 1)) w2) := Lib.hid fun w2 hg2 => ⟨j + 1, by simp, by omega, fun k i' hk hi' => by
          by_cases e : k = j
          · subst e; rw [hi] at hi'; cases hi'; exact hp
          · exact hno k i' (by omega) hi', ft hb hg2⟩
        rw [hp] at C
        clear HF PC hno hc hn hi hp
        go_wp2_with (go_at_call 25; refine C.out.mono ?_; rintro e w2 ⟨rfl, hg2⟩)
        go_roundw
        case rel => exact ST.out _ hg2
        case measure => simp [intOf]; omega
      · have DN : Hid (l.any pf = true) := Lib.hid (List.any_eq_true.2 ⟨i, List.mem_of_getElem? hi, hp⟩)
        rw [hp] at C
        clear HF PC hno hc hn hi hp
        generalize l.any pf = an at *
        go_wp2_with (go_at_call 25; refine C.out.mono ?_; rintro e w2 ⟨rfl, hg2⟩)
        go_ret
        exact ⟨j, rfl, ⟨fun _ => DN.out, fun _ => by omega⟩, by omega, by omega, ft hb hg2⟩
    · have hjn : j = n := by omega
      have DN : Hid (l.any pf = false) := Lib.hid (any_none fun k i hk hi => hno k i (by omega) hi)
      have h1 : ¬ (j : Int) < n := by omega
      clear HF PC hno hn hjn
      generalize l.any pf = an at *
      go_wp2_with fail
      go_ret
      exact ⟨-1, rfl, ⟨fun h => absurd h (by omega), fun h => by rw [DN.out] at h; cases h⟩, by omega, by omega, hb⟩
theorem containsD_ (w : World) (b : Nat → Nat) (l : List Nat) (pf : Nat → Bool) (v : Value) (Bd : Nat) (O : Nat → Prop) (hrow : Mem.Row w O 38 1 v l.length (ptrsG b l)) (hlen : l.length ≤ 32)
    (hF : ∀ i, i ∈ l → ∀ w1, Below w.heap.size w w1 → Calls Try.prog 25 #[.pointer (some ⟨b i, 0, none⟩), .pointer (some ⟨Bd, 0, none⟩)] w1 (Is (.bool (pf i)) w1)) :
    Calls Try.prog 23 #[v, .func (.func 25) #[] #[.pointer (some ⟨Bd, 0, none⟩)]] w (Is (.bool (l.any pf)) w) := by
  have IX := Lib.hid (indexD_ w b l pf v Bd O hrow hlen hF)
  clear hF hrow
  cases hz : l.any pf
  all_goals
    rw [hz] at IX
    go_enter Try.func23, Try.ntmps23
    go_wp2_with (go_at_call 40; refine IX.out.mono ?_; rintro e w1 ⟨z, rfl, hz1, _, _, hg1⟩)
    go_ret
    refine ⟨?_, hg1⟩
    by_cases h0 : 0 ≤ z
    · have := hz1.1 h0; simp_all
    · have h1 : ¬ 0 ≤ z := h0
      simp_all
end Go.Proofs.Yteoemafdknmklaa.Hr
