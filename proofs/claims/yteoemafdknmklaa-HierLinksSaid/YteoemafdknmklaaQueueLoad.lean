/- What Load of package runq answers. Conditions: each weight is one that may be. -/
import Derived.Test.YteoemafdknmklaaQueueNil
import Derived.LoopTactic
namespace Go.Proofs.Yteoemafdknmklaa.Queue
open Go.ChangeShapes Go.WideShapes Go.ChangeAt Go.RowKit Tree
set_option linter.unusedVariables false
set_option linter.unusedSimpArgs false
set_option maxRecDepth 100000

def total (es : List Ent) : Int := (es.map Ent.wt).sum
/-- The weights of those that are still to come. -/
def toCome (left : Lit → Bool) : List Ent → Int
  | [] => 0
  | e :: l => (if left (.int .i64 e.id) then e.wt else 0) + toCome left l
theorem toCome_none {left : Lit → Bool} (h : ∀ k, left k = false) (es : List Ent) : toCome left es = 0 := by
  induction es with
  | nil => rfl
  | cons e l ih => simp [toCome, h, ih]
theorem toCome_all {left : Lit → Bool} {es : List Ent} (h : ∀ e ∈ es, left (.int .i64 e.id) = true) : toCome left es = total es := by
  induction es with
  | nil => rfl
  | cons e l ih =>
    have := ih (fun x hx => h x (by simp [hx]))
    simp only [total, List.map_cons, List.sum_cons] at *
    simp only [toCome, h e (by simp), if_true, this]
theorem toCome_pos {left : Lit → Bool} {es : List Ent} (h : ∀ e ∈ es, 0 ≤ e.wt) : 0 ≤ toCome left es := by
  induction es with
  | nil => exact Int.le_refl _
  | cons e l ih =>
    have := ih (fun x hx => h x (by simp [hx]))
    have := h e (by simp)
    simp only [toCome]
    split <;> omega
theorem toCome_same {left left' : Lit → Bool} {es : List Ent} (h : ∀ e ∈ es, left (.int .i64 e.id) = left' (.int .i64 e.id)) : toCome left es = toCome left' es := by
  induction es with
  | nil => rfl
  | cons e l ih => simp only [toCome]; rw [h e (by simp), ih (fun x hx => h x (by simp [hx]))]
theorem toCome_strike {left : Lit → Bool} {es : List Ent} (ho : Once es) {e : Ent} (he : e ∈ es) (hl : left (.int .i64 e.id) = true) : toCome (fun z => left z && !z.sameKey (.int .i64 e.id)) es + e.wt = toCome left es := by
  induction es with
  | nil => simp at he
  | cons x l ih =>
    unfold Once at ho
    rw [List.pairwise_cons] at ho
    simp only [toCome]
    rcases List.mem_cons.1 he with rfl | he'
    · have : toCome (fun z => left z && !z.sameKey (.int .i64 e.id)) l = toCome left l := toCome_same fun y hy => by
        rw [Maps.sameKey_ne (keyNe (fun h => ho.1 y hy h.symm))]; simp
      simp only [this, hl, if_true]
      simp [Lit.sameKey]
      omega
    · have hne : x.id ≠ e.id := ho.1 e he'
      have := ih ho.2 he'
      simp only [Maps.sameKey_ne (keyNe hne), Bool.not_false, Bool.and_true]
      omega
theorem total_bd {es : List Ent} (h : ∀ e ∈ es, 0 ≤ e.wt ∧ e.wt ≤ 262144) : 0 ≤ total es ∧ total es ≤ 262144 * es.length := by
  induction es with
  | nil => simp [total]
  | cons e l ih =>
    have a := ih (fun x hx => h x (by simp [hx]))
    have b := h e (by simp)
    simp only [total, List.map_cons, List.sum_cons, List.length_cons] at *
    omega
def LoadI (w : World) (m r n : Nat) (D : DataW Unit) (es : List Ent) (s : Value) (wr : World) : Prop :=
  ∃ (left : Lit → Bool) (cnt : Nat) (sum : Int), s = .int .u64 sum ∧ wr.ranges Try.prog 3 entR m r n D left cnt ∧ 0 ≤ sum ∧ sum + toCome left es = total es ∧ Below w.heap.size w wr
set_option maxHeartbeats 2000000 in
theorem loads (w : World) (q : Nat) (O : Nat → Prop) (st : St) (h : Qu w q O st) (ho : Once st.es) (hw : ∀ e ∈ st.es, 0 ≤ e.wt ∧ e.wt ≤ 262144) (hl : st.es.length ≤ 500) :
    Calls Try.prog 41 #[.pointer (some ⟨q, 0, none⟩)] w (Is (.int .u64 (total st.es)) w) := by
  have M := Lib.hid (made w q O st h)
  obtain ⟨m, t, T, h⟩ := h
  obtain ⟨c0, c1, c2, c3, c4, fz⟩ := h.blk.cells
  obtain ⟨D, hown, hsz, hhas, hat⟩ := h.map
  have hml := h.map.lt
  have HH := Lib.hid hhas
  have HA := Lib.hid hat
  have hbd := total_bd hw
  have hwp : ∀ left, 0 ≤ toCome left st.es := fun left => toCome_pos fun e he => (hw e he).1
  clear h hhas hat
  generalize hes : st.es = es at *
  generalize es.length = len at *
  go_enter Try.func41, Try.ntmps41
  go_wp2_with (first
    | (go_at_call 44; refine (M.out).mono ?_; rintro e w1 ⟨rfl, rfl⟩)
    | (at_range; refine wpList_range_own _ rfl _ 65 rfl 3 30 law underMap entR m len D rfl hown ?_; intro w0 hrg0 hg0 hs0))
  go_frame
  go_loopw [3] (fun s wr => LoadI w m w.heap.size len D es s wr) (fun _ wr => wr.rangeLeft m w.heap.size)
  case atStart =>
    refine ⟨_, _, 0, rfl, hrg0, by omega, ?_, ⟨hg0.os, hg0.tape, hg0.output, hg0.size, fun b hb => hg0.block b hb (by simp)⟩⟩
    rw [toCome_all fun e he => by rw [HH.out]; exact List.any_eq_true.2 ⟨e, he, by simp⟩]
    omega
  case round =>
    obtain ⟨left, cnt, sum, rfl, hrg, hpos, hsum, hb⟩ := hrel
    clear hrg0 hg0 hs0
    have hb1 := hwp left
    go_wp2_with (at_next; refine wpList_next_ranges _ rfl _ rfl 3 law entR (Value.int .i64) Ent.val (fun key kl hk => by obtain ⟨x, rfl, _⟩ := Maps.keyOf_int_inv underInt hk; exact ⟨x, rfl⟩) (fun v y hv => by obtain ⟨e, rfl, _⟩ := entR_inv hv; exact ⟨e, rfl⟩) m w.heap.size len D left cnt rfl hrg ?_ ?_)
    · intro _ hl0
      go_wp2_with fail
      go_ret
      rw [toCome_none hl0] at hsum
      exact is_of (by rw [← hsum]; simp) hb
    · intro x c kl y1 y2 w1 cnt1 hkey hlk hv hat hrg1 hlt hg1 hs1 hen
      obtain ⟨x', ex, rfl, hwx⟩ := Maps.keyOf_int_inv underInt hkey
      cases ex
      have hnm : named es x = true := by rw [← HH.out]; exact Maps.has_true_of_atKey hat
      obtain ⟨f1, f2⟩ := find_of hnm
      obtain ⟨c', ec, ey⟩ := entR_inv hv
      have hce : c = find es x := by
        have e1 := HA.out _ f1 Ent.zero.datum
        rw [f2, hat] at e1
        have e2 : c.datum = (find es x).datum := by
          have : entR c.val = some (c.datum, []) := entR_mk c
          rw [hv] at this
          rw [← e1]
          exact (congrArg Prod.fst (Option.some.inj this)).symm
        exact datum_inj e2
      have hcm : c ∈ es := hce ▸ f1
      have hcx : c.id = x := by rw [hce]; exact f2
      have hst := toCome_strike ho hcm (left := left) (by rw [hcx]; exact hlk)
      rw [hcx] at hst
      have hcw := hw c hcm
      have hb2 := hwp (fun z => left z && !z.sameKey (.int .i64 x))
      clear hat hv hnm f1 f2 ec ey hce hcm hkey hlk
      have hb3 : Below w.heap.size w w1 := hb.trans ⟨hg1.os, hg1.tape, hg1.output, hg1.size, fun b hb' => hg1.block b (Nat.lt_of_lt_of_le hb' hb.size) (fun e => by cases e; omega)⟩
      have HB := Lib.hid hb3
      have HR := Lib.hid hrg1
      have HR0 := Lib.hid hrg
      have HL := Lib.hid hlt
      generalize hT : toCome (fun z => left z && !z.sameKey (.int .i64 x)) es = tc at *
      have HT := Lib.hid hT
      clear hb3 hrg1 hrg hT
      obtain ⟨ca, cb, cc, cd⟩ := c
      simp only [Ent.val] at *
      go_wp2_with fail
      refine ⟨⟨_, cnt1, sum + cb, rfl, HR.out.alloc _, by omega, by rw [HT.out]; omega, HB.out.alloc HB.out.size _⟩, ?_⟩
      rw [(HR.out.alloc _).left_eq, HR0.out.left_eq]
      exact HL.out
end Go.Proofs.Yteoemafdknmklaa.Queue
