/- The document's queue beside the program's: what each deed does to both. Conditions: as each fact states them. -/
import Derived.Test.YtdigakgfehaabaaPlaysB
import Derived.Test.YtdigakgfehaabaaPlaysC
import Derived.Test.YtdigakgfehaabaaQueueCharge
import Derived.Deep.Cut
import Derived.Deep.DeepCutAuto
import Derived.Deep.CutBlock
import Derived.Test.YtdigakgfehaabaaReadOn
import Derived.Deep.Slices
namespace Go.Proofs.Ytdigakgfehaabaa.Queue
open Go.ChangeShapes Go.WideShapes Go.ChangeAt Go.RowKit Tree
set_option linter.unusedVariables false
set_option linter.unusedSimpArgs false
set_option maxRecDepth 100000

structure Twin (d : Dq) (st : St) : Prop where
  like : Like d st
  sound : Sound st
  sorted : Sorted (st.es.map Ent.key)
  cur : st.cur = -1 ∨ named st.es st.cur = true
theorem Twin.once {d : Dq} {st : St} (h : Twin d st) : Once d.l := once_perm h.like.perm.symm h.sound.once
theorem Twin.each {d : Dq} {st : St} (h : Twin d st) {e : Ent} (he : e ∈ d.l) : 0 ≤ e.id ∧ e.id ≤ 9223372036854775807 ∧ 2 ≤ e.wt ∧ e.wt ≤ 262144 ∧ 0 ≤ e.rm ∧ e.rm < e.wt ∧ I64 e.v := h.sound.each e (h.like.perm.mem_iff.1 he)
theorem Twin.few {d : Dq} {st : St} (h : Twin d st) : d.l.length ≤ 128 := by rw [h.like.perm.length_eq]; exact h.sound.few
theorem Twin.new : Twin Dq.new St.new := ⟨⟨.rfl, rfl, rfl, rfl⟩, Sound.new, List.Pairwise.nil, .inl rfl⟩
theorem Qu.sorted {w : World} {q : Nat} {O : Nat → Prop} {st : St} (h : Qu w q O st) : Sorted (st.es.map Ent.key) := by
  obtain ⟨m, t, T, h⟩ := h
  rw [← h.keys]; exact h.kept.sorted

/-! ### what is kept -/
theorem sound_weigh {st : St} (h : Sound st) (id x : Int) (hx : 0 ≤ x) : Sound (weighS st id x) := by
  unfold weighS
  split
  · rename_i hz
    apply Sound.rise
    have hnm : named st.es id = true := by
      unfold errWeigh at hz
      cases hh : named st.es id
      · rw [hh] at hz; simp at hz
      · rfl
    have hce : Vrun.cerr x 0 0 = 0 := by unfold errWeigh at hz; rw [hnm] at hz; simpa using hz
    have hxb := cerr_zero hce
    obtain ⟨f1, f2⟩ := find_of hnm
    have he := h.each _ f1
    have hp := setE_perm h.once (e := weighed (find st.es id) x) (by show named st.es (find st.es id).id = true; rw [f2]; exact hnm)
    have hq : 0 ≤ Wide.quo (find st.es id).rm x (find st.es id).wt ∧ Wide.quo (find st.es id).rm x (find st.es id).wt < x := by
      unfold Wide.quo
      have hlt : (find st.es id).rm * x / (find st.es id).wt < x := by
        apply Int.ediv_lt_of_lt_mul (by omega)
        rw [Int.mul_comm x]
        exact Int.mul_lt_mul_of_pos_right he.2.2.2.2.2.1 (by omega)
      have h0 : 0 ≤ (find st.es id).rm * x / (find st.es id).wt := Int.ediv_nonneg (Int.mul_nonneg (by omega) (by omega)) (by omega)
      rw [if_pos ⟨by omega, by omega⟩]
      exact ⟨h0, hlt⟩
    refine ⟨?_, ?_, ?_, h.cur, h.min⟩
    · show Once (setE (weighed (find st.es id) x) st.es)
      refine once_perm hp ?_
      unfold Once
      rw [List.pairwise_cons]
      refine ⟨fun d hd => ?_, once_drop h.once _⟩
      have := (mem_drop.1 hd).2
      exact fun e => this e.symm
    · intro e he'
      have he2 : e ∈ setE (weighed (find st.es id) x) st.es := he'
      rw [← hp.mem_iff] at he2
      rcases List.mem_cons.1 he2 with rfl | hd
      · have hb : I64 (find st.es id).v := he.2.2.2.2.2.2
        exact ⟨he.1, he.2.1, by show 2 ≤ x; omega, by show x ≤ 262144; omega, hq.1, hq.2, hb⟩
      · exact h.each e (mem_drop.1 hd).1
    · show (setE (weighed (find st.es id) x) st.es).length ≤ 128
      unfold setE
      rw [List.length_map]
      exact h.few
  · exact h
theorem named_mem {es : List Ent} {e : Ent} (h : e ∈ es) : named es e.id = true := List.any_eq_true.2 ⟨e, h, by simp⟩
theorem mem_named {es : List Ent} {j : Int} (h : named es j = true) : ∃ e, e ∈ es ∧ e.id = j := by
  obtain ⟨e, he, h⟩ := List.any_eq_true.1 h
  exact ⟨e, he, by simpa using h⟩
theorem named_setE (e : Ent) (es : List Ent) (j : Int) : named (setE e es) j = named es j := by
  unfold named setE
  rw [List.any_map]
  congr 1
  funext x
  simp only [Function.comp]
  split
  · rename_i h; rw [h]
  · rfl
theorem cur_put {st : St} (h : st.cur = -1 ∨ named st.es st.cur = true) (e : Ent) : (putS st e).cur = -1 ∨ named (putS st e).es (putS st e).cur = true := by
  unfold putS
  split
  · rw [rise_es, rise_cur]
    rcases h with h | h
    · exact .inl h
    · obtain ⟨x, hx, hi⟩ := mem_named h
      refine .inr ?_
      rw [← hi]
      exact named_mem (mem_insE.2 (.inr hx))
  · exact h
theorem cur_drop {st : St} (h : st.cur = -1 ∨ named st.es st.cur = true) (id : Int) : (dropS st id).cur = -1 ∨ named (dropS st id).es (dropS st id).cur = true := by
  unfold dropS
  split
  · rw [rise_es, rise_cur]
    simp only
    by_cases hc : st.cur = id
    · rw [if_pos hc]; exact .inl rfl
    · rw [if_neg hc, named_drop]
      rcases h with h | h
      · exact .inl h
      · exact .inr (by rw [h]; simp [hc])
  · exact h
theorem cur_weigh {st : St} (h : st.cur = -1 ∨ named st.es st.cur = true) (id x : Int) : (weighS st id x).cur = -1 ∨ named (weighS st id x).es (weighS st id x).cur = true := by
  unfold weighS
  split
  · rw [rise_es, rise_cur]
    simp only
    rw [named_setE]
    exact h
  · exact h
theorem cur_charge {st : St} (h : st.cur = -1 ∨ named st.es st.cur = true) (ns : Int) : (chargeS st ns).cur = -1 ∨ named (chargeS st ns).es (chargeS st ns).cur = true := by
  unfold chargeS
  split
  · rw [rise_es, rise_cur]
    rcases h with h | h
    · exact .inl h
    · obtain ⟨f1, f2⟩ := find_of h
      refine .inr ?_
      show named (insE (served (find st.es st.cur) ns) (drop st.es st.cur)) st.cur = true
      have : (served (find st.es st.cur) ns).id = st.cur := f2
      have hm := named_mem (mem_insE.2 (.inl rfl) : served (find st.es st.cur) ns ∈ insE (served (find st.es st.cur) ns) (drop st.es st.cur))
      rw [this] at hm
      exact hm
  · exact h
theorem yielded_is' (st : St) (g : Int) : yielded st g = -1 ∨ named st.es (yielded st g) = true := by
  unfold yielded
  split
  · split
    · exact .inl rfl
    · rename_i o ho
      refine .inr (List.any_eq_true.2 ⟨o, ?_, by simp⟩)
      unfold other at ho
      exact (mem_drop.1 (List.mem_of_mem_head? ho)).1
  · exact chosen_is st g
theorem sound_yield {st : St} (h : Sound st) (g : Int) : Sound { st with cur := yielded st g } := by
  refine ⟨h.once, h.each, h.few, ?_, h.min⟩
  rcases yielded_is' st g with e | e
  · simp only [e]; unfold I64; omega
  · obtain ⟨x, hx, hid⟩ := mem_named e
    have := h.each x hx
    simp only [← hid]
    unfold I64
    omega

/-! ### the deeds -/
theorem docPut (w : World) (d : Dq) (st : St) (a : Option Addr) (c : Nat) (e : Ent) (h : Dlq a c d.l w) (T : Twin d st) (hw : 0 ≤ e.wt) (hr : 0 ≤ e.rm) :
    Calls Try.prog 8 #[refQ d a c, e.val] w (DocIs (fun v => .tuple #[v, .int .i64 (errPut st.es e)]) (putD d e) a w) := by
  rw [← errPut_perm T.like.perm]
  have hf := T.few
  by_cases hz : errPut d.l e = 0
  · rw [hz]
    exact refPut_good w d a c e (errPut_zero hz).2.2.2 h hw hr hz
  · have : putD d e = d := if_neg hz
    rw [this]
    exact refPut_bad w d a c e _ (by omega) h hw hr rfl hz
theorem docDrop (w : World) (d : Dq) (st : St) (a : Option Addr) (c : Nat) (id : Int) (h : Dlq a c d.l w) (T : Twin d st) :
    Calls Try.prog 10 #[refQ d a c, .int .i64 id] w (DocIs (fun v => .tuple #[v, (find st.es id).val, .int .i64 (errDrop st id)]) (dropD d id) a w) := by
  have hf := T.few
  unfold errDrop
  rw [← named_perm T.like.perm, ← find_perm T.like.perm T.sound.once]
  cases hn : named d.l id
  · rw [find_not hn]
    exact refDrop_no w d a c id (by omega) h hn
  · cases hp : placeOf d.l id with
    | none => rw [placeOf_none.1 hp] at hn; cases hn
    | some i =>
      rw [← ent_find T.once hp]
      exact refDrop_yes w d a c id i (by omega) h T.once hp
theorem docWeigh (w : World) (d : Dq) (st : St) (a : Option Addr) (c : Nat) (id x : Int) (h : Dlq a c d.l w) (T : Twin d st) (hx : 0 ≤ x) :
    Calls Try.prog 12 #[refQ d a c, .int .i64 id, .int .u64 x] w (DocIs (fun v => .tuple #[v, .int .i64 (errWeigh st id x)]) (weighD d id x) a w) := by
  have hf := T.few
  unfold errWeigh
  rw [← named_perm T.like.perm]
  by_cases hz : (if named d.l id = true then Vrun.cerr x 0 0 else 12) = 0
  · have hn : named d.l id = true := by
      cases hn : named d.l id
      · rw [hn] at hz; simp at hz
      · rfl
    have hc : Vrun.cerr x 0 0 = 0 := by rw [hn] at hz; simpa using hz
    obtain ⟨x1, x2, _, _⟩ := cerr_zero hc
    cases hp : placeOf d.l id with
    | none => rw [placeOf_none.1 hp] at hn; cases hn
    | some i =>
      obtain ⟨p1, p2, _, _⟩ := placeOf_some hp
      have he := T.each (ent_mem p1)
      have R := refWeigh_good w d a c id x i (by omega) h x1 x2 hp (by omega) (by omega)
      have e1 : d.l.set i (weighed (ent d.l i) x) = setE (weighed (find d.l id) x) d.l := by
        rw [ent_find T.once hp]
        refine set_setE T.once ?_
        show placeOf d.l (find d.l id).id = some i
        rw [(find_of hn).2]; exact hp
      rw [e1] at R
      have e2 : weighD d id x = up { d with l := setE (weighed (find d.l id) x) d.l } := if_pos hz
      rw [hz, e2]
      exact R
  · have e2 : weighD d id x = d := if_neg hz
    rw [e2]
    exact refWeigh_bad w d a c id x _ (by omega) h hx rfl hz
theorem docCharge (w : World) (d : Dq) (st : St) (a : Option Addr) (c : Nat) (ns : Int) (h : Dlq a c d.l w) (T : Twin d st) (hns : 0 ≤ ns) :
    Calls Try.prog 14 #[refQ d a c, .int .u64 ns] w (DocIs (fun v => .tuple #[v, .int .i64 (errCharge st ns)]) (chargeD d ns) a w) := by
  have hf := T.few
  unfold errCharge
  rw [← T.like.cur, ← named_perm T.like.perm, ← find_perm T.like.perm T.sound.once]
  cases hn : named d.l d.cur
  · have e2 : chargeD d ns = d := if_neg (by rw [hn]; simp)
    rw [e2]
    exact refCharge_no w d a c ns (by omega) h hn
  · cases hp : placeOf d.l d.cur with
    | none => rw [placeOf_none.1 hp] at hn; cases hn
    | some i =>
      obtain ⟨p1, p2, _, _⟩ := placeOf_some hp
      have he := T.each (ent_mem p1)
      have hcv : I64 (Vrun.cval (ent d.l i).wt (ent d.l i).rm ns) := by
        by_cases hz : Vrun.cerr (ent d.l i).wt (ent d.l i).rm ns = 0
        · obtain ⟨_, _, _, c4⟩ := cerr_zero hz
          have q := Vrun.quot_bd he.2.2.1 he.2.2.2.2.2.1 he.2.2.2.2.1 he.2.2.2.1 hns c4
          rw [Vrun.cval_in he.2.2.1 he.2.2.2.1 he.2.2.2.2.2.1 c4]
          unfold I64; omega
        · have : Vrun.cval (ent d.l i).wt (ent d.l i).rm ns = 0 := if_neg hz
          rw [this]; unfold I64; omega
      have R := refCharge_is w d a c ns i (by omega) h hp hns (by omega) (by omega) he.2.2.2.2.2.2 hcv
      have ef := ent_find T.once hp
      have e1 : d.l.set i (served (ent d.l i) ns) = setE (served (find d.l d.cur) ns) d.l := by
        rw [ef]
        refine set_setE T.once ?_
        show placeOf d.l (find d.l d.cur).id = some i
        rw [(find_of hn).2]; exact hp
      rw [e1, ef] at R
      have e2 : chargeD d ns = if Vrun.cerr (find d.l d.cur).wt (find d.l d.cur).rm ns = 0 then up { d with l := setE (served (find d.l d.cur) ns) d.l, flag := d.flag || over (find d.l d.cur) ns } else d := by
        unfold chargeD
        rw [hn]; simp
      rw [e2]
      simpa using R
theorem docPick' (w : World) (d : Dq) (st : St) (a : Option Addr) (c : Nat) (g : Int) (h : Dlq a c d.l w) (T : Twin d st) (hg : I64 g) :
    Calls Try.prog 16 #[refQ d a c, .int .i64 g] w (DocIs (fun v => .tuple #[v, .int .i64 (picked d g)]) { d with cur := picked d g } a w) := by
  have hf := T.few
  have hv : ∀ e ∈ d.l, I64 e.v := fun e he => (T.each he).2.2.2.2.2.2
  cases hp : placeOf d.l d.cur with
  | none =>
    cases hb : bestAt d.l (-1) d.l.length with
    | none =>
      have hc : d.cur = -1 := by
        rcases T.cur with e | e
        · rw [T.like.cur]; exact e
        · rw [← T.like.cur, ← named_perm T.like.perm, placeOf_none.1 hp] at e; cases e
      rw [show picked d g = -1 by unfold picked; simp only [hp, hb]]
      have R := refPick_none w d a c g (by omega) h hp hb
      obtain ⟨l, cur, mn, fl⟩ := d
      simp only at *
      subst hc
      exact R
    | some f =>
      rw [show picked d g = (ent d.l f).id by unfold picked; simp only [hp, hb]]
      exact refPick_new w d a c g f (by omega) h hp hb
  | some i =>
    cases ho : bestAt d.l d.cur d.l.length with
    | none =>
      rw [show picked d g = d.cur by unfold picked; simp only [hp, ho]]
      exact refPick_alone w d a c g i (by omega) h hp ho
    | some o =>
      cases hr : isNear (ent d.l i).v (ent d.l o).v g
      · obtain ⟨i1, i2, _, _⟩ := placeOf_some hp
        cases hb : bestAt d.l (-1) d.l.length with
        | none =>
          have S := bestAt_spec d.l (-1) d.l.length
          rw [hb] at S
          have := S i i1
          have := T.each (ent_mem i1)
          omega
        | some f =>
          rw [show picked d g = (ent d.l f).id by unfold picked; simp [hp, ho, hr, hb]]
          exact refPick_far w d a c g i o f (by omega) h hp ho hb hv hg hr
      · rw [show picked d g = d.cur by unfold picked; simp [hp, ho, hr]]
        exact refPick_near w d a c g i o (by omega) h hp ho hv hg hr
theorem docPick (w : World) (d : Dq) (st : St) (a : Option Addr) (c : Nat) (g : Int) (h : Dlq a c d.l w) (T : Twin d st) (hg : I64 g) :
    Calls Try.prog 16 #[refQ d a c, .int .i64 g] w (DocIs (fun v => .tuple #[v, .int .i64 (chosen st g)]) { d with cur := chosen st g } a w) := by
  rw [← picked_like T.like T.sorted T.sound g]
  exact docPick' w d st a c g h T hg
theorem docYield (w : World) (d : Dq) (st : St) (a : Option Addr) (c : Nat) (g : Int) (h : Dlq a c d.l w) (T : Twin d st) (hg : I64 g) :
    Calls Try.prog 18 #[refQ d a c, .int .i64 g] w (DocIs (fun v => .tuple #[v, .int .i64 (yielded st g)]) { d with cur := yielded st g } a w) := by
  rw [← yielder_like T.like T.sorted T.sound g]
  have hf := T.few
  have hv : ∀ e ∈ d.l, I64 e.v := fun e he => (T.each he).2.2.2.2.2.2
  have P := fun W (hD : Dlq a c d.l W) => docPick' W d st a c g hD T hg
  cases hp : placeOf d.l d.cur with
  | none =>
    rw [show yielder d g = picked d g by unfold yielder; simp only [hp]]
    exact refYield_none w d _ a c g _ (by omega) h hp P
  | some i =>
    cases ho : bestAt d.l d.cur d.l.length with
    | none =>
      rw [show yielder d g = picked d g by unfold yielder; simp only [hp, ho]]
      exact refYield_alone w d _ a c g _ i (by omega) h hp ho P
    | some o =>
      cases hr : isNear (ent d.l o).v (ent d.l i).v g
      · rw [show yielder d g = picked d g by unfold yielder; simp [hp, ho, hr]]
        exact refYield_stay w d _ a c g _ i o (by omega) h hp ho hv hg hr P
      · rw [show yielder d g = (ent d.l o).id by unfold yielder; simp [hp, ho, hr]]
        exact refYield_goes w d a c g i o (by omega) h hp ho hv hg hr
end Go.Proofs.Ytdigakgfehaabaa.Queue

/- What the law's 'same' answers. Conditions: as each fact states them. -/
namespace Go.Proofs.Ytdigakgfehaabaa.Queue
open Go.ChangeShapes Go.WideShapes Go.ChangeAt Go.RowKit Tree
set_option linter.unusedVariables false
set_option linter.unusedSimpArgs false
set_option maxRecDepth 100000

set_option maxHeartbeats 8000000 in
theorem sameq (w : World) (q : Nat) (O : Nat → Prop) (d : Dq) (st : St) (a : Option Addr) (c : Nat) (hq : Qu w q O st) (h : Dlq a c d.l w) (T : Twin d st) :
    Calls Try.prog 19 #[.pointer (some ⟨q, 0, none⟩), refQ d a c] w (Is (.bool true) w) := by
  have hf := T.few
  have S := T.sound
  have hlen := T.like.perm.length_eq
  have hA := (Below.refl w.heap.size w).alloc (Nat.le_refl _) (refQO d a c)
  have hb := heap_alloc_new w (refQO d a c)
  obtain ⟨W0, hW0⟩ : ∃ W0, w.alloc (refQO d a c) = W0 := ⟨_, rfl⟩
  have hq0 := hq.fresh hA
  have h0 := h.fresh hA
  rw [hW0] at hA hb hq0 h0
  have EQ := Lib.hid (fun W (hg : Below W0.heap.size W0 W) => ents W q O st (hq0.fresh hg) S.once (fun e he => by have := S.each e he; unfold I64; omega) (Nat.le_trans S.few (by omega)))
  have EX := Lib.hid (fun W (hg : Below W0.heap.size W0 W) => refEnts W d a c st.es (by omega) (h0.fresh hg) T.like.perm T.sorted (fun x hx => (S.each x hx).1))
  have SM := Lib.hid (fun W ao bo ca cb (ha : Lst ao st.es W) (hb : Lst bo st.es W) => sames W ao bo ca cb st.es (by have := S.few; omega) ha hb)
  have CU := Lib.hid (fun W (hg : Below W0.heap.size W0 W) => currents W q O st (hq0.fresh hg))
  have MI := Lib.hid (fun W (hg : Below W0.heap.size W0 W) => minss W q O st (hq0.fresh hg))
  have FL := Lib.hid (fun W (hg : Below W0.heap.size W0 W) => flags W q O st (hq0.fresh hg))
  have LQ := Lib.hid (fun W (hg : Below W0.heap.size W0 W) => loads W q O st (hq0.fresh hg) S.once (fun e he => by have := S.each e he; omega) (Nat.le_trans S.few (by omega)))
  have LX := Lib.hid (fun W (hg : Below W0.heap.size W0 W) => refLoads W d a c (by omega) (fun e he => by have := T.each he; omega) (h0.fresh hg).lst)
  rw [total_perm T.like.perm] at LX
  have BX : Hid (∀ W, Below W0.heap.size W0 W → W.heap[w.heap.size]? = some (refQO d a c)) := fun W hg => Mem.box_fresh hb hg
  have hsz := hA.size
  obtain ⟨d1, d2, d3, d4⟩ := T.like
  clear hq h hq0 h0 hb T S d1
  unfold refQ refQO at *
  obtain ⟨l, cur, mn, fl⟩ := d
  obtain ⟨es, cu, m, f⟩ := st
  simp only at *
  subst d2 d3 d4
  have BX' : Hid (∀ W, Below W0.heap.size W0 W → W.cell? ⟨w.heap.size, 0, none⟩ = some (.slice a l.length c) ∧ W.cell? ⟨w.heap.size, 1, none⟩ = some (.int .i64 cur) ∧ W.cell? ⟨w.heap.size, 2, none⟩ = some (.int .i64 mn) ∧ W.cell? ⟨w.heap.size, 3, none⟩ = some (.bool fl)) := fun W hg => by
    have hb : W.heap[w.heap.size]? = some (.cells #[.slice a l.length c, .int .i64 cur, .int .i64 mn, .bool fl] 28 (0, 0)) := BX.out W hg
    obtain ⟨x0, x1, x2, x3, _⟩ := Mem.four hb
    exact ⟨x0, x1, x2, x3⟩
  have HA := Lib.hid hA
  have hg0 := (Below.refl W0.heap.size W0).drew
  clear hA BX hf hlen hsz
  generalize total es = tt at *
  go_enter Try.func19, Try.ntmps19
  go_upto_region 1 with fail
  obtain ⟨b0, b1, b2, b3⟩ := BX'.out W0 (Below.refl _ W0)
  go_region_held3 (fun w' => w'.cell? ⟨w.heap.size, 0, none⟩ = some (.slice a l.length c) ∧ w'.cell? ⟨w.heap.size, 1, none⟩ = some (.int .i64 cur) ∧ w'.cell? ⟨w.heap.size, 2, none⟩ = some (.int .i64 mn) ∧ w'.cell? ⟨w.heap.size, 3, none⟩ = some (.bool fl)) (first | exact ⟨b0, b1, b2, b3⟩ | exact ce)
    (first
      | (go_at_call 50; refine (EQ.out _ hg0).mono ?_; rintro e w1 ⟨v1, rfl, R1, hg1⟩; obtain ⟨ao, cp, rfl, _, _⟩ := R1.shape; replace hg1 := hg0.trans (hg1.mono hg0.size); have ce := BX'.out _ hg1)
      | (go_at_call 51; refine (EX.out _ hg1).mono ?_; rintro e w2 ⟨ao2, cp2, rfl, L2, hg2⟩; have L1 := (R1.lst rfl).fresh hg2; replace hg2 := hg1.trans (hg2.mono hg1.size); have ce := BX'.out _ hg2)
      | (go_at_call 49; refine (SM.out _ _ _ _ _ L1 L2).mono ?_; rintro e w3 ⟨rfl, hg3⟩; replace hg3 := hg2.trans (hg3.mono hg2.size); have ce := BX'.out _ hg3))
  have hg4 := hg3.drew
  obtain ⟨b0, b1, b2, b3⟩ := BX'.out w3 hg3
  clear EQ EX SM ce hg0 hg1 hg2 R1 L1 L2
  go_wp2_with fail
  go_region_held3 (fun w' => w'.cell? ⟨w.heap.size, 0, none⟩ = some (.slice a l.length c) ∧ w'.cell? ⟨w.heap.size, 1, none⟩ = some (.int .i64 cur) ∧ w'.cell? ⟨w.heap.size, 2, none⟩ = some (.int .i64 mn) ∧ w'.cell? ⟨w.heap.size, 3, none⟩ = some (.bool fl)) (first | exact ⟨b0, b1, b2, b3⟩ | exact ce)
    (first
      | (go_at_call 20; refine (CU.out _ hg4).mono ?_; rintro e w5 ⟨rfl, k5⟩; have hg5 := hg4.trans (k5.mono hg4.size); have ce := BX'.out _ hg5)
      | (go_at_call 52; refine (MI.out _ hg5).mono ?_; rintro e w6 ⟨rfl, k6⟩; have hg6 := hg5.trans (k6.mono hg5.size); have ce := BX'.out _ hg6)
      | (go_at_call 21; refine (LQ.out _ hg6).mono ?_; rintro e w7 ⟨rfl, k7⟩; have hg7 := hg6.trans (k7.mono hg6.size); have ce := BX'.out _ hg7)
      | (go_at_call 53; refine (LX.out _ hg7).mono ?_; rintro e w8 ⟨rfl, k8⟩; have hg8 := hg7.trans (k8.mono hg7.size); have ce := BX'.out _ hg8)
      | (go_at_call 54; refine (FL.out _ hg8).mono ?_; rintro e w9 ⟨rfl, k9⟩; have hg9 := hg8.trans (k9.mono hg8.size); have ce := BX'.out _ hg9))
  go_wp2_with fail
  go_ret
  exact ⟨by simp, HA.out.trans (hg9.mono HA.out.size)⟩
end Go.Proofs.Ytdigakgfehaabaa.Queue

/- That two entities take turns. Conditions: none. -/
namespace Go.Proofs.Ytdigakgfehaabaa.Queue
open Go.ChangeShapes Go.WideShapes Go.ChangeAt Go.RowKit Tree
set_option linter.unusedVariables false
set_option linter.unusedSimpArgs false
set_option maxRecDepth 100000

abbrev IsTrue (w : World) (e : Ending) (w' : World) : Prop := e = .returned (.bool true) ∧ Below w.heap.size w w'
theorem Same.step {w a b : World} (h : Same (· < w.heap.size) w a) (k : Same (· < w.heap.size) a b) : Same (· < w.heap.size) w b := h.trans k

def e1 : Ent := ⟨1, 1024, 0, 0⟩
def e2 : Ent := ⟨2, 1024, 0, 0⟩
def s1 : St := ⟨[e1], -1, 0, false⟩
def s2 : St := ⟨[e1, e2], -1, 0, false⟩
def s3 : St := ⟨[e1, e2], 1, 0, false⟩
def s4 : St := ⟨[e2, ⟨1, 1024, 5, 0⟩], 1, 0, false⟩
def s5 : St := ⟨[e2, ⟨1, 1024, 5, 0⟩], 1, 0, false⟩
def s6 : St := ⟨[e2, ⟨1, 1024, 5, 0⟩], 2, 0, false⟩
theorem a1 : putS St.new e1 = s1 := by rfl
theorem a2 : putS s1 e2 = s2 := by rfl
theorem a3 : chosen s2 0 = 1 := by decide
theorem a4 : chargeS s3 5 = s4 := by rfl
theorem a5 : chosen s4 5 = 1 := by decide
theorem a6 : chosen s5 0 = 2 := by decide
theorem b1 : errPut St.new.es e1 = 0 := by decide
theorem b2 : errPut s1.es e2 = 0 := by decide
theorem b4 : errCharge s3 5 = 0 := by decide
theorem once2 {a b : Ent} (h : a.id ≠ b.id) : Once [a, b] := by simp [Once, h]

set_option maxHeartbeats 8000000 in
theorem awake (w : World) : Calls Try.prog 4 #[] w (IsTrue w) := by
  have N := Lib.hid (news w)
  have P1 := Lib.hid (fun w' q (h : Qu w' q (· < w.heap.size) St.new) hO => puts w' q (· < w.heap.size) St.new e1 h hO (by simp [I64, e1]) (by simp [e1]) (by simp [e1]) (by simp [St.new]))
  have P2 := Lib.hid (fun w' q (h : Qu w' q (· < w.heap.size) s1) hO => puts w' q (· < w.heap.size) s1 e2 h hO (by simp [I64, e2]) (by simp [e2]) (by simp [e2]) (by simp [s1]))
  have v2 : ∀ e ∈ s2.es, I64 e.v := by unfold s2 e1 e2 I64; simp
  have v4 : ∀ e ∈ s4.es, I64 e.v := by unfold s4 e2 I64; simp
  have K1 := Lib.hid (fun w' q (h : Qu w' q (· < w.heap.size) s2) hO => picks w' q (· < w.heap.size) s2 0 h hO (once2 (by decide)) (by unfold I64 s2; simp) (by unfold I64; omega) v2)
  have C := Lib.hid (fun w' q (h : Qu w' q (· < w.heap.size) s3) hO => charges w' q (· < w.heap.size) s3 5 h hO ⟨once2 (by decide), by unfold s3 e1 e2 I64; simp, by unfold s3; simp, by unfold I64 s3; simp, by unfold I64 s3; simp⟩ (by omega))
  have K2 := Lib.hid (fun w' q (h : Qu w' q (· < w.heap.size) s4) hO => picks w' q (· < w.heap.size) s4 5 h hO (once2 (by decide)) (by unfold I64 s4; simp) (by unfold I64; omega) v4)
  have K3 := Lib.hid (fun w' q (h : Qu w' q (· < w.heap.size) s5) hO => picks w' q (· < w.heap.size) s5 0 h hO (once2 (by decide)) (by unfold I64 s5; simp) (by unfold I64; omega) v4)
  have U := Lib.hid (fun w' q (h : Qu w' q (· < w.heap.size) s6) => currents w' q (· < w.heap.size) s6 h)
  have L := Lib.hid (fun w' q (h : Qu w' q (· < w.heap.size) s6) => loads w' q (· < w.heap.size) s6 h (once2 (by decide)) (by unfold s6 e2; simp) (by unfold s6; simp))
  rw [b1, a1] at P1
  rw [b2, a2] at P2
  rw [a3] at K1
  rw [b4, a4] at C
  rw [a5] at K2
  rw [a6] at K3
  rw [show total s6.es = 2048 by decide] at L
  rw [show s6.cur = 2 from rfl] at U
  change Hid (∀ w' q, Qu w' q (· < w.heap.size) s2 → (∀ k, k < w.heap.size → k < w'.heap.size) → Calls Try.prog 15 #[.pointer (some ⟨q, 0, none⟩), .int .i64 0] w' (Did (.int .i64 1) s3 q (· < w.heap.size) w')) at K1
  change Hid (∀ w' q, Qu w' q (· < w.heap.size) s4 → (∀ k, k < w.heap.size → k < w'.heap.size) → Calls Try.prog 15 #[.pointer (some ⟨q, 0, none⟩), .int .i64 5] w' (Did (.int .i64 1) s5 q (· < w.heap.size) w')) at K2
  change Hid (∀ w' q, Qu w' q (· < w.heap.size) s5 → (∀ k, k < w.heap.size → k < w'.heap.size) → Calls Try.prog 15 #[.pointer (some ⟨q, 0, none⟩), .int .i64 0] w' (Did (.int .i64 2) s6 q (· < w.heap.size) w')) at K3
  simp only [Ent.val, e1, e2] at P1 P2
  clear v2 v4
  generalize s1 = t1 at *
  generalize s2 = t2 at *
  generalize s3 = t3 at *
  generalize s4 = t4 at *
  generalize s5 = t5 at *
  generalize s6 = t6 at *
  go_enter Try.func4, Try.ntmps4
  go_wp2_with fail
  refine (N.out).mono ?_
  rintro e w1 ⟨q, hq, rfl, hg1, hb⟩
  have Q := Lib.hid (hb (· < w.heap.size) (fun b hb => hb))
  have S : Hid (Same (· < w.heap.size) w w1) := Same.of hg1 (fun i hi => hi)
  clear hg1 hb N
  go_wp2_with fail
  refine (P1.out _ q Q.out (fun k hk => Nat.lt_of_lt_of_le hk S.out.size)).mono ?_
  rintro e w2 ⟨rfl, hq2, hs2⟩
  replace S := Lib.hid (S.out.trans hs2)
  replace Q := Lib.hid hq2
  clear hq2 hs2 P1
  go_wp2_with fail
  refine (P2.out _ q Q.out (fun k hk => Nat.lt_of_lt_of_le hk S.out.size)).mono ?_
  rintro e w2 ⟨rfl, hq2, hs2⟩
  replace S := Lib.hid (S.out.trans hs2)
  replace Q := Lib.hid hq2
  clear hq2 hs2 P2
  go_wp2_with fail
  refine (K1.out _ q Q.out (fun k hk => Nat.lt_of_lt_of_le hk S.out.size)).mono ?_
  rintro e w2 ⟨rfl, hq2, hs2⟩
  replace S := Lib.hid (S.out.trans hs2)
  replace Q := Lib.hid hq2
  clear hq2 hs2 K1
  go_wp2_with fail
  refine (C.out _ q Q.out (fun k hk => Nat.lt_of_lt_of_le hk S.out.size)).mono ?_
  rintro e w2 ⟨rfl, hq2, hs2⟩
  replace S := Lib.hid (S.out.trans hs2)
  replace Q := Lib.hid hq2
  clear hq2 hs2 C
  go_wp2_with fail
  refine (K2.out _ q Q.out (fun k hk => Nat.lt_of_lt_of_le hk S.out.size)).mono ?_
  rintro e w2 ⟨rfl, hq2, hs2⟩
  replace S := Lib.hid (S.out.trans hs2)
  replace Q := Lib.hid hq2
  clear hq2 hs2 K2
  go_wp2_with fail
  refine (K3.out _ q Q.out (fun k hk => Nat.lt_of_lt_of_le hk S.out.size)).mono ?_
  rintro e w2 ⟨rfl, hq2, hs2⟩
  replace S := Lib.hid (S.out.trans hs2)
  replace Q := Lib.hid hq2
  clear hq2 hs2 K3
  go_wp2_with fail
  refine (U.out _ q Q.out).mono ?_
  rintro e w2 ⟨rfl, hg2⟩
  replace Q := Lib.hid (Q.out.fresh hg2)
  replace S := Lib.hid (S.out.trans (Same.of hg2 (fun k hk => Nat.lt_of_lt_of_le hk S.out.size)))
  clear hg2
  go_wp2_with fail
  refine (L.out _ q Q.out).mono ?_
  rintro e w2 ⟨rfl, hg2⟩
  replace S := Lib.hid (S.out.trans (Same.of hg2 (fun k hk => Nat.lt_of_lt_of_le hk S.out.size)))
  clear hg2
  go_wp2_with fail
  go_ret
  exact ⟨rfl, S.out.below⟩

end Go.Proofs.Ytdigakgfehaabaa.Queue

/- Both queues, in memory, through a deed. Conditions: as each fact states them. -/
namespace Go.Proofs.Ytdigakgfehaabaa.Queue
open Go.ChangeShapes Go.WideShapes Go.ChangeAt Go.RowKit Tree
set_option linter.unusedVariables false
set_option linter.unusedSimpArgs false
set_option maxRecDepth 100000

theorem seven {w : World} {b : Nat} {a0 a1 a2 a3 a4 a5 a6 : Value} {t : TypeId} (hb : w.heap[b]? = some (.cells #[a0, a1, a2, a3, a4, a5, a6] t (0, 0))) :
    w.cell? ⟨b, 0, none⟩ = some a0 ∧ w.cell? ⟨b, 1, none⟩ = some a1 ∧ w.cell? ⟨b, 2, none⟩ = some a2 ∧ w.cell? ⟨b, 3, none⟩ = some a3 ∧ w.cell? ⟨b, 4, none⟩ = some a4 ∧ w.cell? ⟨b, 5, none⟩ = some a5 ∧ w.cell? ⟨b, 6, none⟩ = some a6 :=
  ⟨cell_of_row w b 0 _ _ _ hb, cell_of_row w b 1 _ _ _ hb, cell_of_row w b 2 _ _ _ hb, cell_of_row w b 3 _ _ _ hb, cell_of_row w b 4 _ _ _ hb, cell_of_row w b 5 _ _ _ hb, cell_of_row w b 6 _ _ _ hb⟩
theorem docNew (w : World) : Calls Try.prog 6 #[] w (Is (refQ Dq.new none 0) w) := by
  have hg := (Below.refl w.heap.size w).alloc (Nat.le_refl _) (refQO Dq.new none 0)
  unfold refQ refQO Dq.new at *
  simp only [List.length_nil] at *
  go_enter Try.func6, Try.ntmps6
  go_wp2
  obtain ⟨y0, y1, y2, y3, _⟩ := Mem.four (heap_alloc_new w (.cells #[.slice none 0 0, .int .i64 (-1), .int .i64 0, .bool false] 28))
  refine bodyPost_ret (v := .agg #[.slice none 0 0, .int .i64 (-1), .int .i64 0, .bool false]) (by simp [results, Try.results6, go_sem, y0, y1, y2, y3]) rfl ?_
  exact ⟨rfl, hg⟩

def OS (w : World) (X D : Nat) (a : Option Addr) : Nat → Prop := fun b => b < w.heap.size ∨ b = X ∨ b = D ∨ a = some ⟨b, 0, none⟩
def put4 (V : World) (X : Nat) (d : Dq) (a : Option Addr) (c : Nat) : World := (((V.setCell ⟨X, 0, none⟩ (.slice a d.l.length c)).setCell ⟨X, 1, none⟩ (.int .i64 d.cur)).setCell ⟨X, 2, none⟩ (.int .i64 d.min)).setCell ⟨X, 3, none⟩ (.bool d.flag)
structure DR (w : World) (q X D : Nat) (d : Dq) (a : Option Addr) (c : Nat) (st : St) (W : World) : Prop where
  qu : Qu W q (OS w X D a) st
  dl : Dlq a c d.l W
  box : W.heap[X]? = some (refQO d a c)
  tw : Twin d st
  old : w.heap.size ≤ X
  ax : a ≠ some ⟨X, 0, none⟩
  lt : D < W.heap.size
  s : Below w.heap.size w W
section
variable {w W : World} {q X D : Nat} {d : Dq} {a : Option Addr} {c : Nat} {st : St}
theorem DR.fresh (h : DR w q X D d a c st W) {W' : World} (hg : Below W.heap.size W W') : DR w q X D d a c st W' :=
  ⟨h.qu.fresh hg, h.dl.fresh hg, Mem.box_fresh h.box hg, h.tw, h.old, h.ax, Nat.lt_of_lt_of_le h.lt hg.size, h.s.trans (hg.mono h.s.size)⟩
theorem DR.rest (h : DR w q X D d a c st W) : DR w q X X d a c st W :=
  ⟨h.qu.other (fun k hk => .inl (by rcases hk with e | e | e | e <;> simp [OS, e])), h.dl, h.box, h.tw, h.old, h.ax, lt_of h.box, h.s⟩
theorem DR.deed (h : DR w q X X d a c st W) (o : Obj) : DR w q X W.heap.size d a c st (W.alloc o) := by
  have hg := (Below.refl W.heap.size W).alloc (Nat.le_refl _) o
  refine ⟨(h.qu.other (O' := OS w X W.heap.size a) fun k hk => ?_).fresh hg, h.dl.fresh hg, Mem.box_fresh h.box hg, h.tw, h.old, h.ax, by simp, h.s.trans (hg.mono h.s.size)⟩
  rcases hk with e | e | e | e
  · exact .inl (.inl e)
  · exact .inl (.inr (.inl e))
  · exact .inr (by omega)
  · exact .inl (.inr (.inr (.inr e)))
theorem DR.os (h : DR w q X D d a c st W) : ∀ k, OS w X D a k → k < W.heap.size := by
  rintro k (e | e | e | e)
  · exact Nat.lt_of_lt_of_le e h.s.size
  · rw [e]; exact lt_of h.box
  · rw [e]; exact h.lt
  · obtain ⟨g, e1, e2⟩ := h.dl.base _ e
    cases e1; exact e2
def Nxt (w : World) (q X D : Nat) (d : Dq) (a : Option Addr) (c : Nat) (mk : Value → Value) (d' : Dq) (st' : St) (w3 : World) (e : Ending) (w4 : World) : Prop :=
  ∃ a' c', e = .returned (mk (refQ d' a' c')) ∧ Below w3.heap.size w3 w4 ∧ Hid (∀ V, Below w4.heap.size w4 V → V.heap[X]? = some (refQO d a c) ∧ DR w q X D d' a' c' st' (put4 V X d' a' c'))
theorem DR.mid (h : DR w q X D d a c st W) {st' : St} {d' : Dq} {mk : Value → Value} {F : Nat} {args : Array Value} (L : Like d' st') (S : Sound st') (C : st'.cur = -1 ∨ named st'.es st'.cur = true)
    (H : ∀ w3, Dlq a c d.l w3 → Calls Try.prog F args w3 (DocIs mk d' a w3)) (w3 : World) (hq : Qu w3 q (OS w X D a) st') (hs : Same (OS w X D a) W w3) :
    w3.heap[X]? = some (refQO d a c) ∧ w3.heap[D]? = W.heap[D]? ∧ Hid (Calls Try.prog F args w3 (Nxt w q X D d a c mk d' st' w3)) := by
  have hX : w3.heap[X]? = some (refQO d a c) := (hs.block X (.inr (.inl rfl))).trans h.box
  have hd3 : Dlq a c d.l w3 := h.dl.same hs (fun g e => .inr (.inr (.inr e)))
  have hX3 := lt_of hX
  have b3 : Below w.heap.size w w3 := h.s.trans (Same.below (hs.mono fun k hk => .inl hk))
  refine ⟨hX, hs.block D (.inr (.inr (.inl rfl))), (H w3 hd3).mono ?_⟩
  rintro e w4 ⟨a', c', rfl, hD, ho, hg⟩
  refine ⟨a', c', rfl, hg, fun V hV => ?_⟩
  have hgV := hg.trans (hV.mono hg.size)
  have hne : ∀ g, a' = some ⟨g, 0, none⟩ → g ≠ X := fun g e => by
    rcases ho with rfl | ⟨g', e', hge⟩
    · intro e2; exact h.ax (e2 ▸ e)
    · rw [e'] at e; cases e; omega
  have hXV := Mem.box_fresh hX hgV
  refine ⟨hXV, ?_⟩
  have hq1 : Qu V q (OS w X D a') st' := by
    refine Qu.fresh (hq.other fun k hk => ?_) hgV
    rcases hk with e | e | e | e
    · exact .inl (.inl e)
    · exact .inl (.inr (.inl e))
    · exact .inl (.inr (.inr (.inl e)))
    · rcases ho with rfl | ⟨g', e', hge⟩
      · exact .inl (.inr (.inr (.inr e)))
      · rw [e'] at e; cases e; exact .inr hge
  have OX : OS w X D a' X := .inr (.inl rfl)
  have hq5 : Qu (put4 V X d' a' c') q (OS w X D a') st' := (((hq1.away (p := ⟨X, 0, none⟩) OX _).away (p := ⟨X, 1, none⟩) OX _).away (p := ⟨X, 2, none⟩) OX _).away (p := ⟨X, 3, none⟩) OX _
  have hb0 : V.heap[X]? = some (.cells #[.slice a d.l.length c, .int .i64 d.cur, .int .i64 d.min, .bool d.flag] 28 (0, 0)) := hXV
  have hb1 := Mem.set_block hb0 0 (.slice a' d'.l.length c')
  have hb2 := Mem.set_block hb1 1 (.int .i64 d'.cur)
  have hb3 := Mem.set_block hb2 2 (.int .i64 d'.min)
  have hb4 := Mem.set_block hb3 3 (.bool d'.flag)
  simp only [List.setIfInBounds_toArray, List.set_cons_succ, List.set_cons_zero] at hb4
  have bV : Below w.heap.size w V := b3.trans (hgV.mono b3.size)
  refine ⟨hq5, (hD.fresh hV).set4 hne _ _ _ _, hb4, ⟨L, S, hq5.sorted, C⟩, h.old, fun e => hne X e rfl, ?_, below_set4 bV h.old _ _ _ _⟩
  have h1 := h.lt
  have h2 := hs.size
  have h3 := hgV.size
  simp [put4, World.setCell]; omega
end
end Go.Proofs.Ytdigakgfehaabaa.Queue

/- The law RunqPlays, walked. Conditions: each number is one of its kind. -/
namespace Go.Proofs.Ytdigakgfehaabaa.Queue
open Go.ChangeShapes Go.WideShapes Go.ChangeAt Go.RowKit Tree
set_option linter.unusedVariables false
set_option linter.unusedSimpArgs false
set_option maxRecDepth 100000

/-- Deeds that came in. -/
def Steps (v : Option Addr) (n : Nat) (w : World) : Prop := ∀ j, j < n → ∃ k off, v = some ⟨k, off, none⟩ ∧ k < w.heap.size ∧ ∃ d0 d1 d2 d3 d4 d5 d6 : Int, (I64 d1 ∧ 0 ≤ d2 ∧ I64 d3 ∧ 0 ≤ d4 ∧ 0 ≤ d5 ∧ I64 d6) ∧ w.cell? ⟨k, off + j * 7, none⟩ = some (.int .i64 d0) ∧ w.cell? ⟨k, off + j * 7 + 1, none⟩ = some (.int .i64 d1) ∧ w.cell? ⟨k, off + j * 7 + 2, none⟩ = some (.int .u64 d2) ∧ w.cell? ⟨k, off + j * 7 + 3, none⟩ = some (.int .i64 d3) ∧ w.cell? ⟨k, off + j * 7 + 4, none⟩ = some (.int .u64 d4) ∧ w.cell? ⟨k, off + j * 7 + 5, none⟩ = some (.int .u64 d5) ∧ w.cell? ⟨k, off + j * 7 + 6, none⟩ = some (.int .i64 d6)
def CutD (w : World) (q X : Nat) (wc : World) : Prop := ∃ d a c st, DR w q X X d a c st wc
def PlayI (w : World) (q X n : Nat) (left : Nat) (t : Value) (wr : World) : Prop := ∃ (k : Nat), k ≤ n ∧ k ≤ 150 ∧ left = 150 - k ∧ t = .int .i64 k ∧ CutD w q X wr
theorem deedO {W : World} {D X : Nat} {w3 : World} {o : Obj} (h : W.heap[D]? = some o) (e : w3.heap[D]? = W.heap[D]?) : w3.heap[D]? = some o := e.trans h
theorem like_cur {d : Dq} {st : St} (h : Like d st) (k : Int) : Like { d with cur := k } { st with cur := k } := ⟨h.perm, rfl, h.min, h.flag⟩
set_option maxHeartbeats 16000000 in
theorem playsLaw (v : Option Addr) (n cap : Nat) (w : World) (hn : n ≤ 9223372036854775807) (hc : Steps v n w) :
    Calls Try.prog 3 #[.slice v n cap] w (IsTrue w) := by
  have HC := Lib.hid hc
  clear hc
  have A := Lib.hid (awake w)
  go_enter Try.func3, Try.ntmps3
  go_upto_region 6 with (first
    | (go_at_call 4; refine (A.out).mono ?_; rintro e w0 ⟨rfl, hg0⟩)
    | (go_at_call 5; refine (news w0).mono ?_; rintro e w1 ⟨q, hq, rfl, hg1, hb⟩)
    | (go_at_call 6; refine (docNew w1).mono ?_; rintro e w2 ⟨rfl, hg2⟩; unfold refQ Dq.new; simp only [List.length_nil]))

  have J0 : Hid (PlayI w q w2.heap.size n 150 (.int .i64 0) (w2.alloc (.cells #[.slice none 0 0, .int .i64 (-1), .int .i64 0, .bool false] 28))) := by
    have b1 : Below w.heap.size w w1 := hg0.trans (hg1.mono hg0.size)
    have b2 : Below w.heap.size w w2 := b1.trans (hg2.mono b1.size)
    refine ⟨0, by omega, by omega, rfl, rfl, Dq.new, none, 0, St.new, ?_⟩
    have hgA := (Below.refl w2.heap.size w2).alloc (Nat.le_refl _) (.cells #[.slice none 0 0, .int .i64 (-1), .int .i64 0, .bool false] 28)
    refine ⟨?_, ⟨fun j e he => by simp [Dq.new] at he, fun _ => ⟨rfl, rfl⟩, (fun ad e => by cases e), by simp [Dq.new]⟩, heap_alloc_new w2 _, Twin.new, b2.size, by simp, by simp, b2.trans (hgA.mono b2.size)⟩
    have Q0 := (hb (· < w.heap.size) (fun b hb => Nat.lt_of_lt_of_le hb hg0.size)).fresh hg2
    refine (Q0.other (O' := OS w w2.heap.size w2.heap.size none) fun k hk => ?_).fresh hgA
    rcases hk with e | e | e | e
    · exact .inl e
    · exact .inr (by omega)
    · exact .inr (by omega)
    · cases e
  clear A hg0 hg1 hg2 hb hq
  generalize w2.alloc (.cells #[.slice none 0 0, .int .i64 (-1), .int .i64 0, .bool false] 28) = W0 at *
  generalize w2.heap.size = X at *
  go_wp2_with fail
  go_loopg [6] 150 (fun left t wr => PlayI w q X n left t wr)
  case atStart => exact J0.out
  case round =>
    clear J0
    obtain ⟨k, hk, hk5, rfl, rfl, d, a, c, st, hR⟩ := hrel
    by_cases hlt : k < n ∧ k < 150
    · obtain ⟨l1, l2⟩ := hlt
      have s1 : (k : Int) < n := by omega
      have s2 : (k : Int) < 150 := by omega
      obtain ⟨kb, off, rfl, hkb, kd, e0, e1, e2, e3, ns, gr, ⟨g1, g2, g3, g4, g5, g6⟩, c0', c1', c2', c3', c4', c5', c6'⟩ := HC.out k l1
      have c0 := (hR.s.cell (p := ⟨kb, _, none⟩) hkb).trans c0'
      have c1 := (hR.s.cell (p := ⟨kb, _, none⟩) hkb).trans c1'
      have c2 := (hR.s.cell (p := ⟨kb, _, none⟩) hkb).trans c2'
      have c3 := (hR.s.cell (p := ⟨kb, _, none⟩) hkb).trans c3'
      have c4 := (hR.s.cell (p := ⟨kb, _, none⟩) hkb).trans c4'
      have c5 := (hR.s.cell (p := ⟨kb, _, none⟩) hkb).trans c5'
      have c6 := (hR.s.cell (p := ⟨kb, _, none⟩) hkb).trans c6'
      clear c0' c1' c2' c3' c4' c5' c6'
      have hA := heap_alloc_new wr (.cells #[.int .i64 kd, .int .i64 e0, .int .u64 e1, .int .i64 e2, .int .u64 e3, .int .u64 ns, .int .i64 gr] 34)
      replace hR := hR.deed (.cells #[.int .i64 kd, .int .i64 e0, .int .u64 e1, .int .i64 e2, .int .u64 e3, .int .u64 ns, .int .i64 gr] 34)
      go_upto_region 10 with fail
      generalize wr.alloc (.cells #[.int .i64 kd, .int .i64 e0, .int .u64 e1, .int .i64 e2, .int .u64 e3, .int .u64 ns, .int .i64 gr] 34) = W at *
      generalize wr.heap.size = D at *
      obtain ⟨z0, z1, z2, z3, z4, z5, z6⟩ := seven hA
      clear c0 c1 c2 c3 c4 c5 c6
      go_upto_block 2 with fail
      go_cut [6] (fun t wc => t = .int .i64 k ∧ CutD w q X wc)
      case first =>
        by_cases q0 : kd = 0
        · subst q0
          have P := Lib.hid (puts _ q _ st ⟨e0, e1, e2, e3⟩ hR.qu hR.os g1 g2 g4 (Nat.le_trans hR.tw.sound.few (by omega)))
          have MI := Lib.hid (fun w3 hq hs => hR.mid (st' := _) (d' := _) (hR.tw.like.put hR.tw.sorted ⟨e0, e1, e2, e3⟩) (hR.tw.sound.put g1 g3 g4) (cur_put hR.tw.cur _) (fun w3 hD => docPut w3 d st a c ⟨e0, e1, e2, e3⟩ hD hR.tw g2 g4) w3 hq hs)
          unfold Did at P
          generalize putD d ⟨e0, e1, e2, e3⟩ = d' at *
          generalize errPut st.es ⟨e0, e1, e2, e3⟩ = k2 at *
          generalize putS st ⟨e0, e1, e2, e3⟩ = st' at *
          clear hR
          unfold Nxt refQ refQO at MI
          simp only [Ent.val] at P MI
          go_wp2_with fail
          go_at_call 7; refine P.out.mono ?_; rintro e w3 ⟨rfl, hq3, hs3⟩
          obtain ⟨m1, m2, RC⟩ := MI.out w3 hq3 hs3
          obtain ⟨x0, x1, x2, x3, x4, x5, x6⟩ := seven (m2.trans hA)
          obtain ⟨b0, b1, b2, b3, bz⟩ := Mem.four m1
          clear P MI hq3 hs3 m1 m2 z0 z1 z2 z3 z4 z5 z6
          go_wp2_with fail
          go_at_call 8; refine RC.out.mono ?_; rintro e w4 ⟨a', c', rfl, hg4, NV⟩
          obtain ⟨vX, vR⟩ := NV.out _ (Mem.alloc1 w4 (.cells #[.slice a' d'.l.length c', .int .i64 d'.cur, .int .i64 d'.min, .bool d'.flag] 28))
          have hn := heap_alloc_new w4 (.cells #[.slice a' d'.l.length c', .int .i64 d'.cur, .int .i64 d'.min, .bool d'.flag] 28)
          clear b0 b1 b2 b3 bz x0 x1 x2 x3 x4 x5 x6 RC NV hg4
          obtain ⟨b0, b1, b2, b3, bz⟩ := Mem.four vX
          obtain ⟨y0, y1, y2, y3, yz⟩ := Mem.four hn
          have FR := Lib.hid vR.rest
          clear vX vR hn
          go_wp2_with fail
          go_meet
          case rel => exact ⟨rfl, d', a', c', _, FR.out⟩
        have f0 : (kd == 0) = false := by simpa using q0
        by_cases q1 : kd = 1
        · subst q1
          have P := Lib.hid (dropss _ q _ st e0 hR.qu hR.os hR.tw.sound g1)
          have MI := Lib.hid (fun w3 hq hs => hR.mid (st' := _) (d' := _) (hR.tw.like.drop hR.tw.sorted e0) (hR.tw.sound.drop) (cur_drop hR.tw.cur e0) (fun w3 hD => docDrop w3 d st a c e0 hD hR.tw) w3 hq hs)
          have HO := Lib.hid hR.os
          unfold Did at P
          generalize dropD d e0 = d' at *
          generalize errDrop st e0 = k2 at *
          generalize dropS st e0 = st' at *
          generalize find st.es e0 = fe at *
          obtain ⟨p0, p1, p2, p3⟩ := fe
          clear hR
          unfold Nxt refQ refQO at MI
          simp only [Ent.val] at P MI
          go_wp2_with fail
          go_at_call 9; refine P.out.mono ?_; rintro e w3 ⟨rfl, hq3, hs3⟩
          have hg3 := Mem.alloc1 w3 (.cells #[.int .i64 p0, .int .u64 p1, .int .i64 p2, .int .u64 p3] 32)
          obtain ⟨m1, m2, RC⟩ := MI.out _ (hq3.fresh hg3) (hs3.trans (Same.of hg3 (fun k hk => Nat.lt_of_lt_of_le (HO.out k hk) hs3.size)))
          have hP3 := heap_alloc_new w3 (.cells #[.int .i64 p0, .int .u64 p1, .int .i64 p2, .int .u64 p3] 32)
          obtain ⟨x0, x1, x2, x3, x4, x5, x6⟩ := seven (m2.trans hA)
          obtain ⟨b0, b1, b2, b3, bz⟩ := Mem.four m1
          have hX3 := lt_of m1
          have hXne : X ≠ w3.heap.size := by
            have := HO.out X (.inr (.inl rfl))
            have := hs3.size
            omega
          clear P MI hq3 hs3 hg3 m1 m2 z0 z1 z2 z3 z4 z5 z6
          go_wp2_with fail
          go_at_call 10; refine RC.out.mono ?_; rintro e w4 ⟨a', c', rfl, hg4, NV⟩
          go_upto_region 25 with fail
          clear b0 b1 b2 b3 bz x0 x1 x2 x3 x4 x5 x6 RC
          have hV1 := Mem.alloc1 w4 (.cells #[.slice a' d'.l.length c', .int .i64 d'.cur, .int .i64 d'.min, .bool d'.flag] 28)
          have hV2 := Mem.alloc1 (w4.alloc (.cells #[.slice a' d'.l.length c', .int .i64 d'.cur, .int .i64 d'.min, .bool d'.flag] 28)) (.cells #[.int .i64 p0, .int .u64 p1, .int .i64 p2, .int .u64 p3] 32)
          have hV := Mem.fresh_trans hV1 hV2
          obtain ⟨vX, vR⟩ := NV.out _ hV
          have hn := Mem.box_new (o' := (.cells #[.int .i64 p0, .int .u64 p1, .int .i64 p2, .int .u64 p3] 32)) (heap_alloc_new w4 (.cells #[.slice a' d'.l.length c', .int .i64 d'.cur, .int .i64 d'.min, .bool d'.flag] 28))
          have hP4 := Mem.box_fresh hP3 hg4
          have he1 := Mem.box_fresh hP4 hV
          have he2 : ((w4.alloc (.cells #[.slice a' d'.l.length c', .int .i64 d'.cur, .int .i64 d'.min, .bool d'.flag] 28)).alloc (.cells #[.int .i64 p0, .int .u64 p1, .int .i64 p2, .int .u64 p3] 32)).heap[w4.heap.size + 1]? = some (.cells #[.int .i64 p0, .int .u64 p1, .int .i64 p2, .int .u64 p3] 32 (0, 0)) := by simpa using heap_alloc_new (w4.alloc (.cells #[.slice a' d'.l.length c', .int .i64 d'.cur, .int .i64 d'.min, .bool d'.flag] 28)) (.cells #[.int .i64 p0, .int .u64 p1, .int .i64 p2, .int .u64 p3] 32)
          have hs4 : w3.heap.size < w4.heap.size := lt_of hP4
          have hX4 : X < w4.heap.size := Nat.lt_of_lt_of_le hX3 hg4.size
          have fe1 := kept4 (k := 0) he1 (show w3.heap.size ≠ X by omega) (.slice a' d'.l.length c') (.int .i64 d'.cur) (.int .i64 d'.min) (.bool d'.flag)
          have fe2 := kept4 (k := 0) he2 (show w4.heap.size + 1 ≠ X by omega) (.slice a' d'.l.length c') (.int .i64 d'.cur) (.int .i64 d'.min) (.bool d'.flag)
          simp only [Nat.zero_add] at fe1 fe2
          have FR := Lib.hid vR.rest
          unfold put4 at FR
          obtain ⟨b0, b1, b2, b3, bz⟩ := Mem.four vX
          obtain ⟨y0, y1, y2, y3, yz⟩ := Mem.four hn
          clear hV hV1 hV2 vX vR hn he1 he2 hP4 hP3 NV hg4
          generalize (w4.alloc (.cells #[.slice a' d'.l.length c', .int .i64 d'.cur, .int .i64 d'.min, .bool d'.flag] 28)).alloc (.cells #[.int .i64 p0, .int .u64 p1, .int .i64 p2, .int .u64 p3] 32) = V at *
          go_upto_region 26 with fail
          clear b0 b1 b2 b3 bz y0 y1 y2 y3 yz
          generalize (((V.setCell ⟨X, 0, none⟩ (.slice a' d'.l.length c')).setCell ⟨X, 1, none⟩ (.int .i64 d'.cur)).setCell ⟨X, 2, none⟩ (.int .i64 d'.min)).setCell ⟨X, 3, none⟩ (.bool d'.flag) = V5 at *
          obtain ⟨r0, r1, r2, r3, _⟩ := Mem.four fe1
          obtain ⟨t0, t1, t2, t3, _⟩ := Mem.four fe2
          clear fe1 fe2
          go_wp2_with fail
          go_meet
          case rel => exact ⟨rfl, d', a', c', _, FR.out⟩
        have f1 : (kd == 1) = false := by simpa using q1
        by_cases q2 : kd = 2
        · subst q2
          have P := Lib.hid (weighs _ q _ st e0 e1 hR.qu hR.os hR.tw.sound g1 g2)
          have MI := Lib.hid (fun w3 hq hs => hR.mid (st' := _) (d' := _) (hR.tw.like.weigh hR.tw.sorted hR.tw.sound.once e0 e1) (sound_weigh hR.tw.sound e0 e1 g2) (cur_weigh hR.tw.cur e0 e1) (fun w3 hD => docWeigh w3 d st a c e0 e1 hD hR.tw g2) w3 hq hs)
          unfold Did at P
          generalize weighD d e0 e1 = d' at *
          generalize errWeigh st e0 e1 = k2 at *
          generalize weighS st e0 e1 = st' at *
          clear hR
          unfold Nxt refQ refQO at MI
          simp only [Ent.val] at P MI
          go_wp2_with fail
          go_at_call 11; refine P.out.mono ?_; rintro e w3 ⟨rfl, hq3, hs3⟩
          obtain ⟨m1, m2, RC⟩ := MI.out w3 hq3 hs3
          obtain ⟨x0, x1, x2, x3, x4, x5, x6⟩ := seven (m2.trans hA)
          obtain ⟨b0, b1, b2, b3, bz⟩ := Mem.four m1
          clear P MI hq3 hs3 m1 m2 z0 z1 z2 z3 z4 z5 z6
          go_wp2_with fail
          go_at_call 12; refine RC.out.mono ?_; rintro e w4 ⟨a', c', rfl, hg4, NV⟩
          obtain ⟨vX, vR⟩ := NV.out _ (Mem.alloc1 w4 (.cells #[.slice a' d'.l.length c', .int .i64 d'.cur, .int .i64 d'.min, .bool d'.flag] 28))
          have hn := heap_alloc_new w4 (.cells #[.slice a' d'.l.length c', .int .i64 d'.cur, .int .i64 d'.min, .bool d'.flag] 28)
          clear b0 b1 b2 b3 bz x0 x1 x2 x3 x4 x5 x6 RC NV hg4
          obtain ⟨b0, b1, b2, b3, bz⟩ := Mem.four vX
          obtain ⟨y0, y1, y2, y3, yz⟩ := Mem.four hn
          have FR := Lib.hid vR.rest
          clear vX vR hn
          go_wp2_with fail
          go_meet
          case rel => exact ⟨rfl, d', a', c', _, FR.out⟩
        have f2 : (kd == 2) = false := by simpa using q2
        by_cases q3 : kd = 3
        · subst q3
          have P := Lib.hid (charges _ q _ st ns hR.qu hR.os hR.tw.sound g5)
          have MI := Lib.hid (fun w3 hq hs => hR.mid (st' := _) (d' := _) (hR.tw.like.charge hR.tw.sorted hR.tw.sound.once ns) (hR.tw.sound.charge g5) (cur_charge hR.tw.cur ns) (fun w3 hD => docCharge w3 d st a c ns hD hR.tw g5) w3 hq hs)
          unfold Did at P
          generalize chargeD d ns = d' at *
          generalize errCharge st ns = k2 at *
          generalize chargeS st ns = st' at *
          clear hR
          unfold Nxt refQ refQO at MI
          simp only [Ent.val] at P MI
          go_wp2_with fail
          go_at_call 13; refine P.out.mono ?_; rintro e w3 ⟨rfl, hq3, hs3⟩
          obtain ⟨m1, m2, RC⟩ := MI.out w3 hq3 hs3
          obtain ⟨x0, x1, x2, x3, x4, x5, x6⟩ := seven (m2.trans hA)
          obtain ⟨b0, b1, b2, b3, bz⟩ := Mem.four m1
          clear P MI hq3 hs3 m1 m2 z0 z1 z2 z3 z4 z5 z6
          go_wp2_with fail
          go_at_call 14; refine RC.out.mono ?_; rintro e w4 ⟨a', c', rfl, hg4, NV⟩
          obtain ⟨vX, vR⟩ := NV.out _ (Mem.alloc1 w4 (.cells #[.slice a' d'.l.length c', .int .i64 d'.cur, .int .i64 d'.min, .bool d'.flag] 28))
          have hn := heap_alloc_new w4 (.cells #[.slice a' d'.l.length c', .int .i64 d'.cur, .int .i64 d'.min, .bool d'.flag] 28)
          clear b0 b1 b2 b3 bz x0 x1 x2 x3 x4 x5 x6 RC NV hg4
          obtain ⟨b0, b1, b2, b3, bz⟩ := Mem.four vX
          obtain ⟨y0, y1, y2, y3, yz⟩ := Mem.four hn
          have FR := Lib.hid vR.rest
          clear vX vR hn
          go_wp2_with fail
          go_meet
          case rel => exact ⟨rfl, d', a', c', _, FR.out⟩
        have f3 : (kd == 3) = false := by simpa using q3
        by_cases q4 : kd = 4
        · subst q4
          have P := Lib.hid (picks _ q _ st gr hR.qu hR.os hR.tw.sound.once hR.tw.sound.cur g6 (fun e he => (hR.tw.sound.each e he).2.2.2.2.2.2))
          have MI := Lib.hid (fun w3 hq hs => hR.mid (st' := _) (d' := _) (like_cur hR.tw.like (chosen st gr)) (hR.tw.sound.pick gr) (chosen_is st gr) (fun w3 hD => docPick w3 d st a c gr hD hR.tw g6) w3 hq hs)
          unfold Did at P
          generalize ({ d with cur := chosen st gr } : Dq) = d' at *
          generalize ({ st with cur := chosen st gr } : St) = st' at *
          generalize chosen st gr = k2 at *
          clear hR
          unfold Nxt refQ refQO at MI
          simp only [Ent.val] at P MI
          go_wp2_with fail
          go_at_call 15; refine P.out.mono ?_; rintro e w3 ⟨rfl, hq3, hs3⟩
          obtain ⟨m1, m2, RC⟩ := MI.out w3 hq3 hs3
          obtain ⟨x0, x1, x2, x3, x4, x5, x6⟩ := seven (m2.trans hA)
          obtain ⟨b0, b1, b2, b3, bz⟩ := Mem.four m1
          clear P MI hq3 hs3 m1 m2 z0 z1 z2 z3 z4 z5 z6
          go_wp2_with fail
          go_at_call 16; refine RC.out.mono ?_; rintro e w4 ⟨a', c', rfl, hg4, NV⟩
          obtain ⟨vX, vR⟩ := NV.out _ (Mem.alloc1 w4 (.cells #[.slice a' d'.l.length c', .int .i64 d'.cur, .int .i64 d'.min, .bool d'.flag] 28))
          have hn := heap_alloc_new w4 (.cells #[.slice a' d'.l.length c', .int .i64 d'.cur, .int .i64 d'.min, .bool d'.flag] 28)
          clear b0 b1 b2 b3 bz x0 x1 x2 x3 x4 x5 x6 RC NV hg4
          obtain ⟨b0, b1, b2, b3, bz⟩ := Mem.four vX
          obtain ⟨y0, y1, y2, y3, yz⟩ := Mem.four hn
          have FR := Lib.hid vR.rest
          clear vX vR hn
          go_wp2_with fail
          go_meet
          case rel => exact ⟨rfl, d', a', c', _, FR.out⟩
        have f4 : (kd == 4) = false := by simpa using q4
        have P := Lib.hid (yields _ q _ st gr hR.qu hR.os hR.tw.sound.once hR.tw.sound.cur g6 (fun e he => (hR.tw.sound.each e he).2.2.2.2.2.2))
        have MI := Lib.hid (fun w3 hq hs => hR.mid (st' := _) (d' := _) (like_cur hR.tw.like (yielded st gr)) (sound_yield hR.tw.sound gr) (yielded_is' st gr) (fun w3 hD => docYield w3 d st a c gr hD hR.tw g6) w3 hq hs)
        unfold Did at P
        generalize ({ d with cur := yielded st gr } : Dq) = d' at *
        generalize ({ st with cur := yielded st gr } : St) = st' at *
        generalize yielded st gr = k2 at *
        clear hR
        unfold Nxt refQ refQO at MI
        simp only [Ent.val] at P MI
        go_wp2_with fail
        go_at_call 17; refine P.out.mono ?_; rintro e w3 ⟨rfl, hq3, hs3⟩
        obtain ⟨m1, m2, RC⟩ := MI.out w3 hq3 hs3
        obtain ⟨x0, x1, x2, x3, x4, x5, x6⟩ := seven (m2.trans hA)
        obtain ⟨b0, b1, b2, b3, bz⟩ := Mem.four m1
        clear P MI hq3 hs3 m1 m2 z0 z1 z2 z3 z4 z5 z6
        go_wp2_with fail
        go_at_call 18; refine RC.out.mono ?_; rintro e w4 ⟨a', c', rfl, hg4, NV⟩
        obtain ⟨vX, vR⟩ := NV.out _ (Mem.alloc1 w4 (.cells #[.slice a' d'.l.length c', .int .i64 d'.cur, .int .i64 d'.min, .bool d'.flag] 28))
        have hn := heap_alloc_new w4 (.cells #[.slice a' d'.l.length c', .int .i64 d'.cur, .int .i64 d'.min, .bool d'.flag] 28)
        clear b0 b1 b2 b3 bz x0 x1 x2 x3 x4 x5 x6 RC NV hg4
        obtain ⟨b0, b1, b2, b3, bz⟩ := Mem.four vX
        obtain ⟨y0, y1, y2, y3, yz⟩ := Mem.four hn
        have FR := Lib.hid vR.rest
        clear vX vR hn
        go_wp2_with fail
        go_meet
        case rel => exact ⟨rfl, d', a', c', _, FR.out⟩
      case rest =>
        obtain ⟨rfl, d, a, c, st, hR⟩ := hcut
        have SM := Lib.hid (sameq wc q _ d st a c hR.qu hR.dl hR.tw)
        have NX : Hid (∀ w6, Below wc.heap.size wc w6 → PlayI w q X n (150 - (k + 1)) (.int .i64 ((k : Int) + 1)) w6) := fun w6 hg => ⟨k + 1, by omega, by omega, rfl, by go_num, d, a, c, st, hR.fresh hg⟩
        have hbx : wc.heap[X]? = some (.cells #[.slice a d.l.length c, .int .i64 d.cur, .int .i64 d.min, .bool d.flag] 28 (0, 0)) := hR.box
        obtain ⟨b0, b1, b2, b3, bz⟩ := Mem.four hbx
        unfold refQ at SM
        clear hR hbx
        go_wp2_with (go_at_call 19; refine SM.out.mono ?_; rintro e w6 ⟨rfl, hg6⟩)
        have NX' := Lib.hid (NX.out _ hg6)
        go_roundg (150 - (k + 1))
        case measure => omega
        case rel => exact NX'.out
    · have hd : ¬ (k : Int) < n ∨ ((k : Int) < n ∧ ¬ (k : Int) < 150) := by omega
      have hbel := Lib.hid hR.s
      clear hR HC hlt
      rcases hd with q1 | ⟨q1, q2⟩
      all_goals
        go_wp2_with fail
        go_ret
        exact ⟨rfl, hbel.out⟩
end Go.Proofs.Ytdigakgfehaabaa.Queue

/- A slice of structs of an integer, a struct of four integers and two integers, opened. Conditions: none. -/
namespace Go.Proofs.Ytdigakgfehaabaa.Read
open Go.ChangeShapes Go.WideShapes Go.ChangeAt Go.RowKit
set_option linter.unusedVariables false
set_option linter.unusedSimpArgs false

theorem steps {H : Type} {enc : TypeId × Value → H} {P : Program} {W : World} {base : Nat} {t e : TypeId} {f0 f1 f2 f3 g0 g1 g2 g3 : Field} {k0 k1 k2 k3 k4 k5 k6 : IntKind} {v : Value} {d : DataW H} {ps : List MemPlace} {r : Reach} (ht : P.underlying t = some (.slice e)) (he : P.underlying e = some (.struct #[f0, f1, f2, f3])) (hh : P.underlying f1.type = some (.struct #[g0, g1, g2, g3])) (hC : P.cellsOf e = 7)
    (ho : (f0.offset, f1.offset, f2.offset, f3.offset, g0.offset, g1.offset, g2.offset, g3.offset) = (0, 1, 5, 6, 0, 1, 2, 3)) (hc : (P.cellsOf f0.type, P.cellsOf f1.type, P.cellsOf f2.type, P.cellsOf f3.type, P.cellsOf g0.type, P.cellsOf g1.type, P.cellsOf g2.type, P.cellsOf g3.type) = (1, 4, 1, 1, 1, 1, 1, 1))
    (u0 : P.underlying f0.type = some (.int k0)) (u1 : P.underlying g0.type = some (.int k1)) (u2 : P.underlying g1.type = some (.int k2)) (u3 : P.underlying g2.type = some (.int k3)) (u4 : P.underlying g3.type = some (.int k4)) (u5 : P.underlying f2.type = some (.int k5)) (u6 : P.underlying f3.type = some (.int k6))
    (hv : Value.okWide P W r base t v) (h : DataW.Trod enc P W 0 (fun _ => true) true t v d ps) :
    ∃ (a : Option Addr) (len cap : Nat), v = .slice a len cap ∧ len ≤ 9223372036854775807 ∧ ∀ j, j < len → ∃ k off, a = some ⟨k, off, none⟩ ∧ k < W.heap.size ∧ ∃ d0 d1 d2 d3 d4 d5 d6 : Int, ((Lit.int k0 d0).wf = true ∧ (Lit.int k1 d1).wf = true ∧ (Lit.int k2 d2).wf = true ∧ (Lit.int k3 d3).wf = true ∧ (Lit.int k4 d4).wf = true ∧ (Lit.int k5 d5).wf = true ∧ (Lit.int k6 d6).wf = true) ∧ W.cell? ⟨k, off + j * 7, none⟩ = some (.int k0 d0) ∧ W.cell? ⟨k, off + j * 7 + 1, none⟩ = some (.int k1 d1) ∧ W.cell? ⟨k, off + j * 7 + 2, none⟩ = some (.int k2 d2) ∧ W.cell? ⟨k, off + j * 7 + 3, none⟩ = some (.int k3 d3) ∧ W.cell? ⟨k, off + j * 7 + 4, none⟩ = some (.int k4 d4) ∧ W.cell? ⟨k, off + j * 7 + 5, none⟩ = some (.int k5 d5) ∧ W.cell? ⟨k, off + j * 7 + 6, none⟩ = some (.int k6 d6) := by
  obtain ⟨a0, len, cap, rfl⟩ := okWide_slice ht hv
  obtain ⟨fuel, hf⟩ := h
  rcases Go.Deep.open_slice ht hf with ⟨hcs, hx⟩ | ⟨a, len', cap', m, n, D, Pl, hcs, _, hl, hm, hmm, hx, hi⟩
  · simp [Value.cells] at hcs
    obtain ⟨rfl, rfl, rfl⟩ := hcs
    exact ⟨none, 0, 0, rfl, by omega, by intro j hj; omega⟩
  · simp [Value.cells] at hcs
    obtain ⟨rfl, rfl, rfl⟩ := hcs
    simp only [if_true] at hmm
    refine ⟨some a, len, cap, rfl, by unfold maxLen at hm; omega, fun j hj => ?_⟩
    obtain ⟨cs, hcl, htr⟩ := hi j (by omega)
    rw [hC] at hcl
    obtain ⟨_, hlen, hat⟩ := World.cells?_some hcl
    obtain ⟨ys, n', _, _, r3, r4, hfl⟩ := DataW.trod_struct he htr
    have hyl : ys.length = 4 := by first | simpa using r4 | simpa using r3
    simp only [Prod.mk.injEq] at ho hc
    obtain ⟨o0, o1, o2, o3, o4, o5, o6, o7⟩ := ho
    obtain ⟨s0, s1, s2, s3, s4, s5, s6, s7⟩ := hc
    match cs, hlen with
    | [c0, c1, c2, c3, c4, c5, c6], _ =>
      have x0 := hfl 0 f0 rfl
      have x1 := hfl 1 f1 rfl
      have x2 := hfl 2 f2 rfl
      have x3 := hfl 3 f3 rfl
      rw [o0, s0] at x0
      rw [o1, s1] at x1
      rw [o2, s2] at x2
      rw [o3, s3] at x3
      simp only [List.drop_zero, List.drop_succ_cons, List.take_succ_cons, List.take_zero] at x0 x1 x2 x3
      rw [List.getElem?_eq_getElem (show 0 < ys.length by omega)] at x0
      rw [List.getElem?_eq_getElem (show 1 < ys.length by omega)] at x1
      rw [List.getElem?_eq_getElem (show 2 < ys.length by omega)] at x2
      rw [List.getElem?_eq_getElem (show 3 < ys.length by omega)] at x3
      obtain ⟨zs, n2, _, _, r5, r6, hgl⟩ := DataW.trod_struct hh x1
      have hzl : zs.length = 4 := by first | simpa using r6 | simpa using r5
      have z0 := hgl 0 g0 rfl
      have z1 := hgl 1 g1 rfl
      have z2 := hgl 2 g2 rfl
      have z3 := hgl 3 g3 rfl
      rw [o4, s4] at z0
      rw [o5, s5] at z1
      rw [o6, s6] at z2
      rw [o7, s7] at z3
      simp only [List.drop_zero, List.drop_succ_cons, List.take_succ_cons, List.take_zero] at z0 z1 z2 z3
      rw [List.getElem?_eq_getElem (show 0 < zs.length by omega)] at z0
      rw [List.getElem?_eq_getElem (show 1 < zs.length by omega)] at z1
      rw [List.getElem?_eq_getElem (show 2 < zs.length by omega)] at z2
      rw [List.getElem?_eq_getElem (show 3 < zs.length by omega)] at z3
      obtain ⟨d0, e0, _, y0⟩ := DataW.trod_int u0 x0
      obtain ⟨d1, e1, _, y1⟩ := DataW.trod_int u1 z0
      obtain ⟨d2, e2, _, y2⟩ := DataW.trod_int u2 z1
      obtain ⟨d3, e3, _, y3⟩ := DataW.trod_int u3 z2
      obtain ⟨d4, e4, _, y4⟩ := DataW.trod_int u4 z3
      obtain ⟨d5, e5, _, y5⟩ := DataW.trod_int u5 x2
      obtain ⟨d6, e6, _, y6⟩ := DataW.trod_int u6 x3
      simp only [List.cons.injEq, and_true] at e0 e1 e2 e3 e4 e5 e6
      subst e0 e1 e2 e3 e4 e5 e6
      have w0 := hat 0 (by omega)
      have w1 := hat 1 (by omega)
      have w2 := hat 2 (by omega)
      have w3 := hat 3 (by omega)
      have w4 := hat 4 (by omega)
      have w5 := hat 5 (by omega)
      have w6 := hat 6 (by omega)
      rw [Go.Deep.add_add] at w0 w1 w2 w3 w4 w5 w6
      simp only [List.getElem?_cons_zero, List.getElem?_cons_succ] at w0 w1 w2 w3 w4 w5 w6
      obtain ⟨b, off, spot⟩ := a
      have hspot : spot = none := by
        obtain ⟨cs0, hcl0, _⟩ := hi 0 (by omega)
        rw [hC] at hcl0
        obtain ⟨_, hlen0, hat0⟩ := World.cells?_some hcl0
        have w := hat0 0 (by omega)
        rw [List.getElem?_eq_getElem (show 0 < cs0.length by omega)] at w
        simpa [Addr.add] using World.cell?_spot w
      subst hspot
      simp only [Addr.add_lit] at w0 w1 w2 w3 w4 w5 w6
      refine ⟨b, off, rfl, World.block_lt_of_cell? _ _ w0, d0, d1, d2, d3, d4, d5, d6, ⟨y0, y1, y2, y3, y4, y5, y6⟩, w0, ?_, ?_, ?_, ?_, ?_, ?_⟩
      · rw [Nat.add_assoc]; exact w1
      · rw [Nat.add_assoc]; exact w2
      · rw [Nat.add_assoc]; exact w3
      · rw [Nat.add_assoc]; exact w4
      · rw [Nat.add_assoc]; exact w5
      · rw [Nat.add_assoc]; exact w6
end Go.Proofs.Ytdigakgfehaabaa.Read
