/- What Weigh of package runq does. Conditions: each number is one of its kind. -/
import Derived.Test.YteoemafdknmklaaQueueSound
import Derived.Test.YteoemafdknmklaaWidePlain
namespace Go.Proofs.Yteoemafdknmklaa.Queue
open Go.ChangeShapes Go.WideShapes Go.ChangeAt Go.RowKit Tree
set_option linter.unusedVariables false
set_option linter.unusedSimpArgs false
set_option maxRecDepth 100000

/-- One in another one's place. -/
def setE (e : Ent) (es : List Ent) : List Ent := es.map fun d => if d.id = e.id then e else d
theorem setE_none {e : Ent} {es : List Ent} (h : named es e.id = false) : setE e es = es := by
  unfold setE
  conv => rhs; rw [← List.map_id es]
  apply List.map_congr_left
  intro d hd
  have : d.id ≠ e.id := by
    intro e2
    unfold named at h
    rw [List.any_eq_false] at h
    exact h d hd (by simpa using e2)
  simp [this]
theorem setE_perm {es : List Ent} (ho : Once es) {e : Ent} (hn : named es e.id = true) : (e :: drop es e.id).Perm (setE e es) := by
  induction es with
  | nil => simp [named] at hn
  | cons d l ih =>
    have ho' : (∀ x ∈ l, d.id ≠ x.id) ∧ Once l := by
      unfold Once at ho ⊢
      rw [List.pairwise_cons] at ho
      exact ho
    by_cases hd : d.id = e.id
    · have hl : named l e.id = false := by
        unfold named
        rw [List.any_eq_false]
        intro x hx
        have := ho'.1 x hx
        rw [hd] at this
        simpa using fun e2 => this e2.symm
      have e1 : drop (d :: l) e.id = drop l e.id := by simp [drop, hd]
      have e2 : setE e (d :: l) = e :: setE e l := by simp [setE, hd]
      rw [e1, e2, drop_none hl, setE_none hl]
    · have hl : named l e.id = true := by
        unfold named at hn ⊢
        rw [List.any_cons, show (d.id == e.id) = false by simpa using hd, Bool.false_or] at hn
        exact hn
      have e1 : drop (d :: l) e.id = d :: drop l e.id := by simp [drop, hd]
      have e2 : setE e (d :: l) = d :: setE e l := by simp [setE, hd]
      rw [e1, e2]
      exact (List.Perm.swap d e _).trans ((ih ho'.2 hl).cons d)
theorem setE_keys {es : List Ent} (ho : Once es) {e f : Ent} (hf : f ∈ es) (h1 : f.id = e.id) (h2 : f.v = e.v) : (setE e es).map Ent.key = es.map Ent.key := by
  unfold setE
  rw [List.map_map]
  apply List.map_congr_left
  intro d hd
  show (if d.id = e.id then e else d).key = d.key
  by_cases hx : d.id = e.id
  · have : d = f := once_eq ho hd hf (by omega)
    subst this
    rw [if_pos hx]
    unfold Ent.key
    rw [h1, h2]
  · rw [if_neg hx]

def errWeigh (st : St) (id x : Int) : Int := if named st.es id then Vrun.cerr x 0 0 else 12
def weighed (e : Ent) (x : Int) : Ent := { e with wt := x, rm := Wide.quo e.rm x e.wt }
def weighS (st : St) (id x : Int) : St := if errWeigh st id x = 0 then rise { st with es := setE (weighed (find st.es id) x) st.es } else st

/-- The map's one entry turned. -/
theorem Ql.turned {W w1 : World} {q m t : Nat} {O : Nat → Prop} {T : Tr} {st : St} {e f : Ent} (h : Ql W q m t O T st) (ho : Once st.es) (hf : f ∈ st.es) (h1 : f.id = e.id) (h2 : f.v = e.v) (hm : Mp w1 m (e :: drop st.es e.id)) (ht : W.mapTurned w1 m) (hO : ∀ k, O k → k < W.heap.size) :
    Qu w1 q O { st with es := setE e st.es } ∧ Same O W w1 ∧ ∀ b, b < W.heap.size → b ≠ m → w1.heap[b]? = W.heap[b]? := by
  have hg := ht.grown
  have hn : named st.es e.id = true := by unfold named; rw [List.any_eq_true]; exact ⟨f, hf, by simpa using h1⟩
  have bl : ∀ b, b < W.heap.size → b ≠ m → w1.heap[b]? = W.heap[b]? := fun b hb hbm => hg.block b hb (fun e => hbm (by cases e; rfl))
  refine ⟨⟨m, t, T, h.blk.on (bl q h.blk.lt h.qm), hm.perm (setE_perm ho hn), kept_on h.kept fun b hb => bl b (kept_lt h.kept b hb) (fun e => h.kept.apart b hb (.inr (.inr e))), ?_, h.oq, h.om, h.qm⟩, Same.grown hg hO h.om, bl⟩
  rw [h.keys]
  exact (setE_keys ho hf h1 h2).symm

end Go.Proofs.Yteoemafdknmklaa.Queue
