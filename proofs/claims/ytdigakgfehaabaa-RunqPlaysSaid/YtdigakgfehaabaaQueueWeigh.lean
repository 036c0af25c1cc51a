/- What Weigh of package runq does. Conditions: each number is one of its kind. -/
import Derived.Test.YtdigakgfehaabaaQueueSound
import Derived.Test.YtdigakgfehaabaaWideMul
namespace Go.Proofs.Ytdigakgfehaabaa.Queue
open Go.ChangeShapes Go.WideShapes Go.ChangeAt Go.RowKit Tree
set_option linter.unusedVariables false
set_option linter.unusedSimpArgs false
set_option maxRecDepth 100000

/-- One in another one's place. -/
def setE (e : Ent) (es : List Ent) : List Ent := es.map fun d => if d.id = e.id then e else d
theorem setE_none {e : Ent} {es : List Ent} (h : named es e.id = false) : setE e es = es := by
  unfold setE
  conv => rhs; rw [← List.map_id es]
  apply List.map_congr_left
  intro d hd
  have : d.id ≠ e.id := by
    intro e2
    unfold named at h
    rw [List.any_eq_false] at h
    exact h d hd (by simpa using e2)
  simp [this]
theorem setE_perm {es : List Ent} (ho : Once es) {e : Ent} (hn : named es e.id = true) : (e :: drop es e.id).Perm (setE e es) := by
  induction es with
  | nil => simp [named] at hn
  | cons d l ih =>
    have ho' : (∀ x ∈ l, d.id ≠ x.id) ∧ Once l := by
      unfold Once at ho ⊢
      rw [List.pairwise_cons] at ho
      exact ho
    by_cases hd : d.id = e.id
    · have hl : named l e.id = false := by
        unfold named
        rw [List.any_eq_false]
        intro x hx
        have := ho'.1 x hx
        rw [hd] at this
        simpa using fun e2 => this e2.symm
      have e1 : drop (d :: l) e.id = drop l e.id := by simp [drop, hd]
      have e2 : setE e (d :: l) = e :: setE e l := by simp [setE, hd]
      rw [e1, e2, drop_none hl, setE_none hl]
    · have hl : named l e.id = true := by
        unfold named at hn ⊢
        rw [List.any_cons, show (d.id == e.id) = false by simpa using hd, Bool.false_or] at hn
        exact hn
      have e1 : drop (d :: l) e.id = d :: drop l e.id := by simp [drop, hd]
      have e2 : setE e (d :: l) = d :: setE e l := by simp [setE, hd]
      rw [e1, e2]
      exact (List.Perm.swap d e _).trans ((ih ho'.2 hl).cons d)
theorem setE_keys {es : List Ent} (ho : Once es) {e f : Ent} (hf : f ∈ es) (h1 : f.id = e.id) (h2 : f.v = e.v) : (setE e es).map Ent.key = es.map Ent.key := by
  unfold setE
  rw [List.map_map]
  apply List.map_congr_left
  intro d hd
  show (if d.id = e.id then e else d).key = d.key
  by_cases hx : d.id = e.id
  · have : d = f := once_eq ho hd hf (by omega)
    subst this
    rw [if_pos hx]
    unfold Ent.key
    rw [h1, h2]
  · rw [if_neg hx]

def errWeigh (st : St) (id x : Int) : Int := if named st.es id then Vrun.cerr x 0 0 else 12
def weighed (e : Ent) (x : Int) : Ent := { e with wt := x, rm := Wide.quo e.rm x e.wt }
def weighS (st : St) (id x : Int) : St := if errWeigh st id x = 0 then rise { st with es := setE (weighed (find st.es id) x) st.es } else st

/-- The map's one entry turned. -/
theorem Ql.turned {W w1 : World} {q m t : Nat} {O : Nat → Prop} {T : Tr} {st : St} {e f : Ent} (h : Ql W q m t O T st) (ho : Once st.es) (hf : f ∈ st.es) (h1 : f.id = e.id) (h2 : f.v = e.v) (hm : Mp w1 m (e :: drop st.es e.id)) (ht : W.mapTurned w1 m) (hO : ∀ k, O k → k < W.heap.size) :
    Qu w1 q O { st with es := setE e st.es } ∧ Same O W w1 ∧ ∀ b, b < W.heap.size → b ≠ m → w1.heap[b]? = W.heap[b]? := by
  have hg := ht.grown
  have hn : named st.es e.id = true := by unfold named; rw [List.any_eq_true]; exact ⟨f, hf, by simpa using h1⟩
  have bl : ∀ b, b < W.heap.size → b ≠ m → w1.heap[b]? = W.heap[b]? := fun b hb hbm => hg.block b hb (fun e => hbm (by cases e; rfl))
  refine ⟨⟨m, t, T, h.blk.on (bl q h.blk.lt h.qm), hm.perm (setE_perm ho hn), kept_on h.kept fun b hb => bl b (kept_lt h.kept b hb) (fun e => h.kept.apart b hb (.inr (.inr e))), ?_, h.oq, h.om, h.qm⟩, Same.grown hg hO h.om, bl⟩
  rw [h.keys]
  exact (setE_keys ho hf h1 h2).symm

theorem weighs_err (w : World) (q : Nat) (O : Nat → Prop) (st : St) (id x : Int) (h : Qu w q O st) (hO : ∀ k, O k → k < w.heap.size) (hid : I64 id) (hx : 0 ≤ x) (hz : errWeigh st id x ≠ 0) :
    Calls Try.prog 11 #[.pointer (some ⟨q, 0, none⟩), .int .i64 id, .int .u64 x] w (Did (.int .i64 (errWeigh st id x)) st q O w) := by
  have H := Lib.hid (fun w' (g : Below w.heap.size w w') => h.fresh g)
  have F := Lib.hid (finds w q O st id h hid)
  have MB := Lib.hid (fun w => mayBes x 0 w hx (by omega))
  unfold errWeigh at hz ⊢
  cases hnm : named st.es id
  · simp only [hnm, Bool.false_eq_true, if_false] at F ⊢
    generalize find st.es id = fe at *
    obtain ⟨fa, fb, fc, fd⟩ := fe
    simp only [Ent.val] at F
    clear h hz MB
    go_enter_defers Try.func11, Try.ntmps11
    go_wp2_with (go_at_call 30; refine (F.out).mono ?_; rintro e w1 ⟨rfl, hg1⟩)
    have hg2 := fresh_trans hg1 ((Below.refl _ w1).alloc (Nat.le_refl _) (.cells #[.int .i64 fa, .int .u64 fb, .int .i64 fc, .int .u64 fd] 32))
    exact ⟨_, results_tmp rfl _ _ _, rfl, H.out _ hg2, Same.of hg2 hO⟩
  · simp only [hnm, if_true] at F hz ⊢
    generalize find st.es id = fe at *
    obtain ⟨fa, fb, fc, fd⟩ := fe
    simp only [Ent.val] at F
    have h2 : (Vrun.cerr x 0 0 == 0) = false := by simpa using hz
    generalize Vrun.cerr x 0 0 = ce at *
    clear h hz
    go_enter_defers Try.func11, Try.ntmps11
    go_wp2_with (first
      | (go_at_call 30; refine (F.out).mono ?_; rintro e w1 ⟨rfl, hg1⟩)
      | (go_at_call 32; refine (MB.out _).mono ?_; rintro e w2 ⟨rfl, hg2⟩))
    have hg3 := fresh_trans (fresh_trans hg1 ((Below.refl _ w1).alloc (Nat.le_refl _) (.cells #[.int .i64 fa, .int .u64 fb, .int .i64 fc, .int .u64 fd] 32))) hg2
    exact ⟨_, results_tmp rfl _ _ _, rfl, H.out _ hg3, Same.of hg3 hO⟩

set_option maxHeartbeats 4000000 in
theorem weighs_ok (w : World) (q : Nat) (O : Nat → Prop) (st : St) (id x : Int) (h : Qu w q O st) (hO : ∀ k, O k → k < w.heap.size) (hs : Sound st) (hid : I64 id) (hz : errWeigh st id x = 0) (hx : 0 ≤ x) :
    Calls Try.prog 11 #[.pointer (some ⟨q, 0, none⟩), .int .i64 id, .int .u64 x] w (Did (.int .i64 0) (weighS st id x) q O w) := by
  have hnm : named st.es id = true := by
    unfold errWeigh at hz
    cases hh : named st.es id
    · rw [hh] at hz; simp at hz
    · rfl
  have hce : Vrun.cerr x 0 0 = 0 := by unfold errWeigh at hz; rw [hnm] at hz; simpa using hz
  have hxb := cerr_zero hce
  obtain ⟨f1, f2⟩ := find_of hnm
  have he := hs.each _ f1
  have F := Lib.hid (finds w q O st id h hid)
  rw [hnm] at F
  have MB := Lib.hid (fun w => mayBes x 0 w hx (by omega))
  rw [hce] at MB
  have MD := Lib.hid (fun w => Wide.mulDiv (find st.es id).rm x (find st.es id).wt w ⟨by omega, by omega⟩ ⟨by omega, by omega⟩ ⟨by omega, by omega⟩)
  have QY : Hid (∀ w1 w3, Below w.heap.size w w1 → Below w1.heap.size w1 w3 → w1.heap.size < w3.heap.size → ∀ u v, Qu ((w3.setCell ⟨w1.heap.size, 1, none⟩ u).setCell ⟨w1.heap.size, 3, none⟩ v) q (fun k => O k ∨ k = w1.heap.size) st) := by
    refine Lib.hid (fun w1 w3 g1 g2 hlt u v => ?_)
    have h1 : Qu w1 q (fun k => O k ∨ k = w1.heap.size) st := (h.fresh g1).other (fun k hk => hk.imp _root_.id (fun e => by omega))
    exact ((h1.fresh g2).away (p := ⟨w1.heap.size, 1, none⟩) (.inr rfl) u).away (p := ⟨w1.heap.size, 3, none⟩) (.inr rfl) v
  have hw : weighS st id x = rise { st with es := setE (weighed (find st.es id) x) st.es } := by unfold weighS; rw [if_pos hz]
  rw [hw]
  have hwid : (weighed (find st.es id) x).id = id := f2
  have ON := Lib.hid hs.once
  have F1 := Lib.hid f1
  have FEW := Lib.hid hs.few
  have hq := h.lt
  clear h hz hnm hce he hw hs
  have hE : weighed (find st.es id) x = ⟨(find st.es id).id, x, (find st.es id).v, Wide.quo (find st.es id).rm x (find st.es id).wt⟩ := rfl
  rw [hE] at *
  generalize hfe : find st.es id = fe at *
  generalize Wide.quo fe.rm x fe.wt = r at *
  generalize Wide.rst fe.rm x fe.wt = r2 at *
  generalize Wide.can fe.rm x fe.wt = r3 at *
  obtain ⟨fa, fb, fc, fd⟩ := fe
  simp only [Ent.val] at *
  subst f2
  go_enter_defers Try.func11, Try.ntmps11
  go_wp2_with (first
    | (go_at_call 30; refine (F.out).mono ?_; rintro e w1 ⟨rfl, hg1⟩)
    | (go_at_call 32; refine (MB.out _).mono ?_; rintro e w2 ⟨rfl, hg2⟩; have hgW := fresh_trans (Below.refl _ (w1.alloc (.cells #[.int .i64 fa, .int .u64 fb, .int .i64 fc, .int .u64 fd] 32))) hg2; obtain ⟨n0, n1, n2, n3, nz, nn⟩ := new_four hg2; have hl2 := lt_of nn; clear hg2)
    | (go_at_call 33; refine (MD.out _).mono ?_; rintro e w3 ⟨rfl, hg3⟩; have nn3 := (hg3.block _ hl2).trans nn; have m0 := cell_of_row w3 _ 0 _ _ _ nn3; have m1 := cell_of_row w3 _ 1 _ _ _ nn3; have m2 := cell_of_row w3 _ 2 _ _ _ nn3; have m3 := cell_of_row w3 _ 3 _ _ _ nn3; have mf : ∀ j, w3.frozen? ⟨w1.heap.size, j, none⟩ = false := fun j => frozen_of_row w3 _ j _ _ nn3; have hgX := fresh_trans hgW hg3; clear hg3))
  have g13 := fresh_trans ((Below.refl _ w1).alloc (Nat.le_refl _) (.cells #[.int .i64 fa, .int .u64 fb, .int .i64 fc, .int .u64 fd] 32)) hgX
  have hl3 := lt_of nn3
  have QQ := QY.out w1 w3 hg1 g13 hl3 (.int .u64 x) (.int .u64 r)
  have e1 : (w3.setCell ⟨w1.heap.size, 1, none⟩ (.int .u64 x)).heap[w1.heap.size]? = some (.cells #[.int .i64 fa, .int .u64 x, .int .i64 fc, .int .u64 fd] 32 (0, 0)) := by rw [heap_setCell_same _ _ 1 _ _ _ nn3]; rfl
  have e2 : ((w3.setCell ⟨w1.heap.size, 1, none⟩ (.int .u64 x)).setCell ⟨w1.heap.size, 3, none⟩ (.int .u64 r)).heap[w1.heap.size]? = some (.cells #[.int .i64 fa, .int .u64 x, .int .i64 fc, .int .u64 r] 32 (0, 0)) := by rw [heap_setCell_same _ _ 3 _ _ _ e1]; rfl
  have ne1 : ¬ O w1.heap.size := fun e => by have := hO _ e; have := hg1.size; omega
  have hS3 : Same O w3 ((w3.setCell ⟨w1.heap.size, 1, none⟩ (.int .u64 x)).setCell ⟨w1.heap.size, 3, none⟩ (.int .u64 r)) := (Same.setCell (p := ⟨w1.heap.size, 1, none⟩) ne1 _).trans (Same.setCell (p := ⟨w1.heap.size, 3, none⟩) ne1 _)
  have SY := Lib.hid ((Same.of (fresh_trans hg1 g13) hO).trans hS3)
  have hbq : ¬ w1.heap.size = q := by have := hg1.size; omega
  have hbw : w.heap.size ≤ w1.heap.size := hg1.size
  clear e1 hS3 m0 m1 m2 m3 mf nn nn3 n0 n1 n2 n3 nz hgW hgX g13 hl2 hl3 hg1 MB MD F QY
  generalize (w3.setCell ⟨w1.heap.size, 1, none⟩ (.int .u64 x)).setCell ⟨w1.heap.size, 3, none⟩ (.int .u64 r) = Y at *
  generalize w1.heap.size = b at *
  obtain ⟨m, t, T, hl⟩ := QQ
  have hnY : named st.es fa = true := by unfold named; rw [List.any_eq_true]; exact ⟨_, F1.out, by simp⟩
  obtain ⟨w5, hrun, hmp, hturn⟩ := (hl.map.on (show Y.drew.heap[m]? = Y.heap[m]? from rfl)).set (e := ⟨fa, x, fc, r⟩) hid ON.out hnY (Nat.le_trans FEW.out (by omega))
  have hOY : ∀ k, (O k ∨ k = b) → k < Y.heap.size := by
    rintro k (hk | rfl)
    · exact Nat.lt_of_lt_of_le (hO k hk) SY.out.size
    · exact lt_of e2
  have TU := Lib.hid ((hl.fresh ((Below.refl _ Y).drew)).turned (e := ⟨fa, x, fc, r⟩) ON.out F1.out rfl rfl hmp hturn hOY)
  obtain ⟨c0, c1, c2, c3, c4, fz⟩ := hl.blk.cells
  have k0 := cell_of_row Y b 0 _ _ _ e2
  have k1 := cell_of_row Y b 1 _ _ _ e2
  have k2 := cell_of_row Y b 2 _ _ _ e2
  have k3 := cell_of_row Y b 3 _ _ _ e2
  simp only [Ent.val, mapT] at hrun
  clear hmp hturn hl e2 hfe
  go_region
  all_goals
    go_wp2_with fail
    obtain ⟨q5, s5, bl5⟩ := TU.out
    have hsz : Y.heap.size ≤ w5.heap.size := s5.size
    have s5' : Same O Y w5 := ⟨s5.os, s5.tape, s5.output, s5.size, fun i hi => s5.block i (.inl hi)⟩
    refine leaves_cons (f := 25) (args := #[.pointer (some ⟨q, 0, none⟩)]) (by simp) (by simp [go_sem]) ?_
    refine (raises _ q (fun k => O k ∨ k = b) _ .returning q5 (fun k hk => Nat.lt_of_lt_of_le (hOY k hk) hsz)).mono ?_
    rintro e u' w8 ⟨rfl, rfl, hq8, hs8⟩
    exact ⟨_, results_tmp rfl _ _ _, rfl, hq8.other (fun k hk => .inl (.inl hk)), (SY.out.trans s5').trans (hs8.mono (fun k hk => .inl hk))⟩

theorem weighs (w : World) (q : Nat) (O : Nat → Prop) (st : St) (id x : Int) (h : Qu w q O st) (hO : ∀ k, O k → k < w.heap.size) (hs : Sound st) (hid : I64 id) (hx : 0 ≤ x) :
    Calls Try.prog 11 #[.pointer (some ⟨q, 0, none⟩), .int .i64 id, .int .u64 x] w (Did (.int .i64 (errWeigh st id x)) (weighS st id x) q O w) := by
  by_cases hz : errWeigh st id x = 0
  · rw [hz]
    exact weighs_ok w q O st id x h hO hs hid hz hx
  · have : weighS st id x = st := by unfold weighS; rw [if_neg hz]
    rw [this]
    exact weighs_err w q O st id x h hO hid hx hz
end Go.Proofs.Ytdigakgfehaabaa.Queue
