/- What with of the document's queue does: an entity in another one's place. Conditions: as each fact states them. -/
import Derived.Test.YtdigakgfehaabaaPlaysB
import Derived.Test.YtdigakgfehaabaaPlaysA
namespace Go.Proofs.Ytdigakgfehaabaa.Queue
open Go.ChangeShapes Go.WideShapes Go.ChangeAt Go.RowKit Tree
set_option linter.unusedVariables false
set_option linter.unusedSimpArgs false
set_option maxRecDepth 100000

theorem cellsE_set {l : List Ent} {i : Nat} (h : i < l.length) (e : Ent) : ((((cellsE l).set (i * 4) (.int .i64 e.id)).set (i * 4 + 1) (.int .u64 e.wt)).set (i * 4 + 2) (.int .i64 e.v)).set (i * 4 + 3) (.int .u64 e.rm) = cellsE (l.set i e) := by
  induction l generalizing i with
  | nil => simp at h
  | cons x l ih =>
    cases i with
    | zero => simp [cellsE]
    | succ i =>
      have := ih (i := i) (by simpa using h)
      rw [show (i + 1) * 4 = i * 4 + 4 by omega]
      simp only [cellsE, List.set_cons_succ, show i * 4 + 4 + 1 = i * 4 + 1 + 4 by omega, show i * 4 + 4 + 2 = i * 4 + 2 + 4 by omega, show i * 4 + 4 + 3 = i * 4 + 3 + 4 by omega, this]
theorem row_set4 {w : World} {B g c n : Nat} {l : List Ent} {i : Nat} (h : w.ownsRow B 32 4 (.slice (some ⟨g, 0, none⟩) n c) n (cellsE l)) (hi : i < l.length) (e : Ent) :
    ((((w.setCell ⟨g, i * 4, none⟩ (.int .i64 e.id)).setCell ⟨g, i * 4 + 1, none⟩ (.int .u64 e.wt)).setCell ⟨g, i * 4 + 2, none⟩ (.int .i64 e.v)).setCell ⟨g, i * 4 + 3, none⟩ (.int .u64 e.rm)).ownsRow B 32 4 (.slice (some ⟨g, 0, none⟩) n c) n (cellsE (l.set i e)) := by
  have h4 := ((((h.stored (i * 4) (.int .i64 e.id)).1.stored (i * 4 + 1) (.int .u64 e.wt)).1.stored (i * 4 + 2) (.int .i64 e.v)).1.stored (i * 4 + 3) (.int .u64 e.rm)).1
  rw [cellsE_set hi] at h4
  exact h4
theorem kept4 {w : World} {b g k : Nat} {o : Obj} (h : w.heap[b]? = some o) (hne : b ≠ g) (x0 x1 x2 x3 : Value) : ((((w.setCell ⟨g, k, none⟩ x0).setCell ⟨g, k + 1, none⟩ x1).setCell ⟨g, k + 2, none⟩ x2).setCell ⟨g, k + 3, none⟩ x3).heap[b]? = some o := by
  rw [Below.heap_setCell _ _ _ _ (by simpa using hne), Below.heap_setCell _ _ _ _ (by simpa using hne), Below.heap_setCell _ _ _ _ (by simpa using hne), Below.heap_setCell _ _ _ _ (by simpa using hne)]
  exact h
theorem below_at4 {w W : World} {n b k : Nat} (h : Below n w W) (hb : n ≤ b) (x0 x1 x2 x3 : Value) : Below n w ((((W.setCell ⟨b, k, none⟩ x0).setCell ⟨b, k + 1, none⟩ x1).setCell ⟨b, k + 2, none⟩ x2).setCell ⟨b, k + 3, none⟩ x3) :=
  (((h.setCell (p := ⟨b, k, none⟩) hb x0).setCell (p := ⟨b, k + 1, none⟩) hb x1).setCell (p := ⟨b, k + 2, none⟩) hb x2).setCell (p := ⟨b, k + 3, none⟩) hb x3
set_option maxHeartbeats 4000000 in
theorem refWith (w : World) (d : Dq) (a : Option Addr) (c : Nat) (i : Nat) (e : Ent) (hl : d.l.length ≤ 1000) (h : Dlq a c d.l w) (hi1 : i < d.l.length) :
    Calls Try.prog 35 #[refQ d a c, .int .i64 (i : Int), e.val] w (DocIs (fun v => v) (up { d with l := d.l.set i e }) a w) := by
  obtain ⟨i0, hi, hz0, hz1, hz2⟩ := Mem.info_parts infoE
  have PB := putB w d a c e
  have HL := Lib.hid (fun W (hB : PutB w d a c e W) => h.fresh hB.g)
  have hlen : (d.l.set i e).length = d.l.length := by simp
  have RA := Lib.hid (fun w' g' c' (hh : Lst (some ⟨g', 0, none⟩) (d.l.set i e) w') => refRaised w' { d with l := d.l.set i e } (some ⟨g', 0, none⟩) c' (by simp only [hlen]; exact hl) hh)
  have UL : (up { d with l := d.l.set i e }).l = d.l.set i e := up_l _
  obtain ⟨d', hd'⟩ : ∃ d', up { d with l := d.l.set i e } = d' := ⟨_, rfl⟩
  rw [hd'] at RA UL ⊢
  have UL2 : d'.l.length = d.l.length := by rw [UL, hlen]
  have BX : Hid (∀ W, PutB w d a c e W → _ ∧ _ ∧ _) := fun W hB => ⟨Mem.four hB.q, Mem.four hB.e, Mem.four hB.r⟩
  have hbase := h.base
  have hnone := h.none_
  unfold refQ refQO entO refZ Ent.val at *
  obtain ⟨l, cur, mn, fl⟩ := d
  obtain ⟨ei, ew, ev, er⟩ := e
  simp only at *
  have HD := Lib.hid hd'
  clear hd' h
  have q1 : (i : Int) < l.length := by omega
  have q4 : (l.length : Int) ≤ 1000 := by omega
  have nil_ := fun e => (show l.length = 0 ∧ c = 0 from ⟨by rw [(hnone e).1]; rfl, (hnone e).2⟩)
  have hlE := cellsE_len l
  have hone := cellsE_one l
  go_enter Try.func35, Try.ntmps35
  go_upto_region 1 with fail
  generalize ((w.alloc _).alloc _).alloc _ = W at *
  obtain ⟨⟨b0, b1, b2, b3, bz⟩, ⟨e0, e1, e2, e3, ez⟩, _⟩ := BX.out W PB
  have PBA := PB.fresh ((Below.refl W.heap.size W).alloc (Nat.le_refl _) (.cells #[] 32))
  have bA := (BX.out _ PBA).1.1
  have m1 : (W.alloc (.cells #[] 32)).ownsRow W.heap.size 32 4 (.slice (some ⟨W.heap.size, 0, none⟩) 0 0) 0 [] := made4 rfl (Nat.le_refl _)
  have src := (HL.out _ PBA).lst.all (fun ad e => by obtain ⟨g, h1, _⟩ := hbase ad e; exact ⟨g, h1⟩)
  have zA : (W.alloc (.cells #[] 32)).heap.size = W.heap.size + 1 := World.size_alloc _ _
  have gA : Below W.heap.size W (W.alloc (.cells #[] 32)) := (Below.refl _ _).alloc (Nat.le_refl _) _
  have hWs : w.heap.size + 2 < W.heap.size := lt_of PB.r
  generalize hU : cellsE l = U at *
  go_upto_region 2 with (at_builtin; refine wpList_append_any _ rfl (.tmp 7) (.tmp 9) 26 rfl W.heap.size 32 i0 _ 4 32 Try.underlying26 hi hz0 hz1 hz2 rfl (by decide) _ _ _ [] rfl m1 a l.length c U rfl hlE nil_ src hone (by simp only [maxLen]; omega) (by omega) (by omega) _ zA ?_; intro g1 c1 w1 own1 hgrow1 _; simp only [Nat.zero_add, List.nil_append] at own1; have hb1 := gA.grown hgrow1 (by omega) (by intro j hj; cases hj; exact Nat.le_refl _); have PB1 := PB.fresh hb1; have bx := Mem.four PB1.q; obtain ⟨x0, x1, x2, x3, xz⟩ := bx)
  subst hU
  have hgN := (own1.lt g1 rfl).1
  have hb2 := Mem.set_block PB1.q 0 (.slice (some ⟨g1, 0, none⟩) l.length c1)
  have he2 := Mem.box_kept PB1.e (Mem.one_grown w1 w.heap.size 0 (.slice (some ⟨g1, 0, none⟩) l.length c1)) (by simp)
  have hr2 := Mem.box_kept PB1.r (Mem.one_grown w1 w.heap.size 0 (.slice (some ⟨g1, 0, none⟩) l.length c1)) (by simp)
  have hg2 := PB1.g.setCell (p := ⟨w.heap.size, 0, none⟩) (Nat.le_refl _) (.slice (some ⟨g1, 0, none⟩) l.length c1)
  have own2 := row_set' own1 (b := w.heap.size) (j := 0) (by omega) (.slice (some ⟨g1, 0, none⟩) l.length c1)
  simp only [List.setIfInBounds_toArray, List.set_cons_zero] at hb2
  clear x0 x1 x2 x3 xz own1 hgrow1 hb1 PB1 b0 b1 b2 b3 bz e0 e1 e2 e3 ez bA m1 src zA gA PBA PB BX HL
  generalize w1.setCell ⟨w.heap.size, 0, none⟩ (.slice (some ⟨g1, 0, none⟩) l.length c1) = W2 at *
  obtain ⟨b0, b1, b2, b3, bz⟩ := Mem.four hb2
  obtain ⟨e0, e1, e2, e3, ez⟩ : _ ∧ _ ∧ _ ∧ _ ∧ _ := Mem.four (show W2.heap[w.heap.size + 1]? = some (.cells #[.int .i64 ei, .int .u64 ew, .int .i64 ev, .int .u64 er] 32 (0, 0)) from he2)
  have hd2 := (dlq_own own2).2.2
  obtain ⟨g', eg, _, c0, c1', c2, c3⟩ := hd2.lst i _ (ent_at hi1)
  cases eg
  have f0 := own2.frozenAt (i * 4)
  have f1 := own2.frozenAt (i * 4 + 1)
  have f2 := own2.frozenAt (i * 4 + 2)
  have f3 := own2.frozenAt (i * 4 + 3)
  have own3 := row_set4 own2 hi1 ⟨ei, ew, ev, er⟩
  have hb3 := kept4 (g := g1) (k := i * 4) hb2 (by omega) (.int .i64 ei) (.int .u64 ew) (.int .i64 ev) (.int .u64 er)
  have hr3 := kept4 (g := g1) (k := i * 4) hr2 (by omega) (.int .i64 ei) (.int .u64 ew) (.int .i64 ev) (.int .u64 er)
  have hg3 := below_at4 (k := i * 4) hg2 (show w.heap.size ≤ g1 by omega) (.int .i64 ei) (.int .u64 ew) (.int .i64 ev) (.int .u64 er)
  simp only at own3
  go_upto_region 3 with fail
  clear b0 b1 b2 b3 bz e0 e1 e2 e3 ez c0 c1' c2 c3 f0 f1 f2 f3 own2 hd2 hb2 he2 hr2 hg2
  generalize (((W2.setCell ⟨g1, i * 4, none⟩ (.int .i64 ei)).setCell ⟨g1, i * 4 + 1, none⟩ (.int .u64 ew)).setCell ⟨g1, i * 4 + 2, none⟩ (.int .i64 ev)).setCell ⟨g1, i * 4 + 3, none⟩ (.int .u64 er) = V at *
  obtain ⟨b0, b1, b2, b3, bz⟩ := Mem.four hb3
  have hd3 := (dlq_own own3).2.2
  have RC := Lib.hid (RA.out V g1 c1 hd3.lst)
  simp only [UL2, hlen] at RC
  have hr3' : V.heap[w.heap.size + 2]? = some (.cells #[.slice none 0 0, .int .i64 0, .int .i64 0, .bool false] 28 (0, 0)) := hr3
  have FD : Hid (∀ w6, Below V.heap.size V w6 → (w6.cell? ⟨w.heap.size + 2, 0, none⟩ = some (.slice none 0 0) ∧ w6.cell? ⟨w.heap.size + 2, 1, none⟩ = some (.int .i64 0) ∧ w6.cell? ⟨w.heap.size + 2, 2, none⟩ = some (.int .i64 0) ∧ w6.cell? ⟨w.heap.size + 2, 3, none⟩ = some (.bool false) ∧ ∀ j, w6.frozen? ⟨w.heap.size + 2, j, none⟩ = false) ∧
      DocIs (fun v => v) d' a w (.returned (.agg #[.slice (some ⟨g1, 0, none⟩) l.length c1, .int .i64 d'.cur, .int .i64 d'.min, .bool d'.flag])) ((((w6.setCell ⟨w.heap.size + 2, 0, none⟩ (.slice (some ⟨g1, 0, none⟩) l.length c1)).setCell ⟨w.heap.size + 2, 1, none⟩ (.int .i64 d'.cur)).setCell ⟨w.heap.size + 2, 2, none⟩ (.int .i64 d'.min)).setCell ⟨w.heap.size + 2, 3, none⟩ (.bool d'.flag))) := fun w6 hg6 => by
    refine ⟨Mem.four (Mem.box_fresh hr3' hg6), ?_⟩
    have hd5 : Dlq (some ⟨g1, 0, none⟩) c1 d'.l V := by rw [UL]; exact hd3
    have hg := below_set4 (hg3.trans (hg6.mono hg3.size)) (show w.heap.size ≤ w.heap.size + 2 by omega) (.slice (some ⟨g1, 0, none⟩) l.length c1) (.int .i64 d'.cur) (.int .i64 d'.min) (.bool d'.flag)
    have hd7 := dlq_set4' (hd5.fresh hg6) (show g1 ≠ w.heap.size + 2 by omega) (.slice (some ⟨g1, 0, none⟩) l.length c1) (.int .i64 d'.cur) (.int .i64 d'.min) (.bool d'.flag)
    exact ⟨some ⟨g1, 0, none⟩, c1, by unfold refQ; rw [UL2], hd7, .inr ⟨g1, rfl, by omega⟩, hg⟩
  clear RA own3 hb3 hr3 hr3' hg3 hd3
  go_wp2_with fail
  go_at_call 29; refine RC.out.mono ?_; rintro e w6 ⟨rfl, hg6⟩; obtain ⟨⟨y0, y1, y2, y3, yz⟩, hD6⟩ := FD.out _ hg6
  go_wp2_with fail
  refine bodyPost_ret (v := .agg #[.slice (some ⟨g1, 0, none⟩) l.length c1, .int .i64 d'.cur, .int .i64 d'.min, .bool d'.flag]) (by simp [results, Try.results35, go_sem, y0, y1, y2, y3]) rfl ?_
  exact hD6
end Go.Proofs.Ytdigakgfehaabaa.Queue

/- What Weigh of the document's queue does. Conditions: as each fact states them. -/
namespace Go.Proofs.Ytdigakgfehaabaa.Queue
open Go.ChangeShapes Go.WideShapes Go.ChangeAt Go.RowKit Tree
set_option linter.unusedVariables false
set_option linter.unusedSimpArgs false
set_option maxRecDepth 100000

/-- Where the queue's box and the answer's stand. -/
structure BoxB (w : World) (d : Dq) (a : Option Addr) (c : Nat) (W : World) : Prop where
  q : W.heap[w.heap.size]? = some (refQO d a c)
  r : W.heap[w.heap.size + 1]? = some refZ
  g : Below w.heap.size w W
theorem boxB (w : World) (d : Dq) (a : Option Addr) (c : Nat) : BoxB w d a c ((w.alloc (refQO d a c)).alloc refZ) := by
  refine ⟨Mem.box_new (heap_alloc_new w _), ?_, ((Below.refl w.heap.size w).alloc (Nat.le_refl _) _).alloc (by simp) _⟩
  simpa using heap_alloc_new (w.alloc (refQO d a c)) refZ
theorem BoxB.fresh {w W W' : World} {d : Dq} {a : Option Addr} {c : Nat} (h : BoxB w d a c W) (hg : Below W.heap.size W W') : BoxB w d a c W' :=
  ⟨Mem.box_fresh h.q hg, Mem.box_fresh h.r hg, h.g.trans (hg.mono h.g.size)⟩
theorem BoxB.cells {w W : World} {d : Dq} {a : Option Addr} {c : Nat} (h : BoxB w d a c W) :
    (W.cell? ⟨w.heap.size, 0, none⟩ = some (.slice a d.l.length c) ∧ W.cell? ⟨w.heap.size, 1, none⟩ = some (.int .i64 d.cur) ∧ W.cell? ⟨w.heap.size, 2, none⟩ = some (.int .i64 d.min) ∧ W.cell? ⟨w.heap.size, 3, none⟩ = some (.bool d.flag) ∧ ∀ j, W.frozen? ⟨w.heap.size, j, none⟩ = false) ∧
    (W.cell? ⟨w.heap.size + 1, 0, none⟩ = some (.slice none 0 0) ∧ W.cell? ⟨w.heap.size + 1, 1, none⟩ = some (.int .i64 0) ∧ W.cell? ⟨w.heap.size + 1, 2, none⟩ = some (.int .i64 0) ∧ W.cell? ⟨w.heap.size + 1, 3, none⟩ = some (.bool false) ∧ ∀ j, W.frozen? ⟨w.heap.size + 1, j, none⟩ = false) := by
  have h1 : W.heap[w.heap.size]? = some (.cells #[.slice a d.l.length c, .int .i64 d.cur, .int .i64 d.min, .bool d.flag] 28 (0, 0)) := h.q
  have h2 : W.heap[w.heap.size + 1]? = some (.cells #[.slice none 0 0, .int .i64 0, .int .i64 0, .bool false] 28 (0, 0)) := h.r
  exact ⟨Mem.four h1, Mem.four h2⟩
/-- The answer stored: the queue's list is the old one, or in new memory. -/
theorem stored {mk : Value → Value} {w W : World} {d' : Dq} {a a' : Option Addr} {c' : Nat} (hD : Dlq a' c' d'.l W) (hne : a' = a ∨ ∃ g, a' = some ⟨g, 0, none⟩ ∧ w.heap.size + 1 < g) (ha : ∀ g, a = some ⟨g, 0, none⟩ → g < w.heap.size) (hb : Below w.heap.size w W) :
    DocIs mk d' a w (.returned (mk (refQ d' a' c'))) ((((W.setCell ⟨w.heap.size + 1, 0, none⟩ (.slice a' d'.l.length c')).setCell ⟨w.heap.size + 1, 1, none⟩ (.int .i64 d'.cur)).setCell ⟨w.heap.size + 1, 2, none⟩ (.int .i64 d'.min)).setCell ⟨w.heap.size + 1, 3, none⟩ (.bool d'.flag)) := by
  refine ⟨a', c', rfl, hD.set4 ?_ _ _ _ _, ?_, below_set4 hb (by omega) _ _ _ _⟩
  · intro g e
    rcases hne with h | ⟨g', h, hg⟩
    · have := ha g (h ▸ e); omega
    · rw [h] at e; cases e; omega
  · rcases hne with h | ⟨g', h, hg⟩
    · exact .inl h
    · exact .inr ⟨g', h, by omega⟩
theorem Dlq.old {a : Option Addr} {c : Nat} {l : List Ent} {w : World} (h : Dlq a c l w) : ∀ g, a = some ⟨g, 0, none⟩ → g < w.heap.size := fun g e => by
  obtain ⟨g', h1, h2⟩ := h.base _ e
  cases h1; exact h2
theorem Dlq.some {a : Option Addr} {c : Nat} {l : List Ent} {w : World} (h : Dlq a c l w) {i : Nat} (hi : i < l.length) : ∃ g, a = some ⟨g, 0, none⟩ := by
  cases ha : a with
  | none => have := (h.none_ ha).1; rw [this] at hi; simp at hi
  | some ad => obtain ⟨g, e1, e2⟩ := h.base ad ha; exact ⟨g, by rw [e1]⟩

set_option maxHeartbeats 2000000 in
theorem refWeigh_bad (w : World) (d : Dq) (a : Option Addr) (c : Nat) (id x k : Int) (hl : d.l.length ≤ 1000) (h : Dlq a c d.l w) (hx : 0 ≤ x) (hk : (if named d.l id then Vrun.cerr x 0 0 else 12) = k) (hk0 : k ≠ 0) :
    Calls Try.prog 12 #[refQ d a c, .int .i64 id, .int .u64 x] w (DocIs (fun v => .tuple #[v, .int .i64 k]) d a w) := by
  have PB := boxB w d a c
  have END : Hid (∀ W, BoxB w d a c W → DocIs (fun v => .tuple #[v, .int .i64 k]) d a w (.returned (.tuple #[refQ d a c, .int .i64 k])) ((((W.setCell ⟨w.heap.size + 1, 0, none⟩ (.slice a d.l.length c)).setCell ⟨w.heap.size + 1, 1, none⟩ (.int .i64 d.cur)).setCell ⟨w.heap.size + 1, 2, none⟩ (.int .i64 d.min)).setCell ⟨w.heap.size + 1, 3, none⟩ (.bool d.flag))) := fun W hB => stored (mk := fun v => .tuple #[v, .int .i64 k]) (h.fresh hB.g) (.inl rfl) h.old hB.g
  have F := Lib.hid (fun W (hB : BoxB w d a c W) => refFinds W d a c id hl (h.lst.fresh hB.g))
  have BX := Lib.hid (fun W (hB : BoxB w d a c W) => hB.cells)
  unfold refQ refQO refZ at *
  obtain ⟨l, cur, mn, fl⟩ := d
  simp only at *
  cases hp : placeOf l id with
  | none =>
    have hn := placeOf_none.1 hp
    obtain rfl : k = 12 := by rw [hn] at hk; simpa using hk.symm
    rw [hp] at F
    simp only [placeI] at F
    clear hk h
    go_enter Try.func12, Try.ntmps12
    go_upto_region 1 with fail
    generalize (w.alloc _).alloc _ = W at *
    obtain ⟨⟨b0, b1, b2, b3, bz⟩, ⟨y0, y1, y2, y3, yz⟩⟩ := BX.out W PB
    go_wp2_with (go_at_call 28; refine (F.out _ PB).mono ?_; rintro e w2 ⟨rfl, hg2⟩; have PB2 := PB.fresh hg2; clear b0 b1 b2 b3 bz y0 y1 y2 y3 yz; obtain ⟨⟨b0, b1, b2, b3, bz⟩, ⟨y0, y1, y2, y3, yz⟩⟩ := BX.out _ PB2)
    refine bodyPost_ret (v := .tuple #[.agg #[.slice a l.length c, .int .i64 cur, .int .i64 mn, .bool fl], .int .i64 12]) (by simp [results, Try.results12, go_sem, y0, y1, y2, y3]) rfl ?_
    exact END.out _ PB2
  | some i =>
    have hn := (placeOf_some hp).2.2.1
    rw [if_pos hn] at hk
    have hbad : x < 2 ∨ 262144 < x := by
      by_cases hb : x < 2 ∨ 262144 < x
      · exact hb
      · unfold Vrun.cerr at hk
        rw [if_neg hb, if_neg (by omega), if_neg (by omega)] at hk
        exact absurd hk.symm hk0
    obtain rfl : k = 4 := by unfold Vrun.cerr at hk; rw [if_pos hbad] at hk; exact hk.symm
    rw [hp] at F
    simp only [placeI] at F
    have MY := Lib.hid (fun w => Vrun.may_no x w hbad)
    have i0 : (0 : Int) ≤ (i : Int) := by omega
    clear hk h
    go_enter Try.func12, Try.ntmps12
    go_upto_region 1 with fail
    generalize (w.alloc _).alloc _ = W at *
    obtain ⟨⟨b0, b1, b2, b3, bz⟩, ⟨y0, y1, y2, y3, yz⟩⟩ := BX.out W PB
    go_wp2_with (first
      | (go_at_call 27; refine (MY.out _).mono ?_; rintro e w1 ⟨rfl, rfl⟩)
      | (go_at_call 28; refine (F.out _ PB).mono ?_; rintro e w2 ⟨rfl, hg2⟩; have PB2 := PB.fresh hg2; clear b0 b1 b2 b3 bz y0 y1 y2 y3 yz; obtain ⟨⟨b0, b1, b2, b3, bz⟩, ⟨y0, y1, y2, y3, yz⟩⟩ := BX.out _ PB2))
    refine bodyPost_ret (v := .tuple #[.agg #[.slice a l.length c, .int .i64 cur, .int .i64 mn, .bool fl], .int .i64 4]) (by simp [results, Try.results12, go_sem, y0, y1, y2, y3]) rfl ?_
    exact END.out _ PB2

set_option maxHeartbeats 4000000 in
theorem refWeigh_good (w : World) (d : Dq) (a : Option Addr) (c : Nat) (id x : Int) (i : Nat) (hl : d.l.length ≤ 1000) (h : Dlq a c d.l w) (hx1 : 2 ≤ x) (hx2 : x ≤ 262144) (hp : placeOf d.l id = some i) (hw : 1 ≤ (ent d.l i).wt ∧ (ent d.l i).wt ≤ 262144) (hr : 0 ≤ (ent d.l i).rm ∧ (ent d.l i).rm ≤ 262144) :
    Calls Try.prog 12 #[refQ d a c, .int .i64 id, .int .u64 x] w (DocIs (fun v => .tuple #[v, .int .i64 0]) (up { d with l := d.l.set i (weighed (ent d.l i) x) }) a w) := by
  have PB := boxB w d a c
  obtain ⟨p1, p2, p3, p4⟩ := placeOf_some hp
  have F := Lib.hid (fun W (hB : BoxB w d a c W) => refFinds W d a c id hl (h.lst.fresh hB.g))
  rw [hp] at F
  simp only [placeI] at F
  have BX := Lib.hid (fun W (hB : BoxB w d a c W) => hB.cells)
  have HL := Lib.hid (fun W (hB : Below w.heap.size w W) => h.fresh hB)
  have MY := Lib.hid (fun w => Vrun.may_yes x w hx1 hx2)
  have WI := Lib.hid (fun V (hB : Below w.heap.size w V) => refWith V d a c i (weighed (ent d.l i) x) hl (h.fresh hB) p1)
  have MD := Lib.hid (fun w => Wide.refMulDiv (ent d.l i).rm x (ent d.l i).wt w (by unfold Wide.U64; omega) (by unfold Wide.U64; omega) (by unfold Wide.U64; omega))
  have hold := h.old
  obtain ⟨g, rfl⟩ := h.some p1
  obtain ⟨d', hd'⟩ : ∃ d', up { d with l := d.l.set i (weighed (ent d.l i) x) } = d' := ⟨_, rfl⟩
  rw [hd'] at WI ⊢
  have hcap := h.cap
  unfold weighed at WI
  unfold refQ refQO refZ Ent.val at *
  obtain ⟨l, cur, mn, fl⟩ := d
  simp only at *
  have xe := Lib.hid (fun W (hB : Below w.heap.size w W) => (HL.out W hB).lst i _ (ent_at p1))
  generalize ent l i = e at *
  obtain ⟨ei, ew, ev, er⟩ := e
  simp only at *
  have q1 : (i : Int) < l.length := by omega
  have q3 : (0 : Int) ≤ (i : Int) := by omega
  have q4 : (l.length : Int) ≤ 1000 := by omega
  clear hd' hp p4 h p3 p2
  go_enter Try.func12, Try.ntmps12
  go_upto_region 1 with fail
  generalize (w.alloc _).alloc _ = W at *
  obtain ⟨⟨b0, b1, b2, b3, bz⟩, ⟨y0, y1, y2, y3, yz⟩⟩ := BX.out W PB
  go_upto_region 6 with (first
    | (go_at_call 27; refine (MY.out _).mono ?_; rintro e w1 ⟨rfl, rfl⟩)
    | (go_at_call 28; refine (F.out _ PB).mono ?_; rintro e w2 ⟨rfl, hg2⟩; have PB2 := PB.fresh hg2; clear b0 b1 b2 b3 bz y0 y1 y2 y3 yz; obtain ⟨⟨b0, b1, b2, b3, bz⟩, ⟨y0, y1, y2, y3, yz⟩⟩ := BX.out _ PB2))
  obtain ⟨g', eg, hgl, x0, x1, x2, x3⟩ := xe.out _ PB2.g
  cases eg
  go_upto_region 7 with fail
  have he2 := heap_alloc_new w2 (.cells #[.int .i64 ei, .int .u64 ew, .int .i64 ev, .int .u64 er] 32)
  have PB3 := PB2.fresh ((Below.refl w2.heap.size w2).alloc (Nat.le_refl _) (.cells #[.int .i64 ei, .int .u64 ew, .int .i64 ev, .int .u64 er] 32))
  have hXw : w.heap.size + 1 < w2.heap.size := lt_of PB2.r
  clear b0 b1 b2 b3 bz y0 y1 y2 y3 yz x0 x1 x2 x3 hgl PB PB2 hg2 F MY xe
  generalize w2.alloc (.cells #[.int .i64 ei, .int .u64 ew, .int .i64 ev, .int .u64 er] 32) = W2 at *
  generalize w2.heap.size = X at *
  obtain ⟨e0, e1, e2, e3, ez⟩ := Mem.four he2
  go_upto_region 8 with (go_at_call 34; refine (MD.out _).mono ?_; rintro e w3 ⟨rfl, hg3⟩; have PB4 := PB3.fresh hg3; have he3 := Mem.box_fresh he2 hg3)
  clear e0 e1 e2 e3 ez MD
  generalize Wide.quo er x ew = nr at *
  obtain ⟨e0, e1, e2, e3, ez⟩ := Mem.four he3
  have he4 := Mem.set_block he3 3 (.int .u64 nr)
  simp only [List.setIfInBounds_toArray, List.set_cons_succ, List.set_cons_zero] at he4
  have he5 := Mem.set_block he4 1 (.int .u64 x)
  simp only [List.setIfInBounds_toArray, List.set_cons_succ, List.set_cons_zero] at he5
  have hq5 := Mem.box_kept (Mem.box_kept PB4.q (Mem.one_grown w3 X 3 (.int .u64 nr)) (by simp; omega)) (Mem.one_grown _ X 1 (.int .u64 x)) (by simp; omega)
  have hr5 := Mem.box_kept (Mem.box_kept PB4.r (Mem.one_grown w3 X 3 (.int .u64 nr)) (by simp; omega)) (Mem.one_grown _ X 1 (.int .u64 x)) (by simp; omega)
  have hg5 := (PB4.g.setCell (p := ⟨X, 3, none⟩) (show w.heap.size ≤ X by omega) (.int .u64 nr)).setCell (p := ⟨X, 1, none⟩) (show w.heap.size ≤ X by omega) (.int .u64 x)
  go_upto_region 10 with fail
  clear e0 e1 e2 e3 ez he2 he3 he4 PB3 PB4 hg3
  generalize (w3.setCell ⟨X, 3, none⟩ (.int .u64 nr)).setCell ⟨X, 1, none⟩ (.int .u64 x) = V at *
  obtain ⟨e0, e1, e2, e3, ez⟩ := Mem.four he5
  obtain ⟨⟨b0, b1, b2, b3, bz⟩, _⟩ := BX.out V ⟨hq5, hr5, hg5⟩
  have hVs : w.heap.size + 1 < V.heap.size := lt_of hr5
  have WC := Lib.hid (WI.out V hg5)
  have FD : Hid (∀ a' c' w6, Dlq a' c' d'.l w6 → (a' = some ⟨g, 0, none⟩ ∨ ∃ g', a' = some ⟨g', 0, none⟩ ∧ V.heap.size ≤ g') → Below V.heap.size V w6 → (w6.cell? ⟨w.heap.size + 1, 0, none⟩ = some (.slice none 0 0) ∧ w6.cell? ⟨w.heap.size + 1, 1, none⟩ = some (.int .i64 0) ∧ w6.cell? ⟨w.heap.size + 1, 2, none⟩ = some (.int .i64 0) ∧ w6.cell? ⟨w.heap.size + 1, 3, none⟩ = some (.bool false) ∧ ∀ j, w6.frozen? ⟨w.heap.size + 1, j, none⟩ = false) ∧ DocIs (fun v => .tuple #[v, .int .i64 0]) d' (some ⟨g, 0, none⟩) w (.returned (.tuple #[refQ d' a' c', .int .i64 0])) ((((w6.setCell ⟨w.heap.size + 1, 0, none⟩ (.slice a' d'.l.length c')).setCell ⟨w.heap.size + 1, 1, none⟩ (.int .i64 d'.cur)).setCell ⟨w.heap.size + 1, 2, none⟩ (.int .i64 d'.min)).setCell ⟨w.heap.size + 1, 3, none⟩ (.bool d'.flag))) := fun a' c' w6 hD ho hg6 => by
    have hr6 : w6.heap[w.heap.size + 1]? = some (.cells #[.slice none 0 0, .int .i64 0, .int .i64 0, .bool false] 28 (0, 0)) := Mem.box_fresh hr5 hg6
    refine ⟨Mem.four hr6, stored (mk := fun v => .tuple #[v, .int .i64 0]) hD (ho.imp (fun h => h) fun ⟨g', h1, h2⟩ => ⟨g', h1, by omega⟩) hold (hg5.trans (hg6.mono hg5.size))⟩
  unfold DocIs refQ at WC
  unfold refQ at FD
  clear WI BX HL he5 hq5 hr5 hg5
  go_wp2_with (go_at_call 35; refine WC.out.mono ?_; rintro e w6 ⟨a6, c6, rfl, hD6, ho6, hg6⟩; obtain ⟨⟨y0, y1, y2, y3, yz⟩, hE6⟩ := FD.out _ c6 _ hD6 ho6 hg6)
  refine bodyPost_ret (v := .tuple #[.agg #[.slice a6 d'.l.length c6, .int .i64 d'.cur, .int .i64 d'.min, .bool d'.flag], .int .i64 0]) (by simp [results, Try.results12, go_sem, y0, y1, y2, y3]) rfl ?_
  exact hE6
end Go.Proofs.Ytdigakgfehaabaa.Queue

/- What Charge of the document's queue does. Conditions: as each fact states them. -/
namespace Go.Proofs.Ytdigakgfehaabaa.Queue
open Go.ChangeShapes Go.WideShapes Go.ChangeAt Go.RowKit Tree
set_option linter.unusedVariables false
set_option linter.unusedSimpArgs false
set_option maxRecDepth 100000

set_option maxHeartbeats 2000000 in
theorem refCharge_no (w : World) (d : Dq) (a : Option Addr) (c : Nat) (ns : Int) (hl : d.l.length ≤ 1000) (h : Dlq a c d.l w) (hn : named d.l d.cur = false) :
    Calls Try.prog 14 #[refQ d a c, .int .u64 ns] w (DocIs (fun v => .tuple #[v, .int .i64 7]) d a w) := by
  have PB := boxB w d a c
  have END : Hid (∀ W, BoxB w d a c W → DocIs (fun v => .tuple #[v, .int .i64 7]) d a w (.returned (.tuple #[refQ d a c, .int .i64 7])) ((((W.setCell ⟨w.heap.size + 1, 0, none⟩ (.slice a d.l.length c)).setCell ⟨w.heap.size + 1, 1, none⟩ (.int .i64 d.cur)).setCell ⟨w.heap.size + 1, 2, none⟩ (.int .i64 d.min)).setCell ⟨w.heap.size + 1, 3, none⟩ (.bool d.flag))) := fun W hB => stored (mk := fun v => .tuple #[v, .int .i64 7]) (h.fresh hB.g) (.inl rfl) h.old hB.g
  have F := Lib.hid (fun W (hB : BoxB w d a c W) => refFinds W d a c d.cur hl (h.lst.fresh hB.g))
  rw [placeOf_none.2 hn] at F
  simp only [placeI] at F
  have BX := Lib.hid (fun W (hB : BoxB w d a c W) => hB.cells)
  unfold refQ refQO refZ at *
  obtain ⟨l, cur, mn, fl⟩ := d
  simp only at *
  clear h hn
  go_enter Try.func14, Try.ntmps14
  go_upto_region 1 with fail
  generalize (w.alloc _).alloc _ = W at *
  obtain ⟨⟨b0, b1, b2, b3, bz⟩, ⟨y0, y1, y2, y3, yz⟩⟩ := BX.out W PB
  go_wp2_with (go_at_call 28; refine (F.out _ PB).mono ?_; rintro e w2 ⟨rfl, hg2⟩; have PB2 := PB.fresh hg2; clear b0 b1 b2 b3 bz y0 y1 y2 y3 yz; obtain ⟨⟨b0, b1, b2, b3, bz⟩, ⟨y0, y1, y2, y3, yz⟩⟩ := BX.out _ PB2)
  refine bodyPost_ret (v := .tuple #[.agg #[.slice a l.length c, .int .i64 cur, .int .i64 mn, .bool fl], .int .i64 7]) (by simp [results, Try.results14, go_sem, y0, y1, y2, y3]) rfl ?_
  exact END.out _ PB2

set_option maxHeartbeats 8000000 in
theorem refCharge_is (w : World) (d : Dq) (a : Option Addr) (c : Nat) (ns : Int) (i : Nat) (hl : d.l.length ≤ 1000) (h : Dlq a c d.l w) (hp : placeOf d.l d.cur = some i) (hns : 0 ≤ ns) (hw : 2 ≤ (ent d.l i).wt ∧ (ent d.l i).wt ≤ 262144) (hr : 0 ≤ (ent d.l i).rm ∧ (ent d.l i).rm < (ent d.l i).wt) (hv : I64 (ent d.l i).v) (hcv : I64 (Vrun.cval (ent d.l i).wt (ent d.l i).rm ns)) :
    Calls Try.prog 14 #[refQ d a c, .int .u64 ns] w (DocIs (fun v => .tuple #[v, .int .i64 (Vrun.cerr (ent d.l i).wt (ent d.l i).rm ns)]) (if Vrun.cerr (ent d.l i).wt (ent d.l i).rm ns = 0 then up { d with l := d.l.set i (served (ent d.l i) ns), flag := d.flag || over (ent d.l i) ns } else d) a w) := by
  have PB := boxB w d a c
  obtain ⟨p1, p2, p3, p4⟩ := placeOf_some hp
  have F := Lib.hid (fun W (hB : BoxB w d a c W) => refFinds W d a c d.cur hl (h.lst.fresh hB.g))
  rw [hp] at F
  simp only [placeI] at F
  have BX := Lib.hid (fun W (hB : BoxB w d a c W) => hB.cells)
  have HL := Lib.hid (fun W (hB : Below w.heap.size w W) => h.fresh hB)
  have WI := Lib.hid (fun V (hB : Below w.heap.size w V) => refWith V { d with flag := d.flag || over (ent d.l i) ns } a c i (served (ent d.l i) ns) hl (h.fresh hB) p1)
  have CH := Lib.hid (fun w => Vrun.refCharge (ent d.l i).wt (ent d.l i).rm ns w (by omega) (by omega) hns)
  have AD := Lib.hid (fun w => Fix.refAdd (ent d.l i).v (Vrun.cval (ent d.l i).wt (ent d.l i).rm ns) w hv hcv)
  have SA := Lib.hid (fun w => Fix.refSat (ent d.l i).v (Vrun.cval (ent d.l i).wt (ent d.l i).rm ns) w hv hcv)
  have hold := h.old
  obtain ⟨g, rfl⟩ := h.some p1
  have END : Hid (∀ W k, BoxB w d (some ⟨g, 0, none⟩) c W → DocIs (fun v => .tuple #[v, .int .i64 k]) d (some ⟨g, 0, none⟩) w (.returned (.tuple #[refQ d (some ⟨g, 0, none⟩) c, .int .i64 k])) ((((W.setCell ⟨w.heap.size + 1, 0, none⟩ (.slice (some ⟨g, 0, none⟩) d.l.length c)).setCell ⟨w.heap.size + 1, 1, none⟩ (.int .i64 d.cur)).setCell ⟨w.heap.size + 1, 2, none⟩ (.int .i64 d.min)).setCell ⟨w.heap.size + 1, 3, none⟩ (.bool d.flag))) := fun W k hB => stored (mk := fun v => .tuple #[v, .int .i64 k]) (h.fresh hB.g) (.inl rfl) h.old hB.g
  have hcap := h.cap
  unfold served over at WI
  unfold served over
  unfold refQ refQO refZ Ent.val at *
  obtain ⟨l, cur, mn, fl⟩ := d
  simp only at *
  have xe := Lib.hid (fun W (hB : Below w.heap.size w W) => (HL.out W hB).lst i _ (ent_at p1))
  generalize ent l i = e at *
  obtain ⟨ei, ew, ev, er⟩ := e
  simp only at *
  generalize Vrun.cval ew er ns = cv at *
  generalize Vrun.crem ew er ns = cr at *
  generalize Fix.ends (ev + cv) = nv at *
  generalize Fix.only (ev + cv) = ov at *
  generalize Fix.fits (ev + cv) = ft at *
  have q1 : (i : Int) < l.length := by omega
  have q3 : (0 : Int) ≤ (i : Int) := by omega
  have q4 : (l.length : Int) ≤ 1000 := by omega
  clear hp p4 h p3 p2 hv hcv hw hr
  by_cases hz : Vrun.cerr ew er ns = 0
  · rw [if_pos hz]
    rw [hz] at CH ⊢
    clear hz END
    obtain ⟨d', hd'⟩ : ∃ d', up { l := l.set i { id := ei, wt := ew, v := nv, rm := cr }, cur := cur, min := mn, flag := fl || !ft : Dq } = d' := ⟨_, rfl⟩
    rw [hd'] at WI ⊢
    clear hd'
    go_enter Try.func14, Try.ntmps14
    go_upto_region 1 with fail
    generalize (w.alloc _).alloc _ = W at *
    obtain ⟨⟨b0, b1, b2, b3, bz⟩, ⟨y0, y1, y2, y3, yz⟩⟩ := BX.out W PB
    go_upto_region 4 with (go_at_call 28; refine (F.out _ PB).mono ?_; rintro e w2 ⟨rfl, hg2⟩; have PB2 := PB.fresh hg2; clear b0 b1 b2 b3 bz y0 y1 y2 y3 yz; obtain ⟨⟨b0, b1, b2, b3, bz⟩, ⟨y0, y1, y2, y3, yz⟩⟩ := BX.out _ PB2)
    obtain ⟨g', eg, hgl, x0, x1, x2, x3⟩ := xe.out _ PB2.g
    cases eg
    go_upto_region 5 with fail
    have he2 := heap_alloc_new w2 (.cells #[.int .i64 ei, .int .u64 ew, .int .i64 ev, .int .u64 er] 32)
    have PB3 := PB2.fresh ((Below.refl w2.heap.size w2).alloc (Nat.le_refl _) (.cells #[.int .i64 ei, .int .u64 ew, .int .i64 ev, .int .u64 er] 32))
    have hXw : w.heap.size + 1 < w2.heap.size := lt_of PB2.r
    clear b0 b1 b2 b3 bz y0 y1 y2 y3 yz x0 x1 x2 x3 hgl PB PB2 hg2 F xe
    generalize w2.alloc (.cells #[.int .i64 ei, .int .u64 ew, .int .i64 ev, .int .u64 er] 32) = W2 at *
    generalize w2.heap.size = X at *
    obtain ⟨e0, e1, e2, e3, ez⟩ := Mem.four he2
    go_upto_region 9 with (first
      | (go_at_call 39; refine (CH.out _).mono ?_; rintro e w3 ⟨rfl, hg3⟩; have PB4 := PB3.fresh hg3; have he3 := Mem.box_fresh he2 hg3; clear e0 e1 e2 e3 ez; obtain ⟨e0, e1, e2, e3, ez⟩ := Mem.four he3)
      | (go_at_call 40; refine (AD.out _).mono ?_; rintro e w4 ⟨rfl, rfl⟩))
    have he4 := Mem.set_block he3 2 (.int .i64 nv)
    simp only [List.setIfInBounds_toArray, List.set_cons_succ, List.set_cons_zero] at he4
    have he5 := Mem.set_block he4 3 (.int .u64 cr)
    simp only [List.setIfInBounds_toArray, List.set_cons_succ, List.set_cons_zero] at he5
    have hq5 := Mem.box_kept (Mem.box_kept PB4.q (Mem.one_grown w3 X 2 (.int .i64 nv)) (by simp; omega)) (Mem.one_grown _ X 3 (.int .u64 cr)) (by simp; omega)
    have hr5 := Mem.box_kept (Mem.box_kept PB4.r (Mem.one_grown w3 X 2 (.int .i64 nv)) (by simp; omega)) (Mem.one_grown _ X 3 (.int .u64 cr)) (by simp; omega)
    have hg5 := (PB4.g.setCell (p := ⟨X, 2, none⟩) (show w.heap.size ≤ X by omega) (.int .i64 nv)).setCell (p := ⟨X, 3, none⟩) (show w.heap.size ≤ X by omega) (.int .u64 cr)
    go_upto_region 11 with (go_at_call 41; refine (SA.out _).mono ?_; rintro e w4 ⟨rfl, rfl⟩)
    clear e0 e1 e2 e3 ez he2 he3 he4 PB3 PB4 hg3 CH AD SA BX HL
    generalize (w3.setCell ⟨X, 2, none⟩ (.int .i64 nv)).setCell ⟨X, 3, none⟩ (.int .u64 cr) = W5 at *
    obtain ⟨c0, c1, c2, c3, cz⟩ := Mem.four (show W5.heap[w.heap.size]? = some (.cells #[.slice (some ⟨g, 0, none⟩) l.length c, .int .i64 cur, .int .i64 mn, .bool fl] 28 (0, 0)) from hq5)
    have hVs : w.heap.size + 1 < W5.heap.size := lt_of hr5
    have FIN : Hid (∀ f, f = (fl || !ft) → Below w.heap.size w (W5.setCell ⟨w.heap.size, 3, none⟩ (.bool f)) ∧
        (W5.setCell ⟨w.heap.size, 3, none⟩ (.bool f)).heap[w.heap.size]? = some (.cells #[.slice (some ⟨g, 0, none⟩) l.length c, .int .i64 cur, .int .i64 mn, .bool f] 28 (0, 0)) ∧
        (W5.setCell ⟨w.heap.size, 3, none⟩ (.bool f)).heap[w.heap.size + 1]? = some (.cells #[.slice none 0 0, .int .i64 0, .int .i64 0, .bool false] 28 (0, 0)) ∧
        (W5.setCell ⟨w.heap.size, 3, none⟩ (.bool f)).heap[X]? = some (.cells #[.int .i64 ei, .int .u64 ew, .int .i64 nv, .int .u64 cr] 32 (0, 0)) ∧
        Hid (Calls Try.prog 35 #[.agg #[.slice (some ⟨g, 0, none⟩) l.length c, .int .i64 cur, .int .i64 mn, .bool f], .int .i64 (i : Int), .agg #[.int .i64 ei, .int .u64 ew, .int .i64 nv, .int .u64 cr]] (W5.setCell ⟨w.heap.size, 3, none⟩ (.bool f)) (DocIs (fun v => v) d' (some ⟨g, 0, none⟩) (W5.setCell ⟨w.heap.size, 3, none⟩ (.bool f)))) ∧
        w.heap.size + 1 < (W5.setCell ⟨w.heap.size, 3, none⟩ (.bool f)).heap.size) := fun f hf => by
      subst hf
      have g5 := hg5.setCell (p := ⟨w.heap.size, 3, none⟩) (Nat.le_refl _) (.bool (fl || !ft))
      have b5 := Mem.set_block hq5 3 (.bool (fl || !ft))
      simp only [List.setIfInBounds_toArray, List.set_cons_succ, List.set_cons_zero] at b5
      exact ⟨g5, b5, Mem.box_kept hr5 (Mem.one_grown W5 w.heap.size 3 _) (by simp), Mem.box_kept he5 (Mem.one_grown W5 w.heap.size 3 _) (by simp; omega), WI.out _ g5, by simpa [World.setCell] using hVs⟩
    clear WI he5 hq5 hr5 hg5 hVs
    cases fl
    · go_upto_region 12 with fail
      obtain ⟨hg6, hb6, hr6, he6, WC, hVs⟩ := FIN.out (!ft) (by simp)
      clear c0 c1 c2 c3 cz FIN
      generalize W5.setCell ⟨w.heap.size, 3, none⟩ (.bool (!ft)) = V at *
      obtain ⟨b0, b1, b2, b3, bz⟩ := Mem.four hb6
      obtain ⟨e0, e1, e2, e3, ez⟩ := Mem.four he6
      have FD : Hid (∀ a' c' w6, Dlq a' c' d'.l w6 → (a' = some ⟨g, 0, none⟩ ∨ ∃ g', a' = some ⟨g', 0, none⟩ ∧ V.heap.size ≤ g') → Below V.heap.size V w6 → (w6.cell? ⟨w.heap.size + 1, 0, none⟩ = some (.slice none 0 0) ∧ w6.cell? ⟨w.heap.size + 1, 1, none⟩ = some (.int .i64 0) ∧ w6.cell? ⟨w.heap.size + 1, 2, none⟩ = some (.int .i64 0) ∧ w6.cell? ⟨w.heap.size + 1, 3, none⟩ = some (.bool false) ∧ ∀ j, w6.frozen? ⟨w.heap.size + 1, j, none⟩ = false) ∧ DocIs (fun v => .tuple #[v, .int .i64 0]) d' (some ⟨g, 0, none⟩) w (.returned (.tuple #[refQ d' a' c', .int .i64 0])) ((((w6.setCell ⟨w.heap.size + 1, 0, none⟩ (.slice a' d'.l.length c')).setCell ⟨w.heap.size + 1, 1, none⟩ (.int .i64 d'.cur)).setCell ⟨w.heap.size + 1, 2, none⟩ (.int .i64 d'.min)).setCell ⟨w.heap.size + 1, 3, none⟩ (.bool d'.flag))) := fun a' c' w6 hD ho hg7 => by
        refine ⟨Mem.four (Mem.box_fresh hr6 hg7), stored (mk := fun v => .tuple #[v, .int .i64 0]) hD (ho.imp (fun h => h) fun ⟨g', h1, h2⟩ => ⟨g', h1, by omega⟩) hold (hg6.trans (hg7.mono hg6.size))⟩
      unfold DocIs refQ at WC
      unfold refQ at FD
      clear he6 hb6 hr6 hg6
      go_wp2_with (go_at_call 35; refine WC.out.mono ?_; rintro e w6 ⟨a6, c6, rfl, hD6, ho6, hg6⟩; obtain ⟨⟨y0, y1, y2, y3, yz⟩, hE6⟩ := FD.out _ c6 _ hD6 ho6 hg6)
      refine bodyPost_ret (v := .tuple #[.agg #[.slice a6 d'.l.length c6, .int .i64 d'.cur, .int .i64 d'.min, .bool d'.flag], .int .i64 0]) (by simp [results, Try.results14, go_sem, y0, y1, y2, y3]) rfl ?_
      exact hE6
    · go_upto_region 12 with fail
      obtain ⟨hg6, hb6, hr6, he6, WC, hVs⟩ := FIN.out true (by simp)
      clear c0 c1 c2 c3 cz FIN
      generalize W5.setCell ⟨w.heap.size, 3, none⟩ (.bool true) = V at *
      obtain ⟨b0, b1, b2, b3, bz⟩ := Mem.four hb6
      obtain ⟨e0, e1, e2, e3, ez⟩ := Mem.four he6
      have FD : Hid (∀ a' c' w6, Dlq a' c' d'.l w6 → (a' = some ⟨g, 0, none⟩ ∨ ∃ g', a' = some ⟨g', 0, none⟩ ∧ V.heap.size ≤ g') → Below V.heap.size V w6 → (w6.cell? ⟨w.heap.size + 1, 0, none⟩ = some (.slice none 0 0) ∧ w6.cell? ⟨w.heap.size + 1, 1, none⟩ = some (.int .i64 0) ∧ w6.cell? ⟨w.heap.size + 1, 2, none⟩ = some (.int .i64 0) ∧ w6.cell? ⟨w.heap.size + 1, 3, none⟩ = some (.bool false) ∧ ∀ j, w6.frozen? ⟨w.heap.size + 1, j, none⟩ = false) ∧ DocIs (fun v => .tuple #[v, .int .i64 0]) d' (some ⟨g, 0, none⟩) w (.returned (.tuple #[refQ d' a' c', .int .i64 0])) ((((w6.setCell ⟨w.heap.size + 1, 0, none⟩ (.slice a' d'.l.length c')).setCell ⟨w.heap.size + 1, 1, none⟩ (.int .i64 d'.cur)).setCell ⟨w.heap.size + 1, 2, none⟩ (.int .i64 d'.min)).setCell ⟨w.heap.size + 1, 3, none⟩ (.bool d'.flag))) := fun a' c' w6 hD ho hg7 => by
        refine ⟨Mem.four (Mem.box_fresh hr6 hg7), stored (mk := fun v => .tuple #[v, .int .i64 0]) hD (ho.imp (fun h => h) fun ⟨g', h1, h2⟩ => ⟨g', h1, by omega⟩) hold (hg6.trans (hg7.mono hg6.size))⟩
      unfold DocIs refQ at WC
      unfold refQ at FD
      clear he6 hb6 hr6 hg6
      go_wp2_with (go_at_call 35; refine WC.out.mono ?_; rintro e w6 ⟨a6, c6, rfl, hD6, ho6, hg6⟩; obtain ⟨⟨y0, y1, y2, y3, yz⟩, hE6⟩ := FD.out _ c6 _ hD6 ho6 hg6)
      refine bodyPost_ret (v := .tuple #[.agg #[.slice a6 d'.l.length c6, .int .i64 d'.cur, .int .i64 d'.min, .bool d'.flag], .int .i64 0]) (by simp [results, Try.results14, go_sem, y0, y1, y2, y3]) rfl ?_
      exact hE6
  · rw [if_neg hz]
    have hz' : (Vrun.cerr ew er ns == 0) = false := by simpa using hz
    generalize Vrun.cerr ew er ns = ce at *
    go_enter Try.func14, Try.ntmps14
    go_upto_region 1 with fail
    generalize (w.alloc _).alloc _ = W at *
    obtain ⟨⟨b0, b1, b2, b3, bz⟩, ⟨y0, y1, y2, y3, yz⟩⟩ := BX.out W PB
    go_upto_region 4 with (go_at_call 28; refine (F.out _ PB).mono ?_; rintro e w2 ⟨rfl, hg2⟩; have PB2 := PB.fresh hg2; clear b0 b1 b2 b3 bz y0 y1 y2 y3 yz; obtain ⟨⟨b0, b1, b2, b3, bz⟩, ⟨y0, y1, y2, y3, yz⟩⟩ := BX.out _ PB2)
    obtain ⟨g', eg, hgl, x0, x1, x2, x3⟩ := xe.out _ PB2.g
    cases eg
    go_upto_region 5 with fail
    have he2 := heap_alloc_new w2 (.cells #[.int .i64 ei, .int .u64 ew, .int .i64 ev, .int .u64 er] 32)
    have PB3 := PB2.fresh ((Below.refl w2.heap.size w2).alloc (Nat.le_refl _) (.cells #[.int .i64 ei, .int .u64 ew, .int .i64 ev, .int .u64 er] 32))
    clear b0 b1 b2 b3 bz y0 y1 y2 y3 yz x0 x1 x2 x3 hgl PB PB2 hg2 F xe
    generalize w2.alloc (.cells #[.int .i64 ei, .int .u64 ew, .int .i64 ev, .int .u64 er] 32) = W2 at *
    generalize w2.heap.size = X at *
    obtain ⟨e0, e1, e2, e3, ez⟩ := Mem.four he2
    clear WI AD SA HL
    go_wp2_with (go_at_call 39; refine (CH.out _).mono ?_; rintro e w3 ⟨rfl, hg3⟩; have PB4 := PB3.fresh hg3; obtain ⟨⟨b0, b1, b2, b3, bz⟩, ⟨y0, y1, y2, y3, yz⟩⟩ := BX.out _ PB4)
    refine bodyPost_ret (v := .tuple #[.agg #[.slice (some ⟨g, 0, none⟩) l.length c, .int .i64 cur, .int .i64 mn, .bool fl], .int .i64 ce]) (by simp [results, Try.results14, go_sem, y0, y1, y2, y3]) rfl ?_
    exact END.out _ _ PB4
end Go.Proofs.Ytdigakgfehaabaa.Queue

/- What Pick of the document's queue does. Conditions: as each fact states them. -/
namespace Go.Proofs.Ytdigakgfehaabaa.Queue
open Go.ChangeShapes Go.WideShapes Go.ChangeAt Go.RowKit Tree
set_option linter.unusedVariables false
set_option linter.unusedSimpArgs false
set_option maxRecDepth 100000

theorem BoxB.drewN {w W : World} {d : Dq} {a : Option Addr} {c : Nat} (h : BoxB w d a c W) (n : Nat) : BoxB w d a c (W.drewN n) := h.fresh ⟨rfl, rfl, rfl, Nat.le_refl _, fun _ _ => rfl⟩
theorem BoxB.drew {w W : World} {d : Dq} {a : Option Addr} {c : Nat} (h : BoxB w d a c W) : BoxB w d a c W.drew := h.fresh (Below.refl _ W).drew
/-- The answer: a queue with another current one, and a number. -/
theorem DocIs.cur {w W : World} {d : Dq} {a : Option Addr} {c : Nat} {k : Int} (h : Dlq a c d.l w) (hB : BoxB w d a c W) (k' : Int) :
    DocIs (fun v => .tuple #[v, .int .i64 k]) { d with cur := k' } a w (.returned (.tuple #[.agg #[.slice a d.l.length c, .int .i64 k', .int .i64 d.min, .bool d.flag], .int .i64 k])) ((((W.setCell ⟨w.heap.size + 1, 0, none⟩ (.slice a d.l.length c)).setCell ⟨w.heap.size + 1, 1, none⟩ (.int .i64 k')).setCell ⟨w.heap.size + 1, 2, none⟩ (.int .i64 d.min)).setCell ⟨w.heap.size + 1, 3, none⟩ (.bool d.flag)) :=
  stored (d' := { d with cur := k' }) (mk := fun v => .tuple #[v, .int .i64 k]) (h.fresh hB.g) (.inl rfl) h.old hB.g

/-- The current one set. -/
theorem BoxB.setCur {w W : World} {d : Dq} {a : Option Addr} {c : Nat} (h : BoxB w d a c W) (k : Int) : BoxB w { d with cur := k } a c (W.setCell ⟨w.heap.size, 1, none⟩ (.int .i64 k)) := by
  have hq : W.heap[w.heap.size]? = some (.cells #[.slice a d.l.length c, .int .i64 d.cur, .int .i64 d.min, .bool d.flag] 28 (0, 0)) := h.q
  have h1 := Mem.set_block hq 1 (.int .i64 k)
  simp only [List.setIfInBounds_toArray, List.set_cons_succ, List.set_cons_zero] at h1
  exact ⟨h1, Mem.box_kept h.r (Mem.one_grown W w.heap.size 1 (.int .i64 k)) (by simp), h.g.setCell (p := ⟨w.heap.size, 1, none⟩) (Nat.le_refl _) _⟩
set_option maxHeartbeats 4000000 in
theorem refPick_alone (w : World) (d : Dq) (a : Option Addr) (c : Nat) (g : Int) (i : Nat) (hl : d.l.length ≤ 1000) (h : Dlq a c d.l w) (hp : placeOf d.l d.cur = some i) (hb : bestAt d.l d.cur d.l.length = none) :
    Calls Try.prog 16 #[refQ d a c, .int .i64 g] w (DocIs (fun v => .tuple #[v, .int .i64 d.cur]) { d with cur := d.cur } a w) := by
  have PB := boxB w d a c
  have F := Lib.hid (fun W (hB : BoxB w d a c W) => refFinds W d a c d.cur hl (h.lst.fresh hB.g))
  have FF := Lib.hid (fun W (hB : BoxB w d a c W) => refFirsts W d a c d.cur hl (h.lst.fresh hB.g))
  have BX := Lib.hid (fun W (hB : BoxB w d a c W) => hB.cells)
  have END := Lib.hid (fun W (hB : BoxB w d a c W) => DocIs.cur (k := d.cur) h hB d.cur)
  rw [hp] at F
  rw [hb] at FF
  simp only [placeI] at F FF
  unfold refQ refQO refZ at *
  obtain ⟨l, cur, mn, fl⟩ := d
  simp only at *
  clear hp hb h
  have i0 : (0 : Int) ≤ (i : Int) := by omega
  go_enter Try.func16, Try.ntmps16
  go_upto_region 1 with fail
  generalize (w.alloc _).alloc _ = W at *
  obtain ⟨⟨b0, b1, b2, b3, bz⟩, ⟨y0, y1, y2, y3, yz⟩⟩ := BX.out W PB
  go_upto_region 3 with (first
    | (go_at_call 28; refine (F.out _ PB).mono ?_; rintro e w2 ⟨rfl, hg2⟩; have PB2 := PB.fresh hg2; clear b0 b1 b2 b3 bz y0 y1 y2 y3 yz; obtain ⟨⟨b0, b1, b2, b3, bz⟩, ⟨y0, y1, y2, y3, yz⟩⟩ := BX.out _ PB2)
    | (go_at_call 44; refine (FF.out _ PB2).mono ?_; rintro e w3 ⟨rfl, hg3⟩; have PB3 := PB2.fresh hg3; clear b0 b1 b2 b3 bz y0 y1 y2 y3 yz; obtain ⟨⟨b0, b1, b2, b3, bz⟩, ⟨y0, y1, y2, y3, yz⟩⟩ := BX.out _ PB3))
  have gd : decide ((-1 : Int) < 0) = true := rfl
  go_quiet (fail)
  have PB4 := PB3.drewN nq
  clear b0 b1 b2 b3 bz y0 y1 y2 y3 yz
  generalize w3.drewN _ = V at *
  have PB5 := PB4.drew
  obtain ⟨⟨b0, b1, b2, b3, bz⟩, ⟨y0, y1, y2, y3, yz⟩⟩ := BX.out _ PB4
  obtain ⟨⟨b0', b1', b2', b3', bz'⟩, ⟨y0', y1', y2', y3', yz'⟩⟩ := BX.out _ PB5
  go_wp2_with fail
  go_region
  all_goals
    go_wp2_with fail
    refine bodyPost_ret (v := .tuple #[.agg #[.slice a l.length c, .int .i64 cur, .int .i64 mn, .bool fl], .int .i64 cur]) (by simp [results, Try.results16, go_sem, y0, y1, y2, y3]) rfl ?_
    exact END.out _ PB5

set_option maxHeartbeats 4000000 in
theorem refPick_near (w : World) (d : Dq) (a : Option Addr) (c : Nat) (g : Int) (i o : Nat) (hl : d.l.length ≤ 1000) (h : Dlq a c d.l w) (hp : placeOf d.l d.cur = some i) (hb : bestAt d.l d.cur d.l.length = some o) (hv : ∀ e ∈ d.l, I64 e.v) (hg : I64 g) (hr : isNear (ent d.l i).v (ent d.l o).v g = true) :
    Calls Try.prog 16 #[refQ d a c, .int .i64 g] w (DocIs (fun v => .tuple #[v, .int .i64 d.cur]) { d with cur := d.cur } a w) := by
  have PB := boxB w d a c
  have F := Lib.hid (fun W (hB : BoxB w d a c W) => refFinds W d a c d.cur hl (h.lst.fresh hB.g))
  have FF := Lib.hid (fun W (hB : BoxB w d a c W) => refFirsts W d a c d.cur hl (h.lst.fresh hB.g))
  have BX := Lib.hid (fun W (hB : BoxB w d a c W) => hB.cells)
  have END := Lib.hid (fun W (hB : BoxB w d a c W) => DocIs.cur (k := d.cur) h hB d.cur)
  rw [hp] at F
  rw [hb] at FF
  simp only [placeI] at F FF
  obtain ⟨i1, _, _, _⟩ := placeOf_some hp
  have o1 : o < d.l.length := by have := bestAt_spec d.l d.cur d.l.length; rw [hb] at this; exact this.1
  have i0 : (0 : Int) ≤ (i : Int) := by omega
  have i2 : (i : Int) < d.l.length := by omega
  have o0 : (0 : Int) ≤ (o : Int) := by omega
  have o2 : (o : Int) < d.l.length := by omega
  have q4 : (d.l.length : Int) ≤ 1000 := by omega
  have hcap := h.cap
  have N := Lib.hid (fun w => nears w (ent d.l i).v (ent d.l o).v g (hv _ (ent_mem o1)) hg)
  rw [hr] at N
  have XE : Hid (∀ W, BoxB w d a c W → ∃ q, a = some ⟨q, 0, none⟩ ∧ W.cell? ⟨q, i * 4 + 2, none⟩ = some (.int .i64 (ent d.l i).v) ∧ W.cell? ⟨q, o * 4 + 2, none⟩ = some (.int .i64 (ent d.l o).v)) := fun W hB => by
    have hL := (h.fresh hB.g).lst
    obtain ⟨q, e1, _, _, _, x2, _⟩ := hL i _ (ent_at i1)
    obtain ⟨q', e2, _, _, _, z2, _⟩ := hL o _ (ent_at o1)
    rw [e1] at e2
    cases e2
    exact ⟨q, e1, x2, z2⟩
  clear hr hv hg
  unfold refQ refQO refZ at *
  obtain ⟨l, cur, mn, fl⟩ := d
  simp only at *
  generalize (ent l i).v = x at *
  generalize (ent l o).v = z at *
  clear hp hb h
  go_enter Try.func16, Try.ntmps16
  go_upto_region 1 with fail
  generalize (w.alloc _).alloc _ = W at *
  obtain ⟨⟨b0, b1, b2, b3, bz⟩, ⟨y0, y1, y2, y3, yz⟩⟩ := BX.out W PB
  go_upto_region 3 with (first
    | (go_at_call 28; refine (F.out _ PB).mono ?_; rintro e w2 ⟨rfl, hg2⟩; have PB2 := PB.fresh hg2; clear b0 b1 b2 b3 bz y0 y1 y2 y3 yz; obtain ⟨⟨b0, b1, b2, b3, bz⟩, ⟨y0, y1, y2, y3, yz⟩⟩ := BX.out _ PB2)
    | (go_at_call 44; refine (FF.out _ PB2).mono ?_; rintro e w3 ⟨rfl, hg3⟩; have PB3 := PB2.fresh hg3; clear b0 b1 b2 b3 bz y0 y1 y2 y3 yz; obtain ⟨⟨b0, b1, b2, b3, bz⟩, ⟨y0, y1, y2, y3, yz⟩⟩ := BX.out _ PB3))
  obtain ⟨q, eq, x2, z2⟩ := XE.out _ PB3
  subst eq
  have CE : Hid (∀ w', Below w3.heap.size w3 w' → w'.cell? ⟨w.heap.size, 0, none⟩ = some (.slice (some ⟨q, 0, none⟩) l.length c) ∧ w'.cell? ⟨q, i * 4 + 2, none⟩ = some (.int .i64 x) ∧ w'.cell? ⟨q, o * 4 + 2, none⟩ = some (.int .i64 z)) := fun w' hg => by
    have PB' := PB3.fresh hg
    obtain ⟨q', eq', x2, z2⟩ := XE.out _ PB'
    cases eq'
    exact ⟨(BX.out _ PB').1.1, x2, z2⟩
  have hg0 := (Below.refl w3.heap.size w3).drew
  have in0 : decide ((o : Int) < 0) = false := by simp
  go_region_held3 (fun w' => w'.cell? ⟨w.heap.size, 0, none⟩ = some (.slice (some ⟨q, 0, none⟩) l.length c) ∧ w'.cell? ⟨q, i * 4 + 2, none⟩ = some (.int .i64 x) ∧ w'.cell? ⟨q, o * 4 + 2, none⟩ = some (.int .i64 z)) (first | exact ⟨b0, x2, z2⟩ | exact ce)
    (first | (go_at_call 45; refine (N.out _).mono ?_; rintro e w4 ⟨rfl, hg4⟩; have ce := CE.out _ (hg0.trans hg4)))
  have PB4 := PB3.fresh (hg0.trans hg4)
  clear b0 b1 b2 b3 bz y0 y1 y2 y3 yz x2 z2 CE N XE ce hg4 hg0
  generalize w4 = V at *
  have PB5 := PB4.drew
  obtain ⟨⟨b0, b1, b2, b3, bz⟩, ⟨y0, y1, y2, y3, yz⟩⟩ := BX.out _ PB4
  obtain ⟨⟨b0', b1', b2', b3', bz'⟩, ⟨y0', y1', y2', y3', yz'⟩⟩ := BX.out _ PB5
  go_wp2_with fail
  go_region
  all_goals
    go_wp2_with fail
    refine bodyPost_ret (v := .tuple #[.agg #[.slice (some ⟨q, 0, none⟩) l.length c, .int .i64 cur, .int .i64 mn, .bool fl], .int .i64 cur]) (by simp [results, Try.results16, go_sem, y0, y1, y2, y3]) rfl ?_
    exact END.out _ PB5

set_option maxHeartbeats 4000000 in
theorem refPick_far (w : World) (d : Dq) (a : Option Addr) (c : Nat) (g : Int) (i o f : Nat) (hl : d.l.length ≤ 1000) (h : Dlq a c d.l w) (hp : placeOf d.l d.cur = some i) (hb : bestAt d.l d.cur d.l.length = some o) (hf : bestAt d.l (-1) d.l.length = some f) (hv : ∀ e ∈ d.l, I64 e.v) (hg : I64 g) (hr : isNear (ent d.l i).v (ent d.l o).v g = false) :
    Calls Try.prog 16 #[refQ d a c, .int .i64 g] w (DocIs (fun v => .tuple #[v, .int .i64 (ent d.l f).id]) { d with cur := (ent d.l f).id } a w) := by
  have PB := boxB w d a c
  have F := Lib.hid (fun W (hB : BoxB w d a c W) => refFinds W d a c d.cur hl (h.lst.fresh hB.g))
  have FF := Lib.hid (fun W (hB : BoxB w d a c W) => refFirsts W d a c d.cur hl (h.lst.fresh hB.g))
  have BX := Lib.hid (fun W (hB : BoxB w d a c W) => hB.cells)
  have f1 : f < d.l.length := by have := bestAt_spec d.l (-1) d.l.length; rw [hf] at this; exact this.1
  have f0 : (0 : Int) ≤ (f : Int) := by omega
  have f2 : (f : Int) < d.l.length := by omega
  have XF : Hid (∀ W, BoxB w d a c W → ∃ q, a = some ⟨q, 0, none⟩ ∧ W.cell? ⟨q, f * 4, none⟩ = some (.int .i64 (ent d.l f).id)) := fun W hB => by
    obtain ⟨q, e1, _, x0, _, _, _⟩ := (h.fresh hB.g).lst f _ (ent_at f1)
    exact ⟨q, e1, x0⟩
  have F1 := Lib.hid (fun W (hB : BoxB w d a c W) => refFirsts W d a c (-1) hl (h.lst.fresh hB.g))
  rw [hf] at F1
  rw [hp] at F
  rw [hb] at FF
  simp only [placeI] at F FF F1
  obtain ⟨i1, _, _, _⟩ := placeOf_some hp
  have o1 : o < d.l.length := by have := bestAt_spec d.l d.cur d.l.length; rw [hb] at this; exact this.1
  have i0 : (0 : Int) ≤ (i : Int) := by omega
  have i2 : (i : Int) < d.l.length := by omega
  have o0 : (0 : Int) ≤ (o : Int) := by omega
  have o2 : (o : Int) < d.l.length := by omega
  have q4 : (d.l.length : Int) ≤ 1000 := by omega
  have hcap := h.cap
  have N := Lib.hid (fun w => nears w (ent d.l i).v (ent d.l o).v g (hv _ (ent_mem o1)) hg)
  rw [hr] at N
  have XE : Hid (∀ W, BoxB w d a c W → ∃ q, a = some ⟨q, 0, none⟩ ∧ W.cell? ⟨q, i * 4 + 2, none⟩ = some (.int .i64 (ent d.l i).v) ∧ W.cell? ⟨q, o * 4 + 2, none⟩ = some (.int .i64 (ent d.l o).v)) := fun W hB => by
    have hL := (h.fresh hB.g).lst
    obtain ⟨q, e1, _, _, _, x2, _⟩ := hL i _ (ent_at i1)
    obtain ⟨q', e2, _, _, _, z2, _⟩ := hL o _ (ent_at o1)
    rw [e1] at e2
    cases e2
    exact ⟨q, e1, x2, z2⟩
  generalize (ent d.l f).id = k at *
  have BY := Lib.hid (fun W (hB : BoxB w { d with cur := k } a c W) => hB.cells)
  have END := Lib.hid (fun W (hB : BoxB w { d with cur := k } a c W) => DocIs.cur (d := { d with cur := k }) (k := k) h hB k)
  clear hr hv hg hf
  unfold refQ refQO refZ at *
  obtain ⟨l, cur, mn, fl⟩ := d
  simp only at *
  generalize (ent l i).v = x at *
  generalize (ent l o).v = z at *
  clear hp hb h
  go_enter Try.func16, Try.ntmps16
  go_upto_region 1 with fail
  generalize (w.alloc _).alloc _ = W at *
  obtain ⟨⟨b0, b1, b2, b3, bz⟩, ⟨y0, y1, y2, y3, yz⟩⟩ := BX.out W PB
  go_upto_region 3 with (first
    | (go_at_call 28; refine (F.out _ PB).mono ?_; rintro e w2 ⟨rfl, hg2⟩; have PB2 := PB.fresh hg2; clear b0 b1 b2 b3 bz y0 y1 y2 y3 yz; obtain ⟨⟨b0, b1, b2, b3, bz⟩, ⟨y0, y1, y2, y3, yz⟩⟩ := BX.out _ PB2)
    | (go_at_call 44; refine (FF.out _ PB2).mono ?_; rintro e w3 ⟨rfl, hg3⟩; have PB3 := PB2.fresh hg3; clear b0 b1 b2 b3 bz y0 y1 y2 y3 yz; obtain ⟨⟨b0, b1, b2, b3, bz⟩, ⟨y0, y1, y2, y3, yz⟩⟩ := BX.out _ PB3))
  obtain ⟨q, eq, x2, z2⟩ := XE.out _ PB3
  subst eq
  have CE : Hid (∀ w', Below w3.heap.size w3 w' → w'.cell? ⟨w.heap.size, 0, none⟩ = some (.slice (some ⟨q, 0, none⟩) l.length c) ∧ w'.cell? ⟨q, i * 4 + 2, none⟩ = some (.int .i64 x) ∧ w'.cell? ⟨q, o * 4 + 2, none⟩ = some (.int .i64 z)) := fun w' hg => by
    have PB' := PB3.fresh hg
    obtain ⟨q', eq', x2, z2⟩ := XE.out _ PB'
    cases eq'
    exact ⟨(BX.out _ PB').1.1, x2, z2⟩
  have hg0 := (Below.refl w3.heap.size w3).drew
  have in0 : decide ((o : Int) < 0) = false := by simp
  go_region_held3 (fun w' => w'.cell? ⟨w.heap.size, 0, none⟩ = some (.slice (some ⟨q, 0, none⟩) l.length c) ∧ w'.cell? ⟨q, i * 4 + 2, none⟩ = some (.int .i64 x) ∧ w'.cell? ⟨q, o * 4 + 2, none⟩ = some (.int .i64 z)) (first | exact ⟨b0, x2, z2⟩ | exact ce)
    (first | (go_at_call 45; refine (N.out _).mono ?_; rintro e w4 ⟨rfl, hg4⟩; have ce := CE.out _ (hg0.trans hg4)))
  have PB4 := PB3.fresh (hg0.trans hg4)
  clear b0 b1 b2 b3 bz y0 y1 y2 y3 yz x2 z2 CE N XE ce hg4 hg0
  obtain ⟨⟨b0, b1, b2, b3, bz⟩, ⟨y0, y1, y2, y3, yz⟩⟩ := BX.out _ PB4
  go_upto_region 8 with (go_at_call 44; refine (F1.out _ PB4).mono ?_; rintro e w5 ⟨rfl, hg5⟩; have PB5 := PB4.fresh hg5; clear b0 b1 b2 b3 bz y0 y1 y2 y3 yz; obtain ⟨⟨b0, b1, b2, b3, bz⟩, ⟨y0, y1, y2, y3, yz⟩⟩ := BX.out _ PB5)
  obtain ⟨q', eq', u0⟩ := XF.out _ PB5
  cases eq'
  go_upto_region 9 with fail
  have PC := PB5.setCur k
  simp only at PC
  clear b0 b1 b2 b3 bz y0 y1 y2 y3 yz u0 PB5 PB4
  generalize w5.setCell ⟨w.heap.size, 1, none⟩ (.int .i64 k) = V at *
  have PB5 := PC.drew
  obtain ⟨⟨b0, b1, b2, b3, bz⟩, ⟨y0, y1, y2, y3, yz⟩⟩ := BY.out _ PC
  obtain ⟨⟨b0', b1', b2', b3', bz'⟩, ⟨y0', y1', y2', y3', yz'⟩⟩ := BY.out _ PB5
  go_wp2_with fail
  go_region
  all_goals
    go_wp2_with fail
    refine bodyPost_ret (v := .tuple #[.agg #[.slice (some ⟨q, 0, none⟩) l.length c, .int .i64 k, .int .i64 mn, .bool fl], .int .i64 k]) (by simp [results, Try.results16, go_sem, y0, y1, y2, y3]) rfl ?_
    exact END.out _ PB5

set_option maxHeartbeats 4000000 in
theorem refPick_new (w : World) (d : Dq) (a : Option Addr) (c : Nat) (g : Int) (f : Nat) (hl : d.l.length ≤ 1000) (h : Dlq a c d.l w) (hp : placeOf d.l d.cur = none) (hf : bestAt d.l (-1) d.l.length = some f) :
    Calls Try.prog 16 #[refQ d a c, .int .i64 g] w (DocIs (fun v => .tuple #[v, .int .i64 (ent d.l f).id]) { d with cur := (ent d.l f).id } a w) := by
  have PB := boxB w d a c
  have F := Lib.hid (fun W (hB : BoxB w d a c W) => refFinds W d a c d.cur hl (h.lst.fresh hB.g))
  have FF := Lib.hid (fun W (hB : BoxB w d a c W) => refFirsts W d a c d.cur hl (h.lst.fresh hB.g))
  have BX := Lib.hid (fun W (hB : BoxB w d a c W) => hB.cells)
  have f1 : f < d.l.length := by have := bestAt_spec d.l (-1) d.l.length; rw [hf] at this; exact this.1
  have f0 : (0 : Int) ≤ (f : Int) := by omega
  have f2 : (f : Int) < d.l.length := by omega
  have XF : Hid (∀ W, BoxB w d a c W → ∃ q, a = some ⟨q, 0, none⟩ ∧ W.cell? ⟨q, f * 4, none⟩ = some (.int .i64 (ent d.l f).id)) := fun W hB => by
    obtain ⟨q, e1, _, x0, _, _, _⟩ := (h.fresh hB.g).lst f _ (ent_at f1)
    exact ⟨q, e1, x0⟩
  have F1 := Lib.hid (fun W (hB : BoxB w d a c W) => refFirsts W d a c (-1) hl (h.lst.fresh hB.g))
  rw [hf] at F1
  rw [hp] at F
  simp only [placeI] at F F1
  generalize placeI (bestAt d.l d.cur d.l.length) = po at *
  have q4 : (d.l.length : Int) ≤ 1000 := by omega
  have hcap := h.cap
  generalize (ent d.l f).id = k at *
  have BY := Lib.hid (fun W (hB : BoxB w { d with cur := k } a c W) => hB.cells)
  have END := Lib.hid (fun W (hB : BoxB w { d with cur := k } a c W) => DocIs.cur (d := { d with cur := k }) (k := k) h hB k)
  clear hf
  unfold refQ refQO refZ at *
  obtain ⟨l, cur, mn, fl⟩ := d
  simp only at *
  clear hp h
  go_enter Try.func16, Try.ntmps16
  go_upto_region 1 with fail
  generalize (w.alloc _).alloc _ = W at *
  obtain ⟨⟨b0, b1, b2, b3, bz⟩, ⟨y0, y1, y2, y3, yz⟩⟩ := BX.out W PB
  go_upto_region 3 with (first
    | (go_at_call 28; refine (F.out _ PB).mono ?_; rintro e w2 ⟨rfl, hg2⟩; have PB2 := PB.fresh hg2; clear b0 b1 b2 b3 bz y0 y1 y2 y3 yz; obtain ⟨⟨b0, b1, b2, b3, bz⟩, ⟨y0, y1, y2, y3, yz⟩⟩ := BX.out _ PB2)
    | (go_at_call 44; refine (FF.out _ PB2).mono ?_; rintro e w3 ⟨rfl, hg3⟩; have PB3 := PB2.fresh hg3; clear b0 b1 b2 b3 bz y0 y1 y2 y3 yz; obtain ⟨⟨b0, b1, b2, b3, bz⟩, ⟨y0, y1, y2, y3, yz⟩⟩ := BX.out _ PB3))
  have gd : decide ((0 : Int) ≤ -1) = false := rfl
  go_quiet (fail)
  have PB4 := PB3.drewN nq
  clear b0 b1 b2 b3 bz y0 y1 y2 y3 yz
  generalize w3.drewN _ = V4 at *
  obtain ⟨⟨b0, b1, b2, b3, bz⟩, ⟨y0, y1, y2, y3, yz⟩⟩ := BX.out _ PB4
  go_upto_region 8 with (go_at_call 44; refine (F1.out _ PB4).mono ?_; rintro e w5 ⟨rfl, hg5⟩; have PB5 := PB4.fresh hg5; clear b0 b1 b2 b3 bz y0 y1 y2 y3 yz; obtain ⟨⟨b0, b1, b2, b3, bz⟩, ⟨y0, y1, y2, y3, yz⟩⟩ := BX.out _ PB5)
  obtain ⟨q', eq', u0⟩ := XF.out _ PB5
  cases eq'
  go_upto_region 9 with fail
  have PC := PB5.setCur k
  simp only at PC
  clear b0 b1 b2 b3 bz y0 y1 y2 y3 yz u0 PB5 PB4
  generalize w5.setCell ⟨w.heap.size, 1, none⟩ (.int .i64 k) = V at *
  have PB5 := PC.drew
  obtain ⟨⟨b0, b1, b2, b3, bz⟩, ⟨y0, y1, y2, y3, yz⟩⟩ := BY.out _ PC
  obtain ⟨⟨b0', b1', b2', b3', bz'⟩, ⟨y0', y1', y2', y3', yz'⟩⟩ := BY.out _ PB5
  go_wp2_with fail
  go_region
  all_goals
    go_wp2_with fail
    refine bodyPost_ret (v := .tuple #[.agg #[.slice (some ⟨q', 0, none⟩) l.length c, .int .i64 k, .int .i64 mn, .bool fl], .int .i64 k]) (by simp [results, Try.results16, go_sem, y0, y1, y2, y3]) rfl ?_
    exact END.out _ PB5

set_option maxHeartbeats 4000000 in
theorem refPick_none (w : World) (d : Dq) (a : Option Addr) (c : Nat) (g : Int) (hl : d.l.length ≤ 1000) (h : Dlq a c d.l w) (hp : placeOf d.l d.cur = none) (hf : bestAt d.l (-1) d.l.length = none) :
    Calls Try.prog 16 #[refQ d a c, .int .i64 g] w (DocIs (fun v => .tuple #[v, .int .i64 (-1)]) { d with cur := d.cur } a w) := by
  have PB := boxB w d a c
  have F := Lib.hid (fun W (hB : BoxB w d a c W) => refFinds W d a c d.cur hl (h.lst.fresh hB.g))
  have FF := Lib.hid (fun W (hB : BoxB w d a c W) => refFirsts W d a c d.cur hl (h.lst.fresh hB.g))
  have BX := Lib.hid (fun W (hB : BoxB w d a c W) => hB.cells)
  have F1 := Lib.hid (fun W (hB : BoxB w d a c W) => refFirsts W d a c (-1) hl (h.lst.fresh hB.g))
  rw [hf] at F1
  rw [hp] at F
  simp only [placeI] at F F1
  generalize placeI (bestAt d.l d.cur d.l.length) = po at *
  have END := Lib.hid (fun W (hB : BoxB w d a c W) => DocIs.cur (k := -1) h hB d.cur)
  clear hf
  unfold refQ refQO refZ at *
  obtain ⟨l, cur, mn, fl⟩ := d
  simp only at *
  clear hp h
  go_enter Try.func16, Try.ntmps16
  go_upto_region 1 with fail
  generalize (w.alloc _).alloc _ = W at *
  obtain ⟨⟨b0, b1, b2, b3, bz⟩, ⟨y0, y1, y2, y3, yz⟩⟩ := BX.out W PB
  go_upto_region 3 with (first
    | (go_at_call 28; refine (F.out _ PB).mono ?_; rintro e w2 ⟨rfl, hg2⟩; have PB2 := PB.fresh hg2; clear b0 b1 b2 b3 bz y0 y1 y2 y3 yz; obtain ⟨⟨b0, b1, b2, b3, bz⟩, ⟨y0, y1, y2, y3, yz⟩⟩ := BX.out _ PB2)
    | (go_at_call 44; refine (FF.out _ PB2).mono ?_; rintro e w3 ⟨rfl, hg3⟩; have PB3 := PB2.fresh hg3; clear b0 b1 b2 b3 bz y0 y1 y2 y3 yz; obtain ⟨⟨b0, b1, b2, b3, bz⟩, ⟨y0, y1, y2, y3, yz⟩⟩ := BX.out _ PB3))
  have gd : decide ((0 : Int) ≤ -1) = false := rfl
  go_quiet (fail)
  have PB4 := PB3.drewN nq
  clear b0 b1 b2 b3 bz y0 y1 y2 y3 yz
  generalize w3.drewN _ = V4 at *
  obtain ⟨⟨b0, b1, b2, b3, bz⟩, ⟨y0, y1, y2, y3, yz⟩⟩ := BX.out _ PB4
  go_wp2_with (go_at_call 44; refine (F1.out _ PB4).mono ?_; rintro e w5 ⟨rfl, hg5⟩; have PB5 := PB4.fresh hg5; clear b0 b1 b2 b3 bz y0 y1 y2 y3 yz; obtain ⟨⟨b0, b1, b2, b3, bz⟩, ⟨y0, y1, y2, y3, yz⟩⟩ := BX.out _ PB5)
  refine bodyPost_ret (v := .tuple #[.agg #[.slice a l.length c, .int .i64 cur, .int .i64 mn, .bool fl], .int .i64 (-1)]) (by simp [results, Try.results16, go_sem, y0, y1, y2, y3]) rfl ?_
  exact END.out _ PB5
end Go.Proofs.Ytdigakgfehaabaa.Queue

/- What Yield of the document's queue does. Conditions: as each fact states them. -/
namespace Go.Proofs.Ytdigakgfehaabaa.Queue
open Go.ChangeShapes Go.WideShapes Go.ChangeAt Go.RowKit Tree
set_option linter.unusedVariables false
set_option linter.unusedSimpArgs false
set_option maxRecDepth 100000

set_option maxHeartbeats 4000000 in
theorem refYield_goes (w : World) (d : Dq) (a : Option Addr) (c : Nat) (g : Int) (i o : Nat) (hl : d.l.length ≤ 1000) (h : Dlq a c d.l w) (hp : placeOf d.l d.cur = some i) (hb : bestAt d.l d.cur d.l.length = some o) (hv : ∀ e ∈ d.l, I64 e.v) (hg : I64 g) (hr : isNear (ent d.l o).v (ent d.l i).v g = true) :
    Calls Try.prog 18 #[refQ d a c, .int .i64 g] w (DocIs (fun v => .tuple #[v, .int .i64 (ent d.l o).id]) { d with cur := (ent d.l o).id } a w) := by
  have PB := boxB w d a c
  have F := Lib.hid (fun W (hB : BoxB w d a c W) => refFinds W d a c d.cur hl (h.lst.fresh hB.g))
  have FF := Lib.hid (fun W (hB : BoxB w d a c W) => refFirsts W d a c d.cur hl (h.lst.fresh hB.g))
  have BX := Lib.hid (fun W (hB : BoxB w d a c W) => hB.cells)
  rw [hp] at F
  rw [hb] at FF
  simp only [placeI] at F FF
  obtain ⟨i1, _, _, _⟩ := placeOf_some hp
  have o1 : o < d.l.length := by have := bestAt_spec d.l d.cur d.l.length; rw [hb] at this; exact this.1
  have i0 : (0 : Int) ≤ (i : Int) := by omega
  have i2 : (i : Int) < d.l.length := by omega
  have o0 : (0 : Int) ≤ (o : Int) := by omega
  have o2 : (o : Int) < d.l.length := by omega
  have q4 : (d.l.length : Int) ≤ 1000 := by omega
  have hcap := h.cap
  have N := Lib.hid (fun w => nears w (ent d.l o).v (ent d.l i).v g (hv _ (ent_mem i1)) hg)
  rw [hr] at N
  have XE : Hid (∀ W, BoxB w d a c W → ∃ q, a = some ⟨q, 0, none⟩ ∧ W.cell? ⟨q, i * 4 + 2, none⟩ = some (.int .i64 (ent d.l i).v) ∧ W.cell? ⟨q, o * 4 + 2, none⟩ = some (.int .i64 (ent d.l o).v)) := fun W hB => by
    have hL := (h.fresh hB.g).lst
    obtain ⟨q, e1, _, _, _, x2, _⟩ := hL i _ (ent_at i1)
    obtain ⟨q', e2, _, _, _, z2, _⟩ := hL o _ (ent_at o1)
    rw [e1] at e2
    cases e2
    exact ⟨q, e1, x2, z2⟩
  have XF : Hid (∀ W, BoxB w d a c W → ∃ q, a = some ⟨q, 0, none⟩ ∧ W.cell? ⟨q, o * 4, none⟩ = some (.int .i64 (ent d.l o).id)) := fun W hB => by
    obtain ⟨q, e1, _, x0, _, _, _⟩ := (h.fresh hB.g).lst o _ (ent_at o1)
    exact ⟨q, e1, x0⟩
  generalize (ent d.l o).id = k at *
  have BY := Lib.hid (fun W (hB : BoxB w { d with cur := k } a c W) => hB.cells)
  have END := Lib.hid (fun W (hB : BoxB w { d with cur := k } a c W) => DocIs.cur (d := { d with cur := k }) (k := k) h hB k)
  clear hr hv hg
  unfold refQ refQO refZ at *
  obtain ⟨l, cur, mn, fl⟩ := d
  simp only at *
  generalize (ent l i).v = x at *
  generalize (ent l o).v = z at *
  clear hp hb h
  go_enter Try.func18, Try.ntmps18
  go_upto_region 1 with fail
  generalize (w.alloc _).alloc _ = W at *
  obtain ⟨⟨b0, b1, b2, b3, bz⟩, ⟨y0, y1, y2, y3, yz⟩⟩ := BX.out W PB
  go_upto_region 3 with (first
    | (go_at_call 28; refine (F.out _ PB).mono ?_; rintro e w2 ⟨rfl, hg2⟩; have PB2 := PB.fresh hg2; clear b0 b1 b2 b3 bz y0 y1 y2 y3 yz; obtain ⟨⟨b0, b1, b2, b3, bz⟩, ⟨y0, y1, y2, y3, yz⟩⟩ := BX.out _ PB2)
    | (go_at_call 44; refine (FF.out _ PB2).mono ?_; rintro e w3 ⟨rfl, hg3⟩; have PB3 := PB2.fresh hg3; clear b0 b1 b2 b3 bz y0 y1 y2 y3 yz; obtain ⟨⟨b0, b1, b2, b3, bz⟩, ⟨y0, y1, y2, y3, yz⟩⟩ := BX.out _ PB3))
  obtain ⟨q, eq, x2, z2⟩ := XE.out _ PB3
  subst eq
  have CE : Hid (∀ w', Below w3.heap.size w3 w' → w'.cell? ⟨w.heap.size, 0, none⟩ = some (.slice (some ⟨q, 0, none⟩) l.length c) ∧ w'.cell? ⟨q, i * 4 + 2, none⟩ = some (.int .i64 x) ∧ w'.cell? ⟨q, o * 4 + 2, none⟩ = some (.int .i64 z)) := fun w' hg => by
    have PB' := PB3.fresh hg
    obtain ⟨q', eq', x2, z2⟩ := XE.out _ PB'
    cases eq'
    exact ⟨(BX.out _ PB').1.1, x2, z2⟩
  have hg0 := (Below.refl w3.heap.size w3).drew
  have in0 : (0 : Int) ≤ (o : Int) := o0
  go_region_held3 (fun w' => w'.cell? ⟨w.heap.size, 0, none⟩ = some (.slice (some ⟨q, 0, none⟩) l.length c) ∧ w'.cell? ⟨q, i * 4 + 2, none⟩ = some (.int .i64 x) ∧ w'.cell? ⟨q, o * 4 + 2, none⟩ = some (.int .i64 z)) (first | exact ⟨b0, x2, z2⟩ | exact ce)
    (first | (go_at_call 45; refine (N.out _).mono ?_; rintro e w4 ⟨rfl, hg4⟩; have ce := CE.out _ (hg0.trans hg4)))
  have PB4 := PB3.fresh (hg0.trans hg4)
  clear b0 b1 b2 b3 bz y0 y1 y2 y3 yz x2 z2 CE N XE ce hg4 hg0
  obtain ⟨⟨b0, b1, b2, b3, bz⟩, ⟨y0, y1, y2, y3, yz⟩⟩ := BX.out _ PB4
  obtain ⟨q', eq', u0⟩ := XF.out _ PB4
  cases eq'
  go_upto_region 5 with fail
  have PC := PB4.setCur k
  simp only at PC
  clear b0 b1 b2 b3 bz y0 y1 y2 y3 yz u0 PB4
  generalize w4.setCell ⟨w.heap.size, 1, none⟩ (.int .i64 k) = V at *
  have PB5 := PC.drew
  obtain ⟨⟨b0, b1, b2, b3, bz⟩, ⟨y0, y1, y2, y3, yz⟩⟩ := BY.out _ PC
  obtain ⟨⟨b0', b1', b2', b3', bz'⟩, ⟨y0', y1', y2', y3', yz'⟩⟩ := BY.out _ PB5
  go_wp2_with fail
  go_region
  all_goals
    go_wp2_with fail
    refine bodyPost_ret (v := .tuple #[.agg #[.slice (some ⟨q, 0, none⟩) l.length c, .int .i64 k, .int .i64 mn, .bool fl], .int .i64 k]) (by simp [results, Try.results18, go_sem, y0, y1, y2, y3]) rfl ?_
    exact END.out _ PB5

set_option maxHeartbeats 4000000 in
theorem refYield_none (w : World) (d d' : Dq) (a : Option Addr) (c : Nat) (g k : Int) (hl : d.l.length ≤ 1000) (h : Dlq a c d.l w) (hp : placeOf d.l d.cur = none)
    (P : ∀ W, Dlq a c d.l W → Calls Try.prog 16 #[refQ d a c, .int .i64 g] W (DocIs (fun v => .tuple #[v, .int .i64 k]) d' a W)) :
    Calls Try.prog 18 #[refQ d a c, .int .i64 g] w (DocIs (fun v => .tuple #[v, .int .i64 k]) d' a w) := by
  have PB := boxB w d a c
  have F := Lib.hid (fun W (hB : BoxB w d a c W) => refFinds W d a c d.cur hl (h.lst.fresh hB.g))
  have FF := Lib.hid (fun W (hB : BoxB w d a c W) => refFirsts W d a c d.cur hl (h.lst.fresh hB.g))
  have BX := Lib.hid (fun W (hB : BoxB w d a c W) => hB.cells)
  have HP := Lib.hid (fun W (hB : BoxB w d a c W) => P W (h.fresh hB.g))
  have hold := h.old
  rw [hp] at F
  simp only [placeI] at F
  generalize placeI (bestAt d.l d.cur d.l.length) = po at *
  unfold refQ refQO refZ at *
  obtain ⟨l, cur, mn, fl⟩ := d
  simp only at *
  clear hp h P
  go_enter Try.func18, Try.ntmps18
  go_upto_region 1 with fail
  generalize (w.alloc _).alloc _ = W at *
  obtain ⟨⟨b0, b1, b2, b3, bz⟩, ⟨y0, y1, y2, y3, yz⟩⟩ := BX.out W PB
  go_upto_region 3 with (first
    | (go_at_call 28; refine (F.out _ PB).mono ?_; rintro e w2 ⟨rfl, hg2⟩; have PB2 := PB.fresh hg2; clear b0 b1 b2 b3 bz y0 y1 y2 y3 yz; obtain ⟨⟨b0, b1, b2, b3, bz⟩, ⟨y0, y1, y2, y3, yz⟩⟩ := BX.out _ PB2)
    | (go_at_call 44; refine (FF.out _ PB2).mono ?_; rintro e w3 ⟨rfl, hg3⟩; have PB3 := PB2.fresh hg3; clear b0 b1 b2 b3 bz y0 y1 y2 y3 yz; obtain ⟨⟨b0, b1, b2, b3, bz⟩, ⟨y0, y1, y2, y3, yz⟩⟩ := BX.out _ PB3))
  have gd : decide ((0 : Int) ≤ -1) = false := rfl
  go_quiet (fail)
  have PB4 := PB3.drewN nq
  clear b0 b1 b2 b3 bz y0 y1 y2 y3 yz
  generalize w3.drewN _ = V4 at *
  obtain ⟨⟨b0, b1, b2, b3, bz⟩, ⟨y0, y1, y2, y3, yz⟩⟩ := BX.out _ PB4
  have FD : Hid (∀ a' c' w6, Dlq a' c' d'.l w6 → (a' = a ∨ ∃ g', a' = some ⟨g', 0, none⟩ ∧ V4.heap.size ≤ g') → Below V4.heap.size V4 w6 → (w6.cell? ⟨w.heap.size + 1, 0, none⟩ = some (.slice none 0 0) ∧ w6.cell? ⟨w.heap.size + 1, 1, none⟩ = some (.int .i64 0) ∧ w6.cell? ⟨w.heap.size + 1, 2, none⟩ = some (.int .i64 0) ∧ w6.cell? ⟨w.heap.size + 1, 3, none⟩ = some (.bool false) ∧ ∀ j, w6.frozen? ⟨w.heap.size + 1, j, none⟩ = false) ∧ DocIs (fun v => .tuple #[v, .int .i64 k]) d' a w (.returned (.tuple #[refQ d' a' c', .int .i64 k])) ((((w6.setCell ⟨w.heap.size + 1, 0, none⟩ (.slice a' d'.l.length c')).setCell ⟨w.heap.size + 1, 1, none⟩ (.int .i64 d'.cur)).setCell ⟨w.heap.size + 1, 2, none⟩ (.int .i64 d'.min)).setCell ⟨w.heap.size + 1, 3, none⟩ (.bool d'.flag))) := fun a' c' w6 hD ho hg6 => by
    have PB6 := PB4.fresh hg6
    have hs := lt_of PB4.r
    exact ⟨PB6.cells.2, stored (mk := fun v => .tuple #[v, .int .i64 k]) hD (ho.imp (fun h => h) fun ⟨g', h1, h2⟩ => ⟨g', h1, by omega⟩) hold PB6.g⟩
  have WC := Lib.hid (HP.out _ PB4)
  unfold DocIs at WC
  unfold refQ at WC FD
  clear HP F FF BX
  go_wp2_with (go_at_call 16; refine WC.out.mono ?_; rintro e w6 ⟨a6, c6, rfl, hD6, ho6, hg6⟩; obtain ⟨⟨y0, y1, y2, y3, yz⟩, hE6⟩ := FD.out _ c6 _ hD6 ho6 hg6)
  refine bodyPost_ret (v := .tuple #[.agg #[.slice a6 d'.l.length c6, .int .i64 d'.cur, .int .i64 d'.min, .bool d'.flag], .int .i64 k]) (by simp [results, Try.results18, go_sem, y0, y1, y2, y3]) rfl ?_
  exact hE6

set_option maxHeartbeats 4000000 in
theorem refYield_alone (w : World) (d d' : Dq) (a : Option Addr) (c : Nat) (g k : Int) (i : Nat) (hl : d.l.length ≤ 1000) (h : Dlq a c d.l w) (hp : placeOf d.l d.cur = some i) (hb : bestAt d.l d.cur d.l.length = none)
    (P : ∀ W, Dlq a c d.l W → Calls Try.prog 16 #[refQ d a c, .int .i64 g] W (DocIs (fun v => .tuple #[v, .int .i64 k]) d' a W)) :
    Calls Try.prog 18 #[refQ d a c, .int .i64 g] w (DocIs (fun v => .tuple #[v, .int .i64 k]) d' a w) := by
  have PB := boxB w d a c
  have F := Lib.hid (fun W (hB : BoxB w d a c W) => refFinds W d a c d.cur hl (h.lst.fresh hB.g))
  have FF := Lib.hid (fun W (hB : BoxB w d a c W) => refFirsts W d a c d.cur hl (h.lst.fresh hB.g))
  have BX := Lib.hid (fun W (hB : BoxB w d a c W) => hB.cells)
  have HP := Lib.hid (fun W (hB : BoxB w d a c W) => P W (h.fresh hB.g))
  have hold := h.old
  rw [hp] at F
  rw [hb] at FF
  simp only [placeI] at F FF
  have i0 : (0 : Int) ≤ (i : Int) := by omega
  unfold refQ refQO refZ at *
  obtain ⟨l, cur, mn, fl⟩ := d
  simp only at *
  clear hp h P hb
  go_enter Try.func18, Try.ntmps18
  go_upto_region 1 with fail
  generalize (w.alloc _).alloc _ = W at *
  obtain ⟨⟨b0, b1, b2, b3, bz⟩, ⟨y0, y1, y2, y3, yz⟩⟩ := BX.out W PB
  go_upto_region 3 with (first
    | (go_at_call 28; refine (F.out _ PB).mono ?_; rintro e w2 ⟨rfl, hg2⟩; have PB2 := PB.fresh hg2; clear b0 b1 b2 b3 bz y0 y1 y2 y3 yz; obtain ⟨⟨b0, b1, b2, b3, bz⟩, ⟨y0, y1, y2, y3, yz⟩⟩ := BX.out _ PB2)
    | (go_at_call 44; refine (FF.out _ PB2).mono ?_; rintro e w3 ⟨rfl, hg3⟩; have PB3 := PB2.fresh hg3; clear b0 b1 b2 b3 bz y0 y1 y2 y3 yz; obtain ⟨⟨b0, b1, b2, b3, bz⟩, ⟨y0, y1, y2, y3, yz⟩⟩ := BX.out _ PB3))
  have gd : decide ((0 : Int) ≤ -1) = false := rfl
  go_quiet (fail)
  have PB4 := PB3.drewN nq
  clear b0 b1 b2 b3 bz y0 y1 y2 y3 yz
  generalize w3.drewN _ = V4 at *
  obtain ⟨⟨b0, b1, b2, b3, bz⟩, ⟨y0, y1, y2, y3, yz⟩⟩ := BX.out _ PB4
  have FD : Hid (∀ a' c' w6, Dlq a' c' d'.l w6 → (a' = a ∨ ∃ g', a' = some ⟨g', 0, none⟩ ∧ V4.heap.size ≤ g') → Below V4.heap.size V4 w6 → (w6.cell? ⟨w.heap.size + 1, 0, none⟩ = some (.slice none 0 0) ∧ w6.cell? ⟨w.heap.size + 1, 1, none⟩ = some (.int .i64 0) ∧ w6.cell? ⟨w.heap.size + 1, 2, none⟩ = some (.int .i64 0) ∧ w6.cell? ⟨w.heap.size + 1, 3, none⟩ = some (.bool false) ∧ ∀ j, w6.frozen? ⟨w.heap.size + 1, j, none⟩ = false) ∧ DocIs (fun v => .tuple #[v, .int .i64 k]) d' a w (.returned (.tuple #[refQ d' a' c', .int .i64 k])) ((((w6.setCell ⟨w.heap.size + 1, 0, none⟩ (.slice a' d'.l.length c')).setCell ⟨w.heap.size + 1, 1, none⟩ (.int .i64 d'.cur)).setCell ⟨w.heap.size + 1, 2, none⟩ (.int .i64 d'.min)).setCell ⟨w.heap.size + 1, 3, none⟩ (.bool d'.flag))) := fun a' c' w6 hD ho hg6 => by
    have PB6 := PB4.fresh hg6
    have hs := lt_of PB4.r
    exact ⟨PB6.cells.2, stored (mk := fun v => .tuple #[v, .int .i64 k]) hD (ho.imp (fun h => h) fun ⟨g', h1, h2⟩ => ⟨g', h1, by omega⟩) hold PB6.g⟩
  have WC := Lib.hid (HP.out _ PB4)
  unfold DocIs at WC
  unfold refQ at WC FD
  clear HP F FF BX
  go_wp2_with (go_at_call 16; refine WC.out.mono ?_; rintro e w6 ⟨a6, c6, rfl, hD6, ho6, hg6⟩; obtain ⟨⟨y0, y1, y2, y3, yz⟩, hE6⟩ := FD.out _ c6 _ hD6 ho6 hg6)
  refine bodyPost_ret (v := .tuple #[.agg #[.slice a6 d'.l.length c6, .int .i64 d'.cur, .int .i64 d'.min, .bool d'.flag], .int .i64 k]) (by simp [results, Try.results18, go_sem, y0, y1, y2, y3]) rfl ?_
  exact hE6

set_option maxHeartbeats 4000000 in
theorem refYield_stay (w : World) (d d' : Dq) (a : Option Addr) (c : Nat) (g k : Int) (i o : Nat) (hl : d.l.length ≤ 1000) (h : Dlq a c d.l w) (hp : placeOf d.l d.cur = some i) (hb : bestAt d.l d.cur d.l.length = some o) (hv : ∀ e ∈ d.l, I64 e.v) (hg : I64 g) (hr : isNear (ent d.l o).v (ent d.l i).v g = false)
    (P : ∀ W, Dlq a c d.l W → Calls Try.prog 16 #[refQ d a c, .int .i64 g] W (DocIs (fun v => .tuple #[v, .int .i64 k]) d' a W)) :
    Calls Try.prog 18 #[refQ d a c, .int .i64 g] w (DocIs (fun v => .tuple #[v, .int .i64 k]) d' a w) := by
  have PB := boxB w d a c
  have F := Lib.hid (fun W (hB : BoxB w d a c W) => refFinds W d a c d.cur hl (h.lst.fresh hB.g))
  have FF := Lib.hid (fun W (hB : BoxB w d a c W) => refFirsts W d a c d.cur hl (h.lst.fresh hB.g))
  have BX := Lib.hid (fun W (hB : BoxB w d a c W) => hB.cells)
  have HP := Lib.hid (fun W (hB : BoxB w d a c W) => P W (h.fresh hB.g))
  rw [hp] at F
  rw [hb] at FF
  simp only [placeI] at F FF
  obtain ⟨i1, _, _, _⟩ := placeOf_some hp
  have o1 : o < d.l.length := by have := bestAt_spec d.l d.cur d.l.length; rw [hb] at this; exact this.1
  have i0 : (0 : Int) ≤ (i : Int) := by omega
  have i2 : (i : Int) < d.l.length := by omega
  have o0 : (0 : Int) ≤ (o : Int) := by omega
  have o2 : (o : Int) < d.l.length := by omega
  have q4 : (d.l.length : Int) ≤ 1000 := by omega
  have hcap := h.cap
  have N := Lib.hid (fun w => nears w (ent d.l o).v (ent d.l i).v g (hv _ (ent_mem i1)) hg)
  rw [hr] at N
  have XE : Hid (∀ W, BoxB w d a c W → ∃ q, a = some ⟨q, 0, none⟩ ∧ W.cell? ⟨q, i * 4 + 2, none⟩ = some (.int .i64 (ent d.l i).v) ∧ W.cell? ⟨q, o * 4 + 2, none⟩ = some (.int .i64 (ent d.l o).v)) := fun W hB => by
    have hL := (h.fresh hB.g).lst
    obtain ⟨q, e1, _, _, _, x2, _⟩ := hL i _ (ent_at i1)
    obtain ⟨q', e2, _, _, _, z2, _⟩ := hL o _ (ent_at o1)
    rw [e1] at e2
    cases e2
    exact ⟨q, e1, x2, z2⟩
  have hold := h.old
  clear hr hv hg
  unfold refQ refQO refZ at *
  obtain ⟨l, cur, mn, fl⟩ := d
  simp only at *
  generalize (ent l i).v = x at *
  generalize (ent l o).v = z at *
  clear hp hb h P
  go_enter Try.func18, Try.ntmps18
  go_upto_region 1 with fail
  generalize (w.alloc _).alloc _ = W at *
  obtain ⟨⟨b0, b1, b2, b3, bz⟩, ⟨y0, y1, y2, y3, yz⟩⟩ := BX.out W PB
  go_upto_region 3 with (first
    | (go_at_call 28; refine (F.out _ PB).mono ?_; rintro e w2 ⟨rfl, hg2⟩; have PB2 := PB.fresh hg2; clear b0 b1 b2 b3 bz y0 y1 y2 y3 yz; obtain ⟨⟨b0, b1, b2, b3, bz⟩, ⟨y0, y1, y2, y3, yz⟩⟩ := BX.out _ PB2)
    | (go_at_call 44; refine (FF.out _ PB2).mono ?_; rintro e w3 ⟨rfl, hg3⟩; have PB3 := PB2.fresh hg3; clear b0 b1 b2 b3 bz y0 y1 y2 y3 yz; obtain ⟨⟨b0, b1, b2, b3, bz⟩, ⟨y0, y1, y2, y3, yz⟩⟩ := BX.out _ PB3))
  obtain ⟨q, eq, x2, z2⟩ := XE.out _ PB3
  subst eq
  have CE : Hid (∀ w', Below w3.heap.size w3 w' → w'.cell? ⟨w.heap.size, 0, none⟩ = some (.slice (some ⟨q, 0, none⟩) l.length c) ∧ w'.cell? ⟨q, i * 4 + 2, none⟩ = some (.int .i64 x) ∧ w'.cell? ⟨q, o * 4 + 2, none⟩ = some (.int .i64 z)) := fun w' hg => by
    have PB' := PB3.fresh hg
    obtain ⟨q', eq', x2, z2⟩ := XE.out _ PB'
    cases eq'
    exact ⟨(BX.out _ PB').1.1, x2, z2⟩
  have hg0 := (Below.refl w3.heap.size w3).drew
  have in0 : (0 : Int) ≤ (o : Int) := o0
  go_region_held3 (fun w' => w'.cell? ⟨w.heap.size, 0, none⟩ = some (.slice (some ⟨q, 0, none⟩) l.length c) ∧ w'.cell? ⟨q, i * 4 + 2, none⟩ = some (.int .i64 x) ∧ w'.cell? ⟨q, o * 4 + 2, none⟩ = some (.int .i64 z)) (first | exact ⟨b0, x2, z2⟩ | exact ce)
    (first | (go_at_call 45; refine (N.out _).mono ?_; rintro e w4 ⟨rfl, hg4⟩; have ce := CE.out _ (hg0.trans hg4)))
  have PB4 := PB3.fresh (hg0.trans hg4)
  clear b0 b1 b2 b3 bz y0 y1 y2 y3 yz x2 z2 CE N XE ce hg4 hg0
  obtain ⟨⟨b0, b1, b2, b3, bz⟩, ⟨y0, y1, y2, y3, yz⟩⟩ := BX.out _ PB4
  have FD : Hid (∀ a' c' w6, Dlq a' c' d'.l w6 → (a' = (some ⟨q, 0, none⟩) ∨ ∃ g', a' = some ⟨g', 0, none⟩ ∧ w4.heap.size ≤ g') → Below w4.heap.size w4 w6 → (w6.cell? ⟨w.heap.size + 1, 0, none⟩ = some (.slice none 0 0) ∧ w6.cell? ⟨w.heap.size + 1, 1, none⟩ = some (.int .i64 0) ∧ w6.cell? ⟨w.heap.size + 1, 2, none⟩ = some (.int .i64 0) ∧ w6.cell? ⟨w.heap.size + 1, 3, none⟩ = some (.bool false) ∧ ∀ j, w6.frozen? ⟨w.heap.size + 1, j, none⟩ = false) ∧ DocIs (fun v => .tuple #[v, .int .i64 k]) d' (some ⟨q, 0, none⟩) w (.returned (.tuple #[refQ d' a' c', .int .i64 k])) ((((w6.setCell ⟨w.heap.size + 1, 0, none⟩ (.slice a' d'.l.length c')).setCell ⟨w.heap.size + 1, 1, none⟩ (.int .i64 d'.cur)).setCell ⟨w.heap.size + 1, 2, none⟩ (.int .i64 d'.min)).setCell ⟨w.heap.size + 1, 3, none⟩ (.bool d'.flag))) := fun a' c' w6 hD ho hg6 => by
    have PB6 := PB4.fresh hg6
    have hs := lt_of PB4.r
    exact ⟨PB6.cells.2, stored (mk := fun v => .tuple #[v, .int .i64 k]) hD (ho.imp (fun h => h) fun ⟨g', h1, h2⟩ => ⟨g', h1, by omega⟩) hold PB6.g⟩
  have WC := Lib.hid (HP.out _ PB4)
  unfold DocIs at WC
  unfold refQ at WC FD
  clear HP F FF BX
  go_wp2_with (go_at_call 16; refine WC.out.mono ?_; rintro e w6 ⟨a6, c6, rfl, hD6, ho6, hg6⟩; obtain ⟨⟨y0, y1, y2, y3, yz⟩, hE6⟩ := FD.out _ c6 _ hD6 ho6 hg6)
  refine bodyPost_ret (v := .tuple #[.agg #[.slice a6 d'.l.length c6, .int .i64 d'.cur, .int .i64 d'.min, .bool d'.flag], .int .i64 k]) (by simp [results, Try.results18, go_sem, y0, y1, y2, y3]) rfl ?_
  exact hE6
end Go.Proofs.Ytdigakgfehaabaa.Queue

/- What Ents of the document's queue does. Conditions: as each fact states them. -/
namespace Go.Proofs.Ytdigakgfehaabaa.Queue
open Go.ChangeShapes Go.WideShapes Go.ChangeAt Go.RowKit Tree
set_option linter.unusedVariables false
set_option linter.unusedSimpArgs false
set_option maxRecDepth 100000

/-- A list told. -/
def ToldD (es : List Ent) (w : World) (e : Ending) (w' : World) : Prop := ∃ ao cap, e = .returned (.slice ao es.length cap) ∧ Lst ao es w' ∧ Below w.heap.size w w'
theorem dlq_app {v : Option Addr} {c : Nat} {l : List Ent} {w w' : World} {o : Obj} {row : Option Nat} (h : Dlq v c l w) (hg : (w.alloc o).grownBy w' row) (hd : ∀ g, row = some g → v ≠ some ⟨g, 0, none⟩) : Dlq v c l w' := by
  have hb := (Below.refl w.heap.size w).alloc (Nat.le_refl _) o
  refine h.same (O := fun k => k < w.heap.size ∧ row ≠ some k) ⟨hg.os.trans hb.os, hg.tape.trans hb.tape, hg.output.trans hb.output, Nat.le_trans hb.size hg.size, fun k hk => (hg.block k (Nat.lt_of_lt_of_le hk.1 hb.size) (fun e => hk.2 e.symm)).trans (hb.block k hk.1)⟩ ?_
  intro g e
  obtain ⟨g', h1, h2⟩ := h.base _ e
  cases h1
  exact ⟨h2, fun e' => hd g e' e⟩
def EntsD (w : World) (es : List Ent) (cur mn : Int) (fl : Bool) (left : Nat) (vo : Value) (wr : World) : Prop :=
  ∃ (j : Nat) (lj : List Ent) (aj : Option Addr) (cj : Nat) (v0 : Value), v0 = vo ∧ j ≤ es.length ∧ left = es.length - j ∧ wr.ownsRow (w.heap.size + 2) 32 4 v0 j (cellsE (es.take j)) ∧ (∀ k, v0.ownBlock = some k → aj ≠ some ⟨k, 0, none⟩) ∧ Dlq aj cj lj wr ∧ lj.Perm (es.drop j) ∧ wr.heap[w.heap.size + 1]? = some (refQO ⟨lj, cur, mn, fl⟩ aj cj) ∧ w.heap.size + 2 ≤ wr.heap.size ∧ Below w.heap.size w wr
theorem ents_take {es : List Ent} {j : Nat} (h : j < es.length) : cellsE (es.take (j + 1)) = cellsE (es.take j) ++ [.int .i64 (ent es j).id, .int .u64 (ent es j).wt, .int .i64 (ent es j).v, .int .u64 (ent es j).rm] := by
  rw [List.take_add_one, ent_at h]
  simp [cellsE_append, cellsE]
theorem drop_ent {es : List Ent} {j : Nat} (h : j < es.length) : es.drop j = ent es j :: es.drop (j + 1) := by
  rw [List.drop_eq_getElem_cons h]
  congr 1
  unfold ent; rw [List.getElem?_eq_getElem h]; rfl
/-- Behind a round. -/
theorem entsD {w w4 w6 : World} {es lj : List Ent} {cur mn : Int} {fl : Bool} {j b g g6 c6 cj : Nat} {v' : Value} (hj : j < es.length) (hb : b < lj.length)
    (hown : w4.ownsRow (w.heap.size + 2) 32 4 v' (j + 1) (cellsE (es.take (j + 1)))) (hp : (lj.take b ++ lj.drop (b + 1)).Perm (es.drop (j + 1)))
    (hbox : w4.heap[w.heap.size + 1]? = some (refQO ⟨lj, cur, mn, fl⟩ (some ⟨g, 0, none⟩) cj)) (hs : w.heap.size + 2 ≤ w4.heap.size) (hB : Below w.heap.size w w4)
    (own6 : w6.ownsRow w4.heap.size 32 4 (.slice (some ⟨g6, 0, none⟩) (lj.length - 1) c6) (lj.length - 1) (cellsE (lj.take b ++ lj.drop (b + 1)))) (hb6 : Below w4.heap.size w4 w6) :
    EntsD w es cur mn fl (es.length - (j + 1)) v' (w6.setCell ⟨w.heap.size + 1, 0, none⟩ (.slice (some ⟨g6, 0, none⟩) (lj.length - 1) c6)) := by
  have hlen : (lj.take b ++ lj.drop (b + 1)).length = lj.length - 1 := by simp; omega
  have hg6 := (own6.lt g6 rfl).1
  have hbox6 : w6.heap[w.heap.size + 1]? = some (.cells #[.slice (some ⟨g, 0, none⟩) lj.length cj, .int .i64 cur, .int .i64 mn, .bool fl] 28 (0, 0)) := Mem.box_fresh hbox hb6
  have h7 := Mem.set_block hbox6 0 (.slice (some ⟨g6, 0, none⟩) (lj.length - 1) c6)
  simp only [List.setIfInBounds_toArray, List.set_cons_zero] at h7
  refine ⟨j + 1, _, some ⟨g6, 0, none⟩, c6, _, rfl, by omega, rfl, ?_, ?_, (dlq_own (row_set' own6 (b := w.heap.size + 1) (j := 0) (by omega) _)).2.2, hp, ?_, ?_, ?_⟩
  · refine (Mem.owns_fresh hown hb6).kept (Mem.one_grown w6 (w.heap.size + 1) 0 _) (.inr fun e => ?_)
    have := (hown.lt _ e).1
    omega
  · intro k hk e
    cases e
    have := (hown.lt _ hk).2
    omega
  · rw [h7]
    unfold refQO
    simp only [hlen]
  · have := hb6.size
    simp [World.setCell]; omega
  · exact (hB.trans (hb6.mono hB.size)).setCell (p := ⟨w.heap.size + 1, 0, none⟩) (by simp) _
set_option maxHeartbeats 8000000 in
theorem refEnts (w : World) (d : Dq) (a : Option Addr) (c : Nat) (es : List Ent) (hl : d.l.length ≤ 1000) (h : Dlq a c d.l w) (hp : d.l.Perm es) (hs : Sorted (es.map Ent.key)) (hi : ∀ x ∈ es, 0 ≤ x.id) :
    Calls Try.prog 51 #[refQ d a c] w (ToldD es w) := by
  obtain ⟨i0, hi0, hz0, hz1, hz2⟩ := Mem.info_parts infoE
  have hes : es.length ≤ 1000 := by rw [← hp.length_eq]; exact hl
  have hA := ((Below.refl w.heap.size w).alloc (Nat.le_refl _) (refQO d a c)).alloc (by simp) (refQO d a c)
  have hq4 : ((w.alloc (refQO d a c)).alloc (refQO d a c)).heap[w.heap.size + 1]? = some (refQO ⟨d.l, d.cur, d.min, d.flag⟩ a c) := by simpa using heap_alloc_new (w.alloc (refQO d a c)) (refQO d a c)
  have hsz : w.heap.size + 2 ≤ ((w.alloc (refQO d a c)).alloc (refQO d a c)).heap.size := by simp
  have hb := Mem.box_new (o' := refZ) (heap_alloc_new w (refQO d a c))
  have HA := Lib.hid (show EntsD w es d.cur d.min d.flag es.length (.slice none 0 0) _ from ⟨0, d.l, a, c, _, rfl, by omega, by omega, World.ownsRow_nil _ _ _ _, (fun k e => by cases e), h.fresh hA, hp, hq4, hsz, hA⟩)
  clear hA hq4 hsz h hp hl
  unfold refQ refQO refZ at *
  obtain ⟨l, cur, mn, fl⟩ := d
  simp only at *
  obtain ⟨b0, b1, b2, b3, bz⟩ := Mem.four hb
  have hy : ((w.alloc (.cells #[.slice a l.length c, .int .i64 cur, .int .i64 mn, .bool fl] 28 (0, 0))).alloc (.cells #[.slice none 0 0, .int .i64 0, .int .i64 0, .bool false] 28 (0, 0))).heap[w.heap.size + 1]? = some (.cells #[.slice none 0 0, .int .i64 0, .int .i64 0, .bool false] 28 (0, 0)) := by simpa using heap_alloc_new (w.alloc (.cells #[.slice a l.length c, .int .i64 cur, .int .i64 mn, .bool fl] 28 (0, 0))) (.cells #[.slice none 0 0, .int .i64 0, .int .i64 0, .bool false] 28 (0, 0))
  obtain ⟨y0, y1, y2, y3, yz⟩ := Mem.four hy
  obtain ⟨a0, a1, a2, a3, az⟩ := Mem.four (heap_alloc_new w (.cells #[.slice a l.length c, .int .i64 cur, .int .i64 mn, .bool fl] 28 (0, 0)))
  clear hb hy
  go_enter Try.func51, Try.ntmps51
  go_wp2_with fail
  clear b0 b1 b2 b3 bz y0 y1 y2 y3 yz a0 a1 a2 a3 az
  go_loopg [3] es.length (fun left vo wr => EntsD w es cur mn fl left vo wr)
  case atStart => exact HA.out
  case round =>
    obtain ⟨j, lj, aj, cj, vo, rfl, hj, rfl, hown, hdis, hD, hperm, hbox, hs2, hB⟩ := hrel
    by_cases hjl : j < es.length
    · rw [drop_ent hjl] at hperm
      have hs' : Sorted ((ent es j :: es.drop (j + 1)).map Ent.key) := by
        rw [← drop_ent hjl]
        exact hs.sublist ((List.drop_sublist j es).map _)
      obtain ⟨b, hb1, hb2, hb3, hpn⟩ := ents_step hperm hs' (fun x hx => hi x (by
        have := hperm.mem_iff.1 hx
        rw [← drop_ent hjl] at this
        exact List.mem_of_mem_drop this))
      have hlj : lj.length ≤ 1000 := by have := hperm.length_eq; simp at this; omega
      obtain ⟨g, rfl⟩ := hD.some hb2
      have FF := Lib.hid (refFirsts wr ⟨lj, cur, mn, fl⟩ (some ⟨g, 0, none⟩) cj (-1) hlj hD.lst)
      simp only [hb1, placeI] at FF
      have EN := Lib.hid hpn
      have HB2 : Hid (∀ w2, Below wr.heap.size wr w2 → w2.heap[w.heap.size + 1]? = some (refQO ⟨lj, cur, mn, fl⟩ (some ⟨g, 0, none⟩) cj) ∧ Dlq (some ⟨g, 0, none⟩) cj lj w2 ∧ w2.ownsRow (w.heap.size + 2) 32 4 vo j (cellsE (es.take j)) ∧ w.heap.size + 2 ≤ w2.heap.size ∧ Below w.heap.size w w2) := fun w2 hg => ⟨Mem.box_fresh hbox hg, hD.fresh hg, Mem.owns_fresh hown hg, Nat.le_trans hs2 hg.size, hB.trans (hg.mono hB.size)⟩
      have HDis := Lib.hid hdis
      have ET := Lib.hid (ents_take hjl)
      rw [← hb3] at ET
      have q0 : (0 : Int) < lj.length := by omega
      have q1 : (b : Int) < lj.length := by omega
      have q3 : (0 : Int) ≤ (b : Int) := by omega
      have q4 : (lj.length : Int) ≤ 1000 := by omega
      have q2 : (lj.length : Int) ≤ cj := by have := hD.cap; omega
      have hcap := hD.cap
      obtain ⟨y0, y1, y2, y3, yz⟩ := Mem.four (show wr.heap[w.heap.size + 1]? = some (.cells #[.slice (some ⟨g, 0, none⟩) lj.length cj, .int .i64 cur, .int .i64 mn, .bool fl] 28 (0, 0)) from hbox)
      clear hdis hperm hs' hb1 hb3 hpn hown hD hbox hs2 hB HA
      unfold refQ at FF
      simp only at FF
      go_upto_region 5 with (go_at_call 44; refine (FF.out).mono ?_; rintro e w2 ⟨rfl, hg2⟩)
      clear y0 y1 y2 y3 yz
      obtain ⟨hbox, hD, hown, hs2, hB⟩ := HB2.out w2 hg2
      obtain ⟨g', eg, hgl, x0, x1, x2, x3⟩ := hD.lst b _ (ent_at hb2)
      cases eg
      obtain ⟨y0, y1, y2, y3, yz⟩ := Mem.four (show w2.heap[w.heap.size + 1]? = some (.cells #[.slice (some ⟨g, 0, none⟩) lj.length cj, .int .i64 cur, .int .i64 mn, .bool fl] 28 (0, 0)) from hbox)
      have hb2' := hb2
      generalize ent lj b = e at *
      obtain ⟨ei, ew, ev, er⟩ := e
      simp only at *
      generalize cellsE (es.take j) = U at *
      generalize hT : cellsE (es.take (j + 1)) = T at *
      clear FF HB2 hg2
      go_upto_region 6 with (at_builtin; refine wpList_append_own _ rfl (.tmp 13) (.tmp 19) 26 rfl (w.heap.size + 2) 32 i0 _ 4 32 Try.underlying26 hi0 hz0 hz1 hz2 rfl (by decide) _ _ _ rfl (hown.alloc _) ⟨w2.heap.size, 0, none⟩ 1 1 [.int .i64 ei, .int .u64 ew, .int .i64 ev, .int .u64 er] rfl rfl (World.news_of_block (heap_alloc_new w2 _)) (by simp [Value.oneCell']) (by simp only [maxLen]; omega) (by omega) (by simp; omega) ?_; intro v' w4 hown4 hgrow4 _)
      rw [← ET.out] at hown4
      have hD4 := dlq_app hD hgrow4 HDis.out
      have hbox4 := Mem.box_kept (Mem.box_new hbox) hgrow4 (fun e => by have := (hown.lt _ e).1; omega)
      have hB4 := (hB.alloc (by omega) _).grown hgrow4 (by simp; omega) (fun j hj => by have := (hown.lt j hj).1; omega)
      have hs4 : w.heap.size + 2 ≤ w4.heap.size := Nat.le_trans hs2 (Nat.le_trans (by simp) hgrow4.size)
      have FIN : Hid (∀ w6 g6 c6, w6.ownsRow w4.heap.size 32 4 (.slice (some ⟨g6, 0, none⟩) (lj.length - 1) c6) (lj.length - 1) (cellsE (lj.take b ++ lj.drop (b + 1))) → Below w4.heap.size w4 w6 → EntsD w es cur mn fl (es.length - (j + 1)) v' (w6.setCell ⟨w.heap.size + 1, 0, none⟩ (.slice (some ⟨g6, 0, none⟩) (lj.length - 1) c6))) := fun w6 g6 c6 ho hb => by
        refine entsD hjl hb2' ?_ EN.out hbox4 hs4 hB4 ho hb
        rw [hT]; exact hown4
      obtain ⟨N, hN⟩ : ∃ N, w4.heap.size = N := ⟨_, rfl⟩
      rw [hN] at FIN
      have CF := Lib.hid (cutF (i := b) (x1 := .int .i64 cur) (x2 := .int .i64 mn) (x3 := .bool fl) (T := 28) hN rfl hb2 hD4 hbox4)
      clear y0 y1 y2 y3 yz x0 x1 x2 x3 hgl hown hown4 hD hD4 hbox hbox4 hB hB4 hgrow4 ET HDis EN hT
      have FJ : Hid (∀ wc, CutJ w4 N lj.length b (w.heap.size + 1) lj (.int .i64 0) wc → EntsD w es cur mn fl (es.length - (j + 1)) v' wc) := fun wc ⟨w6, g6, c6, own6, hb6, e⟩ => by rw [e]; exact FIN.out _ _ _ own6 hb6
      clear FIN
      obtain ⟨hdA, z1, y1, m1, s1, l0, l1, keep, k1, k2⟩ := CF.out
      have KP := Lib.hid keep
      clear keep CF
      have q8 : IntKind.i64.wrap ((b : Int) + 1) = (b : Int) + 1 := by rw [IntKind.wrap_i64]; omega
      have q6 : (b : Int) + 1 ≤ lj.length := by omega
      have HK : Hid (cj = b + 1 → lj.length = b + 1) := fun h => by omega
      have q12 : (0 : Int) ≤ (b : Int) + 1 := by omega
      by_cases hc : cj = b + 1
      · have hk := Lib.hid (show lj.length = b + 1 by omega)
        have k3 : cellsE (lj.drop (b + 1)) = [] := by rw [← hk.out, List.drop_length]; rfl
        subst hc
        replace HK := Lib.hid (HK.out rfl)
        have q7 : (b : Int) ≤ (b : Int) + 1 := by omega
        have q9 : b ≤ b + 1 := by omega
        go_region_law (first
          | (refine step_append_any _ (by rfl) _ _ _ (by rfl) N 32 i0 _ 4 32 Try.underlying26 hi0 hz0 hz1 hz2 rfl (by decide) _ _ _ [] (by rfl) m1 (some ⟨g, 0, none⟩) b _ (cellsE (lj.take b)) (by rfl) k1 (fun e => by cases e) s1 (cellsE_one _) (by simp only [maxLen]; omega) (by omega) y1 _ z1 ?_; intro g3 c3 w3 own3 hgrow3 _; simp only [Nat.zero_add, List.nil_append] at own3; have hb3 := hdA.grown hgrow3 (by omega) (by intro j hj; cases hj; exact Nat.le_refl _); obtain ⟨f0, f1, f2, f3⟩ := KP.out _ hb3)
          | (refine step_append_any _ (by rfl) _ _ _ (by rfl) N 32 i0 _ 4 32 Try.underlying26 hi0 hz0 hz1 hz2 rfl (by decide) _ _ _ _ (by rfl) own3 (some ⟨g, 0, none⟩) 0 0 [] (by rfl) (by rfl) (fun e => by cases e) (fun ad e j u hu => by simp at hu) (fun y hy => by cases hy) (by simp only [maxLen]; omega) (by omega) f3 _ rfl ?_; intro g4 c4 w4 own4 hgrow4 _; have hb4 := hb3.grown hgrow4 f3 (by intro j hj; cases hj; exact (own3.lt g3 rfl).1); obtain ⟨cc, fz, _⟩ := KP.out _ hb4))
        all_goals
          clear own3 hgrow3 hgrow4 hb3 f0 f1 f2 f3 s1 m1 KP l0 l1 hdA cc fz
          go_wp2_with fail
          go_roundg (es.length - (j + 1))
          case measure => omega
          case rel => exact FJ.out _ (cutJ (by have := HK.out; omega) (by rw [k3]; exact own4) hb4)
      · have q5 : (b : Int) + 1 < cj := by omega
        have q7 : (b : Int) ≤ cj := by omega
        have q9 : b ≤ cj := by omega
        have q10 : b + 1 ≤ cj := by omega
        have q11 : b + 1 ≤ lj.length := by omega
        replace HK := Lib.hid q11
        go_region_law (first
          | (refine step_append_any _ (by rfl) _ _ _ (by rfl) N 32 i0 _ 4 32 Try.underlying26 hi0 hz0 hz1 hz2 rfl (by decide) _ _ _ [] (by rfl) m1 (some ⟨g, 0, none⟩) b _ (cellsE (lj.take b)) (by rfl) k1 (fun e => by cases e) s1 (cellsE_one _) (by simp only [maxLen]; omega) (by omega) y1 _ z1 ?_; intro g3 c3 w3 own3 hgrow3 _; simp only [Nat.zero_add, List.nil_append] at own3; have hb3 := hdA.grown hgrow3 (by omega) (by intro j hj; cases hj; exact Nat.le_refl _); obtain ⟨f0, f1, f2, f3⟩ := KP.out _ hb3)
          | (refine step_append_any _ (by rfl) _ _ _ (by rfl) N 32 i0 _ 4 32 Try.underlying26 hi0 hz0 hz1 hz2 rfl (by decide) _ _ _ _ (by rfl) own3 (some ⟨g, (b + 1) * 4, none⟩) (lj.length - (b + 1)) (cj - (b + 1)) (cellsE (lj.drop (b + 1))) (by rfl) k2 (fun e => by cases e) f2 (cellsE_one _) (by simp only [maxLen]; omega) (by omega) f3 _ rfl ?_; intro g4 c4 w4 own4 hgrow4 _; have hb4 := hb3.grown hgrow4 f3 (by intro j hj; cases hj; exact (own3.lt g3 rfl).1); obtain ⟨cc, fz, _⟩ := KP.out _ hb4))
        all_goals
          clear own3 hgrow3 hgrow4 hb3 f0 f1 f2 f3 s1 m1 KP l0 l1 hdA cc fz
          go_wp2_with fail
          go_roundg (es.length - (j + 1))
          case measure => omega
          case rel => exact FJ.out _ (cutJ (by have := HK.out; omega) own4 hb4)
    · obtain rfl : j = es.length := by omega
      rw [List.drop_length] at hperm
      obtain rfl := hperm.eq_nil
      obtain ⟨ao, cp, rfl⟩ := Mem.owns_shape hown
      rw [List.take_length] at hown
      have HF := Lib.hid (show ToldD es w (.returned (.slice ao es.length cp)) wr from ⟨ao, cp, rfl, Row.lst (O := fun _ => False) ⟨Mem.owns_lower hown (Nat.zero_le _), fun _ _ e => e⟩ rfl, hB⟩)
      obtain ⟨y0, y1, y2, y3, yz⟩ := Mem.four (show wr.heap[w.heap.size + 1]? = some (.cells #[.slice aj 0 cj, .int .i64 cur, .int .i64 mn, .bool fl] 28 (0, 0)) from hbox)
      clear hown hdis hD hbox hjl HA
      go_wp2_with fail
      go_ret
      exact HF.out
end Go.Proofs.Ytdigakgfehaabaa.Queue
