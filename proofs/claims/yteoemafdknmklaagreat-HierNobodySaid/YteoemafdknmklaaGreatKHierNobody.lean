/- For any whole number and any entity the law HierNobody returns true: queues that are nil have nobody. Conditions: none. -/
import Derived.Test.YteoemafdknmklaaGreatPkK
import Derived.Test.YteoemafdknmklaaGreatRows
import Derived.Test.YteoemafdknmklaaGreatPkA
import Derived.WalkKit
import Derived.ProofKit
import Derived.OpenShut
namespace Go.Proofs.YteoemafdknmklaaGreat.Hr
open Go.ChangeShapes Go.WideShapes Go.ChangeAt Go.RowKit Tree Queue
open Go.Shelf
attribute [local go_sem] Oper.semAt_some
set_option linter.unusedVariables false
set_option linter.unusedSimpArgs false
set_option maxRecDepth 100000

theorem way0_ (w : World) (fk : Nat) (caps : Array Value) : Calls Tryz.prog 63 #[.pointer none, .func (.func fk) #[] caps] w
    (fun e w' => e = .returned (.func (.func 107) #[] #[.pointer (some ⟨w.heap.size, 0, none⟩), .pointer (some ⟨w.heap.size + 1, 0, none⟩)]) ∧ w' = (w.alloc (.cells #[.pointer none] 25)).alloc (.cells #[.func (.func fk) #[] caps] 110)) := by
  have hmf : ∀ (fn : Fn) (first cap : Array Value) (w : World), (Instr.makeFunc fn first cap).run Tryz.prog w = .ok (.func fn first cap) w := fun _ _ _ _ => rfl
  go_enter Tryz.func63, Tryz.ntmps63
  go_wp2
  go_ret
  exact ⟨rfl, rfl⟩
theorem way1N_ (w : World) (Bh Ba l : Nat) (c : w.cell? ⟨Bh, 0, none⟩ = some (.pointer none)) : Calls Tryz.prog 107 #[.func (.yield l) #[] #[], .pointer (some ⟨Bh, 0, none⟩), .pointer (some ⟨Ba, 0, none⟩)] w
    (fun e w' => (∃ v, e = .returned v) ∧ Below w.heap.size w w') := by
  have A := Lib.hid (fun w => at_nil 0 w)
  go_enter Tryz.func107, Tryz.ntmps107
  go_wp2_with (go_at_call 69; refine (A.out _).mono ?_; rintro e w1 ⟨rfl, hg1⟩)
  go_loopg [4, 5] 1 (fun k t _ wr => t = .pointer none ∧ Below w.heap.size w wr)
  case atStart => exact ⟨rfl, hg1⟩
  case round =>
    obtain ⟨rfl, hg⟩ := hrel
    go_wp2_with fail
    go_end0
    exact ⟨⟨_, rfl⟩, hg⟩
structure EK (w : World) (ro : Obj) (W : World) : Prop where
  g : Below w.heap.size w W
  b1 : Holds W w.heap.size (.pointer none)
  b2 : Holds W (w.heap.size + 1) (.int .i64 (-1))
  b3 : Holds W (w.heap.size + 2) (.pointer none)
  dD : W.heap[w.heap.size + 4]? = some (.deferred (some []))
  lL : W.heap[w.heap.size + 5]? = some ro
theorem EK.fresh {w W W' : World} {ro : Obj} (E : EK w ro W) (hg : Below W.heap.size W W') : EK w ro W' :=
  ⟨E.g.trans (hg.mono E.g.size), E.b1.on (hg.block _ E.b1.lt), E.b2.on (hg.block _ E.b2.lt), E.b3.on (hg.block _ E.b3.lt), (hg.block _ (lt_of E.dD)).trans E.dD, (hg.block _ (lt_of E.lL)).trans E.lL⟩
theorem EK.putL {w W : World} {ro : Obj} (E : EK w ro W) (bo : Obj) : EK w bo (W.putObj (w.heap.size + 5) bo) := by
  have ne : ∀ k, k ≠ w.heap.size + 5 → (W.putObj (w.heap.size + 5) bo).heap[k]? = W.heap[k]? := fun k hk => World.putObj_heap_other hk
  have sz : (W.putObj (w.heap.size + 5) bo).heap.size = W.heap.size := by simp [World.putObj]
  exact ⟨E.g.trans ⟨rfl, rfl, rfl, by rw [sz]; exact Nat.le_refl _, fun k hk => ne k (by omega)⟩, E.b1.on (ne _ (by omega)), E.b2.on (ne _ (by omega)), E.b3.on (ne _ (by omega)), (ne _ (by omega)).trans E.dD, World.putObj_heap_same (lt_of E.lL)⟩
set_option maxHeartbeats 8000000 in
theorem endN_ (w : World) (fk : Nat) (caps : Array Value) : Calls Tryz.prog 57 #[.pointer none, .func (.func fk) #[] caps] w (Is (.tuple #[.pointer none, .int .i64 (-1)]) w) := by
  have TO := Lib.hid (fun w => taskOf_ (-1) w (by omega) (by omega))
  rw [show taskS (-1) = -1 from rfl] at TO
  refine (callsIn_wide (n := 3)).1 ?_
  refine callsIn_of_wp_marks Tryz.func57 rfl trivial ?_ rfl
  simp only [Tryz.ntmps57, List.size_toArray, List.length_cons, List.length_nil, Nat.reduceAdd, Nat.reduceSub, Array.replicate_succ, Array.replicate_zero, List.push_toArray, List.append_toArray, List.nil_append, List.cons_append]
  gi_wp2_with (refine ⟨trivial, ?_⟩; gi_at_call 63; refine (callsIn_wide.2 (way0_ _ _ _)).mono ?_; rintro e w' ⟨rfl, rfl⟩)
  have E0 : ∀ ro : Obj, EK w ro ((((((w.alloc (.cells #[.pointer none] 85)).alloc (.cells #[.int .i64 (-1)] 3)).alloc (.cells #[.pointer none] 25)).alloc (.cells #[.func (.func fk) #[] caps] 110)).alloc (.deferred (some []))).alloc ro) := by
    intro ro
    obtain ⟨W1, h1⟩ : ∃ W1, w.alloc (.cells #[.pointer none] 85) = W1 := ⟨_, rfl⟩
    obtain ⟨W2, h2⟩ : ∃ W2, W1.alloc (.cells #[.int .i64 (-1)] 3) = W2 := ⟨_, rfl⟩
    obtain ⟨W3, h3⟩ : ∃ W3, W2.alloc (.cells #[.pointer none] 25) = W3 := ⟨_, rfl⟩
    obtain ⟨W4, h4⟩ : ∃ W4, W3.alloc (.cells #[.func (.func fk) #[] caps] 110) = W4 := ⟨_, rfl⟩
    obtain ⟨W5, h5⟩ : ∃ W5, W4.alloc (.deferred (some [])) = W5 := ⟨_, rfl⟩
    obtain ⟨W6, h6⟩ : ∃ W6, W5.alloc ro = W6 := ⟨_, rfl⟩
    have s1 : W1.heap.size = w.heap.size + 1 := by rw [← h1]; simp
    have s2 : W2.heap.size = w.heap.size + 2 := by rw [← h2]; simp; omega
    have s3 : W3.heap.size = w.heap.size + 3 := by rw [← h3]; simp; omega
    have s4 : W4.heap.size = w.heap.size + 4 := by rw [← h4]; simp; omega
    have s5 : W5.heap.size = w.heap.size + 5 := by rw [← h5]; simp; omega
    have n1 : W1.heap[w.heap.size]? = some (.cells #[.pointer none] 85 (0, 0)) := by rw [← h1]; exact heap_alloc_new w _
    have n2 : W2.heap[w.heap.size + 1]? = some (.cells #[.int .i64 (-1)] 3 (0, 0)) := by rw [← h2, ← s1]; exact heap_alloc_new W1 _
    have n3 : W3.heap[w.heap.size + 2]? = some (.cells #[.pointer none] 25 (0, 0)) := by rw [← h3, ← s2]; exact heap_alloc_new W2 _
    have n5 : W5.heap[w.heap.size + 4]? = some (.deferred (some [])) := by rw [← h5, ← s4]; exact heap_alloc_new W4 _
    have n6 : W6.heap[w.heap.size + 5]? = some ro := by rw [← h6, ← s5]; exact heap_alloc_new W5 _
    have g1 : Below w.heap.size w W1 := by rw [← h1]; exact alloc1 w _
    have g2 : Below W1.heap.size W1 W2 := by rw [← h2]; exact alloc1 W1 _
    have g3 : Below W2.heap.size W2 W3 := by rw [← h3]; exact alloc1 W2 _
    have g4 : Below W3.heap.size W3 W4 := by rw [← h4]; exact alloc1 W3 _
    have g5 : Below W4.heap.size W4 W5 := by rw [← h5]; exact alloc1 W4 _
    have g6 : Below W5.heap.size W5 W6 := by rw [← h6]; exact alloc1 W5 _
    have g56 := ft g5 g6
    have g46 := ft g4 g56
    have g36 := ft g3 g46
    have g26 := ft g2 g36
    have g16 := ft g1 g26
    rw [h1, h2, h3, h4, h5, h6]
    exact ⟨g16, ⟨_, (g26.block _ (by omega)).trans n1⟩, ⟨_, (g36.block _ (by omega)).trans n2⟩, ⟨_, (g46.block _ (by omega)).trans n3⟩, (g6.block _ (by omega)).trans n5, n6⟩
  obtain ⟨W0, hW0⟩ : ∃ W0, (((w.alloc (.cells #[.pointer none] 85)).alloc (.cells #[.int .i64 (-1)] 3)).alloc (.cells #[.pointer none] 25)).alloc (.cells #[.func (.func fk) #[] caps] 110) = W0 := ⟨_, rfl⟩
  have hs0 : W0.heap.size = w.heap.size + 4 := by rw [← hW0]; simp
  rw [hW0] at E0 ⊢
  simp only [World.size_alloc, Nat.add_assoc, Nat.reduceAdd]
  clear hW0
  refine range_on (n := 3) (w := W0) (by omega) (gf := 107) (lb := #[.pointer (some ⟨w.heap.size + 2, 0, none⟩), .pointer (some ⟨w.heap.size + 3, 0, none⟩)]) rfl (enters_of Tryz.func107 (by kernel_rfl) rfl)
    (fun W => ∃ ro, EK w ro W) ?hit ?hdone
  case hit =>
    intro ro bo _ _ hround
    rw [hs0]
    refine (callsIn_wide.2 (way1N_ _ (w.heap.size + 2) (w.heap.size + 3) (w.heap.size + 4 + 1) (E0 ro).b3.cell)).mono ?_
    rintro e W' ⟨⟨v, rfl⟩, hg⟩
    have E := (E0 ro).fresh hg
    exact ⟨⟨_, rfl⟩, E.lL, E.dD, ro, E⟩
  case hdone =>
    rintro W o ⟨ro, E⟩ hK _
    rw [hs0] at *
    have E1 := Lib.hid (E.putL o)
    clear E hK E0
    generalize W.putObj (w.heap.size + 4 + 1) o = V at *
    have c1 := E1.out.b1.cell
    have c2 := E1.out.b2.cell
    gi_wp2
    refine (wpIn_wide (n := 3)).2 ?_
    go_region_held3 (fun w' => w'.cell? ⟨w.heap.size, 0, none⟩ = some (.pointer none) ∧ w'.cell? ⟨w.heap.size + 1, 0, none⟩ = some (.int .i64 (-1))) (first | exact ⟨c1, c2⟩ | exact ⟨l1, l2⟩)
      (first
        | (go_at_call 104; refine (TO.out _).mono ?_; rintro e w1 ⟨rfl, hg1⟩; have E2 := Lib.hid ((E1.out.fresh (drew_below _)).fresh hg1); have l1 := E2.out.b1.cell; have l2 := E2.out.b2.cell))
    gi_wp2
    refine ⟨by simp, .inl ⟨_, _, rfl, run_takeDeferred E2.out.dD, ?_⟩⟩
    refine ⟨.tuple #[.pointer none, .int .i64 (-1)], by simp [results, Tryz.results57, go_sem], rfl, ?_⟩
    have sz : (w1.putObj (w.heap.size + 4) (.deferred none)).heap.size = w1.heap.size := by simp [World.putObj]
    have ne : ∀ k, k ≠ w.heap.size + 4 → (w1.putObj (w.heap.size + 4) (.deferred none)).heap[k]? = w1.heap[k]? := fun k hk => World.putObj_heap_other hk
    exact E2.out.g.trans ⟨rfl, rfl, rfl, by rw [sz]; exact Nat.le_refl _, fun k hk => ne k (by omega)⟩
theorem running_nil_ (w : World) : Calls Tryz.prog 17 #[.pointer none] w (Is (.int .i64 (-1)) w) := by
  have E := Lib.hid (fun w => endN_ w 58 #[])
  go_enter Tryz.func17, Tryz.ntmps17
  go_wp2_with (go_at_call 57; refine (E.out _).mono ?_; rintro e w1 ⟨rfl, hg1⟩)
  go_ret; exact ⟨rfl, hg1⟩
theorem pick_nil_ (w : World) : Calls Tryz.prog 36 #[.pointer none] w (Is (.int .i64 (-1)) w) := by
  have hmf : ∀ (fn : Fn) (first cap : Array Value) (w : World), (Instr.makeFunc fn first cap).run Tryz.prog w = .ok (.func fn first cap) w := fun _ _ _ _ => rfl
  have E := Lib.hid (fun w caps => endN_ w 85 caps)
  go_enter Tryz.func36, Tryz.ntmps36
  go_wp2_with (go_at_call 57; refine (E.out _ _).mono ?_; rintro e w1 ⟨rfl, hg1⟩)
  go_ret; exact ⟨rfl, ft (alloc1 _ _) hg1⟩
theorem yield_nil_ (w : World) : Calls Tryz.prog 37 #[.pointer none] w (Is (.int .i64 (-1)) w) := by
  have E := Lib.hid (fun w => endN_ w 58 #[])
  have P := Lib.hid (fun w => pick_nil_ w)
  go_enter Tryz.func37, Tryz.ntmps37
  go_wp2_with (first
    | (go_at_call 57; refine (E.out _).mono ?_; rintro e w1 ⟨rfl, hg1⟩)
    | (go_at_call 36; refine (P.out _).mono ?_; rintro e w2 ⟨rfl, hg2⟩))
  go_ret; exact ⟨rfl, ft hg1 hg2⟩
theorem qMin_nil_ (w : World) (g : Int) : Calls Tryz.prog 26 #[.pointer none, .int .i64 g] w (Is (.int .i64 0) w) := by
  have A := Lib.hid (fun w => queue_nil g w)
  have M := Lib.hid (fun w => Queue.min_nil w)
  go_enter Tryz.func26, Tryz.ntmps26
  go_wp2_with (first
    | (go_at_call 59; refine (A.out _).mono ?_; rintro e w1 ⟨rfl, hg1⟩)
    | (go_at_call 66; refine (M.out _).mono ?_; rintro e w2 ⟨rfl, hg2⟩))
  go_ret; exact ⟨rfl, ft hg1 hg2⟩
theorem qLoad_nil_ (w : World) (g : Int) : Calls Tryz.prog 19 #[.pointer none, .int .i64 g] w (Is (.int .u64 0) w) := by
  have A := Lib.hid (fun w => queue_nil g w)
  have M := Lib.hid (fun w => Queue.load_nil w)
  go_enter Tryz.func19, Tryz.ntmps19
  go_wp2_with (first
    | (go_at_call 59; refine (A.out _).mono ?_; rintro e w1 ⟨rfl, hg1⟩)
    | (go_at_call 61; refine (M.out _).mono ?_; rintro e w2 ⟨rfl, hg2⟩))
  go_ret; exact ⟨rfl, ft hg1 hg2⟩
theorem qQueue_nil_ (w : World) (g : Int) : Calls Tryz.prog 18 #[.pointer none, .int .i64 g] w (Is (.slice none 0 0) w) := by
  have A := Lib.hid (fun w => queue_nil g w)
  have M := Lib.hid (fun w => Queue.ents_nil w)
  go_enter Tryz.func18, Tryz.ntmps18
  go_wp2_with (first
    | (go_at_call 59; refine (A.out _).mono ?_; rintro e w1 ⟨rfl, hg1⟩)
    | (go_at_call 60; refine (M.out _).mono ?_; rintro e w2 ⟨rfl, hg2⟩))
  go_ret; exact ⟨rfl, ft hg1 hg2⟩
theorem on_nil_ (w : World) (g : Int) : Calls Tryz.prog 20 #[.pointer none, .int .i64 g] w (Is (.bool false) w) := by
  have A := Lib.hid (fun w => linked_nil g w)
  go_enter Tryz.func20, Tryz.ntmps20
  go_wp2_with (go_at_call 62; refine (A.out _).mono ?_; rintro e w1 ⟨rfl, hg1⟩)
  go_ret; exact ⟨rfl, hg1⟩
theorem stopped_nil_ (w : World) (g : Int) : Calls Tryz.prog 21 #[.pointer none, .int .i64 g] w (Is (.bool false) w) := by
  have A := Lib.hid (fun w => linked_nil g w)
  go_enter Tryz.func21, Tryz.ntmps21
  go_wp2_with (go_at_call 62; refine (A.out _).mono ?_; rintro e w1 ⟨rfl, hg1⟩)
  go_ret; exact ⟨rfl, hg1⟩
theorem flag_nil_ (w : World) : Calls Tryz.prog 27 #[.pointer none] w (Is (.bool false) w) := by
  have hg := Below.refl w.heap.size w
  go_enter Tryz.func27, Tryz.ntmps27
  go_wp2
  go_ret; exact ⟨rfl, hg⟩
theorem unlink_nil_ (w : World) (g : Int) : Calls Tryz.prog 31 #[.pointer none, .int .i64 g] w (Is (.int .i64 1) w) := by
  have A := Lib.hid (fun w => linked_nil g w)
  go_enter Tryz.func31, Tryz.ntmps31
  go_wp2_with (go_at_call 62; refine (A.out _).mono ?_; rintro e w1 ⟨rfl, hg1⟩)
  go_ret; exact ⟨rfl, hg1⟩
theorem move_nil_ (w : World) (g p : Int) : Calls Tryz.prog 30 #[.pointer none, .int .i64 g, .int .i64 p] w (Is (.int .i64 1) w) := by
  have A := Lib.hid (fun w => linked_nil g w)
  have B := Lib.hid (fun w => at_nil p w)
  go_enter Tryz.func30, Tryz.ntmps30
  go_wp2_with (first
    | (go_at_call 62; refine (A.out _).mono ?_; rintro e w1 ⟨rfl, hg1⟩)
    | (go_at_call 69; refine (B.out _).mono ?_; rintro e w2 ⟨rfl, hg2⟩))
  go_ret; exact ⟨rfl, ft hg1 hg2⟩
end Go.Proofs.YteoemafdknmklaaGreat.Hr

/- The law HierNobody. Conditions: none. -/
namespace Go.Proofs.YteoemafdknmklaaGreat.Hr
open Go.ChangeShapes Go.WideShapes Go.ChangeAt Go.RowKit Tree Queue
set_option linter.unusedVariables false
set_option linter.unusedSimpArgs false
set_option maxRecDepth 100000

set_option maxHeartbeats 8000000 in
theorem nobodyLaw (g a b c d : Int) (w : World) : Calls Tryz.prog 8 #[.int .i64 g, .agg #[.int .i64 a, .int .u64 b, .int .i64 c, .int .u64 d]] w (IsTrue w) := by
  have A := Lib.hid (fun w => awake w)
  have h1 := Lib.hid (fun w => put_nil_ w g ⟨a, b, c, d⟩)
  have h2 := Lib.hid (fun w => drop_nil_ w g a)
  have h3 := Lib.hid (fun w => link_nil_ w g 0)
  have h4 := Lib.hid (fun w => move_nil_ w g 0)
  have h5 := Lib.hid (fun w => unlink_nil_ w g)
  have h6 := Lib.hid (fun w => nice_nil_ w g a 1024)
  have h7 := Lib.hid (fun w => weigh_nil_ w g 1024)
  have h8 := Lib.hid (fun w => stop_nil_ w g true)
  have h9 := Lib.hid (fun w => charge_nil_ w 1)
  have k1 := Lib.hid (fun w => pick_nil_ w)
  have k2 := Lib.hid (fun w => yield_nil_ w)
  have k3 := Lib.hid (fun w => running_nil_ w)
  have k4 := Lib.hid (fun w => qQueue_nil_ w g)
  have k5 := Lib.hid (fun w => qMin_nil_ w g)
  have k6 := Lib.hid (fun w => qLoad_nil_ w g)
  have k7 := Lib.hid (fun w => on_nil_ w g)
  have k8 := Lib.hid (fun w => stopped_nil_ w g)
  have k9 := Lib.hid (fun w => flag_nil_ w)
  simp only [Ent.val, Ent.zero] at h1 h2
  have B : Bx (w.alloc (.cells #[.int .i64 a, .int .u64 b, .int .i64 c, .int .u64 d] 34)) w.heap.size ⟨a, b, c, d⟩ := heap_alloc_new w _
  have hb := alloc1 w (.cells #[.int .i64 a, .int .u64 b, .int .i64 c, .int .u64 d] 34)
  go_enter Tryz.func8, Tryz.ntmps8
  go_wp2_with (first
    | (go_at_call 9; refine (A.out _).mono ?_; rintro e w2 ⟨rfl, hg2⟩; replace hb := ft hb hg2; replace B := B.on (hg2.block _ B.lt); obtain ⟨n0, n1, n2, n3, nf⟩ := B.cells; clear hg2)
    | (go_at_call 28; refine (h2.out _).mono ?_; rintro e w2 ⟨rfl, hg2⟩; replace hb := ft hb hg2; replace B := B.on (hg2.block _ B.lt); obtain ⟨n0, n1, n2, n3, nf⟩ := B.cells; clear hg2)
    | (go_at_call 29; refine (h3.out _).mono ?_; rintro e w2 ⟨rfl, hg2⟩; replace hb := ft (ft hb (alloc1 _ _)) hg2; replace B := (B.on (Below.heap_alloc _ _ _ B.lt)).on (hg2.block _ (by have := B.lt; simp; omega)); obtain ⟨n0, n1, n2, n3, nf⟩ := B.cells; clear hg2)
    | (go_at_call 30; refine (h4.out _).mono ?_; rintro e w2 ⟨rfl, hg2⟩; replace hb := ft hb hg2; replace B := B.on (hg2.block _ B.lt); obtain ⟨n0, n1, n2, n3, nf⟩ := B.cells; clear hg2)
    | (go_at_call 31; refine (h5.out _).mono ?_; rintro e w2 ⟨rfl, hg2⟩; replace hb := ft hb hg2; replace B := B.on (hg2.block _ B.lt); obtain ⟨n0, n1, n2, n3, nf⟩ := B.cells; clear hg2)
    | (go_at_call 32; refine (h1.out _).mono ?_; rintro e w2 ⟨rfl, hg2⟩; replace hb := ft hb hg2; replace B := B.on (hg2.block _ B.lt); obtain ⟨n0, n1, n2, n3, nf⟩ := B.cells; clear hg2)
    | (go_at_call 33; refine (h6.out _).mono ?_; rintro e w2 ⟨rfl, hg2⟩; replace hb := ft hb hg2; replace B := B.on (hg2.block _ B.lt); obtain ⟨n0, n1, n2, n3, nf⟩ := B.cells; clear hg2)
    | (go_at_call 34; refine (h7.out _).mono ?_; rintro e w2 ⟨rfl, hg2⟩; replace hb := ft hb hg2; replace B := B.on (hg2.block _ B.lt); obtain ⟨n0, n1, n2, n3, nf⟩ := B.cells; clear hg2)
    | (go_at_call 35; refine (h8.out _).mono ?_; rintro e w2 ⟨rfl, hg2⟩; replace hb := ft hb hg2; replace B := B.on (hg2.block _ B.lt); obtain ⟨n0, n1, n2, n3, nf⟩ := B.cells; clear hg2)
    | (go_at_call 22; refine (h9.out _).mono ?_; rintro e w2 ⟨rfl, hg2⟩; replace hb := ft hb hg2; replace B := B.on (hg2.block _ B.lt); obtain ⟨n0, n1, n2, n3, nf⟩ := B.cells; clear hg2)
    | (go_at_call 36; refine (k1.out _).mono ?_; rintro e w2 ⟨rfl, hg2⟩; replace hb := ft hb hg2; replace B := B.on (hg2.block _ B.lt); obtain ⟨n0, n1, n2, n3, nf⟩ := B.cells; clear hg2)
    | (go_at_call 37; refine (k2.out _).mono ?_; rintro e w2 ⟨rfl, hg2⟩; replace hb := ft hb hg2; replace B := B.on (hg2.block _ B.lt); obtain ⟨n0, n1, n2, n3, nf⟩ := B.cells; clear hg2)
    | (go_at_call 17; refine (k3.out _).mono ?_; rintro e w2 ⟨rfl, hg2⟩; replace hb := ft hb hg2; replace B := B.on (hg2.block _ B.lt); obtain ⟨n0, n1, n2, n3, nf⟩ := B.cells; clear hg2)
    | (go_at_call 18; refine (k4.out _).mono ?_; rintro e w2 ⟨rfl, hg2⟩; replace hb := ft hb hg2; replace B := B.on (hg2.block _ B.lt); obtain ⟨n0, n1, n2, n3, nf⟩ := B.cells; clear hg2)
    | (go_at_call 26; refine (k5.out _).mono ?_; rintro e w2 ⟨rfl, hg2⟩; replace hb := ft hb hg2; replace B := B.on (hg2.block _ B.lt); obtain ⟨n0, n1, n2, n3, nf⟩ := B.cells; clear hg2)
    | (go_at_call 19; refine (k6.out _).mono ?_; rintro e w2 ⟨rfl, hg2⟩; replace hb := ft hb hg2; replace B := B.on (hg2.block _ B.lt); obtain ⟨n0, n1, n2, n3, nf⟩ := B.cells; clear hg2)
    | (go_at_call 20; refine (k7.out _).mono ?_; rintro e w2 ⟨rfl, hg2⟩; replace hb := ft hb hg2; replace B := B.on (hg2.block _ B.lt); obtain ⟨n0, n1, n2, n3, nf⟩ := B.cells; clear hg2)
    | (go_at_call 21; refine (k8.out _).mono ?_; rintro e w2 ⟨rfl, hg2⟩; replace hb := ft hb hg2; replace B := B.on (hg2.block _ B.lt); obtain ⟨n0, n1, n2, n3, nf⟩ := B.cells; clear hg2)
    | (go_at_call 27; refine (k9.out _).mono ?_; rintro e w2 ⟨rfl, hg2⟩; replace hb := ft hb hg2; replace B := B.on (hg2.block _ B.lt); obtain ⟨n0, n1, n2, n3, nf⟩ := B.cells; clear hg2))
  go_ret
  exact ⟨rfl, hb⟩
end Go.Proofs.YteoemafdknmklaaGreat.Hr

/- For any whole number and any entity the law HierNobody returns true: queues that are nil have nobody. Conditions: none. -/
namespace Go.Proofs.YteoemafdknmklaaGreat.hierNobody
open Go.ChangeShapes Go.WideShapes Go.ChangeAt Go.RowKit
set_option linter.unusedVariables false

theorem own : ownKnob Tryz.prog.godebug = none := by kernel_rfl
theorem laid : laidOutB Tryz.prog = true := by kernel_rfl
theorem cells34 : Tryz.prog.cellsOf 34 = 4 := by kernel_rfl

set_option maxRecDepth 100000 in
theorem lifted (os : Os) (started : os.Started) (H : Type) (enc : TypeId × Value → H) :
    ReturnsInHanded {} Tryz.checked os 8 .any (Rows.hierNobodySpec.pre6 enc Tryz.prog Tryz.f8 Rows.hierNobodyRow.domain false) (Rows.hierNobodySpec.post enc Tryz.prog Tryz.f8 false true false false) := by
  refine returnsInHanded_of_change_sized (C := Tryz.checked) own started (by kernel_rfl) Tryz.func8
    (ChangeSpec.witness6 (enc := enc) (C := Tryz.checked) false ⟨#[], #[.int .i64 0, .agg #[.int .i64 0, .int .u64 0, .int .i64 0, .int .u64 0]], []⟩ 8 (by kernel_rfl) (by kernel_rfl) (by kernel_rfl) (by kernel_rfl)) ?_
  intro W base args ds gs before hval0 hW hcnd hsz0 _
  have hval : ∀ (j : Nat) t v, Tryz.f8.params[j]? = some t → args[j]? = some v → Value.okWide Tryz.prog W .any base t v := hval0
  have hW' := hW
  obtain ⟨p, q, hA0, hV, rfl, hfz, hnd⟩ := hW
  have hA : DataW.TrodAll enc Tryz.prog W 0 (fun _ => true) true Tryz.f8.params.toList args.toList ds p := hA0
  have hAk := hA
  rw [Tryz.params8] at hA hval
  obtain ⟨v0, vs0, d0, ds0, p0, q0, hargs, rfl, rfl, h0, r0⟩ := trodAll_cons hA
  obtain ⟨v1, vs1, d1, ds1, p1, q1, rfl, rfl, rfl, h1, r1⟩ := trodAll_cons r0
  obtain ⟨rfl, rfl, rfl⟩ := trodAll_nil r1
  obtain rfl : args = #[v0, v1] := by cases args; simp_all
  obtain ⟨rfl, rfl⟩ := trodVars_none hV
  have hsz : (DataW.weightsEach Tryz.prog [3, 34] [d0, d1]).all (· ≤ reachBytes) = true := hsz0
  obtain ⟨a0, rfl, rfl, rfl, w0⟩ := open_int Tryz.underlying3 (hval 0 3 v0 rfl rfl) h0
  obtain ⟨x1_0, x1_1, x1_2, x1_3, rfl, w1_0, w1_1, w1_2, w1_3⟩ := Read.quad Tryz.underlying34 (by kernel_rfl) cells34 Tryz.underlying3 Tryz.underlying32 Tryz.underlying2 Tryz.underlying32 (hval 1 34 v1 rfl rfl) h1

  clear hA0 hval0 hsz hsz0
  have hW2 := hW'
  rw [List.append_nil] at hW2
  refine (show Calls Tryz.prog 8 #[.int .i64 a0, .agg #[.int .i64 x1_0, .int .u64 x1_1, .int .i64 x1_2, .int .u64 x1_3]] W (fun e w' => e = .returned (.bool true) ∧ Below W.heap.size W w') from Hr.nobodyLaw a0 x1_0 x1_1 x1_2 x1_3 W).mono fun e W' ⟨he, hg⟩ => ?_
  subst he
  exact ⟨_, rfl, Read.post laid (by kernel_rfl) hg hAk hW2 rfl rfl Tryz.underlying4 rfl⟩

theorem over : Rows.hierNobodyRow.holds Tryz.pinned (OpenSpec.ofChange Rows.hierNobodySpec) :=
  OpenClaim.holds_of_wide 8 Tryz.f8 rfl rfl rfl rfl rfl rfl rfl ⟨rfl, rfl, rfl, rfl, rfl⟩ rfl rfl rfl rfl rfl (by kernel_rfl) Tryz.func8 (by kernel_rfl)
    (of_decide_eq_true (by kernel_rfl)) (by unfold Func.isWrapper; first | (rw [if_pos (by decide +kernel)]; kernel_rfl) | (rw [if_neg (by decide +kernel)]; exact ⟨rfl, rfl⟩))
    (fun os started H enc _ => lifted os started H enc)

/-- THE STATEMENT. -/
theorem proved : Rows.HierNobodySaid :=
  over
#print axioms proved
end Go.Proofs.YteoemafdknmklaaGreat.hierNobody
