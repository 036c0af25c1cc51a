/- Create, Destroy and Move in whatever case: what each tells, and the tree behind it. Conditions: as each fact states them. -/
import Derived.Test.YtanahddlnchioaaGtSame
import Derived.Test.YtanahddlnchioaaGtDestroy
namespace Go.Proofs.Ytanahddlnchioaa.Gt
open Go.ChangeShapes Go.WideShapes Go.ChangeAt Go.RowKit Hp
set_option linter.unusedVariables false
set_option linter.unusedSimpArgs false
set_option maxRecDepth 100000

def kidsOf (st : St) (i g : Int) : List (Int × Int) := (hs st.pl st.pl.length).filter fun q => kid? st q.1 q.2 i g
def creR (st : St) (i g : Int) : PutR := if st.names i g = false then ⟨st, 0, 0, 2⟩ else if (upsOf st i g).length = 8 then ⟨st, 0, 0, 5⟩ else st.put i g
def desN (st : St) (i g : Int) : Int := if st.names i g = false then 2 else if isRoot i g = true then 1 else if 0 < (kidsOf st i g).length then 6 else 0
def desS (st : St) (i g : Int) : St := if desN st i g = 0 then st.free i g else st
def movN (st : St) (i g j k : Int) : Int := if st.names i g = false ∨ st.names j k = false then 2 else if isRoot i g = true then 1 else if isIn j k i g (upsOf st j k) = true then 10 else if (8 : Int) < (upsOf st j k).length + 1 + reachOf st i g then 5 else 0
def movS (st : St) (i g j k : Int) : St := if movN st i g j k = 0 then st.set i g j k else st

theorem createX (w : World) (tb b : Nat) (O : Nat → Prop) (N : Int) (st : St) (i g : Int) (h : Tre w tb b O st) (hI : Inv N st) (ho : Ok st) (hO : ∀ k, O k → k < w.heap.size) :
    Calls Try.prog 8 #[.pointer (some ⟨tb, 0, none⟩), .agg #[.int .i64 i, .int .i64 g]] w (Did (.tuple #[.agg #[.int .i64 (creR st i g).i, .int .i64 (creR st i g).g], .int .i64 (creR st i g).n]) (creR st i g).st tb b O w) := by
  unfold creR
  cases hn : st.names i g
  · rw [if_pos rfl]
    exact (create_none w tb b O st i g h hI.l1 hn).mono fun e w' ⟨he, hg⟩ => ⟨he, h.fresh hg, Same.of hg hO⟩
  rw [if_neg (by decide)]
  obtain ⟨hu, hl⟩ := ho.ups hn
  by_cases h8 : (upsOf st i g).length = 8
  · rw [if_pos h8]
    exact (create_deep w tb b O st i g _ h hI.l1 hu h8).mono fun e w' ⟨he, hg⟩ => ⟨he, h.fresh hg, Same.of hg hO⟩
  · rw [if_neg h8]
    exact create_some w tb b O N st i g _ h hI hO hu (by omega)

theorem destroyX (w : World) (tb b : Nat) (O : Nat → Prop) (N : Int) (hN : N ≤ 1000000000) (st : St) (i g : Int) (h : Tre w tb b O st) (hI : Inv N st) (ho : Ok st) (hO : ∀ k, O k → k < w.heap.size) :
    Calls Try.prog 10 #[.pointer (some ⟨tb, 0, none⟩), .agg #[.int .i64 i, .int .i64 g]] w (Did (.int .i64 (desN st i g)) (desS st i g) tb b O w) := by
  unfold desS
  cases hn : st.names i g
  · have e : desN st i g = 2 := by simp [desN, hn]
    rw [e]
    exact (destroy_none w tb b O st i g h hI.l1 hn).mono fun e w' ⟨he, hg⟩ => ⟨he, h.fresh hg, Same.of hg hO⟩
  cases hr : isRoot i g
  · by_cases hk : 0 < (kidsOf st i g).length
    · have e : desN st i g = 6 := by simp [desN, hn, hr]; intro h0; rw [h0] at hk; simp at hk
      rw [e]
      exact (destroy_busy w tb b O st i g h hI.l1 ho hn hr hk).mono fun e w' ⟨he, hg⟩ => ⟨he, h.fresh hg, Same.of hg hO⟩
    · have hk0 : kidsOf st i g = [] := List.eq_nil_of_length_eq_zero (by omega)
      have e : desN st i g = 0 := by simp [desN, hn, hr, hk0]
      rw [e, if_pos rfl]
      exact destroy_some w tb b O N hN st i g h hI ho hO hn hr hk0
  · have e : desN st i g = 1 := by simp [desN, hn, hr]
    rw [e]
    obtain ⟨rfl, rfl⟩ := isRoot_eq hr
    exact (destroy_root w tb b O st h hI.l1 hn).mono fun e w' ⟨he, hg⟩ => ⟨he, h.fresh hg, Same.of hg hO⟩

theorem move_none (w : World) (tb b : Nat) (O : Nat → Prop) (st : St) (i g j k : Int) (h : Tre w tb b O st) (h1 : st.pl.length ≤ 4096) (hn : st.names i g = false ∨ st.names j k = false) :
    Calls Try.prog 12 #[.pointer (some ⟨tb, 0, none⟩), .agg #[.int .i64 i, .int .i64 g], .agg #[.int .i64 j, .int .i64 k]] w (IsInt 2 w) := by
  have N : Hid _ := fun w h => names w tb b O st i g h h1
  have M : Hid _ := fun w h => names w tb b O st j k h h1
  cases hi : st.names i g
  · rw [hi] at N
    clear hn hi M
    go_enter Try.func12, Try.ntmps12
    go_wp2_with fail
    go_at_call 27; refine (N.out _ (h.fresh (alloc2 _ _ _))).mono ?_; rintro e w1 ⟨rfl, hg1⟩; have hg := fresh_trans (alloc2 _ _ _) hg1; clear hg1
    go_wp2_with fail
    go_ret
    exact ⟨rfl, hg⟩
  · rw [hi] at N
    rw [hi] at hn
    rw [hn.resolve_left (by decide)] at M
    clear hn hi
    go_enter Try.func12, Try.ntmps12
    go_wp2_with fail
    go_at_call 27; refine (N.out _ (h.fresh (alloc2 _ _ _))).mono ?_; rintro e w1 ⟨rfl, hg1⟩; obtain ⟨a0, a1, a2⟩ := four hg1 rfl; obtain ⟨b0, b1, bz⟩ := box2 a2; have hg := fresh_trans (alloc2 _ _ _) hg1; clear hg1
    go_wp2_with fail
    go_at_call 27; refine (M.out _ (h.fresh hg)).mono ?_; rintro e w2 ⟨rfl, hg2⟩; replace hg := fresh_trans hg hg2; clear hg2
    go_wp2_with fail
    go_ret
    exact ⟨rfl, hg⟩

theorem moveX (w : World) (tb b : Nat) (O : Nat → Prop) (N : Int) (st : St) (i g j k : Int) (h : Tre w tb b O st) (hI : Inv N st) (ho : Ok st) (hO : ∀ k, O k → k < w.heap.size) :
    Calls Try.prog 12 #[.pointer (some ⟨tb, 0, none⟩), .agg #[.int .i64 i, .int .i64 g], .agg #[.int .i64 j, .int .i64 k]] w (Did (.int .i64 (movN st i g j k)) (movS st i g j k) tb b O w) := by
  unfold movS
  by_cases hn : st.names i g = false ∨ st.names j k = false
  · have e : movN st i g j k = 2 := if_pos hn
    rw [e]
    exact (move_none w tb b O st i g j k h hI.l1 hn).mono fun e w' ⟨he, hg⟩ => ⟨he, h.fresh hg, Same.of hg hO⟩
  have hi : st.names i g = true := by cases h' : st.names i g <;> simp_all
  have hj : st.names j k = true := by cases h' : st.names j k <;> simp_all
  cases hr : isRoot i g
  · cases hin : isIn j k i g (upsOf st j k)
    · obtain ⟨r0, r1⟩ := reach_bd (st := st) (i := i) (g := g) ho
      by_cases hd : ((upsOf st j k).length : Int) + 1 + reachOf st i g ≤ 8
      · have e : movN st i g j k = 0 := by unfold movN; rw [if_neg hn, if_neg (by rw [hr]; decide), if_neg (by rw [hin]; decide), if_neg (by omega)]
        rw [e, if_pos rfl]
        exact move_some w tb b O st i g j k h hI.l1 ho hi hr hj hin r0 (by omega) hd hO
      · have e : movN st i g j k = 5 := by unfold movN; rw [if_neg hn, if_neg (by rw [hr]; decide), if_neg (by rw [hin]; decide), if_pos (by omega)]
        rw [e]
        exact (move_deep w tb b O st i g j k h hI.l1 ho hi hr hj hin r0 (by omega) (by omega)).mono fun e w' d => ⟨d.1, h.fresh d.2, Same.of d.2 hO⟩
    · have e : movN st i g j k = 10 := by unfold movN; rw [if_neg hn, if_neg (by rw [hr]; decide), if_pos hin]
      rw [e]
      exact (move_loop w tb b O st i g j k _ h hI.l1 hi hr (ho.ups hj).1 hin).mono fun e w' d => ⟨d.1, h.fresh d.2, Same.of d.2 hO⟩
  · have e : movN st i g j k = 1 := by unfold movN; rw [if_neg hn, if_pos hr]
    rw [e]
    obtain ⟨rfl, rfl⟩ := isRoot_eq hr
    exact (move_root w tb b O st j k h hI.l1 hi hj).mono fun e w' d => ⟨d.1, h.fresh d.2, Same.of d.2 hO⟩
end Go.Proofs.Ytanahddlnchioaa.Gt
