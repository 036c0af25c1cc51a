/- Rows of tasks that grow; what the laws' few, real, diff and shown return. Conditions: each number is one of its kind. -/
import Derived.Test.YtjbhighfajdfhaaPullRefC
import Derived.BigRegion
import Derived.Deep.RegionLaw
namespace Go.Proofs.Ytjbhighfajdfhaa.Pull
open Go.ChangeShapes Go.WideShapes Go.ChangeAt Go.RowKit Load
set_option linter.unusedVariables false
set_option linter.unusedSimpArgs false
attribute [local irreducible] Go.wpQuiet

theorem infoD : (Try.prog.info? 37).map (fun i => (i.zero, i.size, i.bytes)) = some (some (.agg #[.int .i64 0, .int .u64 0, .int .u64 0, .bool false]), 4, 32) := by kernel_rfl
theorem infoP : (Try.prog.info? 35).map (fun i => (i.zero, i.size, i.bytes)) = some (some (.agg #[.int .i64 0, .int .u64 0, .int .u64 0, .bool false]), 4, 32) := by kernel_rfl
theorem info_parts {o : Option TypeInfo} {z : Option Value} {s b : Nat} (h : o.map (fun i => (i.zero, i.size, i.bytes)) = some (z, s, b)) : ∃ i, o = some i ∧ i.zero = z ∧ i.size = s ∧ i.bytes = b := by
  cases o with
  | none => simp at h
  | some i => simp at h; exact ⟨i, rfl, h.1, h.2.1, h.2.2⟩
theorem cell_alloc {w : World} {a : Addr} {v : Value} (h : w.cell? a = some v) (o : Obj) : (w.alloc o).cell? a = some v :=
  (World.cell?_of_block (Below.heap_alloc w o a.block (World.block_lt_of_cell? w a h))).trans h
abbrev one4 (c : Cd) : List Value := [.int .i64 c.id, .int .u64 c.wt, .int .u64 (c.ms : Int), .bool c.rn]
def cellsC (C : Nat → Cd) : Nat → List Value
  | 0 => []
  | n + 1 => cellsC C n ++ one4 (C n)
theorem cellsC_len (C : Nat → Cd) (n : Nat) : (cellsC C n).length = n * 4 := by
  induction n with
  | zero => rfl
  | succ n ih => simp only [cellsC, List.length_append, ih]; simp; omega
theorem cellsC_at (C : Nat → Cd) {n j i : Nat} (hj : j < n) (hi : i < 4) : (cellsC C n)[j * 4 + i]? = (one4 (C j))[i]? := by
  induction n with
  | zero => omega
  | succ n ih =>
    have hl := cellsC_len C n
    simp only [cellsC]
    by_cases h : j < n
    · rw [List.getElem?_append_left (by omega)]; exact ih h
    · obtain rfl : j = n := by omega
      rw [List.getElem?_append_right (by omega)]
      congr 1; omega
theorem cellsC_congr {C D : Nat → Cd} {n : Nat} (h : ∀ j, j < n → C j = D j) : cellsC C n = cellsC D n := by
  induction n with
  | zero => rfl
  | succ n ih => simp only [cellsC]; rw [ih (fun j hj => h j (by omega)), h n (by omega)]
theorem own_cs {w : World} {B n : Nat} {e : TypeId} {v : Value} {C : Nat → Cd} (h : w.ownsRow B e 4 v n (cellsC C n)) : ∃ ao cap, v = .slice ao n cap ∧ Cs ao n C w := by
  rcases h.2 with ⟨e1, e2⟩ | ⟨g, cap, cur, e1, h0, hg, h1⟩
  · exact ⟨none, 0, by rw [e1, e2], fun j hj => by omega⟩
  · refine ⟨some ⟨g, 0, none⟩, cap, e1, fun j hj => ?_⟩
    subst e1
    have A : ∀ i, i < 4 → w.cell? ⟨g, j * 4 + i, none⟩ = (one4 (C j))[i]? := fun i hi => by rw [h.cellAt _ (by omega), cellsC_at C hj hi]
    exact ⟨g, 0, rfl, (h.lt g rfl).2, by rw [Nat.zero_add]; exact A 0 (by omega), by rw [Nat.zero_add]; exact A 1 (by omega), by rw [Nat.zero_add]; exact A 2 (by omega), by rw [Nat.zero_add]; exact A 3 (by omega)⟩

theorem owns_fresh {w w' : World} {B : Nat} {e : TypeId} {size : Nat} {v : Value} {n : Nat} {xs : List Value} (h : w.ownsRow B e size v n xs) (hB : Below w.heap.size w w') : w'.ownsRow B e size v n xs := by
  refine ⟨h.1, ?_⟩
  rcases h.2 with h1 | ⟨g, cap, cur, rfl, h0, hg, h1⟩
  · exact .inl h1
  · exact .inr ⟨g, cap, cur, rfl, h0, by rw [hB.block g (lt_of hg), hg], h1⟩

theorem few (v : Option Addr) (len cap : Nat) (w : World) (hlen : len ≤ 9223372036854775807) (hcap : len ≤ cap) (hn : v = none → len = 0) :
    Calls Try.prog 10 #[.slice v len cap] w (Is (.slice v (min len 100) cap) w) := by
  by_cases h : (100 : Int) < len
  · have h1 : (100 : Int) ≤ cap := by omega
    obtain ⟨a, rfl⟩ : ∃ a, v = some a := by
      cases v with
      | none => have := hn rfl; omega
      | some a => exact ⟨a, rfl⟩
    have e : min len 100 = 100 := by omega
    rw [e]
    go_enter Try.func10, Try.ntmps10
    go_wp2
    go_ret
    exact ⟨rfl, rfl⟩
  · have e : min len 100 = len := by omega
    rw [e]
    go_enter Try.func10, Try.ntmps10
    go_wp2
    go_ret
    exact ⟨rfl, rfl⟩

def dif (a b : Int) : Int := max a b - min a b
theorem diffs (a b : Int) (w : World) (ha : U64 a) (hb : U64 b) : Calls Try.prog 18 #[.int .u64 a, .int .u64 b] w (Is (.int .u64 (dif a b)) w) := by
  unfold U64 at ha hb
  unfold dif
  rcases Int.lt_trichotomy a b with hab | rfl | hab
  · have e1 : max a b = b := by omega
    have e2 : min a b = a := by omega
    have e3 : IntKind.u64.wrap (b - a) = b - a := by rw [IntKind.wrap_u64]; omega
    rw [e1, e2]
    go_enter Try.func18, Try.ntmps18
    go_wp2
    all_goals first | (exfalso; omega) | (go_ret; exact isI_of (by omega))
  · have e1 : max a a = a := by omega
    have e2 : min a a = a := by omega
    have e3 : IntKind.u64.wrap (a - a) = a - a := by rw [IntKind.wrap_u64]; omega
    rw [e1, e2]
    go_enter Try.func18, Try.ntmps18
    go_wp2
    all_goals first | (exfalso; omega) | (go_ret; exact isI_of (by omega))
  · have e1 : max a b = a := by omega
    have e2 : min a b = b := by omega
    have e3 : IntKind.u64.wrap (a - b) = a - b := by rw [IntKind.wrap_u64]; omega
    rw [e1, e2]
    go_enter Try.func18, Try.ntmps18
    go_wp2
    all_goals first | (exfalso; omega) | (go_ret; exact isI_of (by omega))

def Yes (w : World) (e : Ending) (w' : World) : Prop := e = .returned (.bool true) ∧ Below w.heap.size w w'
theorem yes_of {b : Bool} {w w' : World} (h : b = true) (g : Below w.heap.size w w') : Yes w (.returned (.bool b)) w' := by subst h; exact ⟨rfl, g⟩
def exC (j : Nat) : Cd := if j = 0 then ⟨1, 5, 1, false⟩ else ⟨2, 3, 1, false⟩
theorem exC_ok (j : Nat) : (exC j).Ok := by
  unfold exC
  split <;> (constructor <;> simp)
theorem ex_cs {w : World} {g : Nat} (h : w.heap[g]? = some (.cells #[.int .i64 1, .int .u64 5, .int .u64 1, .bool false, .int .i64 2, .int .u64 3, .int .u64 1, .bool false] 35 (0, 0))) : Cs (some ⟨g, 0, none⟩) 2 exC w := by
  intro j hj
  refine ⟨g, 0, rfl, lt_of h, ?_⟩
  simp only [cell_of_row w g _ _ _ _ h]
  rcases (by omega : j = 0 ∨ j = 1) with rfl | rfl <;> exact ⟨rfl, rfl, rfl, rfl⟩
theorem ex_cho : cho exC 8 0 2 = 1 := by decide
theorem shown (w : World) : Calls Try.prog 9 #[] w (Yes w) := by
  have CH : Hid (∀ w g, Cs (some ⟨g, 0, none⟩) 2 exC w → Calls Try.prog 11 #[.slice (some ⟨g, 0, none⟩) 2 2, .int .u64 8, .int .u64 0, .int .i64 0] w (fun e w' => e = .returned (.tuple #[.int .i64 1, .bool true]) ∧ Below w.heap.size w w')) := Lib.hid fun w g h => by
    have := chooses _ 2 2 exC 8 0 0 w (by unfold U64; omega) (by unfold U64; omega) (by omega) (Lib.hid fun j _ => exC_ok j) (Lib.hid h)
    rw [show gap 8 0 = 8 by decide, ex_cho] at this
    exact this
  have AF : Hid (∀ w, Calls Try.prog 14 #[.int .u64 8, .int .u64 0, .int .u64 3] w (IsG (.tuple #[.int .u64 5, .int .u64 3]) w)) := Lib.hid fun w => after 8 0 3 w (by unfold U64; omega) (by unfold U64; omega) (by unfold U64; omega)
  have hg := alloc1 w (.cells #[.int .i64 1, .int .u64 5, .int .u64 1, .bool false, .int .i64 2, .int .u64 3, .int .u64 1, .bool false] 35 (0, 0))
  have hcs := ex_cs (heap_alloc_new w (.cells #[.int .i64 1, .int .u64 5, .int .u64 1, .bool false, .int .i64 2, .int .u64 3, .int .u64 1, .bool false] 35 (0, 0)))
  go_enter Try.func9, Try.ntmps9
  go_wp2_with (first
    | (go_at_call 11; refine (CH.out _ _ hcs).mono ?_; rintro e w1 ⟨rfl, hg1⟩; replace hg := fresh_trans hg (hg1.mono (by simp)); clear hg1)
    | (go_at_call 14; refine (AF.out _).mono ?_; rintro e w2 ⟨rfl, hg1⟩; replace hg := hg.trans (hg1.mono hg.size); clear hg1))
  go_ret
  exact yes_of rfl hg

def RealI (C : Nat → Cd) (n : Nat) (w : World) (left : Nat) (t3 t4 : Value) (wr : World) : Prop :=
  ∃ k : Nat, left + k = n ∧ t4 = .int .i64 k ∧ wr.ownsRow w.heap.size 37 4 t3 k (cellsC C k) ∧ Below w.heap.size w wr
def RowC (n : Nat) (C : Nat → Cd) (w : World) (e : Ending) (w' : World) : Prop := ∃ ao cp, e = .returned (.slice ao n cp) ∧ Cs ao n C w' ∧ Below w.heap.size w w'

set_option maxRecDepth 100000 in
set_option maxHeartbeats 4000000 in
theorem reals (v : Option Addr) (n cap : Nat) (C : Nat → Cd) (w : World) (hn : n ≤ 100) (HC : Hid (Cs v n C w)) :
    Calls Try.prog 13 #[.slice v n cap] w (RowC n C w) := by
  obtain ⟨i0, hi, hz0, hz1, hz2⟩ := info_parts infoD
  go_enter Try.func13, Try.ntmps13
  go_wp2
  go_loopg [3, 4] n (fun left t3 t4 wr => RealI C n w left t3 t4 wr)
  case atStart => exact ⟨0, by omega, rfl, World.ownsRow_nil _ _ _ _, Below.refl _ _⟩
  case round =>
    obtain ⟨k, hk, rfl, hown, hb⟩ := hrel
    by_cases hlt : k < n
    · have h3 : (k : Int) < n := by omega
      have q0 : (0 : Int) ≤ k := by omega
      obtain ⟨b1, o1, rfl, hb1, x0, x1, x2, x3⟩ := HC.out.fresh hb k hlt
      have HF := Lib.hid (fun (v' : Value) (w2 : World) (h : w2.ownsRow w.heap.size 37 4 v' (k + 1) (cellsC C k ++ one4 (C k))) (g : Below w.heap.size w w2) => (show RealI C n w (gk - 1) v' (.int .i64 ((k : Int) + 1)) w2 from ⟨k + 1, by omega, by go_num, h, g⟩))
      unfold one4 at HF
      have hl := cellsC_len C k
      have hsz := hb.size
      have hF := fun o => Lib.hid ((owns_fresh hown (Below.refl wr.heap.size wr).drew).alloc o)
      have hbd : Below w.heap.size w wr.drew := hb.drew
      generalize cellsC C k = U at *
      generalize C k = ck at *
      obtain ⟨ki, kw, km, kr⟩ := ck
      simp only at x0 x1 x2 x3 HF
      go_wp2_with fail
      go_region_law ((refine step_append_lies _ (by rfl) (.tmp 11) (.tmp 33) 29 (by rfl) w.heap.size 37 i0 _ 4 32 Try.underlying29 hi hz0 hz1 hz2 rfl (by decide) _ k U (by rfl) (hF _).out ⟨wr.heap.size, 0, none⟩ 1 1 [.int .i64 ki, .int .u64 kw, .int .u64 (km : Int), .bool kr] (by rfl) rfl (World.news_of_block (heap_alloc_new wr.drew _)) (by simp [Value.oneCell']) (by decide) (by simp only [maxLen]; omega) (by omega) (by simp; omega) (wr.heap.size + 1) (by simp) ?_; intro g2 cap2 w4 hown4 hgrow4 _ _; have hb4 := (hbd.alloc (by simp; omega) _).grown hgrow4 (by simp; omega) (fun j hj => (hown.lt j hj).1)))
      all_goals
        go_wp2_with fail
        go_roundg (gk - 1)
        case measure => omega
        case rel => exact HF.out _ _ hown4 hb4
    · have h3 : ¬ (k : Int) < n := by omega
      obtain rfl : k = n := by omega
      obtain ⟨ao, cp, rfl, hcs⟩ := own_cs hown
      go_wp2
      go_ret
      exact ⟨ao, cp, rfl, hcs, hb⟩
end Go.Proofs.Ytjbhighfajdfhaa.Pull
