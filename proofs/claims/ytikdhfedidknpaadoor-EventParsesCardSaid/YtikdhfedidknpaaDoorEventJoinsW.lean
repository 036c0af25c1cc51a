/- The law EventJoins, walked. Conditions: the listed variables hold what they are listed with. -/
import Derived.Test.YtikdhfedidknpaaDoorEventBackW
import Derived.Test.YtikdhfedidknpaaDoorMemAny
namespace Go.Proofs.YtikdhfedidknpaaDoor.Event
open Go.ChangeShapes Go.WideShapes Go.ChangeAt Go.RowKit
open Mem (box_fresh owns_fresh)
set_option linter.unusedVariables false
set_option linter.unusedSimpArgs false
set_option maxRecDepth 100000

theorem wpList_append_wanted {P : Program} {w : World} {ops : Array Oper} {rest : List Oper} {o : Oper} {a : Act} {Q : Exit → Act → World → Prop} (hw : Region.wanted o (Go.yielded ops a.tmps) = true) (s x : Operand) (t : TypeId)
    (ho : o.op = .call { callee := .builtin .append, args := #[s, x], argTypes := #[t, t] })
    (base : Nat) (e : TypeId) (i : TypeInfo) (z : Value) (size bytes : Nat) (ht : P.underlying t = some (.slice e)) (hi : P.info? e = some i) (hz : i.zero = some z)
    (hsize : i.size = size) (hby : i.bytes = bytes) (hzs : z.cells.size = size) (hsz : 0 < size)
    (g0 n c0 : Nat) (xs : List Value) (hs : a.eval s = .slice (some ⟨g0, 0, none⟩) n c0) (hown : w.ownsRow base e size (.slice (some ⟨g0, 0, none⟩) n c0) n xs)
    (v : Option Addr) (m c : Nat) (ys : List Value) (hx : a.eval x = .slice v m c) (hl : ys.length = m * size) (hnil : v = none → m = 0 ∧ c = 0) (hys : ∀ ad, v = some ad → ∀ j u, ys[j]? = some u → w.cell? (ad.add j) = some u) (h1 : ∀ y ∈ ys, y.oneCell' = true)
    (h63 : n + m ≤ maxLen) (hbytes : (n + m) * bytes ≤ 140737488355328) (hbase : base ≤ w.heap.size) (H : Nat) (hH : w.heap.size = H)
    (h : ∀ g cap w', w'.ownsRow base e size (.slice (some ⟨g, 0, none⟩) (n + m) cap) (n + m) (xs ++ ys) → w.grownBy w' (some g0) → (g = g0 ∨ g = H) → wpList P ops Q rest (a.put o.dst (.slice (some ⟨g, 0, none⟩) (n + m) cap)) w') :
    wpList P ops Q (o :: rest) a w :=
  wpList_step fun K hK => by
    rw [if_pos hw]
    exact Mem.wp_append_any w s x t ho base e i z size bytes ht hi hz hsize hby hzs hsz g0 n c0 xs hs hown v m c ys hx hl hnil hys h1 h63 hbytes hbase H hH fun g cap w' k1 k2 k3 => hK _ _ (h g cap w' k1 k2 k3)
theorem evsC_one (l : List Ev) : ∀ y ∈ evsC l, y.oneCell' = true := by
  intro y hy
  unfold evsC at hy
  obtain ⟨e, _, he⟩ := List.mem_flatMap.1 hy
  simp [evC] at he
  rcases he with rfl | rfl | rfl | rfl | rfl | rfl <;> rfl
theorem Own.give {B n c : Nat} {va : Option Addr} {l : List Ev} {w : World} (h : Own B (.slice va n c) l w) : (evsC l).length = n * 6 ∧ (va = none → n = 0 ∧ c = 0) ∧ (∀ ad, va = some ad → ∀ j u, (evsC l)[j]? = some u → w.cell? (ad.add j) = some u) := by
  have hn := h.evs.2
  refine ⟨by rw [evsC_len, hn], fun hv => ?_, fun ad had j u hu => ?_⟩
  · rcases h.2 with ⟨e1, e2⟩ | ⟨g, cap, cur, e1, _⟩
    · cases e1; exact ⟨rfl, rfl⟩
    · cases e1; cases hv
  · rcases h.2 with ⟨e1, e2⟩ | ⟨g, cap, cur, e1, _⟩
    · cases e1; cases had
    · cases e1
      cases had
      have h' : w.ownsRow B 33 6 (.slice (some ⟨g, 0, none⟩) l.length c) l.length (evsC l) := h
      have hj := (List.getElem?_eq_some_iff.1 hu).1
      rw [evsC_len] at hj
      rw [Addr.add_lit, Nat.zero_add, h'.cellAt _ (by omega)]
      exact hu
theorem Own.of_app {B n : Nat} {v : Value} {l m : List Ev} {w : World} (h : w.ownsRow B 33 6 v n (evsC l ++ evsC m)) (hn : n = (l ++ m).length) : Own B v (l ++ m) w := by
  subst hn
  unfold Own evsC at *
  rw [List.flatMap_append]
  exact h

theorem goP_len (M : Mk) (rest : Bool) : ∀ (A : List (List UInt8)) (i : Nat) (out : List Ev), (goP M rest A i out).1.length ≤ out.length + A.length
  | [], i, out => by simp [goP]
  | s :: A, i, out => by
    rw [goP_cons]
    split
    · simp
    · have := goP_len M rest A (i + 1) (out ++ [(oneP M s).e])
      simp only [List.length_append, List.length_cons, List.length_nil] at this ⊢
      omega
theorem parse_few (l : List UInt8) : (parseP MK l).1.length ≤ 1000 := by
  rw [parse_lines]
  split
  · simp
  · have := goP_len MK (linesP l).2 (linesP l).1 0 []
    simp only [List.length_nil] at this
    omega
/-- What the three answers have to do with each other. -/
def Joined (r1 r2 r3 : List Ev × Nat × Int) : Prop := r1.2.2 ≠ 3 → r3.2.2 ≠ 3 →
  (r1.2.2 ≠ 0 → r3.2.2 = r1.2.2 ∧ r1.2.1 = r3.2.1) ∧ (r1.2.2 = 0 → r2.2.2 ≠ 0 → r3.2.2 = r2.2.2) ∧ (r1.2.2 = 0 → r2.2.2 = 0 → r3.2.2 = 0 ∧ r3.1 = r1.1 ++ r2.1)
theorem joined (s t : List UInt8) : Joined (parseP MK (s ++ [10])) (parseP MK t) (parseP MK (s ++ 10 :: t)) := fun h1 h2 => joins MK s t h1 h2
set_option maxHeartbeats 4000000 in
theorem joins_ (s t : List UInt8) (w : World) (hT : Tab w) : Calls Tryd.prog 7 #[.string (str s), .string (str t)] w (IsYes w) := by
  have S0 := Lib.hid (fun (w : World) (hT : Tab w) => shown w hT)
  have hs := str_size s
  have ht := str_size t
  by_cases hbig : 5000 < s.length
  · have hb' : (5000 : Int) < ((str s).size : Int) := by rw [hs]; omega
    clear hs ht
    generalize str s = A at *
    generalize str t = B at *
    go_enter Tryd.func7, Tryd.ntmps7
    go_wp2_with (go_at_call 9; refine (S0.out _ hT).mono ?_; rintro e w1 ⟨rfl, hg⟩)
    go_ret
    exact ⟨rfl, hg⟩
  have hb1 : ¬ (5000 : Int) < ((str s).size : Int) := by rw [hs]; omega
  by_cases hbig2 : 5000 < t.length
  · have hb' : (5000 : Int) < ((str t).size : Int) := by rw [ht]; omega
    clear hs ht
    generalize str s = A at *
    generalize str t = B at *
    go_enter Tryd.func7, Tryd.ntmps7
    go_wp2_with (go_at_call 9; refine (S0.out _ hT).mono ?_; rintro e w1 ⟨rfl, hg⟩)
    go_ret
    exact ⟨rfl, hg⟩
  have hb2 : ¬ (5000 : Int) < ((str t).size : Int) := by rw [ht]; omega
  have P1 := Lib.hid (fun (w : World) (hT : Tab w) => parse_ (s ++ [10]) (by simp; omega) w hT)
  have P2 := Lib.hid (fun (w : World) (hT : Tab w) => parse_ t (by omega) w hT)
  have P3 := Lib.hid (fun (w : World) (hT : Tab w) => parse_ (s ++ 10 :: t) (by simp; omega) w hT)
  have J := Lib.hid (joined s t)
  have f1 := parse_few (s ++ [10])
  have f2 := parse_few t
  have f3 := parse_few (s ++ 10 :: t)
  have c1 : ∀ w, (Op.stringOp .add (str s) ⟨#[10]⟩).run Tryd.prog w = .ok (.string (str (s ++ [10]))) w := fun w => str_add s [10] (by simp; omega) w
  have c2 : ∀ w, (Op.stringOp .add (str (s ++ [10])) (str t)).run Tryd.prog w = .ok (.string (str (s ++ 10 :: t))) w := fun w => by
    have := str_add (s ++ [10]) t (by simp; omega) w
    rw [this]; simp
  generalize parseP MK (s ++ [10]) = r1 at *
  generalize parseP MK t = r2 at *
  generalize parseP MK (s ++ 10 :: t) = r3 at *
  obtain ⟨l1, n1, b1⟩ := r1
  obtain ⟨l2, n2, b2⟩ := r2
  obtain ⟨l3, n3, b3⟩ := r3
  simp only at f1 f2 f3
  clear hs ht hbig hbig2
  generalize str (s ++ [10]) = A1 at *
  generalize str (s ++ 10 :: t) = A3 at *
  generalize str s = A at *
  generalize str t = B at *
  have FA := Lib.hid f1
  have FB := Lib.hid f2
  have FC := Lib.hid f3
  clear f1 f2 f3
  go_enter Tryd.func7, Tryd.ntmps7
  go_upto_region 5 with (first
      | (go_at_call 9; refine (S0.out _ hT).mono ?_; rintro e w1 ⟨rfl, hg⟩; replace hT := hT.fresh hg)
      | (go_at_call 10; refine (P1.out _ hT).mono ?_; rintro e w2 ⟨v1, rfl, hO1, h1⟩; replace hg := hg.trans (h1.mono hg.size); replace hT := hT.fresh h1; clear h1))
  obtain ⟨va1, vc1, rfl⟩ := hO1.shape
  replace hO1 := Lib.hid hO1
  go_upto_region 6 with (go_at_call 10; refine (P2.out _ hT).mono ?_; rintro e w3 ⟨v2, rfl, hO2, h1⟩; replace hg := hg.trans (h1.mono hg.size); replace hT := hT.fresh h1; replace hO1 := Lib.hid (hO1.out.fresh h1); clear h1)
  obtain ⟨va2, vc2, rfl⟩ := hO2.shape
  replace hO2 := Lib.hid hO2
  go_upto_region 7 with (go_at_call 10; refine (P3.out _ hT).mono ?_; rintro e w4 ⟨v3, rfl, hO3, h1⟩; replace hg := hg.trans (h1.mono hg.size); replace hT := hT.fresh h1; replace hO1 := Lib.hid (hO1.out.fresh h1); replace hO2 := Lib.hid (hO2.out.fresh h1); clear h1)
  obtain ⟨va3, vc3, rfl⟩ := hO3.shape
  replace hO3 := Lib.hid hO3
  clear S0 P1 P2 P3 hT hb1 hb2 c1 c2
  by_cases e1 : b1 = 3
  · subst e1
    go_wp2_with fail
    go_ret
    exact ⟨rfl, hg⟩
  have e1' : (b1 == 3) = false := by simpa using e1
  by_cases e3 : b3 = 3
  · subst e3
    go_wp2_with fail
    go_ret
    exact ⟨rfl, hg⟩
  have e3' : (b3 == 3) = false := by simpa using e3
  obtain ⟨j1, j2, j3⟩ := J.out e1 e3
  simp only at j1 j2 j3
  clear J
  by_cases z1 : b1 = 0
  · by_cases z2 : b2 = 0
    · obtain ⟨rfl, rfl⟩ := j3 z1 z2
      subst z1 z2
      clear j1 j2 j3 e1 e3 e1' e3'
      obtain ⟨i0, hi, hz0, hz1, hz2⟩ := Mem.info_parts infoE
      have fa := FA.out
      have fb := FB.out
      have SM := Lib.hid (fun (w : World) (a b : Option Addr) (c1 c2 : Nat) (h1 : Evs a (l1 ++ l2) w) (h2 : Evs b (l1 ++ l2) w) => same_ a b (l1 ++ l2) c1 c2 w h1 h2 (by simp only [List.length_append]; omega))
      obtain ⟨k1, hk1⟩ : ∃ k, k = l1.length := ⟨_, rfl⟩
      obtain ⟨k2, hk2⟩ : ∃ k, k = l2.length := ⟨_, rfl⟩
      have hlen : (l1 ++ l2).length = k1 + k2 := by rw [hk1, hk2, List.length_append]
      have HL := Lib.hid hlen
      have HK1 := Lib.hid hk1
      have HK2 := Lib.hid hk2
      rw [hlen] at SM hO3 ⊢
      rw [← hk1] at hO1 fa ⊢
      rw [← hk2] at hO2 fb ⊢
      clear hlen hk1 hk2 FA FB FC
      have hm : (w4.alloc (.cells #[] 33)).ownsRow w4.heap.size 33 6 (.slice (some ⟨w4.heap.size, 0, none⟩) 0 0) 0 [] := World.ownsRow_made w4 #[] 0 (Nat.le_refl _) (by simp [maxLen]) rfl
      have hb0 := Mem.alloc1 w4 (.cells #[] 33)
      have g1 := Own.give (hO1.out.fresh hb0)
      obtain ⟨g1a, g1b, g1c⟩ := g1
      have G1 := Lib.hid g1c
      have G1b := Lib.hid g1b
      have G1a := Lib.hid g1a
      clear g1a g1b g1c
      have HB5 := Lib.hid (fun (w5 : World) (h : (w4.alloc (.cells #[] 33)).grownBy w5 (some w4.heap.size)) => (show Below w4.heap.size w4 w5 from hb0.grown h hb0.size (fun k hk => by cases hk; exact Nat.le_refl _)))
      go_wp2_with (first
        | (at_builtin; refine wpList_append_wanted (by rfl) (.tmp 82) (.tmp 83) 23 rfl w4.heap.size 33 i0 _ 6 48 Tryd.underlying23 hi hz0 hz1 hz2 rfl (by decide) w4.heap.size 0 0 [] rfl hm va1 k1 vc1 (evsC l1) rfl G1a.out G1b.out G1.out (evsC_one l1) (by simp only [maxLen]; omega) (by omega) hb0.size _ rfl ?_; intro g2 cap2 w5 hown2 hgrow2 hg2; rw [Nat.zero_add] at hown2; rw [Nat.zero_add]; rw [List.nil_append] at hown2; have hb5 := HB5.out w5 hgrow2; have hg2' : w4.heap.size ≤ g2 := (hown2.lt g2 rfl).1; have g2q := Own.give (hO2.out.fresh hb5); obtain ⟨g2a, g2b, g2c⟩ := g2q; have G2a := Lib.hid g2a; have G2b := Lib.hid g2b; have G2 := Lib.hid g2c; clear g2a g2b g2c hg2)
        | (at_builtin; refine wpList_append_wanted (by rfl) (.tmp 84) (.tmp 85) 23 rfl w4.heap.size 33 i0 _ 6 48 Tryd.underlying23 hi hz0 hz1 hz2 rfl (by decide) g2 k1 cap2 (evsC l1) rfl hown2 va2 k2 vc2 (evsC l2) rfl G2a.out G2b.out G2.out (evsC_one l2) (by simp only [maxLen]; omega) (by omega) hb5.size _ rfl ?_; intro g3 cap3 w6 hown3 hgrow3 hg3; have hb6 := hb5.grown hgrow3 hb5.size (fun k hk => by cases hk; exact hg2'); have EV6 := Lib.hid (Own.of_app hown3 HL.out.symm).evs.1; have EV3 := Lib.hid (hO3.out.fresh hb6).evs.1; clear hg3)
        | (go_at_call 12; refine (SM.out _ _ _ _ _ EV3.out EV6.out).mono ?_; rintro e w7 ⟨rfl, h1⟩; replace hg := (hg.trans (hb6.mono hg.size)).trans (h1.mono (hg.trans (hb6.mono hg.size)).size); clear h1))
      go_ret
      exact ⟨rfl, hg⟩
    · have q := j2 z1 z2
      subst q z1
      have z2' : (b3 != 0) = true := by simpa using z2
      clear j1 j2 j3 e1 e3 z2
      go_wp2_with fail
      go_ret
      exact ⟨by simp, hg⟩
  · obtain ⟨rfl, rfl⟩ := j1 z1
    have z1' : (b3 != 0) = true := by simpa using z1
    clear j1 j2 j3 e1 e3 z1
    go_wp2_with fail
    go_ret
    exact ⟨by simp, hg⟩
end Go.Proofs.YtikdhfedidknpaaDoor.Event
