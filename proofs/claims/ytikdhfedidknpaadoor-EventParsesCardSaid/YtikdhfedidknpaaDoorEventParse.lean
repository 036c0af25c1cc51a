/- What event.Parse makes of a text. Conditions: the listed variables hold what they are listed with; the text is of at most 2^31 bytes. -/
import Derived.Test.YtikdhfedidknpaaDoorEventRead
import Derived.OwnWalk
namespace Go.Proofs.YtikdhfedidknpaaDoor.Event
open Go.ChangeShapes Go.WideShapes Go.ChangeAt Go.RowKit
open Mem (box_fresh owns_fresh)
set_option linter.unusedVariables false
set_option linter.unusedSimpArgs false
set_option maxRecDepth 100000
attribute [local irreducible] Go.wpQuiet

theorem infoE : (Tryd.prog.info? 33).map (fun i => (i.zero, i.size, i.bytes)) = some (some (.agg #[.int .i64 0, .int .i64 0, .int .i64 0, .int .i64 0, .int .i64 0, .int .u64 0]), 6, 48) := by kernel_rfl
def evsC (l : List Ev) : List Value := l.flatMap fun e => (evC e).toList
theorem evsC_snoc (l : List Ev) (e : Ev) : evsC (l ++ [e]) = evsC l ++ (evC e).toList := by simp [evsC]
/-- A row of events of the call's own. -/
def Own (B : Nat) (v : Value) (l : List Ev) (w : World) : Prop := w.ownsRow B 33 6 v l.length (evsC l)
theorem Own.nil (B : Nat) (w : World) : Own B (.slice none 0 0) [] w := ⟨rfl, .inl ⟨rfl, rfl⟩⟩
theorem Own.fresh {B : Nat} {v : Value} {l : List Ev} {w w' : World} (h : Own B v l w) (hb : Below w.heap.size w w') : Own B v l w' := owns_fresh h hb
theorem Own.shape {B : Nat} {v : Value} {l : List Ev} {w : World} (h : Own B v l w) : ∃ a cap, v = .slice a l.length cap := Mem.owns_shape h
/-- What a script is parsed as. -/
def IsParsed (r : List Ev × Nat × Int) (w : World) (e : Ending) (w' : World) : Prop := ∃ v, e = .returned (.tuple #[v, .int .i64 (r.2.1 : Int), .int .i64 r.2.2]) ∧ Own w.heap.size v r.1 w' ∧ Below w.heap.size w w'
def PaI (r : List Ev × Nat × Int) (L : Nat) (w : World) (x v : Value) (wr : World) : Prop :=
  ∃ (k : Nat) (s : List UInt8) (out : List Ev), x = .string (str s) ∧ s.length < k ∧ out.length + s.length ≤ L ∧ Own w.heap.size v out wr ∧ Below w.heap.size w wr ∧ Hid (parseG MK k s out = r)

set_option maxHeartbeats 4000000 in
theorem parse_ (l : List UInt8) (hl : l.length ≤ 2147483648) (w : World) (hT : Tab w) : Calls Tryd.prog 10 #[.string (str l)] w (IsParsed (parseP MK l) w) := by
  rw [← progP_eq MK errs]
  have A0 := Lib.hid (fun (w : World) => ahead_ l (by omega) w)
  unfold progP
  generalize hn : aheadOf l = n at *
  have hn' := Lib.hid hn
  clear hn
  by_cases h1 : 1000 ≤ n
  · rw [if_pos h1]
    have h1' : (1000 : Int) ≤ (n : Int) := by omega
    have hN := Own.nil w.heap.size w
    clear h1
    go_enter Tryd.func10, Tryd.ntmps10
    go_wp2_with (go_at_call 19; refine (A0.out _).mono ?_; rintro e w1 ⟨rfl, hw⟩; replace hw := hw.symm; subst hw)
    go_ret3
    exact ⟨_, rfl, hN, Below.refl _ _⟩
  · rw [if_neg h1]
    have h1' : ¬ (1000 : Int) ≤ (n : Int) := by omega
    obtain ⟨r, hr⟩ : ∃ r, r = parseG MK (l.length + 1) l [] := ⟨_, rfl⟩
    rw [← hr]
    have st : Hid (PaI r l.length w (.string (str l)) (.slice none 0 0) w) := Lib.hid ⟨l.length + 1, l, [], rfl, by omega, by simp, Own.nil _ _, Below.refl _ _, Lib.hid hr.symm⟩
    clear hr h1
    obtain ⟨i0, hi, hz0, hz1, hz2⟩ := Mem.info_parts infoE
    go_enter Tryd.func10, Tryd.ntmps10
    go_wp2_with (go_at_call 19; refine (A0.out _).mono ?_; rintro e w1 ⟨rfl, hw⟩; replace hw := hw.symm; subst hw)
    go_loopw [0, 5] (fun x v wr => PaI r l.length w x v wr) (fun x _ _ => match x with | .string s => s.size | _ => 0)
    case atStart => exact st.out
    case round =>
      clear st
      obtain ⟨k, s, out, rfl, hk, hL, hO, hg, hgo⟩ := hrel
      have hT1 := hT.fresh hg
      have hs0 : s.length ≤ 2147483648 := by omega
      obtain ⟨k', rfl⟩ : ∃ k', k = k' + 1 := ⟨k - 1, by omega⟩
      have hgo' := hgo.out
      unfold parseG at hgo'
      by_cases h0 : s = []
      · rw [if_pos h0] at hgo'
        have e1 : (str s).toList.isEmpty = true := by rw [str_toList, h0]; rfl
        have hgo2 := Lib.hid hgo'
        have hO' := Lib.hid hO
        have hg' := Lib.hid hg
        obtain ⟨va, vc, rfl⟩ := hO.shape
        generalize str s = S at *
        generalize out.length = ol at *
        clear hgo hgo' hO hg hT1 hk h0 hL
        go_wp2_with fail
        go_ret3
        refine ⟨.slice va ol vc, ?_, ?_, hg'.out⟩
        · rw [← hgo2.out]; rfl
        · rw [← hgo2.out]; exact hO'.out
      · rw [if_neg h0] at hgo'
        have e1 : (str s).toList.isEmpty = false := by rw [str_toList]; simpa using h0
        have C0 := Lib.hid (fun (w : World) => cut_ 10 s (by omega) w)
        have hss := str_size s
        by_cases hf : Mask.found 10 s = true
        · rw [if_neg (by simp [hf])] at hgo'
          have R0 := Lib.hid (fun (w : World) (hT : Tab w) => read_ (Mask.ahead 10 s) (Nat.le_trans (ahead_len 10 s) (by omega)) w hT)
          have hbl := behind_lt hf
          rw [hf] at C0
          have hal : (str (Mask.behind 10 s)).size < (str s).size := by rw [str_size, str_size]; exact hbl
          unfold IsRead at R0
          generalize readP MK (Mask.ahead 10 s) = g2 at *
          obtain ⟨⟨ek, ea, eb, en, em, es⟩, gb⟩ := g2
          unfold evV evC at R0
          simp only at R0 hgo'
          obtain ⟨va, vc, hva⟩ := hO.shape
          subst hva
          obtain ⟨ol, hol⟩ : ∃ ol, out.length = ol := ⟨_, rfl⟩
          have hol' := Lib.hid hol
          rw [hol] at hL ⊢
          have hO2 : wr.ownsRow w.heap.size 33 6 (.slice va ol vc) ol (evsC out) := by rw [← hol]; exact hO
          clear hO hol
          have hOf := Lib.hid (fun (w1 w2 : World) (h : w1.ownsRow w.heap.size 33 6 (.slice va ol vc) ol (evsC out)) (hb : Below w1.heap.size w1 w2) => owns_fresh h hb)
          by_cases hb : gb = 0
          · subst hb
            rw [if_neg (by simp)] at hgo'
            have hgo2 := Lib.hid hgo'
            generalize hbeh : Mask.behind 10 s = be at *
            clear hgo hgo' hf h0 hs0 hss hbeh
            go_upto_region 11 with (first
              | (go_at_call 20; refine (C0.out _).mono ?_; rintro e w1 ⟨rfl, h1⟩; replace hg := hg.trans (h1.mono hg.size); replace hO2 := hOf.out _ _ hO2 h1; replace hT1 := hT1.fresh h1; clear h1)
              | (go_at_call 21; refine (R0.out _ hT1).mono ?_; rintro e w2 ⟨rfl, h1⟩; replace hg := hg.trans (h1.mono hg.size); replace hO2 := hOf.out _ _ hO2 h1; replace hT1 := hT1.fresh h1; clear h1))
            have hO3 := (hO2.alloc (.cells #[.int .i64 ek, .int .i64 ea, .int .i64 eb, .int .i64 en, .int .i64 em, .int .u64 (es : Int)] 33)).alloc (.cells #[.int .i64 ek, .int .i64 ea, .int .i64 eb, .int .i64 en, .int .i64 em, .int .u64 (es : Int)] 33)
            have hnew : ((w2.alloc (.cells #[.int .i64 ek, .int .i64 ea, .int .i64 eb, .int .i64 en, .int .i64 em, .int .u64 (es : Int)] 33)).alloc (.cells #[.int .i64 ek, .int .i64 ea, .int .i64 eb, .int .i64 en, .int .i64 em, .int .u64 (es : Int)] 33)).heap[w2.heap.size + 1]? = some (.cells #[.int .i64 ek, .int .i64 ea, .int .i64 eb, .int .i64 en, .int .i64 em, .int .u64 (es : Int)] 33) := by
              have := heap_alloc_new (w2.alloc (.cells #[.int .i64 ek, .int .i64 ea, .int .i64 eb, .int .i64 en, .int .i64 em, .int .u64 (es : Int)] 33)) (.cells #[.int .i64 ek, .int .i64 ea, .int .i64 eb, .int .i64 en, .int .i64 em, .int .u64 (es : Int)] 33)
              simpa using this
            have hB2 : w.heap.size ≤ w2.heap.size := hg.size
            have hA := Lib.hid (fun (W : World) (h : ((w2.alloc (.cells #[.int .i64 ek, .int .i64 ea, .int .i64 eb, .int .i64 en, .int .i64 em, .int .u64 (es : Int)] 33)).alloc (.cells #[.int .i64 ek, .int .i64 ea, .int .i64 eb, .int .i64 en, .int .i64 em, .int .u64 (es : Int)] 33)).grownBy W (some w2.heap.size) ∨ True) => h)
            go_wp2_with (at_builtin; refine wpList_append_own _ rfl (.tmp 36) (.tmp 38) 23 rfl w.heap.size 33 i0 _ 6 48 Tryd.underlying23 hi hz0 hz1 hz2 rfl (by decide) _ _ _ rfl hO3 ⟨w2.heap.size + 1, 0, none⟩ 1 1 [.int .i64 ek, .int .i64 ea, .int .i64 eb, .int .i64 en, .int .i64 em, .int .u64 (es : Int)] rfl rfl (World.news_of_block hnew) (by simp [Value.oneCell']) (by simp only [maxLen]; omega) (by omega) (by simp; omega) ?_; intro v' w4 hown4 hgrow4 _)
            clear hnew hO3 hA
            go_roundw
            case rel =>
              refine ⟨k', be, out ++ [⟨ek, ea, eb, en, em, es⟩], rfl, by omega, by simp only [List.length_append, List.length_singleton, hol'.out]; omega, ?_, ((hg.alloc hB2 _).alloc (by simp; omega) _).grown hgrow4 (by simp; omega) (fun k hk => (hO2.lt k hk).1), hgo2⟩
              unfold Own
              rw [evsC_snoc, List.length_append, List.length_singleton, hol'.out]
              exact hown4
            case measure =>
              simp only
              exact hal
          · rw [if_pos hb] at hgo'
            have hb' : (gb != 0) = true := by simpa using hb
            have hgo2 := Lib.hid hgo'
            have hN := Own.nil w.heap.size
            generalize str s = S at *
            clear hgo hgo' hf hk h0 hL hs0 hss hb hal hbl
            go_wp2_with (first
              | (go_at_call 20; refine (C0.out _).mono ?_; rintro e w1 ⟨rfl, h1⟩; replace hg := hg.trans (h1.mono hg.size); replace hT1 := hT1.fresh h1; clear h1)
              | (go_at_call 21; refine (R0.out _ hT1).mono ?_; rintro e w2 ⟨rfl, h1⟩; replace hg := hg.trans (h1.mono hg.size); replace hT1 := hT1.fresh h1; clear h1))
            go_ret3
            refine ⟨.slice none 0 0, ?_, ?_, hg.alloc hg.size _⟩
            · rw [← hgo2.out, hol'.out]; rfl
            · rw [← hgo2.out]; exact Own.nil _ _
        · have hf' : Mask.found 10 s = false := by simpa using hf
          rw [if_pos hf'] at hgo'
          rw [hf'] at C0
          have hgo2 := Lib.hid hgo'
          have hN := Own.nil w.heap.size w
          obtain ⟨va, vc, hva⟩ := hO.shape
          subst hva
          generalize str s = S at *
          generalize str (Mask.ahead 10 s) = S1 at *
          generalize str (Mask.behind 10 s) = S2 at *
          obtain ⟨ol, hol⟩ : ∃ ol, out.length = ol := ⟨_, rfl⟩
          have hol' := Lib.hid hol
          rw [hol] at hL ⊢
          clear hgo hgo' hO hk h0 hL hs0 hf hf' hss hol
          go_wp2_with (go_at_call 20; refine (C0.out _).mono ?_; rintro e w1 ⟨rfl, h1⟩; replace hg := hg.trans (h1.mono hg.size); replace hT1 := hT1.fresh h1; clear h1)
          go_ret3
          refine ⟨.slice none 0 0, ?_, ?_, hg⟩
          · rw [← hgo2.out, hol'.out]; rfl
          · rw [← hgo2.out]; exact Own.nil _ _
end Go.Proofs.YtikdhfedidknpaaDoor.Event
