/- What the document's Parse makes of a text. Conditions: the text is of at most 2^30 bytes. -/
import Derived.Test.YtikdhfedidknpaaDoorEventDocO
import Derived.Test.YtikdhfedidknpaaDoorEventParse
namespace Go.Proofs.YtikdhfedidknpaaDoor.Event
open Go.ChangeShapes Go.WideShapes Go.ChangeAt Go.RowKit
open Mem (box_fresh owns_fresh set_block one_grown box_kept box_new)
set_option linter.unusedVariables false
set_option linter.unusedSimpArgs false
set_option maxRecDepth 100000
attribute [local irreducible] Go.wpQuiet

theorem splEnd (c : UInt8) (l : List UInt8) : ∃ i, ∃ e, spl c l = i ++ [e] := by
  have h := spl_ne c l
  exact ⟨(spl c l).dropLast, (spl c l).getLast h, (List.dropLast_concat_getLast h).symm⟩
theorem Strs.front {a : Option Addr} {L : List (List UInt8)} {x : List UInt8} {w : World} (h : Strs a (L ++ [x]) w) : Strs a L w := fun j p hp => h j p (by rw [List.getElem?_append_left (List.getElem?_eq_some_iff.1 hp).1]; exact hp)
theorem lines_cut {l : List UInt8} {I : List (List UInt8)} {x : List UInt8} (h0 : l ≠ []) (hI : spl 10 l = I ++ [x]) : parseP MK l = if x = [] then (if 1000 < I.length then ([], 0, 3) else goP MK false I 0 []) else (if 1000 < (I ++ [x]).length then ([], 0, 3) else goP MK true (I ++ [x]) 0 []) := by
  unfold parseP linesP
  rw [if_neg h0, hI]
  simp only [List.getLast?_append, List.getLast?_singleton, Option.some_or, List.dropLast_concat, Option.some.injEq]
  by_cases hx : x = []
  · rw [if_pos hx, if_pos hx]
  · rw [if_neg hx, if_neg hx]
/-- How far the lines were read. -/
def PdI (rest : Bool) (L : List (List UInt8)) (T : List Ev × Nat × Int) (pb B : Nat) (w : World) (v t : Value) (wr : World) : Prop :=
  ∃ (i : Nat) (out : List Ev), i ≤ L.length ∧ out.length = i ∧ t = .int .i64 i ∧ B ≤ wr.heap.size ∧ Own B v out wr ∧ Strs (some ⟨pb, 0, none⟩) L wr ∧ Below w.heap.size w wr ∧ Hid (goP MK rest (L.drop i) i out = T)
theorem goP_step (rest : Bool) {L : List (List UInt8)} {i : Nat} {s : List UInt8} (hs : L[i]? = some s) (out : List Ev) : goP MK rest (L.drop i) i out = if (if (rest && decide (i + 1 = L.length)) = true then 11 else (oneP MK s).bad) ≠ 0 then ([], i, if (rest && decide (i + 1 = L.length)) = true then 11 else (oneP MK s).bad) else goP MK rest (L.drop (i + 1)) (i + 1) (out ++ [(oneP MK s).e]) := by
  have hi : i < L.length := (List.getElem?_eq_some_iff.1 hs).1
  have hd : L.drop i = s :: L.drop (i + 1) := by
    rw [List.drop_eq_getElem_cons hi]
    congr 1
    exact (List.getElem?_eq_some_iff.1 hs).2
  have he : (L.drop (i + 1)).isEmpty = decide (i + 1 = L.length) := by
    cases hc : L.drop (i + 1) with
    | nil =>
      have := List.drop_eq_nil_iff.1 hc
      simp
      omega
    | cons a t =>
      have := congrArg List.length hc
      simp at this
      simp
      omega
  rw [hd]
  conv => lhs; unfold goP
  simp only
  rw [he]
set_option maxHeartbeats 4000000 in
theorem docParse (l : List UInt8) (hl : l.length ≤ 1073741824) (w : World) : Calls Tryd.prog 11 #[.string (str l)] w (IsParsed (parseP MK l) w) := by
  by_cases h0 : l = []
  · subst h0
    have e1 : (str []).toList.isEmpty = true := by rw [str_toList]; rfl
    have e0 : parseP MK [] = ([], 0, 0) := by unfold parseP; rw [if_pos rfl]
    rw [e0]
    generalize str [] = F at *
    go_enter Tryd.func11, Tryd.ntmps11
    go_wp2
    go_ret3
    exact ⟨.slice none 0 0, rfl, Own.nil _ _, Below.refl _ _⟩
  have C0 := Lib.hid (fun (w : World) => docCut l hl 10 w)
  have O0 := Lib.hid (fun (s : List UInt8) (h : s ∈ spl 10 l) (w : World) => docOne s (Nat.le_trans (spl_part_len 10 l s h) hl) w)
  have e1 : (str l).toList.isEmpty = false := by rw [str_toList]; simpa using h0
  obtain ⟨T, hT⟩ : ∃ T, T = parseP MK l := ⟨_, rfl⟩
  rw [← hT]
  obtain ⟨I, x, hI⟩ := splEnd 10 l
  rw [lines_cut h0 hI] at hT
  have hLl : (spl 10 l).length ≤ 1073741825 := by
    rw [spl_len]
    have := List.count_le_length (a := (10 : UInt8)) (l := l)
    omega
  rw [hI] at C0 O0 hLl
  have HT := Lib.hid hT
  clear hT hI h0
  generalize str l = F at *
  rw [List.length_append, List.length_singleton] at hLl
  obtain ⟨n, hn⟩ : ∃ n, n = I.length := ⟨_, rfl⟩
  rw [← hn] at hLl
  have hn' := Lib.hid hn
  have hx : (str x).toList = x := str_toList x
  obtain ⟨i0, hi, hz0, hz1, hz2⟩ := Mem.info_parts infoE
  go_enter Tryd.func11, Tryd.ntmps11
  go_upto_region 4 with (go_at_call 22; refine (C0.out _).mono ?_; rintro e w1 ⟨pa, pc, rfl, hpc, hS, hg⟩)
  rw [List.length_append, List.length_singleton, ← hn] at hpc
  rw [← hn]
  obtain ⟨pb, rfl, hpb, cx⟩ := hS n x (by rw [hn, List.getElem?_append_right (Nat.le_refl _), Nat.sub_self]; rfl)
  clear hn C0
  have m1 : IntKind.i64.wrap (((n + 1 : Nat) : Int) - 1) = (n : Int) := by rw [IntKind.wrap_i64]; omega
  have m2 : ((n + 1 : Nat) : Int) - 1 = (n : Int) := by omega
  have m3 : (n : Int) < ((n + 1 : Nat) : Int) := by omega
  have m4 : (n : Int) ≤ ((n + 1 : Nat) : Int) := by omega
  have m5 : (n : Int) ≤ (pc : Int) := by omega
  have m6 : (0 : Int) ≤ (n : Int) := by omega
  obtain ⟨B, hB⟩ : ∃ B, B = w1.heap.size := ⟨_, rfl⟩
  have HB : Hid (B ≤ w1.heap.size) := Lib.hid (by omega)
  have HpB : Hid (pb < B) := Lib.hid (by rw [hB]; exact hpb)
  have HwB : Hid (w.heap.size ≤ B) := Lib.hid (by rw [hB]; exact hg.size)
  clear hB
  by_cases hx0 : x = []
  · have hem : (str x).toList.isEmpty = true := by rw [hx, hx0]; rfl
    have HT2 : Hid (T = if 1000 < I.length then ([], 0, 3) else goP MK false I 0 []) := Lib.hid (by rw [HT.out, if_pos hx0])
    have HN : Hid (n = I.length) := hn'
    have hS2 := hS.front
    have O2 := Lib.hid (fun (s : List UInt8) (h : s ∈ I) (w : World) => O0.out s (List.mem_append_left _ h) w)
    clear HT O0 hx hx0 hS hn'
    generalize str x = X at *
    go_upto_region 7 with fail
    clear cx hem m1 m2 m3 m4
    by_cases hbig : 1000 < n
    · have hb' : (1000 : Int) < (n : Int) := by omega
      have hT2 : Hid (T = ([], 0, 3)) := Lib.hid (by rw [HT2.out, if_pos (by rw [← HN.out]; exact hbig)])
      clear HT2 hS2 O2
      go_wp2_with fail
      go_ret3
      refine ⟨.slice none 0 0, by rw [hT2.out]; rfl, by rw [hT2.out]; exact Own.nil _ _, hg⟩
    have hb' : ¬ (1000 : Int) < (n : Int) := by omega
    have st : Hid (PdI false I T pb B w (.slice none 0 0) (.int .i64 0) w1) := Lib.hid ⟨0, [], Nat.zero_le _, rfl, rfl, HB.out, Own.nil _ _, hS2, hg, Lib.hid (by rw [HT2.out, if_neg (by rw [← HN.out]; exact hbig)]; rfl)⟩
    have hnb : n ≤ 1000 := by omega
    clear HT2 hS2 hbig
    go_wp2_with fail
    go_loopw [7, 8] (fun v t wr => PdI false I T pb B w v t wr) (fun _ t _ => n - (intOf t).toNat)
    case atStart => exact st.out
    case round =>
      clear st hg
      obtain ⟨i, out, hi1, hol, rfl, hBw, hO, hS3, hg, hgo⟩ := hrel
      rw [← HN.out] at hi1
      obtain ⟨va, vc, hva⟩ := hO.shape
      subst hva
      by_cases hlt : i < n
      · have hlt' : (i : Int) < (n : Int) := by omega
        obtain ⟨s, hs⟩ : ∃ s, (I)[i]? = some s := ⟨_, List.getElem?_eq_getElem (by rw [← HN.out]; exact hlt)⟩
        obtain ⟨pb', hpe, _, cs⟩ := hS3 i s hs
        cases hpe
        have O1 := Lib.hid (fun (w : World) => O2.out s (List.mem_of_getElem? hs) w)
        have hgo2 := hgo.out
        rw [goP_step false hs out, ← HN.out] at hgo2
        have HG := Lib.hid hgo2
        have NX : Hid (∀ v' W e, e = (oneP MK s).e → B ≤ W.heap.size → Own B v' (out ++ [e]) W → Strs (some ⟨pb, 0, none⟩) I W → Below w.heap.size w W → goP MK false ((I).drop (i + 1)) (i + 1) (out ++ [(oneP MK s).e]) = T → PdI false I T pb B w v' (.int .i64 ((i : Int) + 1)) W) := Lib.hid (fun v' W e he h0 h1 h2 h3 h4 => ⟨i + 1, out ++ [e], by rw [← HN.out]; omega, by simp [hol], by go_num, h0, h1, h2, h3, Lib.hid (by rw [he]; exact h4)⟩)
        generalize oneP MK s = G at *
        clear hgo hgo2 hs
        generalize str s = ss at *
        rw [hol]
        have hO2 : wr.ownsRow B 33 6 (.slice va i vc) i (evsC out) := by
          have := hO
          unfold Own at this
          rw [hol] at this
          exact this
        clear hO
        have hHI := Lib.hid hi
        go_upto_region 14 with (go_at_call 23; refine (O1.out _).mono ?_; rintro e w3 ⟨⟨⟨k, a, b, nn, m, s'⟩, bad⟩, rfl, hal, hq⟩; unfold gotV gotC; replace hO2 := owns_fresh hO2 hq; replace hBw := Nat.le_trans hBw hq.size; replace hS3 := hS3.fresh hq; replace hg := hg.trans (hq.mono hg.size); clear hq)
        have hB := new_got w3 ⟨⟨k, a, b, nn, m, s'⟩, bad⟩
        have hO3 := hO2.alloc (.cells (gotC ⟨⟨k, a, b, nn, m, s'⟩, bad⟩) 52)
        have hS4 := hS3.fresh (Mem.alloc1 w3 (.cells (gotC ⟨⟨k, a, b, nn, m, s'⟩, bad⟩) 52))
        have hg4 := hg.alloc hg.size (.cells (gotC ⟨⟨k, a, b, nn, m, s'⟩, bad⟩) 52)
        have hwB := hg.size
        have hBW : B ≤ (w3.alloc (.cells (gotC ⟨⟨k, a, b, nn, m, s'⟩, bad⟩) 52)).heap.size := by rw [World.size_alloc]; omega
        clear hO2 hS3 hg cs O1
        obtain ⟨bb, hbb⟩ : ∃ bb, bb = w3.heap.size := ⟨_, rfl⟩
        rw [← hbb] at hB hwB ⊢
        clear hbb
        unfold gotC at hB hO3 hS4 hg4 hBW
        simp only at hB hO3 hS4 hg4 hBW
        generalize w3.alloc _ = W at *
        obtain ⟨x0, x1, x2, x3, x4, x5, x6, xz⟩ := GotB.seven (g := ⟨⟨k, a, b, nn, m, s'⟩, bad⟩) hB
        simp only at x0 x1 x2 x3 x4 x5 x6

        have HG1 := HG.out
        rw [if_neg (show ¬ (false && decide (i + 1 = n)) = true by simp)] at HG1

        obtain ⟨ha1, ha2⟩ := hal
        simp only at ha1 ha2
        by_cases hbad : bad = 0
        · rw [if_neg (by rw [← ha1]; exact fun h => h hbad)] at HG1
          have hq2 : (bad != 0) = false := by simpa using hbad
          have HG2 := Lib.hid HG1
          have HE := Lib.hid (ha2 (by rw [← ha1]; exact hbad))
          clear HG HG1 ha1 ha2 hbad
          have hcp := Own.nil w.heap.size w
          go_upto_region 18 with fail
          have hO5 := hO3.alloc (.cells #[.int .i64 k, .int .i64 a, .int .i64 b, .int .i64 nn, .int .i64 m, .int .u64 (s' : Int)] 33)
          have hS5 := hS4.fresh (Mem.alloc1 W (.cells #[.int .i64 k, .int .i64 a, .int .i64 b, .int .i64 nn, .int .i64 m, .int .u64 (s' : Int)] 33))
          have hg5 := hg4.alloc hg4.size (.cells #[.int .i64 k, .int .i64 a, .int .i64 b, .int .i64 nn, .int .i64 m, .int .u64 (s' : Int)] 33)
          have hnew := heap_alloc_new W (.cells #[.int .i64 k, .int .i64 a, .int .i64 b, .int .i64 nn, .int .i64 m, .int .u64 (s' : Int)] 33)
          have hB5 : B ≤ (W.alloc (.cells #[.int .i64 k, .int .i64 a, .int .i64 b, .int .i64 nn, .int .i64 m, .int .u64 (s' : Int)] 33)).heap.size := by rw [World.size_alloc]; omega
          clear hO3 hS4 hg4
          go_wp2_with (at_builtin; refine wpList_append_own _ rfl _ _ 23 rfl B 33 i0 _ 6 48 Tryd.underlying23 hHI.out hz0 hz1 hz2 rfl (by decide) _ _ _ rfl hO5 ⟨W.heap.size, 0, none⟩ 1 1 [.int .i64 k, .int .i64 a, .int .i64 b, .int .i64 nn, .int .i64 m, .int .u64 (s' : Int)] rfl rfl (World.news_of_block hnew) (by simp [Value.oneCell']) (by simp only [maxLen]; omega) (by omega) hB5 ?_; intro v' w4 hown4 hgrow4 _)
          go_roundw
          case rel =>
            refine NX.out v' w4 ⟨k, a, b, nn, m, s'⟩ HE.out (Nat.le_trans hB5 hgrow4.size) ?_ ?_ (hg5.grown hgrow4 hg5.size (fun k hk => Nat.le_trans HwB.out (hO5.lt k hk).1)) HG2.out
            · unfold Own
              rw [evsC_snoc, List.length_append, List.length_singleton, hol]
              exact hown4
            · intro j p hp
              obtain ⟨b', e1', e2', e3'⟩ := hS5 j p hp
              cases e1'
              refine ⟨pb, rfl, Nat.lt_of_lt_of_le e2' hgrow4.size, (World.cell?_of_block (hgrow4.block pb e2' (fun e => ?_))).trans e3'⟩
              have := (hO5.lt pb e.symm).1
              have := HpB.out
              omega
          case measure => simp [intOf]; omega
        · have hq2 : (bad != 0) = true := by simpa using hbad
          have HG2 : Hid (([], i, bad) = T) := Lib.hid (by
            rw [if_pos (by rw [← ha1]; exact hbad), ← ha1] at HG1
            exact HG1)
          clear HG HG1 ha1 ha2 hbad
          clear NX
          go_upto_region 17 with fail
          go_quiet (fail)
          rename_i nq
          have hgx := Lib.hid (hg4.trans (Mem.drawn _ nq |>.mono hg4.size))
          clear hg4 hO3 hS4 hB x0 x1 x2 x3 x4 x5 x6 xz
          go_wp2_with fail
          go_ret3
          refine ⟨.slice none 0 0, by rw [← HG2.out]; rfl, by rw [← HG2.out]; exact Own.nil _ _, hgx.out⟩

      · obtain rfl : i = n := by omega
        have HG2 : Hid (T = (out, 0, 0)) := Lib.hid (by
          rw [← hgo.out, List.drop_eq_nil_of_le (by rw [← HN.out]; exact Nat.le_refl _)]
          rfl)
        have HO := Lib.hid hO
        have hg' := Lib.hid hg
        clear hgo hS3 hO hg
        go_wp2_with fail
        go_ret3
        refine ⟨.slice va out.length vc, by rw [HG2.out]; rfl, by rw [HG2.out]; exact Mem.owns_lower HO.out HwB.out, hg'.out⟩
  · have hem : (str x).toList.isEmpty = false := by rw [hx]; simpa using hx0
    have HT2 : Hid (T = if 1000 < (I ++ [x]).length then ([], 0, 3) else goP MK true (I ++ [x]) 0 []) := Lib.hid (by rw [HT.out, if_neg hx0])
    obtain ⟨N, hN⟩ : ∃ N, N = n + 1 := ⟨_, rfl⟩
    have HN : Hid (N = (I ++ [x]).length) := Lib.hid (by rw [hN, hn'.out]; simp)
    have hS2 := hS
    have O2 := O0
    clear HT O0 hx hx0 hS hn'
    generalize hX : str x = X at *
    go_upto_region 7 with fail
    rw [← hN] at *
    clear cx hem m1 m2 m3 m4 hX
    by_cases hbig : 1000 < N
    · have hb' : (1000 : Int) < (N : Int) := by omega
      have hT2 : Hid (T = ([], 0, 3)) := Lib.hid (by rw [HT2.out, if_pos (by rw [← HN.out]; exact hbig)])
      clear HT2 hS2 O2
      go_wp2_with fail
      go_ret3
      refine ⟨.slice none 0 0, by rw [hT2.out]; rfl, by rw [hT2.out]; exact Own.nil _ _, hg⟩
    have hb' : ¬ (1000 : Int) < (N : Int) := by omega
    have st : Hid (PdI true (I ++ [x]) T pb B w (.slice none 0 0) (.int .i64 0) w1) := Lib.hid ⟨0, [], Nat.zero_le _, rfl, rfl, HB.out, Own.nil _ _, hS2, hg, Lib.hid (by rw [HT2.out, if_neg (by rw [← HN.out]; exact hbig)]; rfl)⟩
    have hnb : N ≤ 1000 := by omega
    clear HT2 hS2 hbig
    go_wp2_with fail
    go_loopw [7, 8] (fun v t wr => PdI true (I ++ [x]) T pb B w v t wr) (fun _ t _ => N - (intOf t).toNat)
    case atStart => exact st.out
    case round =>
      clear st hg
      obtain ⟨i, out, hi1, hol, rfl, hBw, hO, hS3, hg, hgo⟩ := hrel
      rw [← HN.out] at hi1
      obtain ⟨va, vc, hva⟩ := hO.shape
      subst hva
      by_cases hlt : i < N
      · have hlt' : (i : Int) < (N : Int) := by omega
        obtain ⟨s, hs⟩ : ∃ s, ((I ++ [x]))[i]? = some s := ⟨_, List.getElem?_eq_getElem (by rw [← HN.out]; exact hlt)⟩
        obtain ⟨pb', hpe, _, cs⟩ := hS3 i s hs
        cases hpe
        have O1 := Lib.hid (fun (w : World) => O2.out s (List.mem_of_getElem? hs) w)
        have hgo2 := hgo.out
        rw [goP_step true hs out, ← HN.out] at hgo2
        have HG := Lib.hid hgo2
        have NX : Hid (∀ v' W e, e = (oneP MK s).e → B ≤ W.heap.size → Own B v' (out ++ [e]) W → Strs (some ⟨pb, 0, none⟩) (I ++ [x]) W → Below w.heap.size w W → goP MK true (((I ++ [x])).drop (i + 1)) (i + 1) (out ++ [(oneP MK s).e]) = T → PdI true (I ++ [x]) T pb B w v' (.int .i64 ((i : Int) + 1)) W) := Lib.hid (fun v' W e he h0 h1 h2 h3 h4 => ⟨i + 1, out ++ [e], by rw [← HN.out]; omega, by simp [hol], by go_num, h0, h1, h2, h3, Lib.hid (by rw [he]; exact h4)⟩)
        generalize oneP MK s = G at *
        clear hgo hgo2 hs
        generalize str s = ss at *
        rw [hol]
        have hO2 : wr.ownsRow B 33 6 (.slice va i vc) i (evsC out) := by
          have := hO
          unfold Own at this
          rw [hol] at this
          exact this
        clear hO
        have hHI := Lib.hid hi
        go_upto_region 14 with (go_at_call 23; refine (O1.out _).mono ?_; rintro e w3 ⟨⟨⟨k, a, b, nn, m, s'⟩, bad⟩, rfl, hal, hq⟩; unfold gotV gotC; replace hO2 := owns_fresh hO2 hq; replace hBw := Nat.le_trans hBw hq.size; replace hS3 := hS3.fresh hq; replace hg := hg.trans (hq.mono hg.size); clear hq)
        have hB := new_got w3 ⟨⟨k, a, b, nn, m, s'⟩, bad⟩
        have hO3 := hO2.alloc (.cells (gotC ⟨⟨k, a, b, nn, m, s'⟩, bad⟩) 52)
        have hS4 := hS3.fresh (Mem.alloc1 w3 (.cells (gotC ⟨⟨k, a, b, nn, m, s'⟩, bad⟩) 52))
        have hg4 := hg.alloc hg.size (.cells (gotC ⟨⟨k, a, b, nn, m, s'⟩, bad⟩) 52)
        have hwB := hg.size
        have hBW : B ≤ (w3.alloc (.cells (gotC ⟨⟨k, a, b, nn, m, s'⟩, bad⟩) 52)).heap.size := by rw [World.size_alloc]; omega
        clear hO2 hS3 hg cs O1
        obtain ⟨bb, hbb⟩ : ∃ bb, bb = w3.heap.size := ⟨_, rfl⟩
        rw [← hbb] at hB hwB ⊢
        clear hbb
        unfold gotC at hB hO3 hS4 hg4 hBW
        simp only at hB hO3 hS4 hg4 hBW
        generalize w3.alloc _ = W at *
        obtain ⟨x0, x1, x2, x3, x4, x5, x6, xz⟩ := GotB.seven (g := ⟨⟨k, a, b, nn, m, s'⟩, bad⟩) hB
        simp only at x0 x1 x2 x3 x4 x5 x6

        by_cases hlast : i + 1 = N
        · have hq : ((i : Int) == (N : Int) - 1) = true := by simp; omega
          have HG2 : Hid (([], i, 11) = T) := Lib.hid (by
            have := HG.out
            rw [if_pos (show (true && decide (i + 1 = N)) = true by simp [hlast]), if_pos (by decide)] at this
            exact this)
          go_upto_region 16 with fail
          have hB2 : GotB (W.setCell ⟨bb, 6, none⟩ (.int .i64 11)) bb ⟨⟨k, a, b, nn, m, s'⟩, 11⟩ := by
            unfold GotB
            rw [set_block hB 6 (.int .i64 11)]
            rfl
          replace hg4 := hg4.setCell (p := ⟨bb, 6, none⟩) hwB (.int .i64 11)
          clear x0 x1 x2 x3 x4 x5 x6 xz hB hO3 hS4
          generalize W.setCell ⟨bb, 6, none⟩ _ = W2 at *
          obtain ⟨x0, x1, x2, x3, x4, x5, x6, xz⟩ := hB2.seven
          simp only at x0 x1 x2 x3 x4 x5 x6
          have hO3 := True.intro
          have hS4 := True.intro
          have hB := True.intro
          clear HG hal
          clear NX
          go_upto_region 17 with fail
          go_quiet (fail)
          rename_i nq
          have hgx := Lib.hid (hg4.trans (Mem.drawn _ nq |>.mono hg4.size))
          clear hg4 hO3 hS4 hB x0 x1 x2 x3 x4 x5 x6 xz
          go_wp2_with fail
          go_ret3
          refine ⟨.slice none 0 0, by rw [← HG2.out]; rfl, by rw [← HG2.out]; exact Own.nil _ _, hgx.out⟩

        have hq : ((i : Int) == (N : Int) - 1) = false := by simp; omega
        have HG1 := HG.out
        rw [if_neg (show ¬ (true && decide (i + 1 = N)) = true by simp [hlast])] at HG1

        obtain ⟨ha1, ha2⟩ := hal
        simp only at ha1 ha2
        by_cases hbad : bad = 0
        · rw [if_neg (by rw [← ha1]; exact fun h => h hbad)] at HG1
          have hq2 : (bad != 0) = false := by simpa using hbad
          have HG2 := Lib.hid HG1
          have HE := Lib.hid (ha2 (by rw [← ha1]; exact hbad))
          clear HG HG1 ha1 ha2 hbad
          have hcp := Own.nil w.heap.size w
          go_upto_region 18 with fail
          have hO5 := hO3.alloc (.cells #[.int .i64 k, .int .i64 a, .int .i64 b, .int .i64 nn, .int .i64 m, .int .u64 (s' : Int)] 33)
          have hS5 := hS4.fresh (Mem.alloc1 W (.cells #[.int .i64 k, .int .i64 a, .int .i64 b, .int .i64 nn, .int .i64 m, .int .u64 (s' : Int)] 33))
          have hg5 := hg4.alloc hg4.size (.cells #[.int .i64 k, .int .i64 a, .int .i64 b, .int .i64 nn, .int .i64 m, .int .u64 (s' : Int)] 33)
          have hnew := heap_alloc_new W (.cells #[.int .i64 k, .int .i64 a, .int .i64 b, .int .i64 nn, .int .i64 m, .int .u64 (s' : Int)] 33)
          have hB5 : B ≤ (W.alloc (.cells #[.int .i64 k, .int .i64 a, .int .i64 b, .int .i64 nn, .int .i64 m, .int .u64 (s' : Int)] 33)).heap.size := by rw [World.size_alloc]; omega
          clear hO3 hS4 hg4
          go_wp2_with (at_builtin; refine wpList_append_own _ rfl _ _ 23 rfl B 33 i0 _ 6 48 Tryd.underlying23 hHI.out hz0 hz1 hz2 rfl (by decide) _ _ _ rfl hO5 ⟨W.heap.size, 0, none⟩ 1 1 [.int .i64 k, .int .i64 a, .int .i64 b, .int .i64 nn, .int .i64 m, .int .u64 (s' : Int)] rfl rfl (World.news_of_block hnew) (by simp [Value.oneCell']) (by simp only [maxLen]; omega) (by omega) hB5 ?_; intro v' w4 hown4 hgrow4 _)
          go_roundw
          case rel =>
            refine NX.out v' w4 ⟨k, a, b, nn, m, s'⟩ HE.out (Nat.le_trans hB5 hgrow4.size) ?_ ?_ (hg5.grown hgrow4 hg5.size (fun k hk => Nat.le_trans HwB.out (hO5.lt k hk).1)) HG2.out
            · unfold Own
              rw [evsC_snoc, List.length_append, List.length_singleton, hol]
              exact hown4
            · intro j p hp
              obtain ⟨b', e1', e2', e3'⟩ := hS5 j p hp
              cases e1'
              refine ⟨pb, rfl, Nat.lt_of_lt_of_le e2' hgrow4.size, (World.cell?_of_block (hgrow4.block pb e2' (fun e => ?_))).trans e3'⟩
              have := (hO5.lt pb e.symm).1
              have := HpB.out
              omega
          case measure => simp [intOf]; omega
        · have hq2 : (bad != 0) = true := by simpa using hbad
          have HG2 : Hid (([], i, bad) = T) := Lib.hid (by
            rw [if_pos (by rw [← ha1]; exact hbad), ← ha1] at HG1
            exact HG1)
          clear HG HG1 ha1 ha2 hbad
          clear NX
          go_upto_region 17 with fail
          go_quiet (fail)
          rename_i nq
          have hgx := Lib.hid (hg4.trans (Mem.drawn _ nq |>.mono hg4.size))
          clear hg4 hO3 hS4 hB x0 x1 x2 x3 x4 x5 x6 xz
          go_wp2_with fail
          go_ret3
          refine ⟨.slice none 0 0, by rw [← HG2.out]; rfl, by rw [← HG2.out]; exact Own.nil _ _, hgx.out⟩

      · obtain rfl : i = N := by omega
        have HG2 : Hid (T = (out, 0, 0)) := Lib.hid (by
          rw [← hgo.out, List.drop_eq_nil_of_le (by rw [← HN.out]; exact Nat.le_refl _)]
          rfl)
        have HO := Lib.hid hO
        have hg' := Lib.hid hg
        clear hgo hS3 hO hg
        go_wp2_with fail
        go_ret3
        refine ⟨.slice va out.length vc, by rw [HG2.out]; rfl, by rw [HG2.out]; exact Mem.owns_lower HO.out HwB.out, hg'.out⟩
end Go.Proofs.YtikdhfedidknpaaDoor.Event
