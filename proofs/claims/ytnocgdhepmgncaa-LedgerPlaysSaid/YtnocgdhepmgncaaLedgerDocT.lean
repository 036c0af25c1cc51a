/- The document's Tasks: rising, put in one by one. Conditions: 60 rows at most. -/
import Derived.Test.YtnocgdhepmgncaaLedgerDocC
namespace Go.Proofs.Ytnocgdhepmgncaa.Ledger
open Go.ChangeShapes Go.WideShapes Go.ChangeAt Go.RowKit Go.Sort Mem
set_option linter.unusedVariables false
set_option linter.unusedSimpArgs false
set_option maxRecDepth 100000

theorem src_take {w : World} {B n c g : Nat} {e : TypeId} {out : List Int} (h : w.ownsRow B e 1 (.slice (some ⟨g, 0, none⟩) n c) n (cL out)) (a : Nat) : ∀ ad, some (⟨g, 0, none⟩ : Addr) = some ad → ∀ j u, (cL (out.take a))[j]? = some u → w.cell? (ad.add j) = some u := by
  intro ad e j u hj
  cases e
  have hl := (List.getElem?_eq_some_iff.1 hj).1
  simp at hl
  rw [add_at, Nat.zero_add]
  simp only [cL, List.getElem?_map, List.getElem?_take_of_lt (show j < a by omega)] at hj
  obtain ⟨g', c', e, hc, _⟩ := row_cell (k := j) (x := u) h (by simpa using hj)
  cases e
  exact hc
theorem src_drop {w : World} {B n c g : Nat} {e : TypeId} {out : List Int} (h : w.ownsRow B e 1 (.slice (some ⟨g, 0, none⟩) n c) n (cL out)) (a : Nat) : ∀ ad, some (⟨g, a, none⟩ : Addr) = some ad → ∀ j u, (cL (out.drop a))[j]? = some u → w.cell? (ad.add j) = some u := by
  intro ad e j u hj
  cases e
  rw [add_at]
  simp only [cL, List.getElem?_map, List.getElem?_drop] at hj
  obtain ⟨g', c', e, hc, _⟩ := row_cell (k := a + j) (x := u) h (by simpa using hj)
  cases e
  exact hc
theorem infoI : (Try.prog.info? 3).map (fun i => (i.zero, i.size, i.bytes)) = some (some (.int .i64 0), 1, 8) := by kernel_rfl
theorem cL_one (xs : List Int) : ∀ y ∈ cL xs, y.oneCell' = true := by intro y hy; obtain ⟨_, _, rfl⟩ := List.mem_map.1 hy; rfl
def TsI (l : List De) (W : World) (left : Nat) (t3 t4 : Value) (wr : World) : Prop :=
  ∃ (k : Nat) (out : List Int), k ≤ l.length ∧ left = l.length - k ∧ t4 = .int .i64 (k : Int) ∧ Ins (fun i => dTask i l) l k out ∧ (∀ x ∈ out, I64 x) ∧ out.length ≤ k ∧ (out = [] → t3 = .slice none 0 0) ∧ wr.ownsRow W.heap.size 3 1 t3 out.length (cL out) ∧ Below W.heap.size W wr
def AtI (out : List Int) (n : Nat) (t : Int) (W : World) (left : Nat) (v : Value) (wr : World) : Prop := ∃ a : Nat, a ≤ n ∧ left = n - a ∧ v = .int .i64 (a : Int) ∧ Hid (∀ j x, j < a → out[j]? = some x → x < t) ∧ wr = W
set_option maxHeartbeats 8000000 in
theorem refTasks (lo hi : Nat) (v : Option Addr) (c : Nat) (l : List De) (w : World) (h : Doc lo hi v c l w) (hp : Pos l) (ht : dTot l ≤ 9223372036854775807) :
    Calls Try.prog 24 #[docV v l.length c] w (Told (fun i => dTask i l) w) := by
  obtain ⟨i0, hi0, hz0, hz1, hz2⟩ := info_parts infoI
  have hf := h.few
  have a0 := alloc1 w (docO v l.length c)
  have n0 := heap_alloc_new w (docO v l.length c)
  have HB := Lib.hid (fun w' (hg : Below (w.alloc (docO v l.length c)).heap.size (w.alloc (docO v l.length c)) w') => (show (_ ∧ _) ∧ Doc lo hi v c l w' from ⟨one (box_fresh n0 hg), (h.fresh a0).fresh hg⟩))
  have FIN : Hid (∀ w' u out, Below (w.alloc (docO v l.length c)).heap.size (w.alloc (docO v l.length c)) w' → Ins (fun i => dTask i l) l l.length out → (∀ x ∈ out, I64 x) → out.length ≤ l.length → w'.ownsRow (w.alloc (docO v l.length c)).heap.size 3 1 u out.length (cL out) → Told (fun i => dTask i l) w (.returned u) w') := Lib.hid fun w' u out hg h1 h2 h3 h4 => by
    obtain ⟨ao, cap, rfl⟩ := owns_shape h4
    exact ⟨ao, cap, out, rfl, h1.done, by omega, h2, owns_lower h4 a0.size, fresh_trans a0 hg⟩
  have TK := Lib.hid (fun (i : Int) W' (hD : Doc lo hi v c l W') => refTask lo hi v c l i W' hD hp ht)
  clear h n0 a0
  unfold docV docO at *
  go_enter Try.func24, Try.ntmps24
  go_upto_region 3 with fail
  generalize w.alloc _ = W at *
  generalize w.heap.size = z at *
  go_loopg [3, 4, 5, 6, 7] l.length (fun left t3 t4 _ _ _ wr => TsI l W left t3 t4 wr)
  case atStart => exact ⟨0, [], by omega, by omega, rfl, Ins.zero _ _, by simp, by simp, fun _ => rfl, World.ownsRow_nil _ _ _ _, Below.refl _ _⟩
  case round =>
    obtain ⟨k, out, hk, rfl, rfl, hI, h64, hol, hemp, hown, hb⟩ := hrel
    obtain ⟨uo, uc, rfl⟩ := owns_shape hown
    obtain ⟨⟨x0, xz⟩, hD⟩ := HB.out wr hb
    by_cases hlt : k < l.length
    · have q1 : (k : Int) < l.length := by omega
      obtain ⟨k1, o1, r, rfl, hr, hm, CC⟩ := hD.lst.row hlt
      obtain ⟨y0, y1, y2, y3⟩ := CC _ hD.lst
      obtain ⟨t1, t2⟩ := (hD.des r hm).t
      have TK1 := Lib.hid (TK.out r.t wr hD)
      have CX := Lib.hid (fun w' (hg : Below wr.heap.size wr w') => (HB.out w' (hb.trans (hg.mono hb.size))).1)
      have HS := Lib.hid (fun w' (hg : Below wr.heap.size wr w') => has _ uo out.length uc out r.t w' (path_row (owns_fresh hown hg) h64 (by omega)))
      have SKIP : Hid (dTask r.t l = 0 ∨ r.t ∈ out → ∀ w', Below wr.heap.size wr w' → TsI l W (l.length - (k + 1)) (.slice uo out.length uc) (.int .i64 ((k : Int) + 1)) w') := Lib.hid fun hs w' hg => ⟨k + 1, out, by omega, rfl, by go_num, hI.skip hr hs, h64, by omega, hemp, owns_fresh hown hg, hb.trans (hg.mono hb.size)⟩
      have bw := Below.refl wr.heap.size wr
      generalize hdt : dTask r.t l = f at *
      by_cases hf0 : f = 0
      · have NX := Lib.hid (SKIP.out (.inl hf0))
        subst hf0
        clear SKIP HS FIN HB TK CC hD hI h64 hol hemp hown hb hr hm hp ht hdt
        go_wp2_with (go_at_call 13; refine TK1.out.mono ?_; rintro e w2 ⟨rfl, hg2⟩; replace bw := bw.trans hg2)
        go_roundg (l.length - (k + 1))
        case measure => omega
        case rel => exact NX.out _ bw
      · have hf1 : (f == 0) = false := by simpa using hf0
        cases hmem : decide (r.t ∈ out) with
        | true =>
          rw [hmem] at HS
          have NX := Lib.hid (SKIP.out (.inr (by simpa using hmem)))
          clear SKIP FIN HB TK CC hD hI h64 hol hemp hown hb hr hm hp ht hdt hf0
          go_wp2_with (first
            | (go_at_call 13; refine TK1.out.mono ?_; rintro e w2 ⟨rfl, hg2⟩; replace bw := bw.trans hg2)
            | (go_at_call 25; refine (HS.out _ bw).mono ?_; rintro e w3 ⟨rfl, hg3⟩; replace bw := fresh_trans bw hg3))
          go_roundg (l.length - (k + 1))
          case measure => omega
          case rel => exact NX.out _ bw
        | false =>
          rw [hmem] at HS
          have PUT : Hid (∀ a m u w', a ≤ out.length → (∀ j x, j < a → out[j]? = some x → x < r.t) → (∀ x, out[a]? = some x → ¬ x < r.t) → m = out.length + 1 → w'.ownsRow W.heap.size 3 1 u m (cL (out.take a) ++ [.int .i64 r.t] ++ cL (out.drop a)) → Below wr.heap.size wr w' → TsI l W (l.length - (k + 1)) u (.int .i64 ((k : Int) + 1)) w') := Lib.hid fun a m u w' ha hlo hhi hm2 ho hg => by
            have hL : (out.take a ++ [r.t] ++ out.drop a).length = m := by simp; omega
            refine ⟨k + 1, out.take a ++ [r.t] ++ out.drop a, by omega, rfl, by go_num, hI.put hr (by rw [hdt]; exact hf0) (by simpa using hmem) ha hlo hhi, fun x hx => ?_, by omega, fun e => by simp at e, by rw [hL]; simpa [cL] using ho, hb.trans (hg.mono hb.size)⟩
            simp only [List.mem_append, List.mem_singleton] at hx
            rcases hx with (hx | rfl) | hx
            · exact h64 x (List.mem_of_mem_take hx)
            · exact ⟨t1, t2⟩
            · exact h64 x (List.mem_of_mem_drop hx)
          have hsz := hb.size
          have OW := Lib.hid (fun w' (hg : Below wr.heap.size wr w') => owns_fresh hown hg)
          have LC : Hid (∀ (j : Nat) (x : Int), out[j]? = some x → I64 x) := Lib.hid fun j x hj => h64 x (List.mem_of_getElem? hj)
          clear SKIP FIN HB TK CC hI h64 hr hm hp ht hdt hf0 hD
          by_cases ho0 : out = []
          · obtain he := hemp ho0
            subst ho0
            cases he
            have PUT2 : Hid (∀ m u w', m = 1 → w'.ownsRow wr.heap.size 3 1 u m ([] ++ [.int .i64 r.t] ++ []) → Below wr.heap.size wr w' → TsI l W (l.length - (k + 1)) u (.int .i64 ((k : Int) + 1)) w') := Lib.hid fun m u w' hm2 ho hg => PUT.out 0 m u w' (by simp) (fun j x hj => by omega) (fun x hx => by simp at hx) (by simp; omega) (by simpa [cL] using owns_lower ho hsz) hg
            clear PUT hown hb hmem hol
            generalize r.t = t at *
            go_wp2_with (first
              | (go_at_call 13; refine TK1.out.mono ?_; rintro e w2 ⟨rfl, hg2⟩; replace bw := bw.trans hg2)
              | (go_at_call 25; refine (HS.out _ bw).mono ?_; rintro e w3 ⟨rfl, hg3⟩; replace bw := fresh_trans bw hg3))
            obtain ⟨x0', xz'⟩ := CX.out _ bw
            clear x0 xz y0 y1 y2 y3
            go_loopg [6] 0 (fun left v wr' => AtI [] 0 t w3 left v wr')
            case atStart => exact ⟨0, by omega, rfl, rfl, Lib.hid (fun j x hj => by omega), rfl⟩
            case round =>
              obtain ⟨a, ha, rfl, rfl, hA, hw⟩ := hrel
              obtain rfl := hw.symm
              obtain rfl : a = 0 := by omega
              have m1 : (w3.alloc (.cells #[] 3)).ownsRow w3.heap.size 3 1 (.slice (some ⟨w3.heap.size, 0, none⟩) 0 0) 0 [] := Mem.made rfl (Nat.le_refl _)
              have zA : (w3.alloc (.cells #[] 3)).heap.size = w3.heap.size + 1 := World.size_alloc _ _
              have gA := alloc1 w3 (.cells #[] 3)
              have bA := fresh_trans bw gA
              have bsz := bw.size
              go_wp2_with (first
                | (at_builtin; refine wpList_append_any _ rfl (.tmp 44) (.tmp 47) 30 rfl w3.heap.size 3 i0 _ 1 8 Try.underlying30 hi0 hz0 hz1 hz2 rfl (by decide) _ _ _ [] rfl m1 none 0 0 [] rfl rfl (fun _ => ⟨rfl, rfl⟩) (fun ad e => by cases e) (by intro y hy; cases hy) (by simp only [maxLen]; omega) (by omega) (by omega) _ zA ?_; intro g1 c1 w4 own1 hgrow1 _; simp only [Nat.zero_add, List.nil_append] at own1; have hb4 := gA.grown hgrow1 (by omega) (by intro j hj; cases hj; exact Nat.le_refl _))
                | (at_builtin; refine wpList_append_own _ rfl (.tmp 49) (.tmp 51) 30 rfl w3.heap.size 3 i0 _ 1 8 Try.underlying30 hi0 hz0 hz1 hz2 rfl (by decide) _ _ _ rfl (own1.alloc _) ⟨w4.heap.size, 0, none⟩ 1 1 [.int .i64 t] rfl rfl (World.news_of_block (heap_alloc_new w4 _)) (by simp [Value.oneCell']) (by simp only [maxLen]; omega) (by omega) (by simp; have := hb4.size; omega) ?_; intro v' w5 own2 hgrow2 _; have hb5 := (hb4.alloc hb4.size _).grown hgrow2 (by simp; have := hb4.size; omega) (fun j hj => (own1.lt j hj).1); have hb5' := fresh_trans bw hb5; obtain ⟨g2, c2, rfl, hg2, _⟩ := own2.form (by omega))
                | (at_builtin; refine wpList_append_any _ rfl (.tmp 53) (.tmp 56) 30 rfl w3.heap.size 3 i0 _ 1 8 Try.underlying30 hi0 hz0 hz1 hz2 rfl (by decide) _ _ _ _ rfl own2 none 0 0 [] rfl rfl (fun _ => ⟨rfl, rfl⟩) (fun ad e => by cases e) (by intro y hy; cases hy) (by simp only [maxLen]; omega) (by omega) (by have := hb5.size; omega) _ rfl ?_; intro g3 c3 w6 own3 hgrow3 _; have hb6 := fresh_trans bw (hb5.grown hgrow3 hb5.size (by intro j hj; cases hj; exact hg2))))
              go_roundg (l.length - (k + 1))
              case measure => omega
              case rel => exact PUT2.out _ _ _ (by omega) (owns_lower own3 bsz) hb6
          · have PUTN := PUT
            have hpos : 0 < out.length := List.length_pos_iff.2 ho0
            obtain ⟨g, gc, e1, _, _⟩ := hown.form (by omega)
            cases e1
            have hn : out.length ≤ uc := by
              rcases hown.2 with ⟨e, _⟩ | ⟨_, _, _, e, _, _, h1, _⟩
              · cases e
              · cases e; exact h1
            have SRC : Hid (∀ a w', Below wr.heap.size wr w' → _ ∧ _) := Lib.hid fun a w' hg => ⟨src_take (OW.out w' hg) a, src_drop (OW.out w' hg) a⟩
            have CEL : Hid (∀ j x w', out[j]? = some x → Below wr.heap.size wr w' → w'.cell? ⟨g, j, none⟩ = some (.int .i64 x)) := Lib.hid fun j x w' hj hg => by
              obtain ⟨g', c', e, hc, _⟩ := row_cell (k := j) (x := .int .i64 x) (OW.out w' hg) (by simp [hj])
              cases e
              exact hc
            have LL : Hid (∀ j, j < out.length → ∃ x, out[j]? = some x) := Lib.hid fun j hj => ⟨_, List.getElem?_eq_getElem hj⟩
            have PUT2 : Hid (∀ a m u w', a ≤ out.length → (∀ j x, j < a → out[j]? = some x → x < r.t) → (∀ x, out[a]? = some x → ¬ x < r.t) → m = out.length + 1 → w'.ownsRow wr.heap.size 3 1 u m (cL (out.take a) ++ [.int .i64 r.t] ++ cL (out.drop a)) → Below wr.heap.size wr w' → TsI l W (l.length - (k + 1)) u (.int .i64 ((k : Int) + 1)) w') := Lib.hid fun a m u w' h1 h2 h3 h4 h5 h6 => PUT.out a m u w' h1 h2 h3 h4 (owns_lower h5 hsz) h6
            have hol2 : out.length ≤ 60 := by omega
            have NONE : Hid (out[out.length]? = none) := Lib.hid (by simp)
            clear PUT PUTN hown hb hmem hol ho0 hemp OW
            generalize r.t = t at *
            generalize hn0 : out.length = n at *
            have HN := Lib.hid hn0
            clear hn0
            go_wp2_with (first
              | (go_at_call 13; refine TK1.out.mono ?_; rintro e w2 ⟨rfl, hg2⟩; replace bw := bw.trans hg2)
              | (go_at_call 25; refine (HS.out _ bw).mono ?_; rintro e w3 ⟨rfl, hg3⟩; replace bw := fresh_trans bw hg3))
            obtain ⟨x0', xz'⟩ := CX.out _ bw
            clear x0 xz y0 y1 y2 y3
            go_loopg [6] n (fun left v wr' => AtI out n t w3 left v wr')
            case atStart => exact ⟨0, by omega, by omega, rfl, Lib.hid (fun j x hj => by omega), rfl⟩
            case round =>
              obtain ⟨a, ha, rfl, rfl, hA, hw⟩ := hrel
              obtain rfl := hw.symm
              have len1 : Hid ((cL (out.take a)).length = a * 1) := Lib.hid (by have := HN.out; simp; omega)
              have q6 : (a : Int) ≤ uc := by omega
              by_cases hln : a < n
              · have q5 : (a : Int) < n := by omega
                obtain ⟨x, hx⟩ := LL.out a hln
                have cx := CEL.out a x _ hx bw
                have hx64 := LC.out a x hx
                by_cases hxt : x < t
                · have NX : Hid (AtI out n t w3 (n - (a + 1)) (.int .i64 ((a : Int) + 1)) w3) := Lib.hid ⟨a + 1, by omega, by omega, by go_num, Lib.hid (fun j y hj hy => by
                    rcases Nat.lt_succ_iff_lt_or_eq.1 hj with h1 | rfl
                    · exact hA.out j y h1 hy
                    · rw [hx] at hy; cases hy; exact hxt), rfl⟩
                  clear hA hx len1
                  go_wp2_with fail
                  go_roundg (n - (a + 1))
                  case measure => omega
                  case rel => exact NX.out
                · have len3 : Hid ((cL (out.drop a)).length = (n - a) * 1) := Lib.hid (by have := HN.out; simp; omega)
                  have PUT2 := Lib.hid (fun m u w' => PUT2.out a m u w' ha hA.out (fun y hy => by rw [hx] at hy; cases hy; omega))
                  clear hA hx
                  have m1 : (w3.alloc (.cells #[] 3)).ownsRow w3.heap.size 3 1 (.slice (some ⟨w3.heap.size, 0, none⟩) 0 0) 0 [] := Mem.made rfl (Nat.le_refl _)
                  have zA : (w3.alloc (.cells #[] 3)).heap.size = w3.heap.size + 1 := World.size_alloc _ _
                  have gA := alloc1 w3 (.cells #[] 3)
                  have bA := fresh_trans bw gA
                  have bsz := bw.size
                  go_wp2_with (first
                    | (at_builtin; refine wpList_append_any _ rfl (.tmp 44) (.tmp 47) 30 rfl w3.heap.size 3 i0 _ 1 8 Try.underlying30 hi0 hz0 hz1 hz2 rfl (by decide) _ _ _ [] rfl m1 (some ⟨g, 0, none⟩) a uc (cL (out.take a)) rfl len1.out (fun e => by cases e) (SRC.out a _ bA).1 (cL_one _) (by simp only [maxLen]; omega) (by omega) (by omega) _ zA ?_; intro g1 c1 w4 own1 hgrow1 _; simp only [Nat.zero_add, List.nil_append] at own1; have hb4 := gA.grown hgrow1 (by omega) (by intro j hj; cases hj; exact Nat.le_refl _))
                    | (at_builtin; refine wpList_append_own _ rfl (.tmp 49) (.tmp 51) 30 rfl w3.heap.size 3 i0 _ 1 8 Try.underlying30 hi0 hz0 hz1 hz2 rfl (by decide) _ _ _ rfl (own1.alloc _) ⟨w4.heap.size, 0, none⟩ 1 1 [.int .i64 t] rfl rfl (World.news_of_block (heap_alloc_new w4 _)) (by simp [Value.oneCell']) (by simp only [maxLen]; omega) (by omega) (by simp; have := hb4.size; omega) ?_; intro v' w5 own2 hgrow2 _; have hb5 := (hb4.alloc hb4.size _).grown hgrow2 (by simp; have := hb4.size; omega) (fun j hj => (own1.lt j hj).1); have hb5' := fresh_trans bw hb5; obtain ⟨g2, c2, rfl, hg2, _⟩ := own2.form (by omega))
                    | (at_builtin; refine wpList_append_any _ rfl (.tmp 53) (.tmp 56) 30 rfl w3.heap.size 3 i0 _ 1 8 Try.underlying30 hi0 hz0 hz1 hz2 rfl (by decide) _ _ _ _ rfl own2 (some ⟨g, a, none⟩) (n - a) (uc - a) (cL (out.drop a)) rfl len3.out (fun e => by cases e) (SRC.out a _ hb5').2 (cL_one _) (by simp only [maxLen]; omega) (by omega) (by have := hb5.size; omega) _ rfl ?_; intro g3 c3 w6 own3 hgrow3 _; have hb6 := fresh_trans bw (hb5.grown hgrow3 hb5.size (by intro j hj; cases hj; exact hg2))))
                  go_roundg (l.length - (k + 1))
                  case measure => omega
                  case rel => exact PUT2.out _ _ _ (by omega) (owns_lower own3 bsz) hb6
              · obtain rfl : a = n := by omega
                have q5 : ¬ (a : Int) < a := by omega
                have PUT2 := Lib.hid (fun (m : Nat) (u : Value) (w' : World) (h1 : m = a + 1) (h2 : w'.ownsRow wr.heap.size 3 1 u m (cL (out.take a) ++ [.int .i64 t] ++ [])) (h3 : Below wr.heap.size wr w') => PUT2.out a m u w' ha hA.out (fun y hy => by rw [NONE.out] at hy; cases hy) h1 (by rw [show out.drop a = [] from List.drop_of_length_le (by have := HN.out; omega)]; exact h2) h3)
                clear hA
                by_cases hful : uc = a
                · subst hful
                  have m1 : (w3.alloc (.cells #[] 3)).ownsRow w3.heap.size 3 1 (.slice (some ⟨w3.heap.size, 0, none⟩) 0 0) 0 [] := Mem.made rfl (Nat.le_refl _)
                  have zA : (w3.alloc (.cells #[] 3)).heap.size = w3.heap.size + 1 := World.size_alloc _ _
                  have gA := alloc1 w3 (.cells #[] 3)
                  have bA := fresh_trans bw gA
                  have bsz := bw.size
                  go_wp2_with (first
                    | (at_builtin; refine wpList_append_any _ rfl (.tmp 44) (.tmp 47) 30 rfl w3.heap.size 3 i0 _ 1 8 Try.underlying30 hi0 hz0 hz1 hz2 rfl (by decide) _ _ _ [] rfl m1 (some ⟨g, 0, none⟩) uc uc (cL (out.take uc)) rfl len1.out (fun e => by cases e) (SRC.out uc _ bA).1 (cL_one _) (by simp only [maxLen]; omega) (by omega) (by omega) _ zA ?_; intro g1 c1 w4 own1 hgrow1 _; simp only [Nat.zero_add, List.nil_append] at own1; have hb4 := gA.grown hgrow1 (by omega) (by intro j hj; cases hj; exact Nat.le_refl _))
                    | (at_builtin; refine wpList_append_own _ rfl (.tmp 49) (.tmp 51) 30 rfl w3.heap.size 3 i0 _ 1 8 Try.underlying30 hi0 hz0 hz1 hz2 rfl (by decide) _ _ _ rfl (own1.alloc _) ⟨w4.heap.size, 0, none⟩ 1 1 [.int .i64 t] rfl rfl (World.news_of_block (heap_alloc_new w4 _)) (by simp [Value.oneCell']) (by simp only [maxLen]; omega) (by omega) (by simp; have := hb4.size; omega) ?_; intro v' w5 own2 hgrow2 _; have hb5 := (hb4.alloc hb4.size _).grown hgrow2 (by simp; have := hb4.size; omega) (fun j hj => (own1.lt j hj).1); have hb5' := fresh_trans bw hb5; obtain ⟨g2, c2, rfl, hg2, _⟩ := own2.form (by omega))
                    | (at_builtin; refine wpList_append_any _ rfl (.tmp 53) (.tmp 56) 30 rfl w3.heap.size 3 i0 _ 1 8 Try.underlying30 hi0 hz0 hz1 hz2 rfl (by decide) _ _ _ _ rfl own2 (some ⟨g, 0, none⟩) 0 0 [] rfl (by simp) (fun e => by cases e) (fun ad _ j u hj => by simp at hj) (by intro y hy; cases hy) (by simp only [maxLen]; omega) (by omega) (by have := hb5.size; omega) _ rfl ?_; intro g3 c3 w6 own3 hgrow3 _; have hb6 := fresh_trans bw (hb5.grown hgrow3 hb5.size (by intro j hj; cases hj; exact hg2))))
                  go_roundg (l.length - (k + 1))
                  case measure => omega
                  case rel => exact PUT2.out _ _ _ (by omega) (owns_lower own3 bsz) hb6
                · have q7 : (a : Int) < uc := by omega
                  have m1 : (w3.alloc (.cells #[] 3)).ownsRow w3.heap.size 3 1 (.slice (some ⟨w3.heap.size, 0, none⟩) 0 0) 0 [] := Mem.made rfl (Nat.le_refl _)
                  have zA : (w3.alloc (.cells #[] 3)).heap.size = w3.heap.size + 1 := World.size_alloc _ _
                  have gA := alloc1 w3 (.cells #[] 3)
                  have bA := fresh_trans bw gA
                  have bsz := bw.size
                  go_wp2_with (first
                    | (at_builtin; refine wpList_append_any _ rfl (.tmp 44) (.tmp 47) 30 rfl w3.heap.size 3 i0 _ 1 8 Try.underlying30 hi0 hz0 hz1 hz2 rfl (by decide) _ _ _ [] rfl m1 (some ⟨g, 0, none⟩) a uc (cL (out.take a)) rfl len1.out (fun e => by cases e) (SRC.out a _ bA).1 (cL_one _) (by simp only [maxLen]; omega) (by omega) (by omega) _ zA ?_; intro g1 c1 w4 own1 hgrow1 _; simp only [Nat.zero_add, List.nil_append] at own1; have hb4 := gA.grown hgrow1 (by omega) (by intro j hj; cases hj; exact Nat.le_refl _))
                    | (at_builtin; refine wpList_append_own _ rfl (.tmp 49) (.tmp 51) 30 rfl w3.heap.size 3 i0 _ 1 8 Try.underlying30 hi0 hz0 hz1 hz2 rfl (by decide) _ _ _ rfl (own1.alloc _) ⟨w4.heap.size, 0, none⟩ 1 1 [.int .i64 t] rfl rfl (World.news_of_block (heap_alloc_new w4 _)) (by simp [Value.oneCell']) (by simp only [maxLen]; omega) (by omega) (by simp; have := hb4.size; omega) ?_; intro v' w5 own2 hgrow2 _; have hb5 := (hb4.alloc hb4.size _).grown hgrow2 (by simp; have := hb4.size; omega) (fun j hj => (own1.lt j hj).1); have hb5' := fresh_trans bw hb5; obtain ⟨g2, c2, rfl, hg2, _⟩ := own2.form (by omega))
                    | (at_builtin; refine wpList_append_any _ rfl (.tmp 53) (.tmp 56) 30 rfl w3.heap.size 3 i0 _ 1 8 Try.underlying30 hi0 hz0 hz1 hz2 rfl (by decide) _ _ _ _ rfl own2 (some ⟨g, a, none⟩) 0 (uc - a) [] rfl (by simp) (fun e => by cases e) (fun ad _ j u hj => by simp at hj) (by intro y hy; cases hy) (by simp only [maxLen]; omega) (by omega) (by have := hb5.size; omega) _ rfl ?_; intro g3 c3 w6 own3 hgrow3 _; have hb6 := fresh_trans bw (hb5.grown hgrow3 hb5.size (by intro j hj; cases hj; exact hg2))))
                  go_roundg (l.length - (k + 1))
                  case measure => omega
                  case rel => exact PUT2.out _ _ _ (by omega) (owns_lower own3 bsz) hb6
    · have q1 : ¬ (k : Int) < l.length := by omega
      obtain rfl : k = l.length := by omega
      have hF := Lib.hid (FIN.out wr _ out hb hI h64 hol hown)
      clear HB FIN TK hD hI h64 hol hemp hown hb hp ht
      go_wp2_with fail
      go_ret
      exact hF.out
end Go.Proofs.Ytnocgdhepmgncaa.Ledger
