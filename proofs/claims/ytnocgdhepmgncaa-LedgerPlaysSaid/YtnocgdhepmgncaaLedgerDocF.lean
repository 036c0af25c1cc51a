/- The document's Forget. Conditions: 60 rows at most. -/
import Derived.Test.YtnocgdhepmgncaaLedgerDocC
namespace Go.Proofs.Ytnocgdhepmgncaa.Ledger
open Go.ChangeShapes Go.WideShapes Go.ChangeAt Go.RowKit Go.Sort Mem
set_option linter.unusedVariables false
set_option linter.unusedSimpArgs false
set_option maxRecDepth 100000

theorem doc_row {lo hi B : Nat} {w' : World} {n : Nat} {e : TypeId} {u : Value} {l : List De} (h : w'.ownsRow B e 4 u n (cellsD l)) (hB : hi ≤ B) (hd : ∀ r ∈ l, r.Is lo w') (hl : l.length ≤ 60) (hs : lo ≤ w'.heap.size) : ∃ v c, u = .slice v l.length c ∧ Doc lo hi v c l w' := by
  have hlen := h.1
  rw [cellsD_len] at hlen
  have hn : n = l.length := by omega
  rcases h.2 with ⟨e1, e2⟩ | ⟨g, cap, cur, e1, _⟩
  · obtain rfl : l = [] := List.eq_nil_of_length_eq_zero (by omega)
    exact ⟨none, 0, by rw [e1]; rfl, Doc.nil lo hi w' hs⟩
  · subst e1
    exact ⟨_, cap, by rw [hn], doc_own h hB hd hl hs⟩
theorem dFgt_at {l : List De} {a : Int} {k : Nat} {r : De} (hk : l[k]? = some r) : (dFgt l a).take (k + 1) = (dFgt l a).take k ++ [r.off a] := by
  obtain ⟨hl, e⟩ := List.getElem?_eq_some_iff.1 hk
  have h2 : (dFgt l a).length = l.length := dFgt_len l a
  rw [List.take_succ_eq_append_getElem (by omega)]
  simp [dFgt, e]
theorem off_is {lo : Nat} {w : World} {r : De} {a : Int} (h : r.Is lo w) : (r.off a).Is lo w := ⟨h.path, h.t, h.ns, h.few, h.cap⟩
def FgI (l : List De) (a : Int) (W : World) (left : Nat) (t5 t6 : Value) (wr : World) : Prop := ∃ k : Nat, k ≤ l.length ∧ left = l.length - k ∧ t6 = .int .i64 (k : Int) ∧ wr.ownsRow W.heap.size 57 4 t5 k (cellsD ((dFgt l a).take k)) ∧ Below W.heap.size W wr
set_option maxHeartbeats 4000000 in
theorem refForget (lo hi : Nat) (v : Option Addr) (c : Nat) (l : List De) (a : Int) (w : World) (h : Doc lo hi v c l w) (hhi : hi ≤ w.heap.size) :
    Calls Try.prog 14 #[docV v l.length c, .int .i64 a] w (DocIs lo hi (dFgt l a) (fun x => x) w) := by
  obtain ⟨i0, hi0, hz0, hz1, hz2'⟩ := info_parts infoR
  have PB := cb w v l.length c
  have hl := h.few
  have HD := Lib.hid (fun W (hW : CB w v l.length c W) => h.fresh hW.g)
  have BX : Hid (∀ W, CB w v l.length c W → (_ ∧ _) ∧ (_ ∧ _)) := fun W hB => ⟨one hB.q, one hB.r⟩
  have FIN : Hid (∀ W u, CB w v l.length c W → W.ownsRow (w.heap.size + 2) 57 4 u l.length (cellsD (dFgt l a)) → ∃ v' c', u = .slice v' l.length c' ∧ DocIs lo hi (dFgt l a) (fun x => x) w (.returned (.agg #[.slice v' l.length c'])) (W.setCell ⟨w.heap.size + 1, 0, none⟩ (.slice v' l.length c'))) := Lib.hid fun W u hW hown => by
    obtain ⟨v', c', e⟩ := owns_shape hown
    have hg := hW.g.setCell (p := ⟨w.heap.size + 1, 0, none⟩) (by simp) (.slice v' l.length c')
    have hown2 : (W.setCell ⟨w.heap.size + 1, 0, none⟩ (.slice v' l.length c')).ownsRow (w.heap.size + 2) 57 4 u l.length (cellsD (dFgt l a)) := hown.kept (one_grown W (w.heap.size + 1) 0 _) (by
      cases hu : u.ownBlock with
      | none => exact .inl rfl
      | some k => exact .inr (by have := (hown.lt k hu).1; simp; omega))
    obtain ⟨v2, c2, e2, hD⟩ := doc_row (lo := lo) (hi := hi) hown2 (by omega) (fun r hr => by
      obtain ⟨x, hx, rfl⟩ := List.mem_map.1 hr
      exact off_is ((h.des x hx).fresh h.size (hg.mono h.size))) (by rw [dFgt_len]; exact hl) (Nat.le_trans h.size hg.size)
    rw [dFgt_len] at e2
    rw [e] at e2
    cases e2
    exact ⟨v', c', e, v', c', by rw [dFgt_len], hD, hg⟩
  clear h
  unfold docV docO at *
  go_enter Try.func14, Try.ntmps14
  go_upto_region 3 with fail
  have zW : ((w.alloc (.cells #[.slice v l.length c] 29 (0, 0))).alloc (.cells #[.slice none 0 0] 29 (0, 0))).heap.size = w.heap.size + 2 := by rw [World.size_alloc, World.size_alloc]
  generalize (w.alloc _).alloc _ = W at *
  go_loopg [5, 6] l.length (fun left t5 t6 wr => FgI l a W left t5 t6 wr)
  case atStart => exact ⟨0, by omega, by omega, rfl, by simpa [cellsD] using World.ownsRow_nil _ _ _ _, Below.refl _ _⟩
  case round =>
    obtain ⟨k, hk, rfl, rfl, hown, hb⟩ := hrel
    obtain ⟨uo, uc, rfl⟩ := owns_shape hown
    have PB2 := PB.fresh hb
    obtain ⟨⟨b0, bz⟩, ⟨y0, yz⟩⟩ := BX.out _ PB2
    by_cases hlt : k < l.length
    · have q1 : (k : Int) < l.length := by omega
      obtain ⟨k1, o1, r, rfl, hr, hm, CC⟩ := (HD.out _ PB2).lst.row hlt
      obtain ⟨x0, x1, x2, x3⟩ := CC _ (HD.out _ PB2).lst
      have hsz := hb.size
      have NX : Hid (∀ b v' w4, b = (r.gone || decide (r.t = a)) → w4.ownsRow W.heap.size 57 4 v' (k + 1) (cellsD ((dFgt l a).take k) ++ [.slice r.a r.n r.c, .int .i64 r.t, .int .i64 r.ns, .bool b]) → Below W.heap.size W w4 → FgI l a W (l.length - (k + 1)) v' (.int .i64 ((k : Int) + 1)) w4) := Lib.hid fun b v' w4 hb4 ho hbl => ⟨k + 1, by omega, rfl, by go_num, by rw [dFgt_at hr, cellsD_append]; simpa [cellsD, De.off, hb4] using ho, hbl⟩
      have WB : Hid (∀ b : Bool, (wr.alloc (.cells #[.slice r.a r.n r.c, .int .i64 r.t, .int .i64 r.ns, .bool b] 57 (0, 0))).heap[wr.heap.size]? = some (.cells #[.slice r.a r.n r.c, .int .i64 r.t, .int .i64 r.ns, .bool b] 57 (0, 0)) ∧ (wr.alloc (.cells #[.slice r.a r.n r.c, .int .i64 r.t, .int .i64 r.ns, .bool b] 57 (0, 0))).ownsRow W.heap.size 57 4 (.slice uo k uc) k (cellsD ((dFgt l a).take k)) ∧ Below W.heap.size W (wr.alloc (.cells #[.slice r.a r.n r.c, .int .i64 r.t, .int .i64 r.ns, .bool b] 57 (0, 0)))) := Lib.hid fun b => ⟨heap_alloc_new wr _, hown.alloc _, hb.alloc hsz _⟩
      have hA := heap_alloc_new wr (.cells #[.slice r.a r.n r.c, .int .i64 r.t, .int .i64 r.ns, .bool r.gone] 57 (0, 0))
      obtain ⟨z0, z1, z2, z3, zz⟩ := four hA
      clear HD FIN CC hm
      generalize hU : cellsD ((dFgt l a).take k) = U at *
      clear hU
      obtain ⟨ra, rn, rc, rx, rt, rns, rg⟩ := r
      simp only at *
      cases rg with
      | true =>
        go_upto_region 7 with fail
        obtain ⟨wb, wo, wg⟩ := WB.out true
        clear WB z0 z1 z2 z3 zz hA x0 x1 x2 x3 b0 bz y0 yz hown hb
        generalize wr.alloc _ = V at *
        obtain ⟨z0, z1, z2, z3, zz⟩ := four wb
        have vs := wg.size
        go_wp2_with (at_builtin; refine wpList_append_own _ rfl (.tmp 29) (.tmp 31) 27 rfl W.heap.size 57 i0 _ 4 48 Try.underlying27 hi0 hz0 hz1 hz2' rfl (by decide) _ _ U rfl (wo.alloc _) ⟨V.heap.size, 0, none⟩ 1 1 [.slice ra rn rc, .int .i64 rt, .int .i64 rns, .bool true] rfl rfl (World.news_of_block (heap_alloc_new V _)) (by simp [Value.oneCell']) (by simp only [maxLen]; omega) (by omega) (by simp; omega) ?_; intro v' w4 hown4 hgrow4 _; have hb4 := (wg.alloc (by omega) _).grown hgrow4 (by simp; omega) (fun j hj => (wo.lt j hj).1))
        go_roundg (l.length - (k + 1))
        case measure => omega
        case rel => exact NX.out true _ _ (by simp) hown4 hb4
      | false =>
        by_cases hta : rt = a
        · subst hta
          go_upto_region 7 with fail
          obtain ⟨wb, wo, wg⟩ := WB.out true
          clear WB z0 z1 z2 z3 zz hA x0 x1 x2 x3 b0 bz y0 yz hown hb
          generalize wr.alloc _ = V at *
          obtain ⟨z0, z1, z2, z3, zz⟩ := four wb
          have vs := wg.size
          go_wp2_with (at_builtin; refine wpList_append_own _ rfl (.tmp 29) (.tmp 31) 27 rfl W.heap.size 57 i0 _ 4 48 Try.underlying27 hi0 hz0 hz1 hz2' rfl (by decide) _ _ U rfl (wo.alloc _) ⟨V.heap.size, 0, none⟩ 1 1 [.slice ra rn rc, .int .i64 rt, .int .i64 rns, .bool true] rfl rfl (World.news_of_block (heap_alloc_new V _)) (by simp [Value.oneCell']) (by simp only [maxLen]; omega) (by omega) (by simp; omega) ?_; intro v' w4 hown4 hgrow4 _; have hb4 := (wg.alloc (by omega) _).grown hgrow4 (by simp; omega) (fun j hj => (wo.lt j hj).1))
          go_roundg (l.length - (k + 1))
          case measure => omega
          case rel => exact NX.out true _ _ (by simp) hown4 hb4
        · have ht2 : (rt == a) = false := by simpa using hta
          go_upto_region 7 with fail
          obtain ⟨wb, wo, wg⟩ := WB.out false
          clear WB z0 z1 z2 z3 zz hA x0 x1 x2 x3 b0 bz y0 yz hown hb
          generalize wr.alloc _ = V at *
          obtain ⟨z0, z1, z2, z3, zz⟩ := four wb
          have vs := wg.size
          go_wp2_with (at_builtin; refine wpList_append_own _ rfl (.tmp 29) (.tmp 31) 27 rfl W.heap.size 57 i0 _ 4 48 Try.underlying27 hi0 hz0 hz1 hz2' rfl (by decide) _ _ U rfl (wo.alloc _) ⟨V.heap.size, 0, none⟩ 1 1 [.slice ra rn rc, .int .i64 rt, .int .i64 rns, .bool false] rfl rfl (World.news_of_block (heap_alloc_new V _)) (by simp [Value.oneCell']) (by simp only [maxLen]; omega) (by omega) (by simp; omega) ?_; intro v' w4 hown4 hgrow4 _; have hb4 := (wg.alloc (by omega) _).grown hgrow4 (by simp; omega) (fun j hj => (wo.lt j hj).1))
          go_roundg (l.length - (k + 1))
          case measure => omega
          case rel => exact NX.out false _ _ (by simp [hta]) hown4 hb4
    · have q1 : ¬ (k : Int) < l.length := by omega
      obtain rfl : k = l.length := by omega
      have e1 : (dFgt l a).take l.length = dFgt l a := List.take_of_length_le (by rw [dFgt_len]; omega)
      rw [e1, zW] at hown
      obtain ⟨v', c', e, hI⟩ := FIN.out _ _ PB2 hown
      cases e
      have hI2 := Lib.hid hI
      clear hI FIN HD hown
      go_wp2_with fail
      refine bodyPost_ret (v := .agg #[.slice uo l.length uc]) (by simp [results, Try.results14, go_sem, y0]) rfl ?_
      exact hI2.out
end Go.Proofs.Ytnocgdhepmgncaa.Ledger
