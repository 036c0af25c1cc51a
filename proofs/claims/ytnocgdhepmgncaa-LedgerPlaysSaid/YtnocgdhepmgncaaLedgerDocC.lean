/- The document's Credit. Conditions: 59 rows at most before it. -/
import Derived.Test.YtnocgdhepmgncaaLedgerDoc
import Derived.Test.YtnocgdhepmgncaaMemAny
import Derived.Deep.RegionHeld3
import Derived.BigQuiet
namespace Go.Proofs.Ytnocgdhepmgncaa.Ledger
open Go.ChangeShapes Go.WideShapes Go.ChangeAt Go.RowKit Go.Sort Mem
set_option linter.unusedVariables false
set_option linter.unusedSimpArgs false
set_option maxRecDepth 100000
attribute [local irreducible] Go.wpQuiet

theorem infoR : (Try.prog.info? 57).map (fun i => (i.zero, i.size, i.bytes)) = some (some (.agg #[.slice none 0 0, .int .i64 0, .int .i64 0, .bool false]), 4, 48) := by kernel_rfl
theorem good_all {xs : List Int} (h : ∀ k x, xs[k]? = some x → 0 ≤ x ∧ x ∉ xs.take k) : good xs = true := by
  unfold good low
  rw [Bool.and_eq_true, Bool.not_eq_true', List.any_eq_false, decide_eq_true_eq]
  refine ⟨fun x hx => ?_, ?_⟩
  · obtain ⟨k, hk, e⟩ := List.mem_iff_getElem.1 hx
    have := (h k x (by rw [List.getElem?_eq_getElem hk, e])).1
    simp; omega
  · rw [List.nodup_iff_pairwise_ne, List.pairwise_iff_getElem]
    intro i j hi hj hij e
    refine (h j xs[j] (List.getElem?_eq_getElem hj)).2 ?_
    rw [← e]
    exact List.mem_iff_getElem.2 ⟨i, by simp; omega, by simp⟩
theorem good_low {xs : List Int} {k : Nat} {x : Int} (hk : xs[k]? = some x) (h : x < 0) : good xs = false := by
  have : low xs = true := by
    unfold low
    rw [List.any_eq_true]
    exact ⟨x, List.mem_of_getElem? hk, by simpa using h⟩
  simp [good, this]
theorem good_twice {xs : List Int} {k : Nat} {x : Int} (hk : xs[k]? = some x) (h : x ∈ xs.take k) : good xs = false := by
  have : ¬ xs.Nodup := by
    intro hn
    obtain ⟨hl, e⟩ := List.getElem?_eq_some_iff.1 hk
    obtain ⟨i, hi, ei⟩ := List.mem_iff_getElem.1 h
    simp at hi ei
    rw [List.nodup_iff_pairwise_ne, List.pairwise_iff_getElem] at hn
    exact hn i k (by omega) hl (by omega) (ei.trans e.symm)
  simp [good, this]
theorem code_bad (s : Bk) {xs : List Int} {t ns : Int} (h : good xs = false) : code s xs t ns = 1 := by simp [code, wrong, h]
theorem Path.sub {B : Nat → Prop} {w : World} {a : Option Addr} {n c k : Nat} {xs : List Int} (h : Path B w a n c xs) (hk : k ≤ n) : Path B w a k c (xs.take k) := by
  have hl := h.len
  have hb := h.big
  refine ⟨by simp; omega, by omega, fun e => ⟨by have := (h.nil_ e).1; omega, (h.nil_ e).2⟩, fun j x hj => ?_⟩
  have hjl := (List.getElem?_eq_some_iff.1 hj).1
  simp at hjl
  rw [List.getElem?_take_of_lt (by omega)] at hj
  exact h.at_ j x hj
theorem Lst.cellsAt {g : Nat} {l : List De} {w : World} (h : Lst (some ⟨g, 0, none⟩) l w) : ∀ ad, some (⟨g, 0, none⟩ : Addr) = some ad → ∀ j u, (cellsD l)[j]? = some u → w.cell? (ad.add j) = some u := by
  intro ad e j u hu
  cases e
  rw [add_at, Nat.zero_add]
  have hj := (List.getElem?_eq_some_iff.1 hu).1
  rw [cellsD_len] at hj
  have hd : l[j / 4]? = some l[j / 4] := List.getElem?_eq_getElem (by omega)
  generalize l[j / 4] = d at hd
  obtain ⟨k, o, e, _, c0, c1, c2, c3⟩ := h _ d hd
  cases e
  have hc := cellsD_at hd (i := j % 4) (by omega)
  rw [show j / 4 * 4 + j % 4 = j by omega, hu] at hc
  have h4 : j % 4 = 0 ∨ j % 4 = 1 ∨ j % 4 = 2 ∨ j % 4 = 3 := by omega
  have hjj : j / 4 * 4 + j % 4 = j := by omega
  rw [Nat.zero_add] at c0 c1 c2 c3
  rcases h4 with h | h | h | h <;> rw [h] at hc hjj <;> simp at hc <;> subst hc
  · rw [← c0]; congr 2; omega
  · rw [← c1]; congr 2; omega
  · rw [← c2]; congr 2; omega
  · rw [← c3]; congr 2; omega
theorem Doc.cells {lo hi : Nat} {v : Option Addr} {c : Nat} {l : List De} {w : World} (h : Doc lo hi v c l w) : ∀ ad, v = some ad → ∀ j u, (cellsD l)[j]? = some u → w.cell? (ad.add j) = some u := by
  intro ad e
  obtain ⟨g, rfl, _⟩ := h.base ad e
  subst e
  exact h.lst.cellsAt _ rfl
/-- What such a call hands back. -/
def DocIs (lo hi : Nat) (l : List De) (mk : Value → Value) (w : World) (e : Ending) (w' : World) : Prop := ∃ v c, e = .returned (mk (docV v l.length c)) ∧ Doc lo hi v c l w' ∧ Below w.heap.size w w'
theorem doc_own {lo hi B : Nat} {w' : World} {g n c : Nat} {e : TypeId} {l : List De} (h : w'.ownsRow B e 4 (.slice (some ⟨g, 0, none⟩) n c) n (cellsD l)) (hB : hi ≤ B) (hd : ∀ r ∈ l, r.Is lo w') (hl : l.length ≤ 60) (hs : lo ≤ w'.heap.size) : Doc lo hi (some ⟨g, 0, none⟩) c l w' := by
  obtain ⟨h1, h2, h3⟩ := lst_own h
  refine ⟨h1, (fun e => by cases e), fun ad e => ?_, hd, hl, hs⟩
  cases e
  exact ⟨g, rfl, Nat.le_trans hB (h3 g 0 rfl).1⟩
/-- Where the two boxes stand. -/
structure CB (w : World) (v : Option Addr) (n c : Nat) (W : World) : Prop where
  q : W.heap[w.heap.size]? = some (docO v n c)
  r : W.heap[w.heap.size + 1]? = some (docO none 0 0)
  g : Below w.heap.size w W
theorem cb (w : World) (v : Option Addr) (n c : Nat) : CB w v n c ((w.alloc (docO v n c)).alloc (docO none 0 0)) := by
  refine ⟨box_new (heap_alloc_new w _), ?_, fresh_trans (alloc1 w _) (alloc1 _ _)⟩
  have := heap_alloc_new (w.alloc (docO v n c)) (docO none 0 0)
  rwa [World.size_alloc] at this
theorem CB.fresh {w W W' : World} {v : Option Addr} {n c : Nat} (h : CB w v n c W) (hg : Below W.heap.size W W') : CB w v n c W' := ⟨box_fresh h.q hg, box_fresh h.r hg, h.g.trans (hg.mono h.g.size)⟩
def PcI (xs : List Int) (n : Nat) (W : World) (left : Nat) (t : Value) (wr : World) : Prop := ∃ k : Nat, k ≤ n ∧ left = n - k ∧ t = .int .i64 (k : Int) ∧ Below W.heap.size W wr ∧ Hid (∀ j x, j < k → xs[j]? = some x → 0 ≤ x ∧ x ∉ xs.take j)
set_option maxHeartbeats 4000000 in
theorem refCredit (lo hi : Nat) (v : Option Addr) (c : Nat) (l : List De) (w : World) (s : Bk) (d : De) (h : Doc lo hi v c l w) (hc : Dc s l) (hs : Ok s) (hd : d.Is lo w) (hl : l.length ≤ 59) (hhi : hi ≤ w.heap.size) :
    Calls Try.prog 16 #[docV v l.length c, .slice d.a d.n d.c, .int .i64 d.t, .int .i64 d.ns] w (DocIs lo hi (dCre s l d) (fun x => .tuple #[x, .int .i64 (code s d.xs d.t d.ns)]) w) := by
  obtain ⟨i0, hi0, hz0, hz1, hz2'⟩ := info_parts infoR
  have PB := cb w v l.length c
  obtain ⟨t1, t2⟩ := hd.t
  obtain ⟨n1, n2⟩ := hd.ns
  have END : Hid (∀ k : Int, code s d.xs d.t d.ns = k → k ≠ 0 → ∀ W, CB w v l.length c W → DocIs lo hi (dCre s l d) (fun x => .tuple #[x, .int .i64 (code s d.xs d.t d.ns)]) w (.returned (.tuple #[docV v l.length c, .int .i64 k])) (W.setCell ⟨w.heap.size + 1, 0, none⟩ (.slice v l.length c))) := Lib.hid fun k hk hk0 W hW => by
    have hg := hW.g.setCell (p := ⟨w.heap.size + 1, 0, none⟩) (by simp) (.slice v l.length c)
    rw [hk]
    rw [show dCre s l d = l by unfold dCre; rw [if_neg (by rw [hk]; exact hk0)]]
    exact ⟨v, c, rfl, h.fresh hg, hg⟩
  have BX : Hid (∀ W, CB w v l.length c W → (_ ∧ _) ∧ (_ ∧ _)) := fun W hB => ⟨one hB.q, one hB.r⟩
  by_cases k1 : d.ns < 0
  · have e1 : code s d.xs d.t d.ns = 1 := by simp [code, wrong, k1]
    have EN := Lib.hid (END.out 1 e1 (by omega))
    generalize code s d.xs d.t d.ns = ec at *
    clear h hc hs hd END e1
    unfold docV docO at *
    go_enter Try.func16, Try.ntmps16
    go_upto_region 1 with fail
    generalize (w.alloc _).alloc _ = W at *
    obtain ⟨⟨b0, bz⟩, ⟨y0, yz⟩⟩ := BX.out W PB
    go_wp2_with fail
    refine bodyPost_ret (v := .tuple #[.agg #[.slice v l.length c], .int .i64 1]) (by simp [results, Try.results16, go_sem, y0]) rfl ?_
    exact EN.out W PB
  by_cases k2 : d.t < 0
  · have e1 : code s d.xs d.t d.ns = 1 := by simp [code, wrong, k2]
    have EN := Lib.hid (END.out 1 e1 (by omega))
    generalize code s d.xs d.t d.ns = ec at *
    clear h hc hs hd END e1
    unfold docV docO at *
    go_enter Try.func16, Try.ntmps16
    go_upto_region 1 with fail
    generalize (w.alloc _).alloc _ = W at *
    obtain ⟨⟨b0, bz⟩, ⟨y0, yz⟩⟩ := BX.out W PB
    go_wp2_with fail
    refine bodyPost_ret (v := .tuple #[.agg #[.slice v l.length c], .int .i64 1]) (by simp [results, Try.results16, go_sem, y0]) rfl ?_
    exact EN.out W PB
  have DP := Lib.hid (fun W (hW : CB w v l.length c W) => (show Path (fun k => k < lo) W d.a d.n d.c d.xs from (hd.fresh h.size (hW.g.mono h.size)).path))
  have TT := Lib.hid (fun W (hW : CB w v l.length c W) => refTotal lo hi v c l W (h.fresh hW.g) hc.pos (by rw [hc.tot]; exact hs.hi))
  rw [hc.tot] at TT
  have l0 := hs.lo
  have l1 : s.tot ≤ 9223372036854775807 := hs.hi
  have hcap := hd.cap
  have hlen := hd.path.len
  have hfew := hd.few
  have EB := Lib.hid (fun (hb : good d.xs = false) => END.out 1 (code_bad s hb) (by omega))
  have EF : Hid (good d.xs = true → top - s.tot < d.ns → ∀ W, CB w v l.length c W → DocIs lo hi (dCre s l d) (fun x => .tuple #[x, .int .i64 (code s d.xs d.t d.ns)]) w (.returned (.tuple #[docV v l.length c, .int .i64 3])) (W.setCell ⟨w.heap.size + 1, 0, none⟩ (.slice v l.length c))) := Lib.hid fun hg ht => END.out 3 (by simp [code, wrong, k1, k2, hg, ht]) (by omega)
  have EO : Hid (good d.xs = true → d.ns ≤ top - s.tot → ∀ W g cp, Below w.heap.size w W → W.ownsRow w.heap.size 57 4 (.slice (some ⟨g, 0, none⟩) (l.length + 1) cp) (l.length + 1) (cellsD l ++ [.slice d.a d.n d.c, .int .i64 d.t, .int .i64 d.ns, .bool false]) → w.heap.size + 1 < g →
      DocIs lo hi (dCre s l d) (fun x => .tuple #[x, .int .i64 (code s d.xs d.t d.ns)]) w (.returned (.tuple #[docV (some ⟨g, 0, none⟩) (l.length + 1) cp, .int .i64 0])) ((W.setCell ⟨w.heap.size, 0, none⟩ (.slice (some ⟨g, 0, none⟩) (l.length + 1) cp)).setCell ⟨w.heap.size + 1, 0, none⟩ (.slice (some ⟨g, 0, none⟩) (l.length + 1) cp))) := Lib.hid fun hg ht W g cp hW hown hgz => by
    have ht' : ¬ top - s.tot < d.ns := by omega
    have e1 : code s d.xs d.t d.ns = 0 := by simp [code, wrong, k1, k2, hg, ht']
    have e2 : dCre s l d = l ++ [d.row] := by unfold dCre; rw [if_pos e1]
    have hW2 := (hW.setCell (p := ⟨w.heap.size, 0, none⟩) (Nat.le_refl _) (.slice (some ⟨g, 0, none⟩) (l.length + 1) cp)).setCell (p := ⟨w.heap.size + 1, 0, none⟩) (by simp) (.slice (some ⟨g, 0, none⟩) (l.length + 1) cp)
    rw [e1, e2]
    have hown2 : ((W.setCell ⟨w.heap.size, 0, none⟩ (.slice (some ⟨g, 0, none⟩) (l.length + 1) cp)).setCell ⟨w.heap.size + 1, 0, none⟩ (.slice (some ⟨g, 0, none⟩) (l.length + 1) cp)).ownsRow w.heap.size 57 4 (.slice (some ⟨g, 0, none⟩) (l.length + 1) cp) (l.length + 1) (cellsD (l ++ [d.row])) := by
      rw [cellsD_append]
      have k := (hown.kept (one_grown W w.heap.size 0 (.slice (some ⟨g, 0, none⟩) (l.length + 1) cp)) (.inr (by simp [Value.ownBlock]; omega))).kept (one_grown _ (w.heap.size + 1) 0 (.slice (some ⟨g, 0, none⟩) (l.length + 1) cp)) (.inr (by simp [Value.ownBlock]; omega))
      simpa [cellsD, De.row] using k
    refine ⟨some ⟨g, 0, none⟩, cp, by simp, doc_own hown2 hhi (fun r hr => ?_) (by simp; omega) (Nat.le_trans h.size hW2.size), hW2⟩
    rcases List.mem_append.1 hr with hr | hr
    · exact (h.des r hr).fresh h.size (hW2.mono h.size)
    · simp at hr
      subst hr
      have := hd.fresh h.size (hW2.mono h.size)
      exact ⟨this.path, this.t, this.ns, this.few, this.cap⟩
  have SRC := Lib.hid (fun W (hW : CB w v l.length c W) => (show _ ∧ _ from ⟨(h.fresh hW.g).cells, fun e => (show l.length = 0 ∧ c = 0 from ⟨by rw [(h.none_ e).1]; rfl, (h.none_ e).2⟩)⟩))
  have ln := cellsD_len l
  have on1 := cellsD_one l
  have LL := Lib.hid hlen
  clear h hc hs hd END hlen
  generalize hU : cellsD l = U at *
  clear hU
  generalize s.tot = T at *
  generalize code s d.xs d.t d.ns = ec at *
  generalize dCre s l d = l2 at *
  generalize hm0 : l.length = m at *
  clear hm0
  obtain ⟨da, dn, dc, dx, dt, dns, dg⟩ := d
  simp only at *
  unfold docV docO at *
  go_enter Try.func16, Try.ntmps16
  go_upto_region 1 with fail
  generalize (w.alloc _).alloc _ = W at *
  obtain ⟨⟨b0, bz⟩, ⟨y0, yz⟩⟩ := BX.out W PB
  go_upto_region 4 with fail
  go_loopg [10] dn (fun left t wr => PcI dx dn W left t wr)
  case atStart => exact ⟨0, by omega, by omega, rfl, Below.refl _ _, Lib.hid (fun j x hj => by omega)⟩
  case round =>
    clear b0 bz y0 yz
    obtain ⟨k, hk, rfl, rfl, hb, hH⟩ := hrel
    have PB2 := PB.fresh hb
    obtain ⟨⟨b0, bz⟩, ⟨y0, yz⟩⟩ := BX.out _ PB2
    by_cases hlt : k < dn
    · have q1 : (k : Int) < dn := by omega
      have q2 : (k : Int) ≤ dc := by omega
      obtain ⟨x, hx⟩ : ∃ x, dx[k]? = some x := ⟨_, List.getElem?_eq_getElem (by have := LL.out; omega)⟩
      obtain ⟨hx64, kb, ob, rfl, hkb, _, cx⟩ := (DP.out _ PB2).at_ k x hx
      have CX : Hid (∀ W', CB w v m c W' → W'.cell? ⟨kb, ob + k, none⟩ = some (.int .i64 x)) := Lib.hid fun W' hW' => by
        obtain ⟨_, kb', ob', e, _, _, cx'⟩ := (DP.out _ hW').at_ k x hx
        cases e
        exact cx'
      have HS := Lib.hid (fun W' (hW' : CB w v m c W') => has _ (some ⟨kb, ob, none⟩) k dc (dx.take k) x W' ((DP.out _ hW').sub (by omega)))
      by_cases hx0 : x < 0
      · have EN := Lib.hid (EB.out (good_low hx hx0))
        clear EB EF EO SRC TT DP HS CX hH hx
        have gd : decide (x < 0) = true := by simpa using hx0
        go_upto_region 6 with fail
        go_quiet (fail)
        have PB3 := PB2.fresh (drawn wr nq)
        clear b0 bz y0 yz cx
        generalize wr.drewN _ = V at *
        obtain ⟨⟨b0, bz⟩, ⟨y0, yz⟩⟩ := BX.out _ PB3
        go_wp2_with fail
        refine bodyPost_ret (v := .tuple #[.agg #[.slice v m c], .int .i64 1]) (by simp [results, Try.results16, go_sem, y0]) rfl ?_
        exact EN.out V PB3
      · have gd : decide (x < 0) = false := by simpa using hx0
        have PD := PB2.fresh (Below.refl _ _).drew
        have cd := CX.out _ PD
        cases hm : decide (x ∈ dx.take k) with
        | true =>
          rw [hm] at HS
          have EN := Lib.hid (EB.out (good_twice hx (by simpa using hm)))
          clear EB EF EO SRC TT DP hH hx hm
          go_upto_region 6 with fail
          clear b0 bz y0 yz
          go_region_held3 (fun w' => w'.cell? ⟨kb, ob + k, none⟩ = some (.int .i64 x)) (first | exact cd | exact CX.out _ PB3)
            (first
              | (go_at_call 25; (with_reducible refine (HS.out _ PD).mono ?_); rintro e w2 ⟨rfl, hg2⟩; have PB3 := PD.fresh hg2; clear hg2))
          obtain ⟨⟨b0, bz⟩, ⟨y0, yz⟩⟩ := BX.out _ PB3
          go_wp2_with fail
          refine bodyPost_ret (v := .tuple #[.agg #[.slice v m c], .int .i64 1]) (by simp [results, Try.results16, go_sem, y0]) rfl ?_
          exact EN.out _ PB3
        | false =>
          rw [hm] at HS
          have NX := Lib.hid (fun W' (hW' : Below wr.heap.size wr W') => (show PcI dx dn W (dn - (k + 1)) (.int .i64 ((k : Int) + 1)) W' from ⟨k + 1, by omega, rfl, by go_num, hb.trans (hW'.mono hb.size), Lib.hid fun j y hj hy => by
            rcases Nat.lt_succ_iff_lt_or_eq.1 hj with h1 | rfl
            · exact hH.out j y h1 hy
            · rw [hx] at hy; cases hy; exact ⟨by omega, by simpa using hm⟩⟩))
          clear EB EF EO SRC TT DP hH hx hm
          go_upto_region 6 with fail
          clear b0 bz y0 yz
          go_region_held3 (fun w' => w'.cell? ⟨kb, ob + k, none⟩ = some (.int .i64 x)) (first | exact cd | exact CX.out _ PB3)
            (first
              | (go_at_call 25; (with_reducible refine (HS.out _ PD).mono ?_); rintro e w2 ⟨rfl, hg2⟩; have PB3 := PD.fresh hg2; have NX2 := Lib.hid (NX.out _ ((Below.refl _ _).drew.trans (hg2.mono (Nat.le_refl _))))))
          go_wp2_with fail
          go_roundg (dn - (k + 1))
          case measure => omega
          case rel => exact NX2.out
    · have q1 : ¬ (k : Int) < dn := by omega
      have hgd : good dx = true := good_all fun j x hj => hH.out j x (by have := (List.getElem?_eq_some_iff.1 hj).1; have := LL.out; omega) hj
      by_cases k4 : top - T < dns
      · have k5 : (9223372036854775807 : Int) - T < dns := k4
        have EN := Lib.hid (EF.out hgd k4)
        clear EB EF EO SRC DP hH k4
        go_wp2_with (go_at_call 18; (with_reducible refine (TT.out _ PB2).mono ?_); rintro e w2 ⟨rfl, hg2⟩; have PB3 := PB2.fresh hg2; clear b0 bz y0 yz; obtain ⟨⟨b0, bz⟩, ⟨y0, yz⟩⟩ := BX.out _ PB3)
        refine bodyPost_ret (v := .tuple #[.agg #[.slice v m c], .int .i64 3]) (by simp [results, Try.results16, go_sem, y0]) rfl ?_
        exact EN.out _ PB3
      · have k5 : ¬ (9223372036854775807 : Int) - T < dns := k4
        have EN := Lib.hid (EO.out hgd (by omega))
        clear EB EF EO DP hH k4
        go_upto_region 10 with (go_at_call 18; (with_reducible refine (TT.out _ PB2).mono ?_); rintro e w2 ⟨rfl, hg2⟩; have PB3 := PB2.fresh hg2; clear b0 bz y0 yz; obtain ⟨⟨b0, bz⟩, ⟨y0, yz⟩⟩ := BX.out _ PB3)
        have PBA := PB3.fresh (alloc1 w2 (.cells #[] 57))
        obtain ⟨src, nil_⟩ := SRC.out _ PBA
        obtain ⟨⟨bA, bAz⟩, _⟩ := BX.out _ PBA
        have m1 : (w2.alloc (.cells #[] 57)).ownsRow w2.heap.size 57 4 (.slice (some ⟨w2.heap.size, 0, none⟩) 0 0) 0 [] := World.ownsRow_made w2 #[] 0 (Nat.le_refl _) (by simp [maxLen]) rfl
        have zA : (w2.alloc (.cells #[] 57)).heap.size = w2.heap.size + 1 := World.size_alloc _ _
        have gA := alloc1 w2 (.cells #[] 57)
        have hz2 : w.heap.size + 1 < w2.heap.size := lt_of PB3.r
        clear SRC TT
        go_wp2_with (first
          | (at_builtin; refine wpList_append_any _ rfl (.tmp 46) (.tmp 48) 27 rfl w2.heap.size 57 i0 _ 4 48 Try.underlying27 hi0 hz0 hz1 hz2' rfl (by decide) _ _ _ [] rfl m1 v m c U rfl ln nil_ src on1 (by simp only [maxLen]; omega) (by omega) (by omega) _ zA ?_; intro g1 c1 w1 own1 hgrow1 _; simp only [Nat.zero_add, List.nil_append] at own1; have hb1 := gA.grown hgrow1 (by omega) (by intro j hj; cases hj; exact Nat.le_refl _); have PB4 := PB3.fresh hb1; clear b0 bz y0 yz bA bAz; obtain ⟨⟨b0, bz⟩, ⟨y0, yz⟩⟩ := BX.out _ PB4)
          | (at_builtin; refine wpList_append_own _ rfl (.tmp 49) (.tmp 54) 27 rfl w2.heap.size 57 i0 _ 4 48 Try.underlying27 hi0 hz0 hz1 hz2' rfl (by decide) _ _ U rfl (own1.alloc _) ⟨w1.heap.size, 0, none⟩ 1 1 [.slice da dn dc, .int .i64 dt, .int .i64 dns, .bool false] rfl rfl (World.news_of_block (heap_alloc_new w1 _)) (by simp [Value.oneCell']) (by simp only [maxLen]; omega) (by omega) (by simp; have := hb1.size; omega) ?_; intro v' w4 hown4 hgrow4 _; have hb4 := (hb1.alloc hb1.size _).grown hgrow4 (by simp; have := hb1.size; omega) (fun j hj => (own1.lt j hj).1); obtain ⟨g4, c4, rfl, hg4, hg4'⟩ := hown4.form (by omega); have PB5 := PB3.fresh hb4; clear b0 bz y0 yz; obtain ⟨⟨b0, bz⟩, ⟨y0, yz⟩⟩ := BX.out _ PB5))
        refine bodyPost_ret (v := .tuple #[.agg #[.slice (some ⟨g4, 0, none⟩) (m + 1) c4], .int .i64 0]) (by simp [results, Try.results16, go_sem, y0]) rfl ?_
        exact EN.out w4 g4 c4 PB5.g (owns_lower hown4 (by omega)) (by omega)
end Go.Proofs.Ytnocgdhepmgncaa.Ledger
