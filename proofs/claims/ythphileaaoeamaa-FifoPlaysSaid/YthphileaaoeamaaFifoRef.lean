/- The document's calls for a line: Put, Drop, Same. Conditions: as each fact states them. -/
import Derived.Test.YthphileaaoeamaaFifoTurnsW
namespace Go.Proofs.Ythphileaaoeamaa.Fifo
open Go.ChangeShapes Go.WideShapes Go.ChangeAt Go.RowKit Mem
set_option linter.unusedVariables false
set_option linter.unusedSimpArgs false
set_option maxRecDepth 100000

/-- A slice of the call's own, not nil, appended to from a slice of one-cell things that came in, nil or not. -/
theorem wpList_append_in {P : Program} (w : World) {ops : Array Oper} {rest : List Oper} {o : Oper} {a : Act} {Q : Exit → Act → World → Prop} (hgd : o.guard = none) (s x : Operand) (t : TypeId)
    (ho : o.op = .call { callee := .builtin .append, args := #[s, x], argTypes := #[t, t] })
    (base : Nat) (e : TypeId) (i : TypeInfo) (z : Value) (bytes : Nat) (ht : P.underlying t = some (.slice e)) (hi : P.info? e = some i) (hz : i.zero = some z)
    (hsize : i.size = 1) (hby : i.bytes = bytes) (hzs : z.cells.size = 1)
    (g0 n c0 : Nat) (xs : List Value) (hs : a.eval s = .slice (some ⟨g0, 0, none⟩) n c0) (hown : w.ownsRow base e 1 (.slice (some ⟨g0, 0, none⟩) n c0) n xs)
    (v : Option Addr) (m c : Nat) (ys : List Value) (hx : a.eval x = .slice v m c) (hl : ys.length = m) (hnil : v = none → m = 0 ∧ c = 0) (hys : ∀ ad, v = some ad → ∀ j u, ys[j]? = some u → w.cell? (ad.add j) = some u) (h1 : ∀ y ∈ ys, y.oneCell' = true)
    (h63 : n + m ≤ maxLen) (hbytes : (n + m) * bytes ≤ 140737488355328) (hbase : base ≤ w.heap.size) (H : Nat) (hH : w.heap.size = H)
    (h : ∀ g cap w', w'.ownsRow base e 1 (.slice (some ⟨g, 0, none⟩) (n + m) cap) (n + m) (xs ++ ys) → w.grownBy w' (some g0) → (g = g0 ∨ g = H) → wpList P ops Q rest (a.put o.dst (.slice (some ⟨g, 0, none⟩) (n + m) cap)) w') :
    wpList P ops Q (o :: rest) a w := by
  cases v with
  | none =>
    obtain ⟨rfl, rfl⟩ := hnil rfl
    have hys : ys = [] := List.eq_nil_of_length_eq_zero hl
    subst hys
    refine wpList_plain hgd fun K hK' => ?_
    have hrun := run_append_owned_none (P := P) w base t o.type e i 1 ht hi _ n xs hown
    unfold Oper.wp
    simp [execOp, ho, resolve, invoke, builtin, hs, hx, hrun, Result.andThen]
    exact hK' _ _ (by simpa using h g0 c0 w (by simpa using hown) (World.grownBy.refl _ _) (.inl rfl))
  | some ad =>
    refine wpList_append_own_at w hgd s x t ho base e i z 1 bytes ht hi hz hsize hby hzs (by decide) _ n xs hs hown ad m c ys hx (by omega) (hys ad rfl) h1 h63 hbytes hbase ?_
    intro v' w' k1 k2 k3 k4
    rcases k1.2 with ⟨rfl, _⟩ | ⟨g', cap', cur', rfl, _⟩
    · have := k3.1 rfl
      simp at this
    · refine h g' cap' w' k1 k2 ?_
      rcases k4 with k4 | k4
      · exact .inl (by simpa [Value.ownBlock] using k4)
      · exact .inr (by rw [← hH]; simpa [Value.ownBlock] using k4)

/-- The document's list: xs, in blocks from B on; nil only if there is none. -/
structure Dl (B : Nat) (v : Option Addr) (cap : Nat) (xs : List Int) (w : World) : Prop where
  lst : Lst B v xs w
  none_ : v = none → xs = [] ∧ cap = 0
  cap : xs.length ≤ cap
theorem Dl.fresh {B : Nat} {v : Option Addr} {cap : Nat} {xs : List Int} {w w' : World} (h : Dl B v cap xs w) (hg : Below w.heap.size w w') : Dl B v cap xs w' := ⟨h.lst.fresh hg, h.none_, h.cap⟩
theorem cL_at {xs : List Int} {j : Nat} {u : Value} (h : (cL xs)[j]? = some u) : ∃ x, xs[j]? = some x ∧ u = .int .i64 x := by
  simp [cL] at h
  obtain ⟨x, hx, e⟩ := h
  exact ⟨x, hx, e.symm⟩
theorem cL_one (xs : List Int) : ∀ y ∈ cL xs, y.oneCell' = true := by intro y hy; obtain ⟨_, _, rfl⟩ := List.mem_map.1 hy; rfl
theorem Lst.src {B : Nat} {v : Option Addr} {xs : List Int} {w : World} (h : Lst B v xs w) : ∀ ad, v = some ad → ∀ j u, (cL xs)[j]? = some u → w.cell? (ad.add j) = some u := by
  intro ad e j u hu
  obtain ⟨x, hx, rfl⟩ := cL_at hu
  obtain ⟨k, o, e1, _, _, hc⟩ := h j x hx
  rw [e] at e1
  cases e1
  rw [add_at]
  exact hc
theorem dl_own {w : World} {B n g cap : Nat} {e : TypeId} {xs : List Int} (h : w.ownsRow B e 1 (.slice (some ⟨g, 0, none⟩) n cap) n (cL xs)) : Dl B (some ⟨g, 0, none⟩) cap xs w := by
  have hl := h.1
  rw [cL_length, Nat.mul_one] at hl
  refine ⟨lst_own h, (fun e => by cases e), ?_⟩
  rcases h.2 with ⟨e1, _⟩ | ⟨g', cap', cur, e1, _, _, h1, _⟩
  · cases e1
  · cases e1; omega
theorem dl_row {w : World} {B n : Nat} {e : TypeId} {u : Value} {xs : List Int} (h : w.ownsRow B e 1 u n (cL xs)) : ∃ ao cap, u = .slice ao n cap ∧ Dl B ao cap xs w := by
  rcases h.2 with ⟨e1, e2⟩ | ⟨g, cap, cur, e1, h0, hg, h1⟩
  · have hl := h.1
    rw [cL_length, e2] at hl
    obtain rfl : xs = [] := List.eq_nil_of_length_eq_zero hl
    exact ⟨none, 0, by rw [e1, e2], Lst.nil _ _ _, fun _ => ⟨rfl, rfl⟩, by simp⟩
  · subst e1
    exact ⟨_, cap, rfl, dl_own h⟩
theorem made_in {W : World} {base : Nat} {e : TypeId} {g0 : Nat} (h : W.heap.size = g0) (hb : base ≤ g0) : (W.alloc (.cells #[] e)).ownsRow base e 1 (.slice (some ⟨g0, 0, none⟩) 0 0) 0 [] := made h hb

/-- A list of the document's, and whether. -/
def Both (B : Nat) (ys : List Int) (is : Bool) (w : World) (e : Ending) (w' : World) : Prop := ∃ ao cap, e = .returned (.tuple #[.slice ao ys.length cap, .bool is]) ∧ Dl B ao cap ys w' ∧ Below w.heap.size w w'
set_option maxHeartbeats 2000000 in
theorem refPut (B : Nat) (v : Option Addr) (cap : Nat) (xs : List Int) (p : Int) (w : World) (h : Dl B v cap xs w) (hl : xs.length ≤ 64) (hB : B ≤ w.heap.size) :
    Calls Try.prog 12 #[.slice v xs.length cap, .int .i64 p] w (Both B (putL xs p) (may xs p) w) := by
  obtain ⟨i0, hi, hz0, hz1, hz2⟩ := info_parts infoI
  have HH := Lib.hid (has B v cap xs p w (by omega) h.lst)
  have hli : (xs.length : Int) ≤ 64 := by omega
  by_cases h1 : p < 0
  · have E : may xs p = false := by simp [may, h1]
    rw [show putL xs p = xs by simp [putL, E], E]
    have G : Hid (Both B xs false w (.returned (.tuple #[.slice v xs.length cap, .bool false])) w) := ⟨v, cap, rfl, h, Below.refl _ _⟩
    clear E
    clear h HH
    go_enter Try.func12, Try.ntmps12
    go_wp2
    go_ret2; exact G.out
  by_cases h2 : 64 ≤ xs.length
  · have E : may xs p = false := by simp [may, h2]
    rw [show putL xs p = xs by simp [putL, E], E]
    have G : Hid (Both B xs false w (.returned (.tuple #[.slice v xs.length cap, .bool false])) w) := ⟨v, cap, rfl, h, Below.refl _ _⟩
    clear E
    have q1 : (64 : Int) ≤ xs.length := by omega
    clear h HH
    go_enter Try.func12, Try.ntmps12
    go_wp2
    go_ret2; exact G.out
  have q1 : ¬ (64 : Int) ≤ xs.length := by omega
  by_cases h3 : p ∈ xs
  · have E : may xs p = false := by simp [may, h3]
    rw [show putL xs p = xs by simp [putL, E], E]
    have G : Hid (Both B xs false w (.returned (.tuple #[.slice v xs.length cap, .bool false])) w) := ⟨v, cap, rfl, h, Below.refl _ _⟩
    clear E
    rw [show decide (p ∈ xs) = true by simpa using h3] at HH
    clear h
    go_enter Try.func12, Try.ntmps12
    go_wp2_with (go_at_call 22; refine HH.out.mono ?_; rintro e w1 ⟨rfl, rfl⟩)
    go_ret2; exact G.out
  · have E : may xs p = true := by
      have a1 : decide (p < 0) = false := by simpa using h1
      have a2 : decide (64 ≤ xs.length) = false := by simpa using h2
      have a3 : decide (p ∈ xs) = false := by simpa using h3
      simp [may, a1, a2, a3]
    rw [show putL xs p = xs ++ [p] by simp [putL, E], E]
    rw [show decide (p ∈ xs) = false by simpa using h3] at HH
    have m0 : (w.alloc (.cells #[] 3)).ownsRow w.heap.size 3 1 (.slice (some ⟨w.heap.size, 0, none⟩) 0 0) 0 [] := made_in rfl (Nat.le_refl _)
    have src := (h.lst.fresh (alloc1 w (.cells #[] 3))).src
    have b0 := alloc1 w (.cells #[] 3)
    have nil_ := fun e => (show xs.length = 0 ∧ cap = 0 from ⟨by rw [(h.none_ e).1]; rfl, (h.none_ e).2⟩)
    have ln := cL_length xs
    have one := cL_one xs
    have z1 : (w.alloc (.cells #[] 3)).heap.size = w.heap.size + 1 := by simp
    have FIN : Hid (∀ u w4, w4.ownsRow w.heap.size 3 1 u (xs.length + 1) (cL xs ++ [.int .i64 p]) → Below w.heap.size w w4 → Both B (xs ++ [p]) true w (.returned (.tuple #[u, .bool true])) w4) := fun u w4 ho hb => by
      rw [show cL xs ++ [.int .i64 p] = cL (xs ++ [p]) by simp [cL]] at ho
      obtain ⟨ao, cap', rfl, hd⟩ := dl_row ho
      exact ⟨ao, cap', by simp, ⟨hd.lst.lower hB, hd.none_, hd.cap⟩, hb⟩
    clear h
    generalize cL xs = U at *
    generalize xs.length = n at *
    go_enter Try.func12, Try.ntmps12
    go_wp2_with (first
      | (go_at_call 22; refine HH.out.mono ?_; rintro e w1 ⟨rfl, rfl⟩)
      | (at_builtin; refine wpList_append_in _ rfl (.tmp 19) (.tmp 20) 26 rfl w1.heap.size 3 i0 _ 8 Try.underlying26 hi hz0 hz1 hz2 rfl _ _ _ _ rfl m0 v n cap U rfl ln nil_ src one (by simp only [maxLen]; omega) (by omega) (by omega) _ z1 ?_; intro g c w3 hown3 hgrow3 _; simp only [Nat.zero_add, List.nil_append] at hown3; have hb3 := b0.grown hgrow3 (by omega) (by intro j hj; cases hj; exact Nat.le_refl _); have hz3 := hb3.size)
      | (at_builtin; refine wpList_append_own _ rfl (.tmp 21) (.tmp 23) 26 rfl w1.heap.size 3 i0 _ 1 8 Try.underlying26 hi hz0 hz1 hz2 rfl (by decide) _ _ _ rfl (hown3.alloc _) ⟨w3.heap.size, 0, none⟩ 1 1 [.int .i64 p] rfl rfl (World.news_of_block (heap_alloc_new w3 _)) (by simp [Value.oneCell']) (by simp only [maxLen]; omega) (by omega) (by simp; omega) ?_; intro v' w4 hown4 hgrow4 _; have hb4 := (hb3.alloc hz3 _).grown hgrow4 (by simp; omega) (fun j hj => (hown3.lt j hj).1)))
    go_ret2
    exact FIN.out _ _ hown4 hb4

def but (xs : List Int) (p : Int) (k : Nat) : List Int := (xs.take k).filter (fun x => !decide (x = p))
theorem but_yes {xs : List Int} {p x : Int} {k : Nat} (h : xs[k]? = some x) (hx : x = p) : but xs p (k + 1) = but xs p k := by
  obtain ⟨hk, e⟩ := List.getElem?_eq_some_iff.1 h
  unfold but
  rw [List.take_succ_eq_append_getElem hk, e, List.filter_append]
  simp [hx]
theorem but_no {xs : List Int} {p x : Int} {k : Nat} (h : xs[k]? = some x) (hx : x ≠ p) : but xs p (k + 1) = but xs p k ++ [x] := by
  obtain ⟨hk, e⟩ := List.getElem?_eq_some_iff.1 h
  unfold but
  rw [List.take_succ_eq_append_getElem hk, e, List.filter_append]
  simp [hx]
theorem but_len (xs : List Int) (p : Int) (k : Nat) : (but xs p k).length ≤ k := Nat.le_trans (List.length_filter_le _ _) (by simp; omega)
theorem but_all (xs : List Int) (p : Int) : but xs p xs.length = xs.filter (fun x => !decide (x = p)) := by unfold but; rw [List.take_length]
theorem but_less (xs : List Int) (p : Int) : decide ((xs.filter (fun x => !decide (x = p))).length < xs.length) = decide (p ∈ xs) := by
  rw [decide_eq_decide]
  constructor
  · intro h'
    rw [List.length_filter_lt_length_iff_exists] at h'
    obtain ⟨x, hx, e⟩ := h'
    simp at e
    exact e ▸ hx
  · intro h
    exact List.length_filter_lt_length_iff_exists.2 ⟨p, h, by simp⟩
def DropJ (xs : List Int) (p : Int) (w : World) (left : Nat) (u t : Value) (wr : World) : Prop :=
  ∃ k : Nat, k ≤ xs.length ∧ left = xs.length - k ∧ t = .int .i64 k ∧ wr.ownsRow w.heap.size 3 1 u (but xs p k).length (cL (but xs p k)) ∧ Below w.heap.size w wr
set_option maxHeartbeats 2000000 in
theorem refDrop (B : Nat) (v : Option Addr) (cap : Nat) (xs : List Int) (p : Int) (w : World) (h : Dl B v cap xs w) (hl : xs.length ≤ 64) (hB : B ≤ w.heap.size) :
    Calls Try.prog 15 #[.slice v xs.length cap, .int .i64 p] w (Both B (xs.filter (fun x => !decide (x = p))) (decide (p ∈ xs)) w) := by
  obtain ⟨i0, hi, hz0, hz1, hz2⟩ := info_parts infoI
  have hli : (xs.length : Int) ≤ 64 := by omega
  obtain ⟨n, hn⟩ : ∃ n, xs.length = n := ⟨_, rfl⟩
  have H := Lib.hid h.lst
  have FIN : Hid (∀ u w4, w4.ownsRow w.heap.size 3 1 u (but xs p n).length (cL (but xs p n)) → Below w.heap.size w w4 → ∃ ao cp, u = .slice ao (but xs p n).length cp ∧ (but xs p n).length ≤ 64 ∧ Both B (xs.filter (fun x => !decide (x = p))) (decide (p ∈ xs)) w (.returned (.tuple #[.slice ao (but xs p n).length cp, (.bool (decide ((but xs p n).length < n)))])) w4) := fun u w4 ho hb => by
    obtain ⟨ao, cap', rfl, hd⟩ := dl_row ho
    have hq := but_len xs p n
    refine ⟨ao, cap', rfl, by omega, ?_⟩
    rw [← hn, but_all, but_less]
    rw [← hn, but_all] at hd
    exact ⟨ao, cap', rfl, ⟨hd.lst.lower hB, hd.none_, hd.cap⟩, hb⟩
  rw [hn]
  rw [hn] at hli
  clear h
  go_enter Try.func15, Try.ntmps15
  go_wp2_with fail
  go_loopg [6, 7] n (fun left u t wr => DropJ xs p w left u t wr)
  case atStart => exact ⟨0, by omega, by omega, rfl, World.ownsRow_nil _ _ _ _, Below.refl _ _⟩
  case round =>
    obtain ⟨k, hk, rfl, rfl, hown, hb⟩ := hrel
    rw [hn] at hk
    by_cases hlt : k < n
    · have h3 : (k : Int) < n := by omega
      obtain ⟨x, hx⟩ : ∃ x, xs[k]? = some x := ⟨_, List.getElem?_eq_getElem (by omega)⟩
      obtain ⟨b, o, rfl, _, hbl, hc⟩ := H.out k x hx
      replace hc := (hb.cell (p := ⟨b, o + k, none⟩) hbl).trans hc
      have hzr := hb.size
      clear FIN H hbl
      by_cases hp : x = p
      · have NX : Hid (DropJ xs p w (n - (k + 1)) u6 (.int .i64 ((k : Int) + 1)) wr) := ⟨k + 1, by omega, by omega, by go_num, by rw [but_yes hx hp]; exact hown, hb⟩
        subst hp
        clear hown hx
        go_wp2_with fail
        go_roundg (n - (k + 1))
        case measure => omega
        case rel => exact NX.out
      · have hp' : (x == p) = false := by simpa using hp
        have NX : Hid (∀ u w4, w4.ownsRow w.heap.size 3 1 u ((but xs p k).length + 1) (cL (but xs p k) ++ [.int .i64 x]) → Below w.heap.size w w4 → DropJ xs p w (n - (k + 1)) u (.int .i64 ((k : Int) + 1)) w4) := fun u w4 ho hb => ⟨k + 1, by omega, by omega, by go_num, by rw [but_no hx hp]; simpa [cL] using ho, hb⟩
        have hq := but_len xs p k
        have hln := cL_length (but xs p k)
        clear hx
        generalize cL (but xs p k) = U at *
        generalize (but xs p k).length = m at *
        go_wp2_with (at_builtin; refine wpList_append_own _ rfl (.tmp 20) (.tmp 25) 26 rfl w.heap.size 3 i0 _ 1 8 Try.underlying26 hi hz0 hz1 hz2 rfl (by decide) _ _ _ rfl (hown.alloc _) ⟨wr.heap.size, 0, none⟩ 1 1 [.int .i64 x] rfl rfl (World.news_of_block (heap_alloc_new wr _)) (by simp [Value.oneCell']) (by simp only [maxLen]; omega) (by omega) (by simp; omega) ?_; intro v' w4 hown4 hgrow4 _; have hb4 := (hb.alloc hzr _).grown hgrow4 (by simp; omega) (fun j hj => (hown.lt j hj).1))
        go_roundg (n - (k + 1))
        case measure => omega
        case rel => exact NX.out _ _ hown4 hb4
    · obtain rfl : k = n := by omega
      have h3 : ¬ (k : Int) < k := by omega
      obtain ⟨ao, cp, rfl, hq, hF⟩ := FIN.out _ _ hown hb
      have HF := Lib.hid hF
      clear FIN H hown hb hF
      generalize (but xs p k).length = m at *
      go_wp2_with fail
      go_ret2
      exact HF.out
def SamI (n : Nat) (w : World) (t : Value) (wr : World) : Prop := ∃ k : Nat, k ≤ n ∧ t = .int .i64 k ∧ Below w.heap.size w wr
theorem sames (B C : Nat) (a b : Option Addr) (n c d : Nat) (xs : List Int) (w : World) (hl : xs.length = n) (hn : n ≤ 9223372036854775807) (HA : Hid (Lst B a xs w)) (HB : Hid (Lst C b xs w)) :
    Calls Try.prog 17 #[.slice a n c, .slice b n d] w (Yes w) := by
  go_enter Try.func17, Try.ntmps17
  go_wp2
  go_loopw [5] (fun t5 wr => SamI n w t5 wr) (fun i _ => n - (intOf i).toNat)
  case atStart => exact ⟨0, by omega, rfl, Below.refl _ _⟩
  case round =>
    obtain ⟨k, hk, rfl, hb⟩ := hrel
    by_cases hlt : k < n
    · have h3 : (k : Int) < n := by omega
      obtain ⟨x, hx⟩ : ∃ x, xs[k]? = some x := ⟨_, List.getElem?_eq_getElem (by omega)⟩
      obtain ⟨b1, o1, rfl, _, hb1, c1⟩ := HA.out k x hx
      obtain ⟨b2, o2, rfl, _, hb2, c2⟩ := HB.out k x hx
      replace c1 := (hb.cell (p := ⟨b1, o1 + k, none⟩) hb1).trans c1
      replace c2 := (hb.cell (p := ⟨b2, o2 + k, none⟩) hb2).trans c2
      have NX := Lib.hid (fun m => (⟨k + 1, by omega, by go_num, hb.trans ((drawn wr m).mono hb.size)⟩ : SamI n w (.int .i64 ((k : Int) + 1)) (wr.drewN m)))
      go_wp2_with fail
      go_quiet (fail)
      go_wp2_with fail
      go_roundw
      case rel => exact NX.out _
      case measure => simp [intOf]; omega
    · have h3 : ¬ (k : Int) < n := by omega
      obtain rfl : k = n := by omega
      go_wp2_with fail
      go_ret
      exact ⟨rfl, hb⟩
end Go.Proofs.Ythphileaaoeamaa.Fifo
