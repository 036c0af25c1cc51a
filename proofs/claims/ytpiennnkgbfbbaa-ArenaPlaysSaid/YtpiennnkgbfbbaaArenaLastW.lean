/- The walk of ArenaLast. Conditions: each number of the argument is one of 8 bits. -/
import Derived.Test.YtpiennnkgbfbbaaArenaHold
import Derived.LoopTactic
namespace Go.Proofs.Ytpiennnkgbfbbaa.Arena
open Go.ChangeShapes Go.WideShapes Go.ChangeAt Go.RowKit
set_option linter.unusedVariables false
set_option linter.unusedSimpArgs false

/-- 256 places; each that is full was never freed, each other one once. -/
structure Last2 (st : St) : Prop where
  len : st.pl.length = 256
  gens : ∀ q ∈ st.pl, (q.full = true → q.gen = 0) ∧ (q.full = false → q.gen = 1)
theorem Last2.start : Last2 ⟨256, F 256, []⟩ := by
  refine ⟨F_length 256, fun q hq => ?_⟩
  simp [F] at hq
  obtain ⟨i, _, rfl⟩ := hq
  simp
/-- What a Free does by then. -/
theorem Last2.free {st : St} (h : Last2 st) {p : Nat} (hp : p < 256) :
    (st.names p 0 = true ∧ st.err p 0 = 0 ∧ Last2 (st.free p 0) ∧ (st.free p 0).fr = st.fr ++ [p]) ∨ (st.err p 0 = 2 ∧ st.free p 0 = st) := by
  cases hn : st.names p 0
  · exact .inr ⟨by simp [St.err, hn], by simp [St.free, hn]⟩
  · refine .inl ⟨rfl, by simp [St.err, hn], ?_, by simp [St.free, hn]⟩
    rw [show st.free p 0 = { st with pl := st.pl.set p ⟨0, false, 0 + 1⟩, fr := st.fr ++ [p] } by simp [St.free, hn]]
    refine ⟨by simpa using h.len, fun q hq => ?_⟩
    rcases List.mem_or_eq_of_mem_set hq with hq | rfl
    · exact h.gens q hq
    · simp
/-- On the way back: each free place was freed once. -/
structure Last3 (st : St) : Prop where
  len : st.pl.length = 256
  gens : ∀ i ∈ st.fr, ∃ q, st.pl[i]? = some q ∧ q.gen = 1
theorem Last3.of {N : Int} {st : St} (h : Last2 st) (hI : Inv N st) : Last3 st := ⟨h.len, fun i hi => by
  obtain ⟨q, hq, hf⟩ := hI.free i hi
  exact ⟨q, hq, (h.gens q (List.mem_of_getElem? hq)).2 hf⟩⟩
theorem Last3.put {N : Int} {st : St} (h : Last3 st) (hI : Inv N st) {l : List Nat} {i : Nat} (hf : st.fr = l ++ [i]) :
    ∃ st', st.put 0 = ⟨st', i, 1, 0⟩ ∧ Last3 st' ∧ st'.fr = l := by
  obtain ⟨q, hq, hg⟩ := h.gens i (by simp [hf])
  refine ⟨⟨st.room, st.pl.set i ⟨0, true, q.gen⟩, l⟩, by simp [St.put, hf, hq, hg], ⟨by simpa using h.len, fun j hj => ?_⟩, rfl⟩
  obtain ⟨p, hp, hpg⟩ := h.gens j (by rw [hf]; exact List.mem_append_left _ hj)
  by_cases e : i = j
  · subst e
    exact ⟨⟨0, true, q.gen⟩, by simp [List.getElem?_set, (List.getElem?_eq_some_iff.1 hq).1], hg⟩
  · exact ⟨p, by simp only; rw [List.getElem?_set_ne e]; exact hp, hpg⟩

theorem Hold.up {w0 w : World} {O : Nat → Prop} {N M : Int} {b : Nat} {st : St} (h : Hold w0 O N b st w) (hM : N ≤ M) : Hold w0 O M b st w := ⟨h.pool, h.inv.mono hM, h.lt, h.sub, h.below⟩
theorem take_last {L : List Nat} {m : Nat} (h : m < L.length) : L.take (m + 1) = L.take m ++ [L[m]] := by rw [List.take_add_one, List.getElem?_eq_getElem h]; rfl
theorem int_cell {w : World} {B g c m : Nat} {L : List Nat} {e : TypeId} (h : w.ownsRow B e 1 (.slice (some ⟨g, 0, none⟩) L.length c) L.length (cellsI L)) (hm : m < L.length) : w.cell? ⟨g, m, none⟩ = some (.int .i64 (L[m] : Int)) := by
  rw [h.cellAt m (by omega)]
  simp [cellsI, hm]
def Last1I (w : World) (B b : Nat) (t : Value) (wr : World) : Prop := ∃ k : Nat, k ≤ 256 ∧ t = .int .i64 k ∧ Hold w (OL B []) 0 b ⟨256, F k, []⟩ wr
def Last2I (w : World) (B b len : Nat) (v t : Value) (wr : World) : Prop := ∃ (k : Nat) (st : St), k ≤ len ∧ k ≤ 100 ∧ t = .int .i64 k ∧ Hold w (OL B [v]) k b st wr ∧ Last2 st ∧ wr.ownsRow B 3 1 v st.fr.length (cellsI st.fr)
def Last3I (w : World) (B b : Nat) (L : List Nat) (v t : Value) (wr : World) : Prop := ∃ (m : Nat) (st : St), m ≤ L.length ∧ t = .int .i64 ((m : Int) - 1) ∧ Hold w (OL B [v]) 100 b st wr ∧ Last3 st ∧ st.fr = L.take m ∧ wr.ownsRow B 3 1 v L.length (cellsI L)

set_option maxRecDepth 100000 in
theorem last_as (v : Option Addr) (len cap : Nat) (zs : List Int) (w : World) (hlen : len ≤ 9223372036854775807) (HZ : Hid (∀ j : Nat, 0 ≤ zs[j]?.getD 0 ∧ zs[j]?.getD 0 ≤ 255))
    (HC : Hid (∀ j, j < len → ∃ k off, v = some ⟨k, off, none⟩ ∧ k < w.heap.size ∧ w.cell? ⟨k, off + j, none⟩ = some (.int .u8 (zs[j]?.getD 0)))) :
    Calls Try.prog 7 #[.slice v len cap] w (Yes w) := by
  obtain ⟨i0, hi, hz0, hz1, hz2⟩ := info_parts infoI
  have hg := Below.refl w.heap.size w
  go_enter Try.func7, Try.ntmps7
  go_wp2_with (first
    | (go_at_call 9; refine (awake _).mono ?_; rintro e w1 ⟨rfl, hg1⟩; replace hg := fresh_trans hg hg1; clear hg1)
    | (go_at_call 10; refine (newHold w w1 256 hg (by omega) (by omega)).mono ?_; rintro e w2 ⟨rfl, hH, hB2⟩; replace hB2 := hB2.size))
  have hB := hg.size
  replace hH : Hold w (OL w1.heap.size []) 0 w1.heap.size ⟨256, F 0, []⟩ w2 := hH.less (fun k hk => by simpa [OL] using hk) (OL.sub hB _)
  generalize w1.heap.size = B at *
  go_loopw [6] (fun t wr => Last1I w B B t wr) (fun i _ => 256 - (intOf i).toNat)
  case atStart => exact ⟨0, by omega, rfl, hH⟩
  case round =>
    clear hH
    obtain ⟨k, hk, rfl, hH⟩ := hrel
    by_cases hlt : (k : Int) < 256
    · go_wp2_with (first
        | (go_at_call 13; refine (hH.putAs k (by omega) (put_F hlt)).mono ?_; clear hH; rintro e w3 ⟨rfl, hH, _⟩))
      go_roundw
      case rel => exact ⟨k + 1, by omega, by go_num, hH⟩
      case measure => simp [intOf]; omega
    · obtain rfl : k = 256 := by omega
      go_wp2_with fail
      go_loopw [7, 8] (fun v t wr => Last2I w B B len v t wr) (fun _ i _ => 100 - (intOf i).toNat)
      case atStart => exact ⟨0, ⟨256, F 256, []⟩, by omega, by omega, rfl, hH.step (fun _ _ _ => rfl) (fun k hk => by simpa [OL, Value.ownBlock] using Or.inl hk) (fun k hk => hH.lt k (by simpa [OL, Value.ownBlock] using hk)) (OL.sub hB _) hH.below, Last2.start, World.ownsRow_nil _ _ _ _⟩
      case round =>
        clear hH
        obtain ⟨k, st, hk1, hk2, rfl, hH, hL, hown⟩ := hrel
        by_cases hlt : k < len ∧ k < 100
        · obtain ⟨h1, h2⟩ := hlt
          obtain ⟨j, off, rfl, hj, hcell⟩ := HC.out k h1
          obtain ⟨p0, p1⟩ := HZ.out k
          generalize zs[k]?.getD 0 = p at p0 p1 hcell
          obtain ⟨p, rfl⟩ := Int.eq_ofNat_of_zero_le p0
          have hcell' := (hH.below.cell hj).trans hcell
          have h4 : (k : Int) < len := by omega
          have h5 : (k : Int) < 100 := by omega
          have hfl := hH.inv.l2
          rcases hL.free (show p < 256 by omega) with ⟨_, e1, e2, e3⟩ | ⟨e1, e2⟩
          · go_wp2_with (first
              | (go_at_call 19; refine (hH.freeAs (i := (p : Int)) (g := 0) (by omega) ⟨rfl, e1, rfl⟩).mono ?_; clear hH hcell' e1; rintro e w3 ⟨rfl, hH, hs⟩; replace hown := owns_same hown hs (OL.mem (by simp)); clear hs; have hcell' := (hH.below.cell hj).trans hcell)
              | (at_builtin; refine wpList_append_lies _ rfl (.tmp 55) (.tmp 61) 28 rfl B 3 i0 _ 1 8 Try.underlying28 hi hz0 hz1 hz2 rfl (by decide) _ _ _ rfl (hown.alloc _) ⟨w3.heap.size, 0, none⟩ 1 1 [.int .i64 (p : Int)] rfl rfl (World.news_of_block (heap_alloc_new w3 _)) (by simp [Value.oneCell']) (by decide) (by simp only [maxLen]; omega) (by omega) (by have := hH.pool.lt; simp; omega) (w3.heap.size + 1) (by simp) ?_; intro g cap w4 hown4 hgrow hat hlt))
            go_roundw
            case rel => exact ⟨k + 1, st.free p 0, by omega, by omega, by go_num, (hH.append hB hown (by simp) hgrow hat hlt (fun u hu => .inr (List.mem_singleton.1 hu))).up (by omega), e2, by rw [e3, cellsI_append]; simpa using hown4⟩
            case measure => simp [intOf]; omega
          · go_wp2_with (first
              | (go_at_call 19; refine (hH.freeAs (i := (p : Int)) (g := 0) (by omega) ⟨rfl, e1, e2⟩).mono ?_; clear hH hcell' e1; rintro e w3 ⟨rfl, hH, hs⟩; replace hown := owns_same hown hs (OL.mem (by simp)); clear hs))
            go_roundw
            case rel => exact ⟨k + 1, st, by omega, by omega, by go_num, hH.up (by omega), hL, hown⟩
            case measure => simp [intOf]; omega
        · have hI := hH.inv
          have hL3 := Last3.of hL hI
          obtain ⟨ao, cp, rfl⟩ := owns_shape hown
          have hfl := hI.l2
          obtain ⟨L, HL⟩ : ∃ L, Hid (L = st.fr) := ⟨_, rfl⟩
          rw [← HL.out] at hown hfl
          have hex : Last3I w B B L (.slice ao L.length cp) (.int .i64 ((L.length : Int) - 1)) wr := ⟨L.length, st, Nat.le_refl _, rfl, (by rw [HL.out]; exact hH.up (by omega)), hL3, by rw [List.take_length]; exact HL.out.symm, by rw [HL.out] at hown ⊢; exact hown⟩
          have HX : Hid _ := hex
          rw [← HL.out]
          clear hH hL hL3 hown hI hex
          have hd : ¬ (k : Int) < len ∨ ((k : Int) < len ∧ ¬ (k : Int) < 100) := by omega
          rcases hd with h1 | ⟨h1, h2⟩
          all_goals
            go_wp2_with fail
            go_loopw [11] (fun t wr => Last3I w B B L (.slice ao L.length cp) t wr) (fun i _ => (intOf i + 1).toNat)
            case atStart => exact HX.out
            case round =>
              clear HX HL
              obtain ⟨m, st, hm, rfl, hH, hL, hf, hown⟩ := hrel
              cases m with
              | zero =>
                have e0 : cnt st.pl = 256 := by have := hH.inv.count; rw [hf, hL.len] at this; simpa using this
                go_wp2_with (first
                  | (go_at_call 22; refine (hH.lenAs e0).mono ?_; clear hH; rintro e w7 ⟨rfl, h7, _⟩))
                go_ret
                exact ⟨by simp, h7.below⟩
              | succ m =>
                rw [take_last (by omega)] at hf
                obtain ⟨st', e1, hL', hf'⟩ := hL.put hH.inv hf
                have hml : m < L.length := by omega
                have hm1 : (m : Int) < L.length := by omega
                obtain ⟨g, cp', hv, _⟩ := hown.form (by omega)
                cases hv
                have E1 : Hid _ := e1
                rw [show (((m + 1 : Nat) : Int) - 1) = m by omega]
                clear e1 hf hL
                go_wp2_with (first
                  | (go_at_call 13; refine (hH.putAs 0 (by omega) E1.out).mono ?_; clear hH; rintro e w3 ⟨rfl, hH, hs⟩; replace hown := owns_same hown hs (OL.mem (by simp)); clear hs; have c0 := cell_alloc (int_cell hown hml)))
                go_quiet (fail)
                go_wp2
                go_roundw
                case rel => exact ⟨m, st', by omega, by go_num, ((hH.local _).forget (OL.sub hB _)).fresh (drawn _ _), hL', hf', owns_fresh hown (allocd _ _ _)⟩
                case measure => simp [intOf]
theorem lastLaw (v : Option Addr) (len cap : Nat) (zs : List Int) (w : World) (hlen : len ≤ 9223372036854775807) (hz : ∀ n ∈ zs, (Lit.int .u8 n).wf = true)
    (hc : ∀ j, j < len → ∃ k off, v = some ⟨k, off, none⟩ ∧ k < w.heap.size ∧ w.cell? ⟨k, off + j, none⟩ = some (.int .u8 (zs[j]?.getD 0))) :
    Calls Try.prog 7 #[.slice v len cap] w (Yes w) := by
  refine last_as v len cap zs w hlen (fun j => ?_) hc
  cases h : zs[j]? with
  | none => simp
  | some z => exact bounds_u8 (hz z (List.mem_of_getElem? h))
end Go.Proofs.Ytpiennnkgbfbbaa.Arena
