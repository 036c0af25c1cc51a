/- What event's table of kinds tells: a kind's fields, a word's kind. Conditions: the listed variables hold what they are listed with. -/
import Derived.Test.YtikdhfedidknpaaDoorEventCalls
import Derived.Deep.LoopGhost
import Derived.Deep.QuietTactic
import Derived.Deep.MidRow
namespace Go.Proofs.YtikdhfedidknpaaDoor.Event
open Go.ChangeShapes Go.WideShapes Go.ChangeAt Go.RowKit
set_option linter.unusedVariables false
set_option linter.unusedSimpArgs false
set_option maxRecDepth 100000

def wordL (k : Nat) : List UInt8 := words.getD k []
def formL (k : Nat) : List UInt8 := formU ((k : Int) + 1)
theorem kind_word (k : Nat) (h : k < 15) : kindS (2 * k) = str (wordL k) := by
  have key : ∀ k : Fin 15, kindL.getD (2 * k.val) [] = wordL k.val := by decide
  unfold kindS
  rw [key ⟨k, h⟩]; rfl
theorem kind_form (k : Nat) (h : k < 15) : kindS (2 * k + 1) = str (formL k) := by
  have key : ∀ k : Fin 15, kindL.getD (2 * k.val + 1) [] = formL k.val := by decide
  unfold kindS
  rw [key ⟨k, h⟩]; rfl
theorem fields_ (k : Int) (h1 : 1 ≤ k) (h2 : k ≤ 15) (w : World) (hT : Tab w) : Calls Tryd.prog 26 #[.int .i64 k] w (fun e w' => e = .returned (.string (str (formU k))) ∧ w' = w) := by
  obtain ⟨j, rfl⟩ : ∃ j : Nat, k = (j : Int) + 1 := ⟨(k - 1).toNat, by omega⟩
  have hj : j < 15 := by omega
  have hc := hT.kinds (2 * j + 1) (by omega)
  rw [kind_form j hj, Nat.mul_comm 2 j] at hc
  have e0 : (j : Int) + 1 - 1 = (j : Int) := by omega
  have e1 : (j : Int) < 15 := by omega
  rw [show formU ((j : Int) + 1) = formL j from rfl]
  generalize str (formL j) = s at *
  clear h1 h2 hT
  go_enter Tryd.func26, Tryd.ntmps26
  go_wp2
  go_ret
  exact ⟨rfl, rfl⟩

def rowsK : List Value := (List.range 30).map fun j => .string (kindS j)
theorem tabR {w : World} (h : Tab w) : w.rangeAt 0 0 rowsK := by
  intro j v hv
  have hj : j < 30 := by
    have := (List.getElem?_eq_some_iff.1 hv).1
    simpa [rowsK] using this
  rw [Nat.zero_add, h.kinds j hj, ← hv]
  unfold rowsK
  rw [List.getElem?_map, List.getElem?_range hj]
  rfl
theorem idx (k : Nat) (hk : k < 15) (w : World) : Sem.run Tryd.prog (Instr.index 58 (.agg rowsK.toArray) (.int .i64 k)) w = .ok (.agg #[.string (str (wordL k)), .string (str (formL k))]) w := by
  have h : ∀ k : Fin 15, Sem.run Tryd.prog (Instr.index 58 (.agg rowsK.toArray) (.int .i64 (k.val : Int))) w = .ok (.agg #[.string (kindS (2 * k.val)), .string (kindS (2 * k.val + 1))]) w := by
    intro ⟨k, hk⟩
    match k, hk with
    | 0, _ | 1, _ | 2, _ | 3, _ | 4, _ | 5, _ | 6, _ | 7, _ | 8, _ | 9, _ | 10, _ | 11, _ | 12, _ | 13, _ | 14, _ => rfl
    | k + 15, hk => omega
  have := h ⟨k, hk⟩
  rw [kind_word k hk, kind_form k hk] at this
  exact this
def KiI (l : List UInt8) (w : World) (t : Value) (wr : World) : Prop := ∃ k : Nat, k ≤ 15 ∧ t = .int .i64 k ∧ (∀ j, j < k → wordL j ≠ l) ∧ Below w.heap.size w wr
theorem KiI.next {l : List UInt8} {w wr : World} {k : Nat} (hk : k < 15) (h : ∀ j, j < k → wordL j ≠ l) (hn : wordL k ≠ l) (hb : Below w.heap.size w wr) : KiI l w (.int .i64 ((k : Int) + 1)) wr :=
  ⟨k + 1, by omega, by go_num, fun j hj => by by_cases hjk : j = k; · subst hjk; exact hn
                                              · exact h j (by omega), hb⟩
theorem kind_yes {k : Nat} (hk : k < 15) {l : List UInt8} (h : wordL k = l) : kindOf l = (k : Int) + 1 := by
  subst h
  have key : ∀ k : Fin 15, kindOf (wordL k.val) = (k.val : Int) + 1 := by decide
  exact key ⟨k, hk⟩
theorem kind_no {l : List UInt8} (h : ∀ j, j < 15 → wordL j ≠ l) : kindOf l = 0 := by
  unfold kindOf
  by_cases hi : words.idxOf l < 15
  · exfalso
    have hl : words.idxOf l < words.length := hi
    have e := List.getElem_idxOf hl
    refine h _ hi ?_
    unfold wordL
    rw [List.getD_eq_getElem?_getD, List.getElem?_eq_getElem hl]
    exact e
  · rw [if_neg hi]
theorem kindOf_ (l : List UInt8) (w : World) (hT : Tab w) : Calls Tryd.prog 34 #[.string (str l)] w (IsV (.int .i64 (kindOf l)) w) := by
  have hg := Below.refl w.heap.size w
  have hR := tabR hT
  have IX := Lib.hid idx
  have eL : (str l).toList = l := str_toList l
  have HL := Lib.hid eL
  clear hT eL
  have hl : (Tryd.prog.info? 58).map (·.size) = some rowsK.length := by kernel_rfl
  generalize rowsK = R at hR IX hl
  generalize str l = s at *
  go_enter Tryd.func34, Tryd.ntmps34
  go_wp2_with (refine wpList_load_mid rfl 58 _ rfl 0 0 rfl R _ hR Tryd.underlying58 rfl hl ?_)
  clear hR hl
  generalize R.toArray = C at *
  go_loopw [6] (fun t wr => KiI l w t wr) (fun t _ => 15 - (intOf t).toNat)
  case atStart => exact ⟨0, by omega, rfl, fun j hj => by omega, hg⟩
  case round =>
    clear hg
    obtain ⟨k, hk, rfl, hne, hg⟩ := hrel
    by_cases hlt : k < 15
    · have hix := IX.out k hlt
      have h1 : (k : Int) < 15 := by omega
      have NX := Lib.hid (fun hn w' hb => KiI.next (l := l) (w := w) (wr := w') hlt hne hn hb)
      have HY := Lib.hid (fun h => kind_yes hlt (l := l) h)
      have eW : (str (wordL k)).toList = wordL k := str_toList _
      clear IX hne
      by_cases he : wordL k = l
      · have hq : ((str (wordL k)).toList == s.toList) = true := by rw [eW, HL.out, he]; simp
        have he' := Lib.hid he
        clear NX he eW
        generalize str (wordL k) = b at *
        generalize str (formL k) = b2 at *
        go_wp2
        go_ret
        refine ⟨by rw [HY.out he'.out]; simp; try omega, hg.alloc (hg.size) _⟩
      · have hq : ((str (wordL k)).toList == s.toList) = false := by rw [eW, HL.out]; simpa using he
        have he' := Lib.hid he
        clear he eW
        generalize str (wordL k) = b at *
        generalize str (formL k) = b2 at *
        go_wp2
        go_roundw
        case rel => exact NX.out he'.out _ (hg.alloc hg.size _)
        case measure => simp [intOf]; omega
    · obtain rfl : k = 15 := by omega
      have hb := Lib.hid (kind_no hne)
      clear IX hne
      go_wp2
      go_ret
      exact ⟨by rw [hb.out]; rfl, hg⟩
theorem ahead_ (l : List UInt8) (hl : l.length ≤ 140737488351232) (w : World) : Calls Tryd.prog 19 #[.string (str l)] w (fun e w' => e = .returned (.int .i64 (aheadOf l : Nat)) ∧ w' = w) := by
  have C1 := Lib.hid (fun (w : World) => Tryd.strings_TrimSuffix (str l) ⟨#[10]⟩ w (by rw [str_size]; omega))
  have C2 := Lib.hid (fun (w : World) => Tryd.strings_Count_one ⟨(Lib.trimSuffix l [10]).toArray⟩ 10 w)
  rw [str_list] at C1
  have e : Lib.countByte (ByteArray.mk (Lib.trimSuffix l [10]).toArray).data.toList 10 = aheadOf l := by simp [Lib.countByte, aheadOf]
  rw [e] at C2
  have e2 : (ByteArray.mk #[10]).data.toList = [10] := rfl
  rw [e2] at C1
  clear e e2
  generalize str l = s at *
  generalize aheadOf l = n at *
  generalize (⟨(Lib.trimSuffix l [10]).toArray⟩ : ByteArray) = s1 at *
  go_enter Tryd.func19, Tryd.ntmps19
  go_wp2_with (first
    | (go_at_call 32; refine (C1.out _).mono ?_; rintro e w1 ⟨rfl, rfl⟩)
    | (go_at_call 31; refine (C2.out _).mono ?_; rintro e w1 ⟨rfl, rfl⟩))
  go_ret
  exact ⟨rfl, rfl⟩
end Go.Proofs.YtikdhfedidknpaaDoor.Event
