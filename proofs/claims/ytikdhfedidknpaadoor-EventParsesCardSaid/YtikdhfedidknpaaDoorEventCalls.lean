/- What the library's calls tell of a text, and event's own few calls over one field: figures, place, number, set, value. Conditions: the listed variables hold what they are listed with; texts are of at most 2^47 - 4096 bytes, numbers of their kinds. -/
import Derived.Test.YtikdhfedidknpaaDoorEventMem
import Derived.Test.YtikdhfedidknpaaDoorMaskText
import Derived.Test.YtikdhfedidknpaaDoorMaskParse
import Derived.Test.YtikdhfedidknpaaDoorShelf
import Derived.Lib.ParseIntBTie
import Derived.Lib.AppendIntMem
namespace Go.Proofs.YtikdhfedidknpaaDoor.Event
open Go.ChangeShapes Go.WideShapes Go.ChangeAt Go.RowKit
set_option linter.unusedVariables false
set_option linter.unusedSimpArgs false
set_option maxRecDepth 100000

def str (l : List UInt8) : ByteArray := ⟨l.toArray⟩
theorem str_data (s : ByteArray) : s = str s.data.toList := by cases s; simp [str]
theorem str_list (l : List UInt8) : (str l).data.toList = l := by simp [str]
theorem str_inj {a b : List UInt8} (h : str a = str b) : a = b := by have := congrArg (fun s : ByteArray => s.data.toList) h; simpa [str_list] using this
theorem str_size (l : List UInt8) : (str l).size = l.length := by simp [str, ByteArray.size]
theorem str_toList (l : List UInt8) : (str l).toList = l := by rw [ByteArray.toList_eq, str_list]

/-- A text's number, and whether there is an error. -/
def IsNum (l : List UInt8) (w : World) (e : Ending) (w' : World) : Prop :=
  ∃ (v : Int) (E : Value), e = .returned (.tuple #[.int .i64 v, E]) ∧ ((Lib.atoiAll l = .ok v ∧ E = .nilIface) ∨ ((∀ u, Lib.atoiAll l ≠ .ok u) ∧ ∃ t N, E = .iface t (.pointer (some ⟨N, 0, none⟩)))) ∧ Below w.heap.size w w'
theorem below_or {w w' : World} {k : TypeId} {s : ByteArray} (h : w' = w ∨ ∃ t, w' = Lib.bytesWorld w k t) : Below w.heap.size w w' := by
  rcases h with rfl | ⟨t, rfl⟩
  · exact Below.refl _ _
  · exact Lib.bytesWorld_below _ _ _
theorem atoi (s : ByteArray) (hs : s.size ≤ 140737488351232) (w : World) (hT : Tab w) : Calls Tryd.prog 60 #[.string s] w (IsNum s.data.toList w) := by
  obtain ⟨t1, p1, e1⟩ := hT.es
  obtain ⟨t2, p2, e2⟩ := hT.er
  cases h : Lib.atoiAll s.data.toList with
  | ok v => exact (Tryd.strconv_Atoi_ok s (by omega) v h w).mono fun e w' ⟨he, hw⟩ => ⟨v, _, he, .inl ⟨h, rfl⟩, below_or (s := s) hw⟩
  | «syntax» => exact (Tryd.strconv_Atoi_syntax_var s (by omega) h t1 p1 w e1).mono fun e w' ⟨N, he, _, _, hb⟩ => ⟨_, _, he, .inr ⟨fun u => by rw [h]; simp, _, N, rfl⟩, hb⟩
  | range => exact (Tryd.strconv_Atoi_range_var s (by omega) h t2 p2 w e2).mono fun e w' ⟨N, he, _, _, hb⟩ => ⟨_, _, he, .inr ⟨fun u => by rw [h]; simp, _, N, rfl⟩, hb⟩
theorem parseInt (s : ByteArray) (hs : s.size ≤ 140737488351232) (w : World) (hT : Tab w) : Calls Tryd.prog 61 #[.string s, .int .i64 10, .int .i64 64] w (IsNum s.data.toList w) := by
  obtain ⟨t1, p1, e1⟩ := hT.es
  obtain ⟨t2, p2, e2⟩ := hT.er
  cases h : Lib.atoiAll s.data.toList with
  | ok v => exact (Tryd.strconv_ParseInt_10_at64_ok s (by omega) v (by rw [Lib.parseIntB_64, h]) w).mono fun e w' ⟨he, hw⟩ => ⟨v, _, he, .inl ⟨h, rfl⟩, below_or (s := s) hw⟩
  | «syntax» => exact (Tryd.strconv_ParseInt_10_at64_syntax_var s (by omega) (by rw [Lib.parseIntB_64, h]) t1 p1 w e1).mono fun e w' ⟨N, he, _, _, hb⟩ => ⟨_, _, he, .inr ⟨fun u => by rw [h]; simp, _, N, rfl⟩, hb⟩
  | range => exact (Tryd.strconv_ParseInt_10_at64_range_var s (by omega) (by rw [Lib.parseIntB_64, h]) t2 p2 w e2).mono fun e w' ⟨N, he, _, _, hb⟩ => ⟨_, _, he, .inr ⟨fun u => by rw [h]; simp, _, N, rfl⟩, hb⟩
theorem itoa_ (n : Int) (h : I64 n) (w : World) (hT : Tab w) : Calls Tryd.prog 50 #[.int .i64 n] w (IsV (.string (str (figs n))) w) :=
  (Tryd.strconv_Itoa n h.1 h.2 w hT.pow).mono fun e w' ⟨he, k, os, hw⟩ => ⟨he, by rw [hw]; exact Lib.below_grow _ _ (Nat.le_refl _) _ _⟩
theorem format_ (n : Int) (h : I64 n) (w : World) (hT : Tab w) : Calls Tryd.prog 51 #[.int .i64 n, .int .i64 10] w (IsV (.string (str (figs n))) w) :=
  (Tryd.strconv_FormatInt_10 n h.1 h.2 w hT.pow).mono fun e w' ⟨he, k, os, hw⟩ => ⟨he, by rw [hw]; exact Lib.below_grow _ _ (Nat.le_refl _) _ _⟩
theorem cut_index (c : UInt8) (l : List UInt8) : Lib.indexByte l c = if Mask.found c l = true then ((Mask.ahead c l).length : Int) else -1 := by
  induction l with
  | nil => rfl
  | cons x l ih =>
    unfold Lib.indexByte
    by_cases h : x = c
    · subst h
      simp [Mask.found, Mask.ahead]
    · have h1 : Mask.found c (x :: l) = Mask.found c l := by simp [Mask.found, h]
      have h2 : Mask.ahead c (x :: l) = x :: Mask.ahead c l := by simp [Mask.ahead, h]
      rw [h1, h2]
      simp only [beq_iff_eq, h, if_false, ih]
      by_cases hf : Mask.found c l = true
      · simp [hf]
        try omega
      · simp [hf]

theorem is_int (v : Value) (w : World) : (Instr.typeAssert (.iface 3 v) 20 3 true).run Tryd.prog w = .ok (.tuple #[v, .bool true]) w := rfl
theorem is_int' (v : Value) (w : World) : (Instr.typeAssert (.iface 2 v) 20 3 true).run Tryd.prog w = .ok (.tuple #[.int .i64 0, .bool false]) w := rfl
theorem is_int'' (v : Value) (w : World) : (Instr.typeAssert (.iface 31 v) 20 3 true).run Tryd.prog w = .ok (.tuple #[.int .i64 0, .bool false]) w := rfl
theorem is_int64 (v : Value) (w : World) : (Instr.typeAssert (.iface 2 v) 20 2 true).run Tryd.prog w = .ok (.tuple #[v, .bool true]) w := rfl
theorem is_int64' (v : Value) (w : World) : (Instr.typeAssert (.iface 31 v) 20 2 true).run Tryd.prog w = .ok (.tuple #[.int .i64 0, .bool false]) w := rfl

/-- A field's text. -/
def figT (f : UInt8) (z : Int) : List UInt8 := if f = 65 ∨ f = 66 ∨ f = 78 ∨ f = 77 then figs z else if z = 0 then noneT else MK.t z.toNat
/-- A number of the kind that a letter says. -/
def Fits (f : UInt8) (z : Int) : Prop := if f = 83 then 0 ≤ z ∧ z < 18446744073709551616 else I64 z
theorem figures_int (z : Int) (h : I64 z) (w : World) (hT : Tab w) : Calls Tryd.prog 37 #[.iface 3 (.int .i64 z)] w (IsV (.string (str (figs z))) w) := by
  have C := Lib.hid (fun (w : World) (hT : Tab w) => itoa_ z h w hT)
  have h1 := is_int
  go_enter Tryd.func37, Tryd.ntmps37
  go_wp2_with (go_at_call 50; refine (C.out _ hT).mono ?_; rintro e w1 ⟨rfl, hg⟩)
  go_ret
  exact ⟨rfl, hg⟩
theorem figures_int64 (z : Int) (h : I64 z) (w : World) (hT : Tab w) : Calls Tryd.prog 37 #[.iface 2 (.int .i64 z)] w (IsV (.string (str (figs z))) w) := by
  have C := Lib.hid (fun (w : World) (hT : Tab w) => format_ z h w hT)
  have h1 := is_int'
  have h2 := is_int64
  go_enter Tryd.func37, Tryd.ntmps37
  go_wp2_with (go_at_call 51; refine (C.out _ hT).mono ?_; rintro e w1 ⟨rfl, hg⟩)
  go_ret
  exact ⟨rfl, hg⟩
theorem figures_none (w : World) : Calls Tryd.prog 37 #[.iface 31 (.int .u64 0)] w (IsV (.string (str noneT)) w) := by
  have h1 := is_int''
  have h2 := is_int64'
  have h3 := as_uint64
  go_enter Tryd.func37, Tryd.ntmps37
  go_wp2
  go_ret
  exact ⟨rfl, Below.refl _ _⟩
theorem figures_mask (m : Nat) (hm : m < 18446744073709551616) (h0 : ((m : Int) == 0) = false) (w : World) (hT : Tab w) : Calls Tryd.prog 37 #[.iface 31 (.int .u64 m)] w (IsV (.string (str (MK.t m))) w) := by
  have C := Lib.hid (fun (w : World) (hT : Tab w) => Mask.Text m hm w hT.tz)
  have h1 := is_int''
  have h2 := is_int64'
  have h3 := as_uint64
  go_enter Tryd.func37, Tryd.ntmps37
  go_wp2_with (go_at_call 52; refine (C.out _ hT).mono ?_; rintro e w1 ⟨rfl, hg⟩)
  go_ret
  exact ⟨rfl, hg⟩
theorem figures (f : UInt8) (hf : Fu f) (z : Int) (hz : Fits f z) (w : World) (hT : Tab w) : Calls Tryd.prog 37 #[fvOf f z] w (IsV (.string (str (figT f z))) w) := by
  rcases hf with rfl | rfl | rfl | rfl | rfl
  · exact figures_int z hz w hT
  · exact figures_int z hz w hT
  · exact figures_int64 z hz w hT
  · exact figures_int64 z hz w hT
  · have hz' : 0 ≤ z ∧ z < 18446744073709551616 := hz
    by_cases h0 : z = 0
    · subst h0; exact figures_none w
    · obtain ⟨m, rfl⟩ : ∃ m : Nat, z = m := ⟨z.toNat, by omega⟩
      have : figT 83 (m : Int) = MK.t m := by unfold figT; rw [if_neg (by decide), if_neg h0]; rfl
      rw [this]
      exact figures_mask m (by omega) (by simpa using h0) w hT
/-- A text's value, of the type that its letter says, or what is wrong. -/
def IsVal (f : UInt8) (x : Int × Int) (w : World) (e : Ending) (w' : World) : Prop := e = .returned (.tuple #[if x.2 = 0 then fvOf f x.1 else .nilIface, .int .i64 x.2]) ∧ Below w.heap.size w w'
theorem set_ (l : List UInt8) (w : World) : Calls Tryd.prog 47 #[.string (str l)] w (IsVal 83 (valF MK 83 l) w) := by
  have C := Lib.hid (fun (w : World) => Mask.Parse (str l) l (str_list l).symm w)
  by_cases h1 : l = noneT
  · subst h1
    have e0 : ((str noneT).toList == [110, 111, 110, 101]) = true := by rw [str_toList]; decide
    clear C
    go_enter Tryd.func47, Tryd.ntmps47
    go_wp2
    go_ret2
    exact ⟨rfl, Below.refl _ _⟩
  · have e1 : ((str l).toList == [110, 111, 110, 101]) = false := by rw [str_toList]; simpa using h1
    by_cases h2 : l = []
    · subst h2
      have e2 : (str []).toList.isEmpty = true := by rw [str_toList]; rfl
      clear C
      go_enter Tryd.func47, Tryd.ntmps47
      go_wp2
      go_ret2
      exact ⟨rfl, Below.refl _ _⟩
    · have e2 : (str l).toList.isEmpty = false := by rw [str_toList]; simpa using h2
      have hv : valF MK 83 l = if (Mask.parse l).2 = 0 then (((Mask.parse l).1 : Int), 0) else (0, (Mask.parse l).2) := by
        unfold valF
        rw [if_neg (by decide), if_neg (by decide), if_neg h1, if_neg h2]
        rfl
      unfold Mask.IsParse at C
      rw [hv]
      clear hv h1 h2
      generalize (Mask.parse l).1 = m at *
      generalize (Mask.parse l).2 = b at *
      generalize str l = s at *
      by_cases hb : b = 0
      · subst hb
        go_enter Tryd.func47, Tryd.ntmps47
        go_wp2_with (go_at_call 62; refine (C.out _).mono ?_; rintro e w1 ⟨rfl, hg⟩)
        go_ret2
        exact ⟨rfl, hg⟩
      · have hb' : (b == 0) = false := by simpa using hb
        have hb2 := Lib.hid hb
        rw [if_neg hb]
        go_enter Tryd.func47, Tryd.ntmps47
        go_wp2_with (go_at_call 62; refine (C.out _).mono ?_; rintro e w1 ⟨rfl, hg⟩)
        go_ret2
        refine ⟨?_, hg⟩
        rw [if_neg hb2.out]
        rfl

/-- What a number's text is, by what the library tells of it. -/
theorem valNum_cases (l : List UInt8) : (∀ v, Lib.atoiAll l = .ok v → ((v < 0 ∨ figs v ≠ l) ∧ valF MK 65 l = (0, 11)) ∨ (¬ v < 0 ∧ figs v = l ∧ valF MK 65 l = (v, 0))) ∧ ((∀ v, Lib.atoiAll l ≠ .ok v) → valF MK 65 l = (0, 11)) := by
  have hA := numA_eq l
  unfold valF
  rw [if_pos (by decide), ← hA]
  unfold numA
  refine ⟨fun v h => ?_, fun h => ?_⟩
  · rw [h]
    simp only
    by_cases hf : figs v = l
    · rw [if_pos hf]
      by_cases hn : v < 0
      · exact .inl ⟨.inl hn, by simp [hn]⟩
      · exact .inr ⟨hn, hf, by simp [hn]⟩
    · exact .inl ⟨.inr hf, by simp [hf]⟩
  · cases ha : Lib.atoiAll l with
    | ok v => exact absurd ha (h v)
    | _ => rfl
theorem valNum_cases' (l : List UInt8) : (∀ v, Lib.atoiAll l = .ok v → (figs v ≠ l ∧ valF MK 78 l = (0, 11)) ∨ (figs v = l ∧ valF MK 78 l = (v, 0))) ∧ ((∀ v, Lib.atoiAll l ≠ .ok v) → valF MK 78 l = (0, 11)) := by
  have hA := numA_eq l
  unfold valF
  rw [if_neg (by decide), if_pos (by decide), ← hA]
  unfold numA
  refine ⟨fun v h => ?_, fun h => ?_⟩
  · rw [h]
    simp only
    by_cases hf : figs v = l
    · exact .inr ⟨hf, by simp [hf]⟩
    · exact .inl ⟨hf, by simp [hf]⟩
  · cases ha : Lib.atoiAll l with
    | ok v => exact absurd ha (h v)
    | _ => rfl
theorem atoi_ok (s : ByteArray) (hs : s.size ≤ 140737488351232) (v : Int) (hv : Lib.atoiAll s.data.toList = .ok v) (w : World) (hT : Tab w) : Calls Tryd.prog 60 #[.string s] w (IsV (.tuple #[.int .i64 v, .nilIface]) w) := by
  refine (atoi s hs w hT).mono ?_
  rintro e w' ⟨u, E, he, ⟨h1, h2⟩ | ⟨h1, _⟩, hb⟩
  · rw [hv] at h1
    cases h1
    subst h2
    exact ⟨he, hb⟩
  · exact absurd hv (h1 v)
theorem atoi_bad (s : ByteArray) (hs : s.size ≤ 140737488351232) (hn : ∀ v, Lib.atoiAll s.data.toList ≠ .ok v) (w : World) (hT : Tab w) : Calls Tryd.prog 60 #[.string s] w (fun e w' => ∃ v t N, e = .returned (.tuple #[.int .i64 v, .iface t (.pointer (some ⟨N, 0, none⟩))]) ∧ Below w.heap.size w w') := by
  refine (atoi s hs w hT).mono ?_
  rintro e w' ⟨u, E, he, ⟨h1, h2⟩ | ⟨_, t, N, hE⟩, hb⟩
  · exact absurd h1 (hn u)
  · subst hE; exact ⟨u, t, N, he, hb⟩
theorem parseInt_ok (s : ByteArray) (hs : s.size ≤ 140737488351232) (v : Int) (hv : Lib.atoiAll s.data.toList = .ok v) (w : World) (hT : Tab w) : Calls Tryd.prog 61 #[.string s, .int .i64 10, .int .i64 64] w (IsV (.tuple #[.int .i64 v, .nilIface]) w) := by
  refine (parseInt s hs w hT).mono ?_
  rintro e w' ⟨u, E, he, ⟨h1, h2⟩ | ⟨h1, _⟩, hb⟩
  · rw [hv] at h1
    cases h1
    subst h2
    exact ⟨he, hb⟩
  · exact absurd hv (h1 v)
theorem parseInt_bad (s : ByteArray) (hs : s.size ≤ 140737488351232) (hn : ∀ v, Lib.atoiAll s.data.toList ≠ .ok v) (w : World) (hT : Tab w) : Calls Tryd.prog 61 #[.string s, .int .i64 10, .int .i64 64] w (fun e w' => ∃ v t N, e = .returned (.tuple #[.int .i64 v, .iface t (.pointer (some ⟨N, 0, none⟩))]) ∧ Below w.heap.size w w') := by
  refine (parseInt s hs w hT).mono ?_
  rintro e w' ⟨u, E, he, ⟨h1, h2⟩ | ⟨_, t, N, hE⟩, hb⟩
  · exact absurd h1 (hn u)
  · subst hE; exact ⟨u, t, N, he, hb⟩
theorem place_ (l : List UInt8) (hl : l.length ≤ 140737488351232) (w : World) (hT : Tab w) : Calls Tryd.prog 45 #[.string (str l)] w (IsVal 65 (valF MK 65 l) w) := by
  obtain ⟨V1, V2⟩ := valNum_cases l
  by_cases h : ∃ v, Lib.atoiAll l = .ok v
  · obtain ⟨v, hv⟩ := h
    have hI := Lib.atoiAll_bounds hv
    have C := Lib.hid (fun (w : World) (hT : Tab w) => atoi_ok (str l) (by rw [str_size]; exact hl) v (by rw [str_list]; exact hv) w hT)
    have G := Lib.hid (fun (w : World) (hT : Tab w) => figures_int v hI w hT)
    have eL : (str l).toList = l := str_toList l
    have eV : (str (figs v)).toList = figs v := str_toList _
    rcases V1 v hv with ⟨hbad, e⟩ | ⟨h0, h1, e⟩
    · rw [e]
      by_cases hn : v < 0
      · clear V1 V2 e eL eV G hbad
        go_enter Tryd.func45, Tryd.ntmps45
        go_wp2_with (go_at_call 60; refine (C.out _ hT).mono ?_; rintro e w1 ⟨rfl, hb⟩)
        go_ret2
        exact ⟨rfl, hb⟩
      · have hne : ((str (figs v)).toList == (str l).toList) = false := by rw [eL, eV]; simpa using hbad.resolve_left hn
        clear V1 V2 e eL eV hbad
        generalize str l = s at *
        generalize str (figs v) = S at *
        go_enter Tryd.func45, Tryd.ntmps45
        go_wp2_with (first | (go_at_call 60; refine (C.out _ hT).mono ?_; rintro e w1 ⟨rfl, hb⟩) | (go_at_call 37; refine (G.out _ (hT.fresh hb)).mono ?_; rintro e w2 ⟨rfl, hb2⟩; replace hb := fresh_trans hb hb2; clear hb2))
        go_ret2
        exact ⟨rfl, hb⟩
    · rw [e]
      have hne : ((str (figs v)).toList == (str l).toList) = true := by rw [eL, eV, h1]; simp
      clear V1 V2 e eL eV h1
      generalize str l = s at *
      generalize str (figs v) = S at *
      go_enter Tryd.func45, Tryd.ntmps45
      go_wp2_with (first | (go_at_call 60; refine (C.out _ hT).mono ?_; rintro e w1 ⟨rfl, hb⟩) | (go_at_call 37; refine (G.out _ (hT.fresh hb)).mono ?_; rintro e w2 ⟨rfl, hb2⟩; replace hb := fresh_trans hb hb2; clear hb2))
      go_ret2
      exact ⟨rfl, hb⟩
  · have hn : ∀ v, Lib.atoiAll l ≠ .ok v := fun v hv => h ⟨v, hv⟩
    rw [V2 hn]
    have C := Lib.hid (fun (w : World) (hT : Tab w) => atoi_bad (str l) (by rw [str_size]; exact hl) (by rw [str_list]; exact hn) w hT)
    clear V1 V2 hn h
    go_enter Tryd.func45, Tryd.ntmps45
    go_wp2_with (go_at_call 60; refine (C.out _ hT).mono ?_; rintro e w1 ⟨v, t, N, rfl, hb⟩)
    go_ret2
    exact ⟨rfl, hb⟩
theorem number_ (l : List UInt8) (hl : l.length ≤ 140737488351232) (w : World) (hT : Tab w) : Calls Tryd.prog 46 #[.string (str l)] w (IsVal 78 (valF MK 78 l) w) := by
  obtain ⟨V1, V2⟩ := valNum_cases' l
  by_cases h : ∃ v, Lib.atoiAll l = .ok v
  · obtain ⟨v, hv⟩ := h
    have hI := Lib.atoiAll_bounds hv
    have C := Lib.hid (fun (w : World) (hT : Tab w) => parseInt_ok (str l) (by rw [str_size]; exact hl) v (by rw [str_list]; exact hv) w hT)
    have G := Lib.hid (fun (w : World) (hT : Tab w) => figures_int64 v hI w hT)
    have eL : (str l).toList = l := str_toList l
    have eV : (str (figs v)).toList = figs v := str_toList _
    rcases V1 v hv with ⟨hbad, e⟩ | ⟨h1, e⟩
    · rw [e]
      have hne : ((str (figs v)).toList == (str l).toList) = false := by rw [eL, eV]; simpa using hbad
      clear V1 V2 e eL eV hbad
      generalize str l = s at *
      generalize str (figs v) = S at *
      go_enter Tryd.func46, Tryd.ntmps46
      go_wp2_with (first | (go_at_call 61; refine (C.out _ hT).mono ?_; rintro e w1 ⟨rfl, hb⟩) | (go_at_call 37; refine (G.out _ (hT.fresh hb)).mono ?_; rintro e w2 ⟨rfl, hb2⟩; replace hb := fresh_trans hb hb2; clear hb2))
      go_ret2
      exact ⟨rfl, hb⟩
    · rw [e]
      have hne : ((str (figs v)).toList == (str l).toList) = true := by rw [eL, eV, h1]; simp
      clear V1 V2 e eL eV h1
      generalize str l = s at *
      generalize str (figs v) = S at *
      go_enter Tryd.func46, Tryd.ntmps46
      go_wp2_with (first | (go_at_call 61; refine (C.out _ hT).mono ?_; rintro e w1 ⟨rfl, hb⟩) | (go_at_call 37; refine (G.out _ (hT.fresh hb)).mono ?_; rintro e w2 ⟨rfl, hb2⟩; replace hb := fresh_trans hb hb2; clear hb2))
      go_ret2
      exact ⟨rfl, hb⟩
  · have hn : ∀ v, Lib.atoiAll l ≠ .ok v := fun v hv => h ⟨v, hv⟩
    rw [V2 hn]
    have C := Lib.hid (fun (w : World) (hT : Tab w) => parseInt_bad (str l) (by rw [str_size]; exact hl) (by rw [str_list]; exact hn) w hT)
    clear V1 V2 hn h
    go_enter Tryd.func46, Tryd.ntmps46
    go_wp2_with (go_at_call 61; refine (C.out _ hT).mono ?_; rintro e w1 ⟨v, t, N, rfl, hb⟩)
    go_ret2
    exact ⟨rfl, hb⟩
/-- A field's text. -/
theorem value_ (f : UInt8) (hf : Fu f) (z : Int) (l : List UInt8) (hl : l.length ≤ 140737488351232) (w : World) (hT : Tab w) : Calls Tryd.prog 35 #[fvOf f z, .string (str l)] w (IsVal f (valF MK f l) w) := by
  have h1 := is_int
  have h2 := is_int'
  have h3 := is_int''
  have h4 := is_int64
  have h5 := is_int64'
  have P := Lib.hid (fun (w : World) (hT : Tab w) => place_ l hl w hT)
  have Q := Lib.hid (fun (w : World) (hT : Tab w) => number_ l hl w hT)
  have R := Lib.hid (fun (w : World) => set_ l w)
  have e66 : valF MK 66 l = valF MK 65 l := rfl
  have e77 : valF MK 77 l = valF MK 78 l := rfl
  generalize str l = s at *
  unfold IsVal at *
  have k66 : ∀ z, fvOf 66 z = fvOf 65 z := fun z => rfl
  have k77 : ∀ z, fvOf 77 z = fvOf 78 z := fun z => rfl
  rcases hf with rfl | rfl | rfl | rfl | rfl
  · generalize valF MK 65 l = x at *
    generalize (if x.2 = 0 then fvOf 65 x.1 else .nilIface) = v at *
    clear e66 e77 k66 k77
    show Calls _ _ #[.iface 3 (.int .i64 z), .string s] _ _
    go_enter Tryd.func35, Tryd.ntmps35
    go_wp2_with (go_at_call 45; refine (P.out _ hT).mono ?_; rintro e w1 ⟨rfl, hb⟩)
    go_ret2
    exact ⟨rfl, hb⟩
  · rw [e66]
    simp only [k66]
    generalize valF MK 65 l = x at *
    generalize (if x.2 = 0 then fvOf 65 x.1 else .nilIface) = v at *
    clear e66 e77 k66 k77
    show Calls _ _ #[.iface 3 (.int .i64 z), .string s] _ _
    go_enter Tryd.func35, Tryd.ntmps35
    go_wp2_with (go_at_call 45; refine (P.out _ hT).mono ?_; rintro e w1 ⟨rfl, hb⟩)
    go_ret2
    exact ⟨rfl, hb⟩
  · generalize valF MK 78 l = x at *
    generalize (if x.2 = 0 then fvOf 78 x.1 else .nilIface) = v at *
    clear e66 e77 k66 k77
    show Calls _ _ #[.iface 2 (.int .i64 z), .string s] _ _
    go_enter Tryd.func35, Tryd.ntmps35
    go_wp2_with (go_at_call 46; refine (Q.out _ hT).mono ?_; rintro e w1 ⟨rfl, hb⟩)
    go_ret2
    exact ⟨rfl, hb⟩
  · rw [e77]
    simp only [k77]
    generalize valF MK 78 l = x at *
    generalize (if x.2 = 0 then fvOf 78 x.1 else .nilIface) = v at *
    clear e66 e77 k66 k77
    show Calls _ _ #[.iface 2 (.int .i64 z), .string s] _ _
    go_enter Tryd.func35, Tryd.ntmps35
    go_wp2_with (go_at_call 46; refine (Q.out _ hT).mono ?_; rintro e w1 ⟨rfl, hb⟩)
    go_ret2
    exact ⟨rfl, hb⟩
  · generalize valF MK 83 l = x at *
    generalize (if x.2 = 0 then fvOf 83 x.1 else .nilIface) = v at *
    clear e66 e77 k66 k77
    show Calls _ _ #[.iface 31 (.int .u64 z), .string s] _ _
    go_enter Tryd.func35, Tryd.ntmps35
    go_wp2_with (go_at_call 47; refine (R.out _).mono ?_; rintro e w1 ⟨rfl, hb⟩)
    go_ret2
    exact ⟨rfl, hb⟩
theorem cut_hit (A B : List UInt8) (c : UInt8) (w : World) (hl : A.length + B.length ≤ 140737488351232) (C : Hid (∀ w, Calls Tryd.prog 44 #[.string (str (A ++ c :: B)), .string ⟨#[c]⟩] w fun e w' => e = .returned (.int .i64 (A.length : Int)) ∧ w' = w)) :
    Calls Tryd.prog 33 #[.string (str (A ++ c :: B)), .string ⟨#[c]⟩] w (IsV (.tuple #[.string (str A), .string (str B), .bool true]) w) := by
  have hsz := str_size (A ++ c :: B)
  rw [List.length_append, List.length_cons] at hsz
  have x1 : (str (A ++ c :: B)).extract 0 A.length = str A := by
    rw [str_data ((str (A ++ c :: B)).extract _ _)]
    congr 1
    rw [← ByteArray.toList_eq, Lib.extract_toList, str_list]
    simp
  have x2 : (str (A ++ c :: B)).extract (A.length + 1) (str (A ++ c :: B)).size = str B := by
    rw [str_data ((str (A ++ c :: B)).extract _ _)]
    congr 1
    rw [← ByteArray.toList_eq, Lib.extract_toList, str_list, hsz]
    rw [show A ++ c :: B = (A ++ [c]) ++ B by simp, List.drop_left' (by simp)]
    exact List.take_of_length_le (by omega)
  have c0 : (0 : Int) ≤ (A.length : Int) := by omega
  have c2 : ((A.length : Nat) : Int) ≤ ((str (A ++ c :: B)).size : Int) := by omega
  have c3 : (0 : Int) ≤ (A.length : Int) + 1 := by omega
  have c4 : ((A.length : Nat) : Int) + 1 ≤ ((str (A ++ c :: B)).size : Int) := by omega
  have c5 : (str (A ++ c :: B)).size ≤ 140737488351233 := by omega
  have sA := str A
  have x1' := Lib.hid x1
  have x2' := Lib.hid x2
  clear x1 x2 hsz sA
  generalize str (A ++ c :: B) = s at *
  generalize A.length = i at *
  generalize str A = s1 at *
  generalize str B = s2 at *
  have x1 := x1'.out
  have x2 := x2'.out
  have mixed : Tryd.prog.follows Departure.mixedOrders = true := by kernel_rfl
  have e1 : IntKind.i64.wrap ((i : Int) + 1) = (i : Int) + 1 := by rw [IntKind.wrap_i64]; omega
  have e2 : ((i : Int) + 1).toNat = i + 1 := by omega
  go_enter Tryd.func33, Tryd.ntmps33
  go_wp2_with (go_at_call 44; refine (C.out _).mono ?_; rintro e w1 ⟨rfl, hw⟩; replace hw := hw.symm; subst hw)
  go_region_o
  go_wp2
  go_ret3
  exact ⟨rfl, rfl, rfl, rfl, Nat.le_refl _, fun _ _ => rfl⟩
/-- A text, cut at a byte. -/
theorem cut_ (c : UInt8) (l : List UInt8) (hl : l.length ≤ 140737488351232) (w : World) : Calls Tryd.prog 20 #[.string (str l), .string ⟨#[c]⟩] w (IsV (.tuple #[.string (str (Mask.ahead c l)), .string (str (Mask.behind c l)), .bool (Mask.found c l)]) w) := by
  have C := Lib.hid (fun (w : World) => Tryd.stringslite_Index_one (str l) c w)
  rw [str_list, cut_index] at C
  have hsz := str_size l
  have D : Hid (∀ w, Calls Tryd.prog 33 #[.string (str l), .string ⟨#[c]⟩] w (IsV (.tuple #[.string (str (Mask.ahead c l)), .string (str (Mask.behind c l)), .bool (Mask.found c l)]) w)) := by
    refine Lib.hid (fun w => ?_)
    by_cases hf : Mask.found c l = true
    · have hs := Mask.split_found hf
      have hlen := congrArg List.length hs
      simp only [List.length_append, List.length_cons] at hlen
      rw [if_pos hf] at C
      rw [hf]
      have hl2 : (Mask.ahead c l).length + (Mask.behind c l).length ≤ 140737488351232 := by omega
      have := cut_hit (Mask.ahead c l) (Mask.behind c l) c w hl2
      rw [← hs] at this
      exact this C
    · rw [if_neg hf] at C
      rw [show Mask.found c l = false by simpa using hf]
      have ha := (Mask.split_none (show Mask.found c l = false by simpa using hf)).1
      have hbh : Mask.behind c l = [] := by
        have : l.dropWhile (· != c) = [] := by simpa [Mask.found] using hf
        unfold Mask.behind
        rw [this]; rfl
      rw [ha, hbh]
      clear ha hbh hf hsz
      generalize str l = s at *
      go_enter Tryd.func33, Tryd.ntmps33
      go_wp2_with (go_at_call 44; refine (C.out _).mono ?_; rintro e w1 ⟨rfl, hw⟩; replace hw := hw.symm; subst hw)
      go_ret3
      exact ⟨rfl, Below.refl _ _⟩
  clear C hsz
  generalize str l = s at *
  generalize str (Mask.ahead c l) = s1 at *
  generalize str (Mask.behind c l) = s2 at *
  generalize Mask.found c l = b at *
  go_enter Tryd.func20, Tryd.ntmps20
  go_wp2_with (go_at_call 33; refine (D.out _).mono ?_; rintro e w1 ⟨rfl, hb⟩)
  go_ret3
  exact ⟨rfl, hb⟩
end Go.Proofs.YtikdhfedidknpaaDoor.Event
