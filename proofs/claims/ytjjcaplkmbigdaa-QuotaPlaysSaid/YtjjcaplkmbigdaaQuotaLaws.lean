/- A band held by a caller; that it works at all (awake); the calls of the law's own package. Conditions: none. -/
import Derived.Test.YtjjcaplkmbigdaaQuotaNew
import Derived.Test.YtjjcaplkmbigdaaQuotaEns
import Derived.Test.YtjjcaplkmbigdaaQuotaFill
import Derived.Test.YtjjcaplkmbigdaaQuotaServe
namespace Go.Proofs.Ytjjcaplkmbigdaa.Quota
open Go.ChangeShapes Go.WideShapes Go.ChangeAt Go.RowKit Mem
open Fix (I64)
set_option linter.unusedVariables false
set_option linter.unusedSimpArgs false
set_option maxRecDepth 100000

def Yes (w : World) (e : Ending) (w' : World) : Prop := e = .returned (.bool true) ∧ Below w.heap.size w w'

/-- A band that a caller holds, who came in at world w0; the blocks of O are held apart from it. -/
structure Held (w0 : World) (O : Nat → Prop) (b : Nat) (d : Bd) (w : World) : Prop where
  band : Band w b O d
  lt : ∀ k, O k → k < w.heap.size
  sub : ∀ k, k < w0.heap.size → O k
  below : Below w0.heap.size w0 w
def Res (v : Value) (w0 : World) (O : Nat → Prop) (b : Nat) (d : Bd) (w : World) (e : Ending) (w' : World) : Prop := e = .returned v ∧ Held w0 O b d w' ∧ Same O w w'

section
variable {w0 w w' : World} {O : Nat → Prop} {b : Nat} {d : Bd}
theorem Held.fresh (h : Held w0 O b d w) (hg : Below w.heap.size w w') : Held w0 O b d w' :=
  ⟨h.band.fresh hg, fun k hk => Nat.lt_of_lt_of_le (h.lt k hk) hg.size, h.sub, h.below.trans (hg.mono h.below.size)⟩
theorem Held.did {v : Value} {d' : Bd} (h : Held w0 O b d w) {e : Ending} (r : Did v d' b O w e w') : Res v w0 O b d' w e w' :=
  ⟨r.1, ⟨r.2.1, fun k hk => Nat.lt_of_lt_of_le (h.lt k hk) r.2.2.size, h.sub, h.below.trans (r.2.2.mono h.sub).below⟩, r.2.2⟩
theorem Held.other {O' : Nat → Prop} (h : Held w0 O b d w) (hO : ∀ k, O' k → O k ∨ w.heap.size ≤ k) (hl : ∀ k, O' k → k < w.heap.size) (hs : ∀ k, k < w0.heap.size → O' k) : Held w0 O' b d w :=
  ⟨h.band.other hO, hl, hs, h.below⟩
theorem Held.local (h : Held w0 O b d w) (o : Obj) : Held w0 (With O w.heap.size) b d (w.alloc o) :=
  ⟨(h.band.other (fun k hk => hk.elim .inl fun e => .inr (by omega))).fresh (alloc1 w o), with_alloc h.lt o, fun k hk => .inl (h.sub k hk), h.below.alloc h.below.size o⟩
theorem Held.forget {k : Nat} (h : Held w0 (With O k) b d w) (hs : ∀ k, k < w0.heap.size → O k) : Held w0 O b d w :=
  h.other (fun _ hk => .inl (.inl hk)) (fun k hk => h.lt k (.inl hk)) hs
theorem Held.new {w : World} {n : Nat} (hb : Below w0.heap.size w0 w) {e : Ending} {w' : World} (h : IsNew n w e w') : Res (.tuple #[.pointer (some ⟨w.heap.size + 1, 0, none⟩), .int .i64 0]) w0 (· < w.heap.size) (w.heap.size + 1) (newS n) w e w' :=
  ⟨h.1, ⟨h.2.1, fun k hk => Nat.lt_of_lt_of_le hk h.2.2.size, fun k hk => Nat.lt_of_lt_of_le hk hb.size, hb.trans (h.2.2.mono hb.size)⟩, Same.of h.2.2 fun _ h => h⟩

theorem Held.set (h : Held w0 O b d w) (q s : Int) (hn : 0 < d.loc.length) : Calls Try.prog 13 #[.pointer (some ⟨b, 0, none⟩), .int .i64 q, .int .i64 s] w (Res (.int .i64 (setE q s)) w0 O b (setS d q s) w) :=
  (Quota.set w b O d q s h.band h.lt hn).mono fun e w' r => h.did r
theorem Held.ens (h : Held w0 O b d w) (p : Int) {M S : Int} (hi : Inv M S d) (hM : M ≤ 1125000000000000) : Calls Try.prog 15 #[.pointer (some ⟨b, 0, none⟩), .int .i64 p] w (Res (.bool (ensB d p)) w0 O b (ensS d p) w) :=
  (ensure w b O d p h.band h.lt hi (by omega)).mono fun e w' r => h.did r
theorem Held.chg (h : Held w0 O b d w) (p n : Int) {M S : Int} (hi : Inv M S d) (hM : M ≤ 1125000000000000) (hS : S ≤ 1125000000000000) : Calls Try.prog 17 #[.pointer (some ⟨b, 0, none⟩), .int .i64 p, .int .i64 n] w (Res (.tuple #[.bool (chgB d p n), .int .i64 (chgE d p n)]) w0 O b (chgS d p n) w) :=
  (charge w b O d p n h.band h.lt hi hM hS).mono fun e w' r => h.did r
theorem Held.ret (h : Held w0 O b d w) (p : Int) {M S : Int} (hi : Inv M S d) : Calls Try.prog 19 #[.pointer (some ⟨b, 0, none⟩), .int .i64 p] w (Res (.tuple #[]) w0 O b (retS d p) w) :=
  (returns w b O d p h.band hi).mono fun e w' r => h.did r
theorem Held.ref (h : Held w0 O b d w) (hl : d.loc.length ≤ 64) : Calls Try.prog 21 #[.pointer (some ⟨b, 0, none⟩)] w (Res (.tuple #[]) w0 O b (refS d) w) :=
  (refill w b O d h.band hl).mono fun e w' r => h.did r
end

def a1 : Bd := ⟨10, 4, 10, [0, 0], 0⟩
def a2 : Bd := ⟨10, 4, 6, [4, 0], 0⟩
def a3 : Bd := ⟨10, 4, 1, [4, 0], 5⟩
def a4 : Bd := ⟨10, 4, 0, [4, 1], 5⟩
def a5 : Bd := ⟨10, 4, 0, [4, -2], 8⟩
theorem e1 : setS (newS 2) 10 4 = a1 ∧ setE 10 4 = 0 := ⟨by rfl, by rfl⟩
theorem e2 : ensS a1 0 = a2 ∧ ensB a1 0 = true := ⟨by rfl, by rfl⟩
theorem e3 : chgS a2 0 5 = a3 ∧ chgB a2 0 5 = true ∧ chgE a2 0 5 = 0 := ⟨by rfl, by rfl, by rfl⟩
theorem e4 : ensS a3 1 = a4 ∧ ensB a3 1 = true := ⟨by rfl, by rfl⟩
theorem e5 : chgS a4 1 3 = a5 ∧ chgB a4 1 3 = false ∧ chgE a4 1 3 = 0 := ⟨by rfl, by rfl, by rfl⟩
theorem e6 : a5.local 0 = 4 ∧ a5.local 1 = -2 := ⟨by rfl, by rfl⟩
theorem i2 : Inv 0 0 (newS 2) := Inv.new 2 (by omega) (by omega)
theorem i3 : Inv 0 0 a1 := e1.1 ▸ i2.set 10 4 (by omega)
theorem i4 : Inv 0 0 a2 := e2.1 ▸ i3.ens 0
theorem i5 : Inv 1 (0 + 5) a3 := e3.1 ▸ i4.chg (by omega) (by omega) (fun _ => by decide)
theorem i6 : Inv 1 (0 + 5) a4 := e4.1 ▸ i5.ens 1

set_option maxHeartbeats 1000000 in
theorem awake (w : World) : Calls Try.prog 10 #[] w (Yes w) := by
  have C0 := Lib.hid (fun w1 (hb : Below w.heap.size w w1) => (new w1 2 (by omega) (by omega)).mono fun e w' r => Held.new hb r)
  have C1 := Lib.hid (fun w1 O b (h : Held w O b (newS 2) w1) => h.set 10 4 (by rw [len_new]; omega))
  rw [e1.1, e1.2] at C1
  have C2 := Lib.hid (fun w1 O b (h : Held w O b a1 w1) => h.ens 0 i3 (by omega))
  rw [e2.1, e2.2] at C2
  have C3 := Lib.hid (fun w1 O b (h : Held w O b a2 w1) => h.chg 0 5 i4 (by omega) (by omega))
  rw [e3.1, e3.2.1, e3.2.2] at C3
  have C4 := Lib.hid (fun w1 O b (h : Held w O b a3 w1) => h.ens 1 i5 (by omega))
  rw [e4.1, e4.2] at C4
  have C5 := Lib.hid (fun w1 O b (h : Held w O b a4 w1) => h.chg 1 3 i6 (by omega) (by omega))
  rw [e5.1, e5.2.1, e5.2.2] at C5
  have L0 := Lib.hid (fun w1 O b (h : Held w O b a5 w1) => locals w1 b O a5 0 h.band)
  have L1 := Lib.hid (fun w1 O b (h : Held w O b a5 w1) => locals w1 b O a5 1 h.band)
  rw [e6.1] at L0
  rw [e6.2] at L1
  have LP := Lib.hid (fun w1 O b (h : Held w O b a5 w1) => pool w1 b O a5 h.band)
  have LS := Lib.hid (fun w1 O b (h : Held w O b a5 w1) => spent w1 b O a5 h.band)
  rw [show a5.p = 0 from rfl] at LP
  rw [show a5.sp = 8 from rfl] at LS
  have hg := Below.refl w.heap.size w
  go_enter Try.func10, Try.ntmps10
  go_wp2_with fail
  go_at_call 11; refine (C0.out _ hg).mono ?_; rintro e w1 ⟨rfl, h1, _⟩
  go_wp2_with fail
  go_at_call 13; refine (C1.out _ _ _ h1).mono ?_; rintro e w2 ⟨rfl, h2, _⟩
  go_wp2_with fail
  go_at_call 15; refine (C2.out _ _ _ h2).mono ?_; rintro e w3 ⟨rfl, h3, _⟩
  go_wp2_with fail
  go_at_call 17; refine (C3.out _ _ _ h3).mono ?_; rintro e w4 ⟨rfl, h4, _⟩
  go_wp2_with fail
  go_at_call 15; refine (C4.out _ _ _ h4).mono ?_; rintro e w5 ⟨rfl, h5, _⟩
  go_wp2_with fail
  go_at_call 17; refine (C5.out _ _ _ h5).mono ?_; rintro e w6 ⟨rfl, h6, _⟩
  go_wp2_with fail
  go_at_call 29; refine (L0.out _ _ _ h6).mono ?_; rintro e w7 ⟨rfl, rfl⟩
  go_wp2_with fail
  go_at_call 29; refine (L1.out _ _ _ h6).mono ?_; rintro e w7 ⟨rfl, rfl⟩
  go_wp2_with fail
  go_at_call 28; refine (LP.out _ _ _ h6).mono ?_; rintro e w7 ⟨rfl, rfl⟩
  go_wp2_with fail
  go_at_call 26; refine (LS.out _ _ _ h6).mono ?_; rintro e w7 ⟨rfl, rfl⟩
  go_wp2_with fail
  go_ret
  exact ⟨rfl, h6.below⟩
end Go.Proofs.Ytjjcaplkmbigdaa.Quota
