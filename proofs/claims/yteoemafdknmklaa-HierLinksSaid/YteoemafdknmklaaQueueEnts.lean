/- What Ents of package runq answers. Conditions: there are no more than 500 entities, each number one of its kind. -/
import Derived.Test.YteoemafdknmklaaTreeWalks
import Derived.Test.YteoemafdknmklaaQueueNil
import Derived.LoopTactic
namespace Go.Proofs.Yteoemafdknmklaa.Queue
open Go.ChangeShapes Go.WideShapes Go.ChangeAt Go.RowKit Tree
set_option linter.unusedVariables false
set_option linter.unusedSimpArgs false
set_option maxRecDepth 100000

def cellsE : List Ent → List Value
  | [] => []
  | e :: l => .int .i64 e.id :: .int .u64 e.wt :: .int .i64 e.v :: .int .u64 e.rm :: cellsE l
theorem cellsE_append (a b : List Ent) : cellsE (a ++ b) = cellsE a ++ cellsE b := by
  induction a with
  | nil => rfl
  | cons k l ih => simp [cellsE, ih]
theorem infoE : (Try.prog.info? 30).map (fun i => (i.zero, i.size, i.bytes)) = some (some (.agg #[.int .i64 0, .int .u64 0, .int .i64 0, .int .u64 0]), 4, 32) := by kernel_rfl
theorem Row.shape {w : World} {O : Nat → Prop} {e : TypeId} {size : Nat} {v : Value} {n : Nat} {xs : List Value} (h : Row w O e size v n xs) : ∃ ao cap, v = .slice ao n cap ∧ (n = 0 ∨ ∃ g, ao = some ⟨g, 0, none⟩) ∧ n ≤ cap := by
  rcases h.1.2 with ⟨rfl, rfl⟩ | ⟨g, cap, cur, rfl, _, _, h1, _⟩
  · exact ⟨none, 0, rfl, .inl rfl, Nat.le_refl _⟩
  · exact ⟨_, cap, rfl, .inr ⟨g, rfl⟩, h1⟩
theorem cellsK_at {l : List Ky} {j : Nat} {k : Ky} (h : l[j]? = some k) : (cellsK l)[j * 2]? = some (.int .i64 k.1) ∧ (cellsK l)[j * 2 + 1]? = some (.int .i64 k.2) := by
  induction l generalizing j with
  | nil => simp at h
  | cons q l ih =>
    cases j with
    | zero => simp at h; subst h; simp [cellsK]
    | succ j =>
      simp at h
      obtain ⟨h1, h2⟩ := ih h
      rw [show (j + 1) * 2 = j * 2 + 2 by omega]
      exact ⟨by simpa [cellsK] using h1, by simpa [cellsK] using h2⟩
/-- The list told, in memory that is new. -/
def Told (es : List Ent) (w : World) (e : Ending) (w' : World) : Prop := ∃ v, e = .returned v ∧ Row w' (· < w.heap.size) 30 4 v es.length (cellsE es) ∧ Below w.heap.size w w'
/-- What is behind an append to the list. -/
theorem ents_app {w A w4 : World} {g g4 cap cap4 len j : Nat} {out : Value} {o : Obj} {ks xs ys : List Value} (hgA : Below w.heap.size w A) (hgk : g < A.heap.size) (hr : Row A (fun k => k < w.heap.size ∨ (Value.slice (some ⟨g, 0, none⟩) len cap).ownBlock = some k) 30 4 out j xs)
    (hk : A.ownsRow 0 89 2 (.slice (some ⟨g, 0, none⟩) len cap) len ks) (hown : w4.ownsRow 0 30 4 (.slice (some ⟨g4, 0, none⟩) (j + 1) cap4) (j + 1) ys) (hgrow : (A.alloc o).drew.grownBy w4 out.ownBlock) (hat : out.ownBlock = some g4 ∨ g4 = A.heap.size + 1) :
    (Below w.heap.size w w4 ∧ w4.ownsRow 0 89 2 (.slice (some ⟨g, 0, none⟩) len cap) len ks) ∧ Row w4 (fun k => k < w.heap.size ∨ (Value.slice (some ⟨g, 0, none⟩) len cap).ownBlock = some k) 30 4 (.slice (some ⟨g4, 0, none⟩) (j + 1) cap4) (j + 1) ys ∧
    ∀ p : Addr, p.block < A.heap.size → (p.block < w.heap.size ∨ some p.block ≠ out.ownBlock) → w4.cell? p = A.cell? p := by
  have hb := (Below.refl A.heap.size A).alloc (Nat.le_refl _) o
  have hs := hgA.size
  have blk : ∀ k, k < A.heap.size → some k ≠ out.ownBlock → w4.heap[k]? = A.heap[k]? := fun k hk hne => (hgrow.block k (Nat.lt_of_lt_of_le hk hb.size) hne).trans (hb.block k hk)
  have nout : ∀ k, (k < w.heap.size ∨ (Value.slice (some ⟨g, 0, none⟩) len cap).ownBlock = some k) → some k ≠ out.ownBlock := fun k hk e => hr.2 k e.symm hk
  refine ⟨⟨⟨hgrow.os.trans hgA.os, hgrow.tape.trans hgA.tape, hgrow.output.trans hgA.output, Nat.le_trans hs (Nat.le_trans hb.size hgrow.size), fun k hk => (blk k (by omega) (nout k (.inl hk))).trans (hgA.block k hk)⟩, ?_⟩, ⟨hown, ?_⟩, ?_⟩
  · exact (Row.on (O := fun _ => False) ⟨hk, fun _ _ e => e⟩ fun k hk' => blk k (by simp [Value.ownBlock] at hk'; omega) (nout k (.inr hk'))).1
  · intro k hk' e
    simp [Value.ownBlock] at hk'
    subst hk'
    rcases hat with h | h
    · exact hr.2 _ h e
    · rcases e with e | e
      · omega
      · simp [Value.ownBlock] at e; omega
  · intro p hp hx
    exact World.cell?_of_block (blk p.block hp (hx.elim (fun e => nout _ (.inl e)) id))
def EntsI (w : World) (es : List Ent) (vk : Value) (out i : Value) (wr : World) : Prop :=
  ∃ (j : Nat) (vo : Value), vo = out ∧ j ≤ es.length ∧ i = .int .i64 j ∧ Row wr (fun k => k < w.heap.size ∨ vk.ownBlock = some k) 30 4 vo j (cellsE (es.take j)) ∧ wr.ownsRow 0 89 2 vk es.length (cellsK (es.map Ent.key)) ∧ Below w.heap.size w wr
end Go.Proofs.Yteoemafdknmklaa.Queue
