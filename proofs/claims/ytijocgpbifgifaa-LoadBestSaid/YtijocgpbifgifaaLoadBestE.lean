/- What LoadBest's shell hands on, in the words of its walk. Conditions: as each fact states them. -/
import Derived.Test.YtijocgpbifgifaaLoadEnd
import Derived.Test.YtijocgpbifgifaaLoadBestW
namespace Go.Proofs.Ytijocgpbifgifaa.Load
open Go.ChangeShapes Go.WideShapes Go.ChangeAt Go.RowKit
theorem bestAt (v : Option Addr) (n cap : Nat) (mine a : Int) (z : Nat → Int) (w : World) (ha : (Lit.int .u64 a).wf = true) (hn : n ≤ 9223372036854775807) (h : In v n cap z w) :
    Calls Try.prog 5 #[.slice v n cap, .int .i64 mine, .int .u64 a] w (Yes w) := by
  obtain ⟨m, rfl, hm⟩ := u64_nat ha
  exact bestLaw v n cap m mine z w hm hn h
end Go.Proofs.Ytijocgpbifgifaa.Load
