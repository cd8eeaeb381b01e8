/- A row of zeros with one more. -/
import Derived.Test.YtlihnagfmfpdcaaRefA
namespace Go.Proofs.Ytlihnagfmfpdcaa
theorem zeros_more (l : Nat) : List.replicate l 0 ++ [0] = List.replicate (l + 1) 0 := by
  rw [List.replicate_succ']
end Go.Proofs.Ytlihnagfmfpdcaa
