/- A number in eight bytes. -/
import Derived.Test.YtgfdnhpfdbaddaaMoreB
namespace Go.Proofs.Ytgfdnhpfdbaddaa
open Go.RowKit
/-- a number in eight bytes -/
def len8 (n j : Nat) : Nat := n / 2 ^ (8 * (7 - j)) % 256
theorem len8_lt (n j : Nat) : len8 n j < 256 := Nat.mod_lt _ (by decide)
end Go.Proofs.Ytgfdnhpfdbaddaa
