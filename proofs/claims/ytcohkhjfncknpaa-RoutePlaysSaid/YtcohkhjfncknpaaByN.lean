/- Bytes, by number: nothing here hangs on the program. -/
namespace Go.Proofs.Ytcohkhjfncknpaa
def By (n : Nat) (s : Nat → Nat) : Prop := ∀ i, i < n → s i < 256
end Go.Proofs.Ytcohkhjfncknpaa
