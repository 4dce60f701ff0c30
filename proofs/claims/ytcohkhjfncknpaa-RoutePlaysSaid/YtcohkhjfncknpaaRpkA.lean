/- The document's Pack: its code alone. -/
import Derived.Test.YtcohkhjfncknpaaRef01C
namespace Go.Proofs.Ytcohkhjfncknpaa
open Go.RowKit
theorem rpack_all (s : ByteArray) (w : World) (hs : s.size ≤ maxLen) :
    Calls Try.prog 24 #[.string s] w fun e w' => (∃ v, e = .returned (.tuple #[v, .int .i64 (faultOf s.data.toList)])) ∧ Below w.heap.size w w' := by
  by_cases h : faultOf s.data.toList = 0
  · obtain ⟨hd, hl⟩ := fault_zero h
    exact (rpack_ok s w hd (by rw [Array.length_toList] at hl; exact hl)).mono fun e w' ⟨v, he, _, hb⟩ => ⟨⟨v, by rw [h]; exact he⟩, hb⟩
  · exact (rpack_bad s w hs h).mono fun e w' ⟨he, hw⟩ => ⟨⟨_, he⟩, hw ▸ Below.refl _ _⟩

end Go.Proofs.Ytcohkhjfncknpaa
