/- Contracts of the small functions of package digits and of its reference. -/
import Derived.Test.YtglajdedalikdaaDoorRows
import Derived.WalkKit
import Derived.WalkSpells
import Derived.WalkLawsBesides
import Derived.Lib.Hide
import Derived.Deep.QuietTactic
import Derived.BigQuiet
import Derived.Deep.OwnRows
namespace Go.Proofs.YtglajdedalikdaaDoor
open Go.RowKit

/-- a byte, by its number: closed to the walk -/
def chr (n : Nat) : UInt8 := UInt8.ofNat n
theorem chr_toNat (n : Nat) (h : n < 256) : (chr n).toNat = n := by unfold chr; rw [UInt8.toNat_ofNat']; omega
theorem conv1 (x : Int) (w : World) : (convert 22 9 (.slice (some ⟨w.heap.size, 0, none⟩) 1 1)).run Tryd.prog (w.alloc (.cells #[.int .u8 x] 5)) =
    .ok (.string ⟨#[chr x.toNat]⟩) (w.alloc (.cells #[.int .u8 x] 5)) :=
  run_convert_bytes_arg _ _ _ Tryd.underlying22 Tryd.underlying5 _ 0 1 1 [x] rfl (fun i hi => by
    obtain rfl : i = 0 := by omega
    exact (World.cell?_alloc_at _ _ _ _ rfl).trans rfl) _ Tryd.underlying9
theorem conv2 (x y : Int) (w : World) : (convert 22 9 (.slice (some ⟨w.heap.size, 0, none⟩) 2 2)).run Tryd.prog (w.alloc (.cells #[.int .u8 x, .int .u8 y] 5)) =
    .ok (.string ⟨#[chr x.toNat, chr y.toNat]⟩) (w.alloc (.cells #[.int .u8 x, .int .u8 y] 5)) :=
  run_convert_bytes_arg _ _ _ Tryd.underlying22 Tryd.underlying5 _ 0 2 2 [x, y] rfl (fun i hi => by
    rcases (show i = 0 ∨ i = 1 by omega) with rfl | rfl
    · exact (World.cell?_alloc_at _ _ _ _ rfl).trans rfl
    · exact (World.cell?_alloc_at _ _ _ _ rfl).trans rfl) _ Tryd.underlying9

theorem info8 : (Tryd.prog.info? 5).map (fun i => (i.zero, i.size, i.bytes)) = some (some (.int .u8 0), 1, 1) := by kernel_rfl
theorem mk8 (n : Nat) (h : n ≤ 281474976710656) (w : World) :
    (Instr.makeSlice 22 (.int .i64 (n : Int)) (.int .i64 (n : Int))).run Tryd.prog w = .ok (.slice (some ⟨w.heap.size, 0, none⟩) n n) (w.alloc (.cells (madeCells #[.int .u8 0] n) 5)) :=
  run_make_row' _ _ _ 1 Tryd.underlying22 info8 rfl _ _ n (by omega) (by omega) w
/-- a text of n bytes -/
def strOf (n : Nat) (b : Nat → Nat) : ByteArray := ⟨((List.range n).map fun i => chr (b i)).toArray⟩
theorem strOf_list (n : Nat) (b : Nat → Nat) : (strOf n b).data.toList = (List.range n).map fun i => chr (b i) := rfl
theorem strOf_size (n : Nat) (b : Nat → Nat) : (strOf n b).size = n := by
  show ((List.range n).map fun i => chr (b i)).toArray.size = n
  simp
theorem strOf_congr (n : Nat) (b c : Nat → Nat) (h : ∀ i, i < n → b i = c i) : strOf n b = strOf n c := by
  unfold strOf
  rw [List.map_congr_left fun i hi => by rw [h i (List.mem_range.1 hi)]]
theorem convRow {w : World} {g n cap : Nat} {f : Nat → Value} (h : w.rowIs g 5 cap f) (b : Nat → Nat) (hn : n ≤ cap) (hf : ∀ i, i < n → f i = .int .u8 (b i : Nat)) :
    (convert 22 9 (.slice (some ⟨g, 0, none⟩) n cap)).run Tryd.prog w = .ok (.string (strOf n b)) w := by
  have := run_convert_bytes_arg w _ _ Tryd.underlying22 Tryd.underlying5 g 0 n cap ((List.range n).map fun i => ((b i : Nat) : Int)) (by simp) (fun i hi => by
    rw [Nat.zero_add, h.cell (by omega), hf i hi]
    simp [hi]) _ Tryd.underlying9
  rw [this]
  congr 2
  unfold strOfNums strOf
  rw [List.map_map]
  rfl

theorem value_any (c : Int) (w : World) (h0 : 48 ≤ c) (h1 : c ≤ 57) :
    Calls Tryd.prog 27 #[.int .u8 c] w fun e w' => e = .returned (.int .u8 (c - 48)) ∧ w = w' := by
  go_enter Tryd.func27, Tryd.ntmps27
  go_wp2
  go_ret
  exact ⟨rfl, rfl⟩

end Go.Proofs.YtglajdedalikdaaDoor
