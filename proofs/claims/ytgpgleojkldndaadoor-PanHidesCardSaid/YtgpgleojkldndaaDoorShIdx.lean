/- strings.Cut at one byte, at this dump. -/
import Derived.Shelf.Strings.Search2
import Derived.Test.YtgpgleojkldndaaDoorBase
namespace Go.Proofs.YtgpgleojkldndaaDoor
open Go.Shelf Go.RowKit
def lays219_ren : Go.Shelf.Ren := ⟨fun | 219 => 59 | 217 => 63 | 225 => 64 | 224 => 65 | 267 => 66 | 266 => 71 | 314 => 72 | n => n, fun | 9 => 9 | 3 => 3 | 4 => 4 | 5 => 5 | 46 => 54 | 146 => 72 | 51 => 71 | n => n, fun | 1 => 1 | n => n⟩
theorem lays219 : Go.Proofs.Lays.n219 Tryd.prog lays219_ren := {
  mixed := by kernel_rfl
  f217 := Tryd.func63.trans (congrArg some (by kernel_rfl))
  f219 := Tryd.func59.trans (congrArg some (by kernel_rfl))
  f224 := Tryd.func65.trans (congrArg some (by kernel_rfl))
  f225 := Tryd.func64.trans (congrArg some (by kernel_rfl))
  f266 := Tryd.func71.trans (congrArg some (by kernel_rfl))
  f267 := Tryd.func66.trans (congrArg some (by kernel_rfl))
  f314 := Tryd.func72.trans (congrArg some (by kernel_rfl))
  t3 := Tryd.underlying3
  a3 := Tryd.isAgg3
  z3 := Tryd.sizeOf3
  v3 := Tryd.zeroValue3
  t4 := Tryd.underlying4
  a4 := Tryd.isAgg4
  z4 := Tryd.sizeOf4
  v4 := Tryd.zeroValue4
  t5 := Tryd.underlying5
  a5 := Tryd.isAgg5
  z5 := Tryd.sizeOf5
  v5 := Tryd.zeroValue5
  t9 := Tryd.underlying9
  a9 := Tryd.isAgg9
  z9 := Tryd.sizeOf9
  v9 := Tryd.zeroValue9
  t46 := Tryd.underlying54
  a46 := Tryd.isAgg54
  z46 := Tryd.sizeOf54
  v46 := Tryd.zeroValue54
  t51 := Tryd.underlying71
  a51 := Tryd.isAgg71
  z51 := Tryd.sizeOf71
  v51 := Tryd.zeroValue71
  t146 := Tryd.underlying72
  a146 := Tryd.isAgg72
  z146 := Tryd.sizeOf72
  v146 := Tryd.zeroValue72
  g1 := by kernel_rfl }

/-- the first place of a byte, or the length -/
def fst (s : ByteArray) (c : UInt8) : Nat := if Lib.indexByte s.data.toList c = -1 then s.size else (Lib.indexByte s.data.toList c).toNat

/-- ahead of the byte -/
def ahd (s : ByteArray) (c : UInt8) : ByteArray := s.extract 0 (fst s c)

/-- behind it -/
def bhd (s : ByteArray) (c : UInt8) : ByteArray := s.extract (fst s c + 1) s.size

/-- is it there? -/
def hasB (s : ByteArray) (c : UInt8) : Bool := !(Lib.indexByte s.data.toList c == -1)

theorem indexByte_lt {l : List UInt8} {c : UInt8} (h : Lib.indexByte l c ≠ -1) : 0 ≤ Lib.indexByte l c ∧ (Lib.indexByte l c).toNat < l.length := by
  have hg := Lib.indexByte_ge l c
  have h0 : 0 ≤ Lib.indexByte l c := by omega
  refine ⟨h0, ?_⟩
  obtain ⟨k, hk⟩ : ∃ k : Nat, Lib.indexByte l c = k := ⟨(Lib.indexByte l c).toNat, by omega⟩
  have := (Lib.indexByte_some hk).1
  have h1 := (List.getElem?_eq_some_iff.1 this).1
  rw [hk]; exact h1

set_option maxRecDepth 100000 in
theorem slcut_any (s : ByteArray) (c : UInt8) (w : World) (hs : s.size ≤ maxLen) :
    Calls Tryd.prog 51 #[.string s, .string ⟨#[c]⟩] w fun e w' => e = .returned (.tuple #[.string (ahd s c), .string (bhd s c), .bool (hasB s c)]) ∧ ∃ n, w' = w.drewN n := by
  unfold maxLen at hs
  by_cases h : Lib.indexByte s.data.toList c = -1
  · have HA := Lib.hid (show ahd s c = s by unfold ahd fst; rw [if_pos h]; apply ByteArray.ext; simp)
    have HB := Lib.hid (show bhd s c = ⟨#[]⟩ by unfold bhd fst; rw [if_pos h]; apply ByteArray.ext; simp)
    have HC := Lib.hid (show hasB s c = false by unfold hasB; rw [h]; rfl)
    have HI := Lib.hid h
    clear h
    go_enter Tryd.func51, Tryd.ntmps51
    go_wp2_with (go_at_call 59; refine (Any.stringslite_Index_one lays219 s c _).mono ?_; rintro e w' ⟨rfl, hw⟩; rw [hw, HI.out])
    go_ret3
    exact ⟨by rw [HA.out, HB.out, HC.out]; rfl, 0, rfl⟩
  · obtain ⟨h0, hlt⟩ := indexByte_lt h
    obtain ⟨k, hk⟩ : ∃ k : Nat, Lib.indexByte s.data.toList c = k := ⟨(Lib.indexByte s.data.toList c).toNat, by omega⟩
    have hks : k < s.size := by rw [hk] at hlt; rw [Array.length_toList] at hlt; exact hlt
    have HA := Lib.hid (show ahd s c = s.extract 0 k by unfold ahd fst; rw [if_neg h, hk]; rfl)
    have HB := Lib.hid (show bhd s c = s.extract (k + 1) s.size by unfold bhd fst; rw [if_neg h, hk]; rfl)
    have HC := Lib.hid (show hasB s c = true by unfold hasB; rw [hk]; rw [beq_eq_false_iff_ne.2 (by omega)]; rfl)
    have HI := Lib.hid hk
    clear h h0 hlt hk
    obtain ⟨q, eq, hq⟩ : ∃ q : Nat, (k : Int) + 1 = q ∧ q = k + 1 := ⟨k + 1, by omega, rfl⟩
    have hqs : q ≤ s.size := by omega
    have hk0 : decide ((0 : Int) ≤ k) = true := by simp
    have HQ := Lib.hid hq
    clear hq
    go_enter Tryd.func51, Tryd.ntmps51
    go_wp2_with (go_at_call 59; refine (Any.stringslite_Index_one lays219 s c _).mono ?_; rintro e w' ⟨rfl, hw⟩; rw [hw, HI.out])
    go_quiet (fail)
    go_wp2_with fail
    go_ret3
    exact ⟨by rw [HA.out, HB.out, HC.out, ← HQ.out]; rfl, _, rfl⟩
theorem scut_any (s : ByteArray) (c : UInt8) (w : World) (hs : s.size ≤ maxLen) :
    Calls Tryd.prog 41 #[.string s, .string ⟨#[c]⟩] w fun e w' => e = .returned (.tuple #[.string (ahd s c), .string (bhd s c), .bool (hasB s c)]) ∧ ∃ n, w' = w.drewN n := by
  go_enter Tryd.func41, Tryd.ntmps41
  go_wp2_with (go_at_call 51; refine (slcut_any s c _ hs).mono ?_; rintro e w' ⟨rfl, n, rfl⟩)
  go_ret3
  exact ⟨rfl, n, rfl⟩
end Go.Proofs.YtgpgleojkldndaaDoor
