/- The reference of layer 1: Pack. -/
import Derived.Test.YtcohkhjfncknpaaDigP
import Derived.Test.YtcohkhjfncknpaaRef0
namespace Go.Proofs.Ytcohkhjfncknpaa
open Go.RowKit

/-- the text with a 0 ahead of an odd number of digits -/
def padded (s : ByteArray) : ByteArray := if s.size % 2 = 1 then ByteArray.mk #[chr 48] ++ s else s

theorem padded_size (s : ByteArray) : (padded s).size = 2 * ((s.size + 1) / 2) := by
  unfold padded
  split
  · rw [ByteArray.size_append]; show 1 + s.size = _; omega
  · omega

theorem padded_dig (s : ByteArray) (hd : s.data.toList.all isDig = true) : (padded s).data.toList.all isDig = true := by
  unfold padded
  split
  · rw [ByteArray.data_append, Array.toList_append, List.all_append, hd]; decide
  · exact hd

theorem padded_at (s : ByteArray) (t : Nat) : dg (padded s) t = half s t := by
  unfold padded half
  by_cases h : s.size % 2 = 1
  · rw [if_pos h, if_neg (by omega)]
    unfold dg
    rw [ByteArray.data_append, Array.toList_append]
    cases t with
    | zero => rfl
    | succ t => rfl
  · rw [if_neg h, if_pos (by omega)]

set_option maxHeartbeats 1600000 in
theorem rpack_ok (s : ByteArray) (w : World) (hd : s.data.toList.all isDig = true) (hl : s.size ≤ 999) :
    Calls Try.prog 24 #[.string s] w fun e w' => ∃ v, e = .returned (.tuple #[v, .int .i64 0]) ∧
      w'.ownsRow w.heap.size 5 1 v ((s.size + 1) / 2) ((List.range ((s.size + 1) / 2)).map fun j => .int .u8 (pb s j : Nat)) ∧ Below w.heap.size w w' := by
  have HT := Lib.hid (padded_size s)
  have HTd := Lib.hid (padded_dig s hd)
  have HPB := Lib.hid (show ∀ j, pb s j = 16 * dg (padded s) (2 * j) + dg (padded s) (2 * j + 1) from fun j => by rw [padded_at, padded_at]; rfl)
  have HF := Lib.hid (fault_ok hd (by simpa using hl))
  have hm5 : (s.size + 1) / 2 ≤ 500 := by omega
  clear hd
  generalize pb s = PB at *
  generalize (s.size + 1) / 2 = m at *
  by_cases h2 : s.size % 2 = 1
  · have h2' : (s.size : Int).tmod 2 = 1 := by rw [Int.tmod_eq_emod_of_nonneg (by omega)]; omega
    obtain ⟨t, ht⟩ : ∃ t, ByteArray.mk #[48] ++ s = t := ⟨_, rfl⟩
    have HP2 := Lib.hid (show padded s = t from (show padded s = _ by unfold padded; rw [if_pos h2]; rfl).trans ht)
    clear h2
    go_enter Try.func24, Try.ntmps24
    go_wp2_with (go_at_call 29; refine (texts_any _ _ (by unfold maxLen; omega)).mono ?_; rintro e w' ⟨rfl, rfl⟩; rw [HF.out])
    go_loopw [5, 6] (fun v c wr => ∃ j : Nat, j ≤ m ∧ c = .int .i64 (2 * j) ∧ wr.ownsRow w.heap.size 5 1 v j ((List.range j).map fun j => .int .u8 (PB j : Nat)) ∧ Below w.heap.size w wr) (fun _ c _ => 2 * m - (intOf c).toNat)
    case atStart => exact ⟨0, Nat.zero_le _, rfl, World.ownsRow_nil _ _ _ _, Below.refl _ _⟩
    case round =>
      obtain ⟨j, hj, rfl, hown, hb⟩ := hrel
      have HO := Lib.hid hown
      have HB := Lib.hid hb
      clear hown hb
      have hts : t.size = 2 * m := by rw [← HP2.out, HT.out]
      by_cases hlt : j < m
      · obtain ⟨q, eq1, hq⟩ : ∃ q : Nat, (2 : Int) * j = q ∧ q = 2 * j := ⟨2 * j, by omega, rfl⟩
        obtain ⟨q1, eq2, hq1⟩ : ∃ q1 : Nat, (q : Int) + 1 = q1 ∧ q1 = q + 1 := ⟨q + 1, by omega, rfl⟩
        have hqs : q < t.size := by omega
        have hqs1 : q1 < t.size := by omega
        have HTd2 := Lib.hid (show t.data.toList.all isDig = true by rw [← HP2.out]; exact HTd.out)
        obtain ⟨ha1, ha2⟩ := dig_at t q hqs HTd2.out
        obtain ⟨hb1, hb2⟩ := dig_at t q1 hqs1 HTd2.out
        obtain ⟨x, ex, hx⟩ : ∃ x : Nat, (t[q].toNat : Int) - 48 = x ∧ dg t q = x := ⟨t[q].toNat - 48, by omega, dg_eq t q hqs⟩
        obtain ⟨y, ey, hy⟩ : ∃ y : Nat, (t[q1].toNat : Int) - 48 = y ∧ dg t q1 = y := ⟨t[q1].toNat - 48, by omega, dg_eq t q1 hqs1⟩
        have HPj := Lib.hid (show PB j = 16 * x + y by rw [HPB.out j, HP2.out, ← hq, hx, ← hq1, hy])
        have hx9 : x ≤ 9 := by omega
        have hy9 : y ≤ 9 := by omega
        have hw1 : IntKind.i64.wrap (q1 : Int) = q1 := IntWalk.i64_in _ (by omega)
        have hw2 : IntKind.u8.wrap (x : Int) = x := IntWalk.u8_in _ (by omega)
        have hw3 : IntKind.u8.wrap (y : Int) = y := IntWalk.u8_in _ (by omega)
        obtain ⟨x16, ez, hz⟩ : ∃ z : Nat, IntKind.u8.wrap ((x : Int) * 16) = z ∧ z = x * 16 := ⟨x * 16, by rw [IntWalk.u8_in _ (by omega)]; omega, rfl⟩
        obtain ⟨z, ez2, hz2⟩ : ∃ z : Nat, IntKind.u8.wrap ((x16 : Int) + y) = z ∧ z = x16 + y := ⟨x16 + y, by rw [IntWalk.u8_in _ (by omega)]; omega, rfl⟩
        have HPz := Lib.hid (show PB j = z by rw [HPj.out]; omega)
        clear hq hq1 hx hy hts hz hz2
        go_wp2_with fail
        have hj12 : j ≤ 1000000000000 := by omega
        have hsz := HB.out.size
        have hcell : ((wr.alloc (.cells #[.int .u8 z] 5)).drew).cell? ⟨wr.heap.size, 0, none⟩ = some (.int .u8 z) := World.cell?_alloc_at _ _ _ _ rfl
        have hsz2 : w.heap.size ≤ ((wr.alloc (.cells #[.int .u8 z] 5)).drew).heap.size := by show _ ≤ (wr.heap.push _).size; simp; omega
        go_region_law (refine step_app8 rfl (.tmp 24) (.tmp 36) rfl w.heap.size _ j _ rfl ((HO.out.alloc _).drew) wr.heap.size z rfl hcell hj12 hsz2 ?_; intro v' w' hown' hb')
        all_goals
          clear hcell hsz2
          go_wp2_with fail
          go_roundw
          case rel => exact ⟨j + 1, by omega, by go_num, own_snoc hown' (by rw [HPz.out]), ((HB.out.alloc HB.out.size _).drew).trans hb'⟩
          case measure => simp [intOf]; omega
      · obtain rfl : j = m := by omega
        go_wp2_with fail
        go_ret2
        exact ⟨u5, rfl, HO.out, HB.out⟩
  · have h2' : (s.size : Int).tmod 2 = 0 := by rw [Int.tmod_eq_emod_of_nonneg (by omega)]; omega
    obtain ⟨t, rfl⟩ : ∃ t, t = s := ⟨_, rfl⟩
    have HP2 := Lib.hid (show padded t = t by unfold padded; rw [if_neg h2])
    clear h2
    go_enter Try.func24, Try.ntmps24
    go_wp2_with (go_at_call 29; refine (texts_any _ _ (by unfold maxLen; omega)).mono ?_; rintro e w' ⟨rfl, rfl⟩; rw [HF.out])
    go_loopw [5, 6] (fun v c wr => ∃ j : Nat, j ≤ m ∧ c = .int .i64 (2 * j) ∧ wr.ownsRow w.heap.size 5 1 v j ((List.range j).map fun j => .int .u8 (PB j : Nat)) ∧ Below w.heap.size w wr) (fun _ c _ => 2 * m - (intOf c).toNat)
    case atStart => exact ⟨0, Nat.zero_le _, rfl, World.ownsRow_nil _ _ _ _, Below.refl _ _⟩
    case round =>
      obtain ⟨j, hj, rfl, hown, hb⟩ := hrel
      have HO := Lib.hid hown
      have HB := Lib.hid hb
      clear hown hb
      have hts : t.size = 2 * m := by rw [← HP2.out, HT.out]
      by_cases hlt : j < m
      · obtain ⟨q, eq1, hq⟩ : ∃ q : Nat, (2 : Int) * j = q ∧ q = 2 * j := ⟨2 * j, by omega, rfl⟩
        obtain ⟨q1, eq2, hq1⟩ : ∃ q1 : Nat, (q : Int) + 1 = q1 ∧ q1 = q + 1 := ⟨q + 1, by omega, rfl⟩
        have hqs : q < t.size := by omega
        have hqs1 : q1 < t.size := by omega
        have HTd2 := Lib.hid (show t.data.toList.all isDig = true by rw [← HP2.out]; exact HTd.out)
        obtain ⟨ha1, ha2⟩ := dig_at t q hqs HTd2.out
        obtain ⟨hb1, hb2⟩ := dig_at t q1 hqs1 HTd2.out
        obtain ⟨x, ex, hx⟩ : ∃ x : Nat, (t[q].toNat : Int) - 48 = x ∧ dg t q = x := ⟨t[q].toNat - 48, by omega, dg_eq t q hqs⟩
        obtain ⟨y, ey, hy⟩ : ∃ y : Nat, (t[q1].toNat : Int) - 48 = y ∧ dg t q1 = y := ⟨t[q1].toNat - 48, by omega, dg_eq t q1 hqs1⟩
        have HPj := Lib.hid (show PB j = 16 * x + y by rw [HPB.out j, HP2.out, ← hq, hx, ← hq1, hy])
        have hx9 : x ≤ 9 := by omega
        have hy9 : y ≤ 9 := by omega
        have hw1 : IntKind.i64.wrap (q1 : Int) = q1 := IntWalk.i64_in _ (by omega)
        have hw2 : IntKind.u8.wrap (x : Int) = x := IntWalk.u8_in _ (by omega)
        have hw3 : IntKind.u8.wrap (y : Int) = y := IntWalk.u8_in _ (by omega)
        obtain ⟨x16, ez, hz⟩ : ∃ z : Nat, IntKind.u8.wrap ((x : Int) * 16) = z ∧ z = x * 16 := ⟨x * 16, by rw [IntWalk.u8_in _ (by omega)]; omega, rfl⟩
        obtain ⟨z, ez2, hz2⟩ : ∃ z : Nat, IntKind.u8.wrap ((x16 : Int) + y) = z ∧ z = x16 + y := ⟨x16 + y, by rw [IntWalk.u8_in _ (by omega)]; omega, rfl⟩
        have HPz := Lib.hid (show PB j = z by rw [HPj.out]; omega)
        clear hq hq1 hx hy hts hz hz2
        go_wp2_with fail
        have hj12 : j ≤ 1000000000000 := by omega
        have hsz := HB.out.size
        have hcell : ((wr.alloc (.cells #[.int .u8 z] 5)).drew).cell? ⟨wr.heap.size, 0, none⟩ = some (.int .u8 z) := World.cell?_alloc_at _ _ _ _ rfl
        have hsz2 : w.heap.size ≤ ((wr.alloc (.cells #[.int .u8 z] 5)).drew).heap.size := by show _ ≤ (wr.heap.push _).size; simp; omega
        go_region_law (refine step_app8 rfl (.tmp 24) (.tmp 36) rfl w.heap.size _ j _ rfl ((HO.out.alloc _).drew) wr.heap.size z rfl hcell hj12 hsz2 ?_; intro v' w' hown' hb')
        all_goals
          clear hcell hsz2
          go_wp2_with fail
          go_roundw
          case rel => exact ⟨j + 1, by omega, by go_num, own_snoc hown' (by rw [HPz.out]), ((HB.out.alloc HB.out.size _).drew).trans hb'⟩
          case measure => simp [intOf]; omega
      · obtain rfl : j = m := by omega
        go_wp2_with fail
        go_ret2
        exact ⟨u5, rfl, HO.out, HB.out⟩

set_option maxHeartbeats 400000 in
theorem rpack_bad (s : ByteArray) (w : World) (hs : s.size ≤ maxLen) (hb : ¬ faultOf s.data.toList = 0) :
    Calls Try.prog 24 #[.string s] w fun e w' => e = .returned (.tuple #[.slice none 0 0, .int .i64 (faultOf s.data.toList)]) ∧ w = w' := by
  have hb' : (faultOf s.data.toList != 0) = true := by simpa using hb
  go_enter Try.func24, Try.ntmps24
  go_wp2_with (go_at_call 29; refine (texts_any _ _ hs).mono ?_; rintro e w' ⟨rfl, rfl⟩)
  go_ret2
  exact ⟨rfl, rfl⟩
end Go.Proofs.Ytcohkhjfncknpaa
