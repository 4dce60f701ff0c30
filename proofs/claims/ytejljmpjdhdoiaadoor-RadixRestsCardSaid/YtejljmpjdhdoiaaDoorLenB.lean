/- math/bits: Len64, Len: the bits of a number. -/
import Derived.Test.YtejljmpjdhdoiaaDoorBase
import Derived.Lib.BitFns
namespace Go.Proofs.YtejljmpjdhdoiaaDoor
open Go.RowKit

theorem len8_bits (y : Nat) (h : y < Lib.len8tab.size) : ((Lib.len8tab[y]'h).toNat : Int) = (Lib.bitLen y : Nat) ∧ Lib.bitLen y ≤ 8 := by
  have hy : y < 256 := Nat.lt_of_lt_of_eq h Lib.len8tab_size
  have e := Lib.len8_eq ⟨y, hy⟩
  refine ⟨?_, Lib.bitLen_le8 ⟨y, hy⟩⟩
  rw [← e]
  unfold Lib.len8
  simp only [Int.toNat_natCast]
  rw [getElem?_pos Lib.len8tab y h]
  rfl
/-- the last step of each way -/
theorem len_fin {k : Nat} {x y : Int} (h : y.toNat < Lib.len8tab.size) (hk : k ≤ 56) (hy : y.toNat = x.toNat / 2 ^ k) (hx : x.toNat < 2 ^ 64) (hlo : 2 ^ k ≤ x.toNat) :
    wrap64 ((k : Int) + wrap64 ((Lib.len8tab[y.toNat]'h).toNat : Int)) = (Lib.bitLen x.toNat : Nat) := by
  obtain ⟨e, l⟩ := len8_bits _ h
  rw [e, Lib.bitLen_shift k x.toNat hlo hx, ← hy]
  unfold wrap64
  omega
theorem len_fin0 {x : Int} (h : x.toNat < Lib.len8tab.size) : wrap64 (wrap64 ((Lib.len8tab[x.toNat]'h).toNat : Int)) = (Lib.bitLen x.toNat : Nat) := by
  obtain ⟨e, l⟩ := len8_bits _ h
  rw [e]
  unfold wrap64
  omega
theorem div_nat {x y a : Int} {c d : Nat} (h : y.toNat = x.toNat / c) (h0 : 0 ≤ y) (ha : a = (d : Int)) : (y / a).toNat = x.toNat / (c * d) := by
  subst ha
  obtain ⟨y, rfl⟩ := Int.eq_ofNat_of_zero_le h0
  rw [← Nat.div_div_eq_div_mul, ← h]
  rfl
theorem low_of {x y : Int} {c d : Nat} (h : y.toNat = x.toNat / d) (hd : 0 < d) (hc : (c : Int) ≤ y) : c * d ≤ x.toNat :=
  (Nat.le_div_iff_mul_le hd).1 (by omega)

set_option maxRecDepth 100000 in
set_option maxHeartbeats 4000000 in
theorem len64_any (x : Int) (w : World) (h0 : 0 ≤ x) (hx : x ≤ 9223372036854775807) :
    Calls Tryd.prog 37 #[.int .u64 x] w fun e w' => e = .returned (.int .i64 (Lib.bitLen x.toNat : Nat)) ∧ w = w' := by
  have hX : x.toNat < 2 ^ 64 := by omega
  have hz := Lib.len8tab_size
  go_enter Tryd.func37, Tryd.ntmps37
  go_wp2_with fail
  all_goals
    go_ret
    refine ⟨ret_int ?_, rfl⟩
    first
      | exact len_fin (k := 56) _ (by decide) (div_nat (c := 1 * 4294967296 * 65536) (d := 256) (div_nat (c := 1 * 4294967296) (d := 65536) (div_nat (c := 1) (d := 4294967296) (Nat.div_one _).symm h0 rfl) (Int.ediv_nonneg h0 (by decide)) rfl) (Int.ediv_nonneg (Int.ediv_nonneg h0 (by decide)) (by decide)) rfl) hX (low_of (c := 256) (d := 1 * 4294967296 * 65536) (div_nat (c := 1 * 4294967296) (d := 65536) (div_nat (c := 1) (d := 4294967296) (Nat.div_one _).symm h0 rfl) (Int.ediv_nonneg h0 (by decide)) rfl) (by decide) (by assumption))
      | exact len_fin (k := 48) _ (by decide) (div_nat (c := 1 * 4294967296) (d := 65536) (div_nat (c := 1) (d := 4294967296) (Nat.div_one _).symm h0 rfl) (Int.ediv_nonneg h0 (by decide)) rfl) hX (low_of (c := 65536) (d := 1 * 4294967296) (div_nat (c := 1) (d := 4294967296) (Nat.div_one _).symm h0 rfl) (by decide) (by assumption))
      | exact len_fin (k := 40) _ (by decide) (div_nat (c := 1 * 4294967296) (d := 256) (div_nat (c := 1) (d := 4294967296) (Nat.div_one _).symm h0 rfl) (Int.ediv_nonneg h0 (by decide)) rfl) hX (low_of (c := 256) (d := 1 * 4294967296) (div_nat (c := 1) (d := 4294967296) (Nat.div_one _).symm h0 rfl) (by decide) (by assumption))
      | exact len_fin (k := 32) _ (by decide) (div_nat (c := 1) (d := 4294967296) (Nat.div_one _).symm h0 rfl) hX (low_of (c := 4294967296) (d := 1) (Nat.div_one _).symm (by decide) (by assumption))
      | exact len_fin (k := 24) _ (by decide) (div_nat (c := 1 * 65536) (d := 256) (div_nat (c := 1) (d := 65536) (Nat.div_one _).symm h0 rfl) (Int.ediv_nonneg h0 (by decide)) rfl) hX (low_of (c := 256) (d := 1 * 65536) (div_nat (c := 1) (d := 65536) (Nat.div_one _).symm h0 rfl) (by decide) (by assumption))
      | exact len_fin (k := 16) _ (by decide) (div_nat (c := 1) (d := 65536) (Nat.div_one _).symm h0 rfl) hX (low_of (c := 65536) (d := 1) (Nat.div_one _).symm (by decide) (by assumption))
      | exact len_fin (k := 8) _ (by decide) (div_nat (c := 1) (d := 256) (Nat.div_one _).symm h0 rfl) hX (low_of (c := 256) (d := 1) (Nat.div_one _).symm (by decide) (by assumption))
      | exact len_fin0 _
end Go.Proofs.YtejljmpjdhdoiaaDoor
