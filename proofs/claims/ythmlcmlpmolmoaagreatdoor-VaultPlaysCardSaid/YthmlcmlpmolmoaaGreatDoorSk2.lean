/- 10 texts in one, in their order: what the cards need of them. -/
import Derived.Test.YthmlcmlpmolmoaaGreatDoorSk1
namespace Go.Proofs.YthmlcmlpmolmoaaGreatDoor
open Go.RowKit
def keyCells (n : Nat) (d m x : Int) (S B U D : Nat → Nat) : List Value := .int .i64 (n : Nat) :: (bytesL 240 S ++ (.int .u32 d :: .int .i32 m :: .int .u32 x :: (bytesL 256 B ++ (bytesL 256 U ++ bytesL 256 D))))
theorem keyMem_of {w : World} {g n : Nat} {d m x : Int} {S B U D : Nat → Nat} {t : TypeId} (h : w.heap[g]? = some (.cells (keyCells n d m x S B U D).toArray t (0, 0))) : KeyMem w g n d m S B U D := by
  have hz : ∀ (o : Nat), w.frozen? ⟨g, o, none⟩ = false := fun o => by simp [World.frozen?, h]
  have hc : ∀ (o : Nat) v, (keyCells n d m x S B U D)[o]? = some v → w.cell? ⟨g, o, none⟩ = some v := fun o v hv => by
    simp only [World.cell?, h]
    rw [List.getElem?_toArray, hv]
    rfl
  refine ⟨hc 0 _ rfl, arr_of_list h fun j hj => ?_, ⟨hc 241 _ ?_, hc 242 _ ?_, hz _, hz _⟩, arr_of_list h fun j hj => ?_, arr_of_list h fun j hj => ?_, arr_of_list h fun j hj => ?_⟩
  · unfold keyCells
    rw [Nat.add_comm, List.getElem?_cons_succ, List.getElem?_append_left (by rw [bytesL_length]; exact hj)]
  · unfold keyCells
    rw [List.getElem?_cons_succ, List.getElem?_append_right (by rw [bytesL_length]; decide), bytesL_length]; rfl
  · unfold keyCells
    rw [List.getElem?_cons_succ, List.getElem?_append_right (by rw [bytesL_length]; decide), bytesL_length]; rfl
  · unfold keyCells
    rw [show 244 + j = (243 + j) + 1 by omega, List.getElem?_cons_succ, List.getElem?_append_right (by rw [bytesL_length]; omega), bytesL_length, show 243 + j - 240 = j + 1 + 1 + 1 by omega,
      List.getElem?_cons_succ, List.getElem?_cons_succ, List.getElem?_cons_succ, List.getElem?_append_left (by rw [bytesL_length]; exact hj)]
  · unfold keyCells
    rw [show 500 + j = (499 + j) + 1 by omega, List.getElem?_cons_succ, List.getElem?_append_right (by rw [bytesL_length]; omega), bytesL_length, show 499 + j - 240 = (j + 256) + 1 + 1 + 1 by omega,
      List.getElem?_cons_succ, List.getElem?_cons_succ, List.getElem?_cons_succ, List.getElem?_append_right (by rw [bytesL_length]; omega), bytesL_length, Nat.add_sub_cancel, List.getElem?_append_left (by rw [bytesL_length]; exact hj)]
  · unfold keyCells
    rw [show 756 + j = (755 + j) + 1 by omega, List.getElem?_cons_succ, List.getElem?_append_right (by rw [bytesL_length]; omega), bytesL_length, show 755 + j - 240 = (j + 512) + 1 + 1 + 1 by omega,
      List.getElem?_cons_succ, List.getElem?_cons_succ, List.getElem?_cons_succ, List.getElem?_append_right (by rw [bytesL_length]; omega), bytesL_length, show j + 512 - 256 = j + 256 by omega, List.getElem?_append_right (by rw [bytesL_length]; omega), bytesL_length, Nat.add_sub_cancel]
set_option maxRecDepth 100000 in
theorem zeroKey : Tryz.zeroCells170 = (keyCells 0 0 0 0 (fun _ => 0) (fun _ => 0) (fun _ => 0) (fun _ => 0)).toArray := by kernel_rfl
theorem key_made (n l : Nat) (key : Nat → Nat) (hl : l ≤ 240) : splice (Tryz.zeroCells170.setIfInBounds 0 (.int .i64 (n : Nat))).toList 1 (bytesL l key) = keyCells n 0 0 0 (fun x => if x < l then key x else 0) (fun _ => 0) (fun _ => 0) (fun _ => 0) := by
  have e : (Tryz.zeroCells170.setIfInBounds 0 (.int .i64 (n : Nat))).toList = keyCells n 0 0 0 (fun _ => 0) (fun _ => 0) (fun _ => 0) (fun _ => 0) := by
    rw [zeroKey, List.setIfInBounds_toArray]; rfl
  have e2 : bytesL 240 (fun x => if x < l then key x else 0) = bytesL l key ++ (bytesL 240 (fun _ => 0)).drop l := by
    apply List.ext_getElem?
    intro j
    by_cases hj : j < l
    · rw [List.getElem?_append_left (by rw [bytesL_length]; exact hj), bytesL_at hj, bytesL_at (by omega)]
      show some (Value.int .u8 ((if j < l then key j else 0 : Nat) : Int)) = _
      rw [if_pos hj]
    · rw [List.getElem?_append_right (by rw [bytesL_length]; omega), bytesL_length, List.getElem?_drop, show l + (j - l) = j by omega]
      by_cases h2 : j < 240
      · rw [bytesL_at h2, bytesL_at h2]
        show some (Value.int .u8 ((if j < l then key j else 0 : Nat) : Int)) = _
        rw [if_neg hj]
      · rw [List.getElem?_eq_none (by rw [bytesL_length]; omega), List.getElem?_eq_none (by rw [bytesL_length]; omega)]
  rw [e]
  unfold splice keyCells
  rw [bytesL_length, Nat.add_comm 1 l, List.drop_succ_cons, List.drop_append_of_le_length (by rw [bytesL_length]; exact hl), e2]
  simp
set_option maxRecDepth 100000 in
set_option maxHeartbeats 800000 in
theorem new_any (A : Option Addr) (n cap : Nat) (key : Nat → Nat) (w : World) (hn : n = 4 ∨ n = 8) (hA : SlB w A (4 * n) key) :
    Calls Tryz.prog 62 #[.slice A (4 * n) cap] w fun e w' => ∃ g, e = .returned (.tuple #[.pointer (some ⟨g, 0, none⟩), .int .i64 0]) ∧ w.heap.size ≤ g ∧ KeyAt w' g n key ∧ Below w.heap.size w w' := by
  have HA := Lib.hid (hA.keep ((Below.refl _ _).alloc (Nat.le_refl _) (.cells (Tryz.zeroCells170.setIfInBounds 0 (.int .i64 (n : Nat))) 170)))
  have HB := Lib.hid ((Below.refl w.heap.size w).alloc (Nat.le_refl _) (.cells (Tryz.zeroCells170.setIfInBounds 0 (.int .i64 (n : Nat))) 170))
  have HG := Lib.hid (show (w.alloc (.cells (Tryz.zeroCells170.setIfInBounds 0 (.int .i64 (n : Nat))) 170)).heap[w.heap.size]? = some (.cells (Tryz.zeroCells170.setIfInBounds 0 (.int .i64 (n : Nat))).toList.toArray 170 (0, 0)) by rw [heap_alloc_new, Array.toArray_toList])
  obtain ⟨l, hl⟩ : ∃ l, 4 * n = l := ⟨_, rfl⟩
  have HLE := Lib.hid hl
  rw [hl] at hA HA ⊢
  have hb : (((l : Int) != 16) = true ∧ ((l : Int) != 32) = false) ∨ ((l : Int) != 16) = false := by
    rcases hn with rfl | rfl
    · right; simp; omega
    · left; constructor <;> simp <;> omega
  have hw : wrap64 ((l : Int) / 4) = (n : Nat) := by unfold wrap64; omega
  have hlen : (bytesL l key).length = Nat.min l 240 := by rw [bytesL_length]; show l = min l 240; omega
  have HL := Lib.hid hlen
  have HP := Lib.hid (copy_parts (k := l) (dp := some ⟨w.heap.size, 1, none⟩) (g := w.heap.size) (off := 1) HA.out (Nat.le_refl _) (fun _ => rfl))
  have HF := Lib.hid (show 1 + (bytesL l key).length ≤ (Tryz.zeroCells170.setIfInBounds 0 (.int .i64 (n : Nat))).toList.length by
    rw [zeroKey, bytesL_length]
    simp [keyCells, bytesL_length]
    omega)
  have HK := Lib.hid (key_made n l key (by omega))
  have HN := Lib.hid hn
  clear hA hn hl hlen
  go_enter Tryz.func62, Tryz.ntmps62
  rcases hb with ⟨hb1, hb2⟩ | hb1
  all_goals
    go_wp2_with ((refine wpList_copy_splice rfl (.tmp 21) (.tmp 22) 22 22 rfl 5 Tryz.underlying22 sizeOf8 (some ⟨w.heap.size, 1, none⟩) A 240 240 l cap rfl rfl w.heap.size 1 _ 170 HG.out (bytesL l key) HL.out HP.out HF.out (bytes_one l key) w.heap.size w HB.out (Nat.le_refl _) ?_); intro w2 hr hb2; rw [HK.out] at hr; have HR := Lib.hid hr; have HB2 := Lib.hid hb2; clear hr hb2)
    go_ret2
    exact ⟨w.heap.size, rfl, Nat.le_refl _, Or.inl ((keyMem_of HR.out.out).congr (fun j _ => by show (if j < l then key j else 0) = (if j < 4 * n then key j else 0); rw [HLE.out]) (fun _ _ => rfl) (fun _ _ => rfl) (fun _ _ => rfl)), HB2.out⟩
end Go.Proofs.YthmlcmlpmolmoaaGreatDoor
namespace Go.Proofs.YthmlcmlpmolmoaaGreatDoor
open Go.RowKit
def clm (a b : Nat) : Nat → Nat
  | 0 => 0
  | k + 1 => if b / 2 ^ k % 2 = 1 then clm a b k ^^^ (a <<< k) else clm a b k
def rdk : Nat → Nat → Nat
  | 0, p => p
  | k + 1, p => rdk k (if p / 2 ^ (k + 8) % 2 = 1 then p ^^^ (283 <<< k) else p)
theorem bit_xor (a b k : Nat) : (a ^^^ b) / 2 ^ k % 2 = (a / 2 ^ k + b / 2 ^ k) % 2 := by
  rw [← Nat.shiftRight_eq_div_pow, Nat.shiftRight_xor_distrib, gx_par, Nat.shiftRight_eq_div_pow, Nat.shiftRight_eq_div_pow]
theorem clm_lin1 (a b c : Nat) : ∀ k, clm (a ^^^ b) c k = clm a c k ^^^ clm b c k
  | 0 => (Nat.xor_self 0).symm
  | k + 1 => by
    simp only [clm]
    rw [clm_lin1 a b c k, Nat.shiftLeft_xor_distrib]
    split
    · exact x4 _ _ _ _
    · rfl
theorem lin_if (p q a : Nat) (x y z : Nat) (h : z % 2 = (x + y) % 2) : (if z % 2 = 1 then (p ^^^ q) ^^^ a else p ^^^ q) = (if x % 2 = 1 then p ^^^ a else p) ^^^ (if y % 2 = 1 then q ^^^ a else q) := by
  rcases Nat.mod_two_eq_zero_or_one x with h1 | h1 <;> rcases Nat.mod_two_eq_zero_or_one y with h2 | h2
  · rw [if_neg (by omega), if_neg (by omega), if_neg (by omega)]
  · rw [if_pos (by omega), if_neg (by omega), if_pos (by omega), Nat.xor_assoc]
  · rw [if_pos (by omega), if_pos (by omega), if_neg (by omega), Nat.xor_assoc, Nat.xor_assoc, Nat.xor_comm q]
  · rw [if_neg (by omega), if_pos (by omega), if_pos (by omega), x4, Nat.xor_self, Nat.xor_zero]
theorem clm_lin2 (a b c : Nat) : ∀ k, clm a (b ^^^ c) k = clm a b k ^^^ clm a c k
  | 0 => (Nat.xor_self 0).symm
  | k + 1 => by
    simp only [clm]
    rw [clm_lin2 a b c k]
    exact lin_if _ _ _ _ _ _ (bit_xor b c k)
theorem rdk_lin : ∀ (k p q : Nat), rdk k (p ^^^ q) = rdk k p ^^^ rdk k q
  | 0, _, _ => rfl
  | k + 1, p, q => by
    simp only [rdk]
    rw [← rdk_lin k, lin_if _ _ _ _ _ _ (bit_xor p q (k + 8))]
theorem clm_zero1 (b : Nat) : ∀ k, clm 0 b k = 0
  | 0 => rfl
  | k + 1 => by
    simp only [clm]
    rw [clm_zero1 b k, Nat.zero_shiftLeft]
    split <;> rfl
theorem clm_zero2 (a : Nat) : ∀ k, clm a 0 k = 0
  | 0 => rfl
  | k + 1 => by
    simp only [clm]
    rw [clm_zero2 a k, Nat.zero_div, if_neg (by decide)]
theorem clm_gm {a b : Nat} (ha : a < 256) (hb : b < 256) : rdk 7 (clm a b 8) = gm a b := by
  have z : rdk 7 0 = 0 := by decide
  exact bilin (fun a b => rdk 7 (clm a b 8)) gm (fun a => by rw [clm_zero2, gm_zero2, z]) (fun b => by rw [clm_zero1, gm_zero1, z])
    (fun a b c _ _ _ => by rw [clm_lin1, rdk_lin]) (fun a b c ha hb _ => gm_xor1 a b c ha hb) (fun a b c _ _ _ => by rw [clm_lin2, rdk_lin]) (fun a b c _ _ _ => gm_xor2 a b c)
    (by decide +kernel) a ha b hb
theorem shl_lt {a k : Nat} (ha : a < 256) (hk : k < 8) : a <<< k < 32768 := by
  rw [Nat.shiftLeft_eq]
  calc a * 2 ^ k ≤ a * 128 := Nat.mul_le_mul_left a (Nat.pow_le_pow_right (by decide) (show k ≤ 7 by omega) : 2 ^ k ≤ 2 ^ 7)
    _ < 32768 := by omega
theorem clm_lt {a : Nat} (b : Nat) (ha : a < 256) : ∀ k, k ≤ 8 → clm a b k < 32768
  | 0, _ => (by decide : 0 < 32768)
  | k + 1, hk => by
    simp only [clm]
    have ih := clm_lt b ha k (by omega)
    split
    · exact Nat.xor_lt_two_pow (n := 15) ih (shl_lt ha (by omega))
    · exact ih
theorem bit_test {x k : Nat} {c : Bool} (h : decide (x / 2 ^ k % 2 = 1) = c) : ((((x : Nat) : Int) / 2 ^ k).tmod 2 == 1) = c := by
  have e : ((x : Nat) : Int) / 2 ^ k = ((x / 2 ^ k : Nat) : Int) := by simp
  rw [e, ← h, Int.tmod_eq_emod_of_nonneg (Int.natCast_nonneg _)]
  generalize x / 2 ^ k = y
  by_cases hy : y % 2 = 1
  · rw [decide_eq_true hy, beq_iff_eq]; omega
  · rw [decide_eq_false hy, beq_eq_false_iff_ne]; omega
theorem shl_wrap {a k : Nat} (h : a <<< k < 32768) : wrap64 ((a : Int) * 2 ^ k) = ((a <<< k : Nat) : Int) := by
  have e : (a : Int) * 2 ^ k = ((a <<< k : Nat) : Int) := by rw [Nat.shiftLeft_eq]; simp
  rw [e]
  unfold wrap64
  generalize a <<< k = y at *
  omega
set_option maxHeartbeats 800000 in
theorem rmul_any (a b : Nat) (w : World) (ha : a < 256) (hb : b < 256) :
    Calls Tryz.prog 189 #[.int .u8 a, .int .u8 b] w fun e w' => e = .returned (.int .u8 (gm a b : Nat)) ∧ w = w' := by
  go_enter Tryz.func189, Tryz.ntmps189
  go_wp2_with fail
  go_loop [5, 6] (fun p i => ∃ (k p' : Nat), k ≤ 8 ∧ p' = clm a b k ∧ p = .int .i64 p' ∧ i = .int .i64 k) (fun _ i => 8 - (intOf i).toNat)
  case atStart => exact ⟨0, 0, by decide, rfl, rfl, rfl⟩
  case round =>
    obtain ⟨k, p', hk, hp, rfl, rfl⟩ := hrel
    have hp' := clm_lt b ha k hk
    rw [← hp] at hp'
    by_cases h0 : k < 8
    · have hs := shl_lt ha h0
      by_cases hbit : b / 2 ^ k % 2 = 1
      · have HP := Lib.hid (show p' ^^^ (a <<< k) = clm a b (k + 1) by rw [hp]; simp only [clm, if_pos hbit])
        have ht := bit_test (decide_eq_true hbit)
        have hx : bits BinOp.xor .i64 (p' : Int) (wrap64 ((a : Int) * 2 ^ k)) = ((p' ^^^ (a <<< k) : Nat) : Int) := by
          rw [show wrap64 ((a : Int) * 2 ^ k) = ((a <<< k : Nat) : Int) from shl_wrap hs]
          exact i64_xor_nat _ _ (by omega) (by omega)
        clear hp
        go_wp2_with fail
        go_round
        case rel => exact ⟨k + 1, _, by omega, HP.out, by rw [← hx], by go_num⟩
        case measure => simp [intOf]; omega
      · have HP := Lib.hid (show p' = clm a b (k + 1) by rw [hp]; simp only [clm, if_neg hbit])
        have ht := bit_test (decide_eq_false hbit)
        clear hp
        go_wp2_with fail
        go_round
        case rel => exact ⟨k + 1, _, by omega, HP.out, rfl, by go_num⟩
        case measure => simp [intOf]; omega
    · obtain rfl : k = 8 := by omega
      have HG := Lib.hid (show rdk 7 p' = gm a b by rw [hp]; exact clm_gm ha hb)
      have hgl := gm_lt b ha
      clear hp
      go_wp2_with fail
      go_loop [5, 7] (fun p i => ∃ (k p' : Nat), k ≤ 7 ∧ p' < 32768 ∧ rdk k p' = gm a b ∧ p = .int .i64 p' ∧ i = .int .i64 ((k : Int) + 7)) (fun _ i => (intOf i).toNat)
      case atStart => exact ⟨7, p', by decide, hp', HG.out, rfl, rfl⟩
      case round =>
        obtain ⟨k, p', hk, hp', hg, rfl, rfl⟩ := hrel
        have HG := Lib.hid hg
        clear hg
        by_cases h0 : 0 < k
        · obtain ⟨j, rfl⟩ : ∃ j, k = j + 1 := ⟨k - 1, by omega⟩
          have hs : 283 <<< j < 32768 := by
            have : ∀ j, j < 7 → 283 <<< j < 32768 := by decide
            exact this j (by omega)
          by_cases hbit : p' / 2 ^ (j + 8) % 2 = 1
          · have HP := Lib.hid (show rdk j (p' ^^^ (283 <<< j)) = gm a b by rw [← HG.out]; simp only [rdk, if_pos hbit])
            have ht := bit_test (decide_eq_true hbit)
            have hx : bits BinOp.xor .i64 (p' : Int) (wrap64 (283 * 2 ^ j)) = ((p' ^^^ (283 <<< j) : Nat) : Int) := by
              rw [show wrap64 (283 * 2 ^ j) = ((283 <<< j : Nat) : Int) from shl_wrap hs]
              exact i64_xor_nat _ _ (by omega) (by omega)
            have hpl : p' ^^^ (283 <<< j) < 32768 := Nat.xor_lt_two_pow (n := 15) hp' hs
            go_wp2_with fail
            go_round
            case rel => exact ⟨j, _, by omega, hpl, HP.out, by rw [← hx], by go_num⟩
            case measure => simp [intOf]; omega
          · have HP := Lib.hid (show rdk j p' = gm a b by rw [← HG.out]; simp only [rdk, if_neg hbit])
            have ht := bit_test (decide_eq_false hbit)
            go_wp2_with fail
            go_round
            case rel => exact ⟨j, _, by omega, hp', HP.out, rfl, by go_num⟩
            case measure => simp [intOf]; omega
        · obtain rfl : k = 0 := by omega
          have HG2 := Lib.hid (show p' = gm a b from HG.out)
          have hpl : p' < 256 := by rw [HG2.out]; exact hgl
          clear h0 HG hgl
          go_wp2_with fail
          go_ret
          exact ⟨ret_u8 HG2.out, rfl⟩
end Go.Proofs.YthmlcmlpmolmoaaGreatDoor
namespace Go.Proofs.YthmlcmlpmolmoaaGreatDoor
open Go.RowKit
theorem rpow_any (a : Nat) (n : Int) (w : World) (ha : a < 256) (hn : n ≤ 9223372036854775807) :
    Calls Tryz.prog 190 #[.int .u8 a, .int .i64 n] w fun e w' => e = .returned (.int .u8 (gpow a n.toNat : Nat)) ∧ w = w' := by
  by_cases h0 : n ≤ 0
  · have HE := Lib.hid (show 1 = gpow a n.toNat by rw [show n.toNat = 0 by omega]; rfl)
    go_enter Tryz.func190, Tryz.ntmps190
    go_wp2_with fail
    go_ret
    exact ⟨ret_u8 HE.out, rfl⟩
  · obtain ⟨m, rfl⟩ := Int.eq_ofNat_of_zero_le (show 0 ≤ n by omega)
    rw [Int.toNat_natCast]
    by_cases ha0 : a = 0
    · subst ha0
      have HE := Lib.hid (show 0 = gpow 0 m from (gpow_zero (by omega)).symm)
      go_enter Tryz.func190, Tryz.ntmps190
      go_wp2_with fail
      go_ret
      exact ⟨ret_u8 HE.out, rfl⟩
    · have HE := Lib.hid (gpow_mod ha ha0 m)
      obtain ⟨r, hr⟩ : ∃ r, m % 255 = r := ⟨_, rfl⟩
      have HR := Lib.hid hr
      have hm : ((m : Int) % 255) = (r : Int) := by omega
      have hrl : r < 255 := by omega
      clear hr
      have hz : ((a : Int) == 0) = false := by rw [beq_eq_false_iff_ne]; omega
      go_enter Tryz.func190, Tryz.ntmps190
      go_wp2_with fail
      go_loop [5, 6] (fun p i => ∃ (k p' : Nat), k ≤ r ∧ p' = gpow a k ∧ p = .int .u8 p' ∧ i = .int .i64 k) (fun _ i => r - (intOf i).toNat)
      case atStart => exact ⟨0, 1, Nat.zero_le _, rfl, rfl, rfl⟩
      case round =>
        obtain ⟨k, p', hk, hp, rfl, rfl⟩ := hrel
        have hp' := gpow_lt ha k
        rw [← hp] at hp'
        by_cases hlt : k < r
        · have HP := Lib.hid (show gm p' a = gpow a (k + 1) by rw [hp]; rfl)
          clear hp
          go_wp2_with (go_at_call 189; refine (rmul_any _ _ _ (by assumption) (by assumption)).mono ?_; rintro e w' ⟨rfl, rfl⟩)
          go_round
          case rel => exact ⟨k + 1, _, by omega, HP.out, rfl, by go_num⟩
          case measure => simp [intOf]; omega
        · obtain rfl : k = r := by omega
          have HP := Lib.hid (show p' = gpow a m by rw [hp, ← HE.out, HR.out])
          clear hp
          go_wp2_with fail
          go_ret
          exact ⟨ret_u8 HP.out, rfl⟩
def rlf (a n : Nat) : Nat → Nat
  | 0 => 0
  | k + 1 => if a / 2 ^ k % 2 = 1 then rlf a n k ||| (1 <<< ((k + n) % 8)) else rlf a n k
theorem rlf_lt (a n : Nat) : ∀ k, rlf a n k < 256
  | 0 => (by decide : 0 < 256)
  | k + 1 => by
    simp only [rlf]
    split
    · refine Nat.or_lt_two_pow (n := 8) (rlf_lt a n k) ?_
      have : ∀ x, x < 8 → 1 <<< x < 2 ^ 8 := by decide
      exact this _ (Nat.mod_lt _ (by decide))
    · exact rlf_lt a n k
theorem rlf_rotl {a n : Nat} (ha : a < 256) (hn : n < 8) : rlf a n 8 = rotl a n := by
  have : ∀ n, n < 8 → ∀ a, a < 256 → rlf a n 8 = rotl a n := by decide +kernel
  exact this n hn a ha
theorem rleft_any (a n : Nat) (t : Int) (w : World) (ha : a < 256) (hn : n < 8) (ht : t = (n : Int)) :
    Calls Tryz.prog 188 #[.int .u8 a, .int .i64 t] w fun e w' => e = .returned (.int .u8 (rotl a n : Nat)) ∧ w = w' := by
  subst ht
  go_enter Tryz.func188, Tryz.ntmps188
  go_wp2_with fail
  go_loop [5, 6] (fun p i => ∃ (k p' : Nat), k ≤ 8 ∧ p' = rlf a n k ∧ p = .int .i64 p' ∧ i = .int .i64 k) (fun _ i => 8 - (intOf i).toNat)
  case atStart => exact ⟨0, 0, by decide, rfl, rfl, rfl⟩
  case round =>
    obtain ⟨k, p', hk, hp, rfl, rfl⟩ := hrel
    have hp' := rlf_lt a n k
    rw [← hp] at hp'
    by_cases h0 : k < 8
    · by_cases hbit : a / 2 ^ k % 2 = 1
      · have HP := Lib.hid (show p' ||| (1 <<< ((k + n) % 8)) = rlf a n (k + 1) by rw [hp]; simp only [rlf, if_pos hbit])
        have ht := bit_test (decide_eq_true hbit)
        have hs : 1 <<< ((k + n) % 8) < 32768 := by
          have : ∀ x, x < 8 → 1 <<< x < 32768 := by decide
          exact this _ (Nat.mod_lt _ (by decide))
        have hx : bits BinOp.or .i64 (p' : Int) (wrap64 (2 ^ ((k + n) % 8))) = ((p' ||| (1 <<< ((k + n) % 8)) : Nat) : Int) := by
          have e := shl_wrap hs
          rw [Int.natCast_one, Int.one_mul] at e
          rw [e]
          exact i64_or_nat _ _ (by omega) (by omega)
        clear hp
        go_wp2_with fail
        go_round
        case rel => exact ⟨k + 1, _, by omega, HP.out, by rw [← hx], by go_num⟩
        case measure => simp [intOf]; omega
      · have HP := Lib.hid (show p' = rlf a n (k + 1) by rw [hp]; simp only [rlf, if_neg hbit])
        have ht := bit_test (decide_eq_false hbit)
        clear hp
        go_wp2_with fail
        go_round
        case rel => exact ⟨k + 1, _, by omega, HP.out, rfl, by go_num⟩
        case measure => simp [intOf]; omega
    · obtain rfl : k = 8 := by omega
      have HG := Lib.hid (show p' = rotl a n by rw [hp]; exact rlf_rotl ha hn)
      clear hp
      go_wp2_with fail
      go_ret
      exact ⟨ret_u8 HG.out, rfl⟩
end Go.Proofs.YthmlcmlpmolmoaaGreatDoor
namespace Go.Proofs.YthmlcmlpmolmoaaGreatDoor
open Go.RowKit
theorem mk16 (W : World) : (Instr.makeSlice 22 (.int .i64 16) (.int .i64 16)).run Tryz.prog W = .ok (.slice (some ⟨W.heap.size, 0, none⟩) 16 16) (W.alloc (.cells (madeCells #[.int .u8 0] 16) 5)) := mk8 16 (by decide) W
theorem upto_row (h : Nat → Nat) (k x : Nat) (hx : h k = x) (j : Nat) : (if j = k then x else if j < k then h j else 0) = if j < k + 1 then h j else 0 := by
  by_cases e : j = k
  · subst e; rw [if_pos rfl, if_pos (Nat.lt_succ_self _), hx]
  · rw [if_neg e]
    by_cases h : j < k
    · rw [if_pos h, if_pos (by omega)]
    · rw [if_neg h, if_neg (by omega)]
def NewRow (n : Nat) (f : Nat → Nat) (w : World) (e : Ending) (w' : World) : Prop := e = .returned (.slice (some ⟨w.heap.size, 0, none⟩) n n) ∧ RowB w' w.heap.size n f ∧ Below w.heap.size w w'
set_option maxHeartbeats 800000 in
theorem rlay_any4 (A1 A2 : Option Addr) (c1 c2 : Nat) (a b : Nat → Nat) (w : World) (h1 : SlB w A1 16 a) (h2 : SlB w A2 16 b) :
    Calls Tryz.prog 191 #[.slice A1 16 c1, .slice A2 16 c2] w (NewRow 16 (fun i => a i ^^^ b i) w) := by
  obtain ⟨B1, o1, rfl, l1, e1⟩ := h1 (by decide)
  obtain ⟨B2, o2, rfl, l2, e2⟩ := h2 (by decide)
  have E1 := Lib.hid e1
  have E2 := Lib.hid e2
  have L1 := Lib.hid l1
  have L2 := Lib.hid l2
  have hmk := mk16
  clear h1 h2 e1 e2 l1 l2
  go_enter Tryz.func191, Tryz.ntmps191
  go_wp2_with fail
  clear hmk
  go_loopw [6] (fun v wr => ∃ k : Nat, k ≤ 16 ∧ v = .int .i64 k ∧ RowB wr w.heap.size 16 (fun j => if j < k then a j ^^^ b j else 0) ∧ Below w.heap.size w wr) (fun v _ => 16 - (intOf v).toNat)
  case atStart => exact ⟨0, by decide, rfl, (rowB_made w 16).congr fun j _ => (if_neg (Nat.not_lt_zero _)).symm, (Below.refl _ _).alloc (Nat.le_refl _) _⟩
  case round =>
    obtain ⟨k, hk, rfl, h1, h2⟩ := hrel
    have H1 := Lib.hid h1
    have H2 := Lib.hid h2
    clear h1 h2
    by_cases hlt : k < 16
    · have hx := (E1.out k hlt).1
      have hy := (E2.out k hlt).1
      have hc1 := (H2.out.cell (p := ⟨B1, o1 + k, none⟩) L1.out).trans (E1.out k hlt).2
      have hc2 := (H2.out.cell (p := ⟨B2, o2 + k, none⟩) L2.out).trans (E2.out k hlt).2
      have hc3 := H1.out.cell hlt
      have hf3 := H1.out.frozen k
      rw [if_neg (Nat.lt_irrefl k)] at hc3
      have HR := Lib.hid (((H1.out.set k (a k ^^^ b k) _ rfl).congr fun j _ => upto_row (fun j => a j ^^^ b j) k _ rfl j).drew)
      have HB := Lib.hid ((H2.out.setCell (p := ⟨w.heap.size, k, none⟩) (Nat.le_refl _) (.int .u8 ((a k ^^^ b k : Nat) : Int))).drew)
      have hxy : bits BinOp.xor .u8 ((a k : Nat) : Int) ((b k : Nat) : Int) = ((a k ^^^ b k : Nat) : Int) := u8_xor_nat _ _ hx hy
      generalize a k = x at *
      generalize b k = y at *
      go_wp2_with fail
      go_region
      all_goals
        generalize (wr.setCell ⟨w.heap.size, k, none⟩ (.int .u8 ((x ^^^ y : Nat) : Int))).drew = W at *
        clear hc1 hc2 hc3 hf3
        go_wp2_with fail
        go_roundw
        case rel => exact ⟨k + 1, by omega, by go_num, HR.out, HB.out⟩
        case measure => simp [intOf]; omega
    · obtain rfl : k = 16 := by omega
      go_wp2_with fail
      go_ret
      exact ⟨rfl, H1.out.congr fun j hj => if_pos hj, H2.out⟩
set_option maxHeartbeats 800000 in
theorem rswap_any (A1 A2 : Option Addr) (c1 c2 : Nat) (a T : Nat → Nat) (w : World) (h1 : SlB w A1 16 a) (h2 : SlB w A2 256 T) :
    Calls Tryz.prog 193 #[.slice A1 16 c1, .slice A2 256 c2] w (NewRow 16 (fun i => T (a i)) w) := by
  obtain ⟨B1, o1, rfl, l1, e1⟩ := h1 (by decide)
  obtain ⟨B2, o2, rfl, l2, e2⟩ := h2 (by decide)
  have E1 := Lib.hid e1
  have E2 := Lib.hid e2
  have L1 := Lib.hid l1
  have L2 := Lib.hid l2
  have hmk := mk16
  clear h1 h2 e1 e2 l1 l2
  go_enter Tryz.func193, Tryz.ntmps193
  go_wp2_with fail
  clear hmk
  go_loopw [6] (fun v wr => ∃ k : Nat, k ≤ 16 ∧ v = .int .i64 k ∧ RowB wr w.heap.size 16 (fun j => if j < k then T (a j) else 0) ∧ Below w.heap.size w wr) (fun v _ => 16 - (intOf v).toNat)
  case atStart => exact ⟨0, by decide, rfl, (rowB_made w 16).congr fun j _ => (if_neg (Nat.not_lt_zero _)).symm, (Below.refl _ _).alloc (Nat.le_refl _) _⟩
  case round =>
    obtain ⟨k, hk, rfl, h1, h2⟩ := hrel
    have H1 := Lib.hid h1
    have H2 := Lib.hid h2
    clear h1 h2
    by_cases hlt : k < 16
    · have hx := (E1.out k hlt).1
      have hc1 := (H2.out.cell (p := ⟨B1, o1 + k, none⟩) L1.out).trans (E1.out k hlt).2
      have hc2 := (H2.out.cell (p := ⟨B2, o2 + a k, none⟩) L2.out).trans (E2.out (a k) hx).2
      have hc3 := H1.out.cell hlt
      have hf3 := H1.out.frozen k
      rw [if_neg (Nat.lt_irrefl k)] at hc3
      have HR := Lib.hid ((H1.out.set k (T (a k)) _ rfl).congr fun j _ => upto_row (fun j => T (a j)) k _ rfl j)
      have HB := Lib.hid (H2.out.setCell (p := ⟨w.heap.size, k, none⟩) (Nat.le_refl _) (.int .u8 ((T (a k) : Nat) : Int)))
      generalize T (a k) = y at *
      generalize a k = x at *
      go_wp2_with fail
      go_roundw
      case rel => exact ⟨k + 1, by omega, by go_num, HR.out, HB.out⟩
      case measure => simp [intOf]; omega
    · obtain rfl : k = 16 := by omega
      go_wp2_with fail
      go_ret
      exact ⟨rfl, H1.out.congr fun j hj => if_pos hj, H2.out⟩
end Go.Proofs.YthmlcmlpmolmoaaGreatDoor
namespace Go.Proofs.YthmlcmlpmolmoaaGreatDoor
open Go.RowKit
set_option maxHeartbeats 1600000 in
theorem rshift_any (A1 : Option Addr) (c1 t : Nat) (ti : Int) (a : Nat → Nat) (w : World) (ht : (t = 1 ∧ ti = 1) ∨ (t = 3 ∧ ti = 3)) (h1 : SlB w A1 16 a) :
    Calls Tryz.prog 192 #[.slice A1 16 c1, .int .i64 ti] w (NewRow 16 (fun i => a ((i + 4 * t * (i % 4)) % 16)) w) := by
  obtain ⟨B1, o1, rfl, l1, e1⟩ := h1 (by decide)
  have E1 := Lib.hid e1
  have L1 := Lib.hid l1
  have hmk := mk16
  clear h1 e1 l1
  obtain ⟨F, hF⟩ : ∃ F : Nat → Nat, F = fun i => a ((i + 4 * t * (i % 4)) % 16) := ⟨_, rfl⟩
  have HFE := Lib.hid hF
  clear hF
  rcases ht with ⟨rfl, rfl⟩ | ⟨rfl, rfl⟩
  all_goals
    go_enter Tryz.func192, Tryz.ntmps192
    go_wp2_with fail
    clear hmk
    go_loopw [6] (fun v wr => ∃ q : Nat, q ≤ 4 ∧ v = .int .i64 q ∧ RowB wr w.heap.size 16 (fun j => if j < 4 * q then F j else 0) ∧ Below w.heap.size w wr) (fun v _ => 4 - (intOf v).toNat)
    case atStart => exact ⟨0, by decide, rfl, (rowB_made w 16).congr fun j _ => (if_neg (Nat.not_lt_zero _)).symm, (Below.refl _ _).alloc (Nat.le_refl _) _⟩
    case round =>
      obtain ⟨q, hq, rfl, h1, h2⟩ := hrel
      have H1 := Lib.hid h1
      have H2 := Lib.hid h2
      clear h1 h2
      by_cases hlt : q < 4
      · go_wp2_with fail
        go_loopw [7] (fun v wx => ∃ r : Nat, r ≤ 4 ∧ v = .int .i64 r ∧ RowB wx w.heap.size 16 (fun j => if j < 4 * q + r then F j else 0) ∧ Below w.heap.size w wx) (fun v _ => 4 - (intOf v).toNat)
        case atStart => exact ⟨0, by decide, rfl, H1.out, H2.out⟩
        case round =>
          obtain ⟨r, hr, rfl, h1, h2⟩ := hrel
          have H3 := Lib.hid h1
          have H4 := Lib.hid h2
          clear h1 h2
          by_cases hlr : r < 4
          · first
              | (have hc1 := (H4.out.cell (p := ⟨B1, o1 + (4 * q + r + 4 * r) % 16, none⟩) L1.out).trans (E1.out ((4 * q + r + 4 * r) % 16) (Nat.mod_lt _ (by decide))).2
                 have HF0 := Lib.hid (show F (4 * q + r) = a ((4 * q + r + 4 * r) % 16) by rw [HFE.out]; show a _ = a _; congr 1; omega))
              | (have hc1 := (H4.out.cell (p := ⟨B1, o1 + (4 * q + r + 4 * r * 3) % 16, none⟩) L1.out).trans (E1.out ((4 * q + r + 4 * r * 3) % 16) (Nat.mod_lt _ (by decide))).2
                 have HF0 := Lib.hid (show F (4 * q + r) = a ((4 * q + r + 4 * r * 3) % 16) by rw [HFE.out]; show a _ = a _; congr 1; omega))
            have h16 : 4 * q + r < 16 := by omega
            have hc3 := H3.out.cell h16
            have hf3 := H3.out.frozen (4 * q + r)
            rw [if_neg (Nat.lt_irrefl _)] at hc3
            have HR := Lib.hid ((H3.out.set (4 * q + r) (F (4 * q + r)) _ rfl).congr fun j _ => upto_row F (4 * q + r) _ rfl j)
            have HB := Lib.hid (H4.out.setCell (p := ⟨w.heap.size, 4 * q + r, none⟩) (Nat.le_refl _) (.int .u8 ((F (4 * q + r) : Nat) : Int)))
            rw [← HF0.out] at hc1
            generalize F (4 * q + r) = y at *
            go_wp2_with fail
            go_roundw
            case rel => exact ⟨r + 1, by omega, by go_num, HR.out, HB.out⟩
            case measure => simp [intOf]; omega
          · obtain rfl : r = 4 := by omega
            go_wp2_with fail
            go_roundw
            case rel => exact ⟨q + 1, by omega, by go_num, H3.out.congr fun j _ => by rw [show 4 * (q + 1) = 4 * q + 4 by omega], H4.out⟩
            case measure => simp [intOf]; omega
      · obtain rfl : q = 4 := by omega
        go_wp2_with fail
        go_ret
        exact ⟨rfl, H1.out.congr fun j hj => by rw [if_pos (show j < 4 * 4 from hj), HFE.out], H2.out⟩
theorem dbl_ref : ∀ a, a < 256 → 128 ≤ a → 2 * a ^^^ 283 = dbl a := by decide +kernel
set_option maxHeartbeats 800000 in
theorem rtimes_any (f b : Nat) (w : World) (hf : f < 256) (hb : b < 256) :
    Calls Tryz.prog 217 #[.int .i64 (f : Nat), .int .u8 (b : Nat)] w fun e w' => e = .returned (.int .u8 (gm f b : Nat)) ∧ w = w' := by
  rw [gm_comm hf hb]
  go_enter Tryz.func217, Tryz.ntmps217
  go_wp2_with fail
  go_loop [0, 5, 6] (fun y p x => ∃ k a' b' p' : Nat, k ≤ 8 ∧ b' < 2 ^ k ∧ a' < 256 ∧ p' < 256 ∧ gmk k a' b' p' = gm b f ∧ x = .int .i64 a' ∧ y = .int .i64 b' ∧ p = .int .u8 p') (fun y _ _ => (intOf y).toNat)
  case atStart => exact ⟨8, b, f, 0, Nat.le_refl _, hf, hb, by decide, rfl, rfl, rfl, rfl⟩
  case round =>
    obtain ⟨k, a', b', p', hk, hb', ha', hp', hg, rfl, rfl, rfl⟩ := hrel
    have HG := Lib.hid hg
    clear hg
    by_cases h0 : 0 < b'
    · have hb256 : b' < 256 := Nat.lt_of_lt_of_le hb' (Nat.le_trans (Nat.pow_le_pow_right (by decide) hk) (by decide))
      have hxl := xor8 hp' ha'
      have hx : bits BinOp.xor .u8 (p' : Int) (a' : Int) = ((p' ^^^ a' : Nat) : Int) := u8_xor_nat p' a' hp' ha'
      obtain ⟨k, rfl⟩ : ∃ j, k = j + 1 := by
        cases k with
        | zero => exact absurd hb' (by simp; omega)
        | succ j => exact ⟨j, rfl⟩
      have hb2 : b' / 2 < 2 ^ k := by rw [Nat.pow_succ] at hb'; omega
      have HB := Lib.hid hb2
      clear hb2 hb'
      have hd : (a' < 128 ∧ dbl a' = 2 * a') ∨ (128 ≤ a' ∧ bits BinOp.xor .i64 (2 * (a' : Int)) 283 = ((dbl a' : Nat) : Int)) := by
        by_cases h : a' < 128
        · left; exact ⟨h, if_pos h⟩
        · right
          refine ⟨by omega, ?_⟩
          rw [← dbl_ref a' ha' (by omega)]
          have := i64_xor_nat (2 * a') 283 (by omega) (by decide)
          simpa using this
      have hdl := dbl_lt ha'
      by_cases hodd : b' % 2 = 1
      · have HG2 := Lib.hid (show gmk k (dbl a') (b' / 2) (p' ^^^ a') = gm b f by rw [← HG.out]; simp only [gmk, if_pos hodd])
        rcases hd with ⟨h, hd⟩ | ⟨h, hd⟩
        · have HD := Lib.hid hd
          clear hd hdl
          go_wp2_with fail
          go_round
          case rel => exact ⟨k, dbl a', b' / 2, p' ^^^ a', by omega, HB.out, dbl_lt ha', hxl, HG2.out, by rw [HD.out]; go_num, by go_num, rfl⟩
          case measure => simp [intOf]; omega
        · generalize dbl a' = d at *
          go_wp2_with fail
          go_round
          case rel => exact ⟨k, d, b' / 2, p' ^^^ a', by omega, HB.out, hdl, hxl, HG2.out, rfl, by go_num, rfl⟩
          case measure => simp [intOf]; omega
      · have HG2 := Lib.hid (show gmk k (dbl a') (b' / 2) p' = gm b f by rw [← HG.out]; simp only [gmk, if_neg hodd])
        have hev : ((b' : Int) % 2 == 1) = false := by rw [beq_eq_false_iff_ne]; omega
        rcases hd with ⟨h, hd⟩ | ⟨h, hd⟩
        · have HD := Lib.hid hd
          clear hd hdl
          go_wp2_with fail
          go_round
          case rel => exact ⟨k, dbl a', b' / 2, p', by omega, HB.out, dbl_lt ha', hp', HG2.out, by rw [HD.out]; go_num, by go_num, rfl⟩
          case measure => simp [intOf]; omega
        · generalize dbl a' = d at *
          go_wp2_with fail
          go_round
          case rel => exact ⟨k, d, b' / 2, p', by omega, HB.out, hdl, hp', HG2.out, rfl, by go_num, rfl⟩
          case measure => simp [intOf]; omega
    · obtain rfl : b' = 0 := by omega
      rw [gmk_done] at HG
      clear hb' h0
      go_wp2_with fail
      go_ret
      exact ⟨ret_u8 HG.out, rfl⟩
end Go.Proofs.YthmlcmlpmolmoaaGreatDoor
namespace Go.Proofs.YthmlcmlpmolmoaaGreatDoor
open Go.RowKit
def psum4 (F s : Nat → Nat) (i : Nat) : Nat → Nat
  | 0 => 0
  | k + 1 => psum4 F s i k ^^^ gm (F k) (s (4 * (i / 4) + (i + k) % 4))
theorem psum_lt {F s : Nat → Nat} (hF : By 4 F) (hs : By 16 s) {i : Nat} (hi : i < 16) : ∀ k, k ≤ 4 → psum4 F s i k < 256
  | 0, _ => (by decide : 0 < 256)
  | k + 1, hk => xor8 (psum_lt hF hs hi k (by omega)) (gm_lt _ (hF k (by omega)))
def fac (a b c d : Nat) (k : Nat) : Nat := if k = 0 then a else if k = 1 then b else if k = 2 then c else d
theorem psum_mix {s : Nat → Nat} (hs : By 16 s) {i : Nat} (hi : i < 16) : psum4 (fac 2 3 1 1) s i 4 = mixc s i := by
  show (((0 ^^^ gm 2 (s (4 * (i / 4) + (i + 0) % 4))) ^^^ gm 3 (s (4 * (i / 4) + (i + 1) % 4))) ^^^ gm 1 (s (4 * (i / 4) + (i + 2) % 4))) ^^^ gm 1 (s (4 * (i / 4) + (i + 3) % 4)) = _
  have h2 : ∀ a, a < 256 → gm 2 a = dbl a := by decide +kernel
  have h3 : ∀ a, a < 256 → gm 3 a = dbl a ^^^ a := by decide +kernel
  rw [Nat.zero_xor, Nat.add_zero, h2 _ (hs _ (by omega)), h3 _ (hs _ (by omega)), one_gm (hs _ (by omega)), one_gm (hs _ (by omega))]
  unfold mixc mx
  ac_rfl
set_option maxHeartbeats 1600000 in
theorem rmix_any (A1 : Option Addr) (c1 c2 B2 o2 : Nat) (a F : Nat → Nat) (w : World) (h1 : SlB w A1 16 a) (hB2 : B2 < w.heap.size) (hF : ∀ k, k < 4 → F k < 256 ∧ w.cell? ⟨B2, o2 + k, none⟩ = some (.int .i64 (F k : Nat))) :
    Calls Tryz.prog 194 #[.slice A1 16 c1, .slice (some ⟨B2, o2, none⟩) 4 c2] w (NewRow 16 (fun i => psum4 F a i 4) w) := by
  obtain ⟨B1, o1, rfl, l1, e1⟩ := h1 (by decide)
  have E1 := Lib.hid e1
  have L1 := Lib.hid l1
  have E2 := Lib.hid hF
  have L2 := Lib.hid hB2
  have HBY := Lib.hid (show By 16 a from fun j hj => (e1 j hj).1)
  have HBF := Lib.hid (show By 4 F from fun j hj => (hF j hj).1)
  have hmk := mk16
  clear h1 e1 l1 hF hB2
  go_enter Tryz.func194, Tryz.ntmps194
  go_wp2_with fail
  clear hmk
  go_loopw [6] (fun v wr => ∃ q : Nat, q ≤ 4 ∧ v = .int .i64 q ∧ RowB wr w.heap.size 16 (fun j => if j < 4 * q then psum4 F a j 4 else 0) ∧ Below w.heap.size w wr) (fun v _ => 4 - (intOf v).toNat)
  case atStart => exact ⟨0, by decide, rfl, (rowB_made w 16).congr fun j _ => (if_neg (Nat.not_lt_zero _)).symm, (Below.refl _ _).alloc (Nat.le_refl _) _⟩
  case round =>
    obtain ⟨q, hq, rfl, h1, h2⟩ := hrel
    have H1 := Lib.hid h1
    have H2 := Lib.hid h2
    clear h1 h2
    by_cases hlt : q < 4
    · go_wp2_with fail
      go_loopw [7] (fun v wx => ∃ r : Nat, r ≤ 4 ∧ v = .int .i64 r ∧ RowB wx w.heap.size 16 (fun j => if j < 4 * q + r then psum4 F a j 4 else 0) ∧ Below w.heap.size w wx) (fun v _ => 4 - (intOf v).toNat)
      case atStart => exact ⟨0, by decide, rfl, H1.out, H2.out⟩
      case round =>
        obtain ⟨r, hr, rfl, h1, h2⟩ := hrel
        have H3 := Lib.hid h1
        have H4 := Lib.hid h2
        clear h1 h2
        by_cases hlr : r < 4
        · go_wp2_with fail
          go_loopw [8, 9] (fun x v wy => ∃ k : Nat, k ≤ 4 ∧ v = .int .i64 k ∧ x = .int .u8 (psum4 F a (4 * q + r) k : Nat) ∧ RowB wy w.heap.size 16 (fun j => if j < 4 * q + r then psum4 F a j 4 else 0) ∧ Below w.heap.size w wy) (fun _ v _ => 4 - (intOf v).toNat)
          case atStart => exact ⟨0, by decide, rfl, rfl, H3.out, H4.out⟩
          case round =>
            obtain ⟨k, hk, rfl, rfl, h1, h2⟩ := hrel
            have H5 := Lib.hid h1
            have H6 := Lib.hid h2
            clear h1 h2
            have h16 : 4 * q + r < 16 := by omega
            have hpl := psum_lt HBF.out HBY.out h16 k hk
            by_cases hlk : k < 4
            · obtain ⟨e, he⟩ : ∃ e, 4 * q + (r + k) % 4 = e := ⟨_, rfl⟩
              have hel : e < 16 := by omega
              have hc1 := (H6.out.cell (p := ⟨B1, o1 + e, none⟩) L1.out).trans (E1.out e hel).2
              have hc2 := (H6.out.cell (p := ⟨B2, o2 + k, none⟩) L2.out).trans (E2.out k hlk).2
              have hal := HBY.out e hel
              have hfl := HBF.out k hlk
              have HN := Lib.hid (show psum4 F a (4 * q + r) k ^^^ gm (F k) (a e) = psum4 F a (4 * q + r) (k + 1) by
                show _ = psum4 F a (4 * q + r) k ^^^ gm (F k) (a (4 * ((4 * q + r) / 4) + (4 * q + r + k) % 4))
                congr 3
                omega)
              obtain ⟨u, hu⟩ : ∃ u, 4 * q = u := ⟨_, rfl⟩
              obtain ⟨s, hs⟩ : ∃ s, r + k = s := ⟨_, rfl⟩
              obtain ⟨x, hx⟩ : ∃ x, s % 4 = x := ⟨_, rfl⟩
              have v1 : IntKind.i64.wrap (4 * (q : Int)) = (u : Nat) := by rw [IntWalk.i64_in _ (by omega)]; omega
              have v2 : IntKind.i64.wrap ((r : Int) + (k : Nat)) = (s : Nat) := by rw [IntWalk.i64_in _ (by omega)]; omega
              have v3 : ((s : Nat) : Int) % 4 = (x : Nat) := by omega
              have v3' : ((s : Nat) : Int).tmod 4 = (x : Nat) := by rw [Int.tmod_eq_emod_of_nonneg (by omega)]; omega
              have v4 : IntKind.i64.wrap (((u : Nat) : Int) + (x : Nat)) = (e : Nat) := by rw [IntWalk.i64_in _ (by omega)]; omega
              have he1 : (0 : Int) ≤ (e : Nat) := by omega
              have he2 : ((e : Nat) : Int) < 16 := by omega
              have hk2 : ((k : Nat) : Int) < 4 := by omega
              have HT := Lib.hid fun w => rtimes_any (F k) (a e) w hfl hal
              have hgl := gm_lt (a e) hfl
              have HIX := Lib.hid (show 4 * q + r < 16 ∧ r + k = s from ⟨h16, hs⟩)
              clear hu hs hx he
              generalize psum4 F a (4 * q + r) k = p at *
              generalize hgm : gm (F k) (a e) = z at *
              generalize F k = f0 at *
              generalize a e = a0 at *
              have hpz : bits BinOp.xor .u8 (p : Int) (z : Int) = ((p ^^^ z : Nat) : Int) := u8_xor_nat _ _ hpl hgl
              clear hgm
              go_wp2_with fail
              go_quiet ((go_at_call 217; exact Calls.quiet_of_same (same_flip (HT.out _))))
              have H7 := Lib.hid (H5.out.drewN nq)
              have H8 := Lib.hid (drawn H6.out nq)
              generalize wr.drewN nq = W at *
              clear hc1 hc2 v1 v2 v3 v3' v4
              go_wp2_with fail
              go_roundw
              case rel => exact ⟨k + 1, by omega, by go_num, by rw [HN.out], H7.out, H8.out⟩
              case measure => simp [intOf]; omega
            · obtain rfl : k = 4 := by omega
              have hc3 := H5.out.cell h16
              have hf3 := H5.out.frozen (4 * q + r)
              rw [if_neg (Nat.lt_irrefl _)] at hc3
              have HR := Lib.hid ((H5.out.set (4 * q + r) (psum4 F a (4 * q + r) 4) _ rfl).congr fun j _ => upto_row (fun j => psum4 F a j 4) (4 * q + r) _ rfl j)
              have HB := Lib.hid (H6.out.setCell (p := ⟨w.heap.size, 4 * q + r, none⟩) (Nat.le_refl _) (.int .u8 ((psum4 F a (4 * q + r) 4 : Nat) : Int)))
              generalize psum4 F a (4 * q + r) 4 = y at *
              go_wp2_with fail
              go_roundw
              case rel => exact ⟨r + 1, by omega, by go_num, HR.out, HB.out⟩
              case measure => simp [intOf]; omega
        · obtain rfl : r = 4 := by omega
          go_wp2_with fail
          go_roundw
          case rel => exact ⟨q + 1, by omega, by go_num, H3.out.congr fun j _ => by rw [show 4 * (q + 1) = 4 * q + 4 by omega], H4.out⟩
          case measure => simp [intOf]; omega
    · obtain rfl : q = 4 := by omega
      go_wp2_with fail
      go_ret
      exact ⟨rfl, H1.out.congr fun j hj => if_pos (show j < 4 * 4 from hj), H2.out⟩
end Go.Proofs.YthmlcmlpmolmoaaGreatDoor
namespace Go.Proofs.YthmlcmlpmolmoaaGreatDoor
def times3 (a : Nat) : Nat → Nat
  | 0 => 0
  | k + 1 => times3 a k + if gpow 3 k = a then 1 else 0
def pows : Nat → Nat → List Nat
  | 0, _ => []
  | n + 1, x => x :: pows n (gm x 3)
def cnt (a : Nat) : List Nat → Nat
  | [] => 0
  | x :: r => (if x = a then 1 else 0) + cnt a r
theorem cnt_pows (a : Nat) : ∀ n k, times3 a (k + n) = times3 a k + cnt a (pows n (gpow 3 k))
  | 0, _ => rfl
  | n + 1, k => by
    have h := cnt_pows a n (k + 1)
    rw [show k + 1 + n = k + (n + 1) by omega] at h
    rw [h]
    simp only [times3, pows, cnt, gpow]
    omega
def allpows : List Nat := [1, 3, 5, 15, 17, 51, 85, 255, 26, 46, 114, 150, 161, 248, 19, 53, 95, 225, 56, 72, 216, 115, 149, 164, 247, 2, 6, 10, 30, 34, 102, 170, 229, 52, 92, 228, 55, 89, 235, 38, 106, 190, 217, 112, 144, 171, 230, 49, 83, 245, 4, 12, 20, 60, 68, 204, 79, 209, 104, 184, 211, 110, 178, 205, 76, 212, 103, 169, 224, 59, 77, 215, 98, 166, 241, 8, 24, 40, 120, 136, 131, 158, 185, 208, 107, 189, 220, 127, 129, 152, 179, 206, 73, 219, 118, 154, 181, 196, 87, 249, 16, 48, 80, 240, 11, 29, 39, 105, 187, 214, 97, 163, 254, 25, 43, 125, 135, 146, 173, 236, 47, 113, 147, 174, 233, 32, 96, 160, 251, 22, 58, 78, 210, 109, 183, 194, 93, 231, 50, 86, 250, 21, 63, 65, 195, 94, 226, 61, 71, 201, 64, 192, 91, 237, 44, 116, 156, 191, 218, 117, 159, 186, 213, 100, 172, 239, 42, 126, 130, 157, 188, 223, 122, 142, 137, 128, 155, 182, 193, 88, 232, 35, 101, 175, 234, 37, 111, 177, 200, 67, 197, 84, 252, 31, 33, 99, 165, 244, 7, 9, 27, 45, 119, 153, 176, 203, 70, 202, 69, 207, 74, 222, 121, 139, 134, 145, 168, 227, 62, 66, 198, 81, 243, 14, 18, 54, 90, 238, 41, 123, 141, 140, 143, 138, 133, 148, 167, 242, 13, 23, 57, 75, 221, 124, 132, 151, 162, 253, 28, 36, 108, 180, 199, 82, 246]
set_option maxRecDepth 100000 in
theorem pows_lit : pows 255 1 = allpows := by decide +kernel
theorem times3_all {a : Nat} (h : a < 256) : times3 a 255 = if a = 0 then 0 else 1 := by
  have key : ∀ a, a < 256 → cnt a allpows = if a = 0 then 0 else 1 := by decide +kernel
  have e := cnt_pows a 255 0
  rw [Nat.zero_add, show gpow 3 0 = 1 from rfl, pows_lit, key a h] at e
  rw [e, show times3 a 0 = 0 from rfl, Nat.zero_add]
end Go.Proofs.YthmlcmlpmolmoaaGreatDoor
namespace Go.Proofs.YthmlcmlpmolmoaaGreatDoor
open Go.RowKit
theorem mk256 (W : World) : (Instr.makeSlice 22 (.int .i64 256) (.int .i64 256)).run Tryz.prog W = .ok (.slice (some ⟨W.heap.size, 0, none⟩) 256 256) (W.alloc (.cells (madeCells #[.int .u8 0] 256) 5)) := mk8 256 (by decide) W
set_option maxRecDepth 100000 in
set_option maxHeartbeats 800000 in
theorem rback_any (A1 : Option Addr) (c1 : Nat) (w : World) (h1 : SlB w A1 256 box) :
    Calls Tryz.prog 155 #[.slice A1 256 c1] w (NewRow 256 unbox w) := by
  obtain ⟨B1, o1, rfl, l1, e1⟩ := h1 (by decide)
  have E1 := Lib.hid e1
  have L1 := Lib.hid l1
  have hmk := mk256
  clear h1 e1 l1
  go_enter Tryz.func155, Tryz.ntmps155
  go_wp2_with fail
  clear hmk
  go_loopw [4] (fun v wr => ∃ k : Nat, k ≤ 256 ∧ v = .int .i64 k ∧ RowB wr w.heap.size 256 (untab k) ∧ Below w.heap.size w wr) (fun v _ => 256 - (intOf v).toNat)
  case atStart => exact ⟨0, by decide, rfl, (rowB_made w 256).congr fun j _ => (if_neg (Nat.not_lt_zero _)).symm, (Below.refl _ _).alloc (Nat.le_refl _) _⟩
  case round =>
    obtain ⟨k, hk, rfl, h1, h2⟩ := hrel
    have H1 := Lib.hid h1
    have H2 := Lib.hid h2
    clear h1 h2
    by_cases hlt : k < 256
    · have hbl := box_lt hlt
      have hc1 := (H2.out.cell (p := ⟨B1, o1 + k, none⟩) L1.out).trans (E1.out k hlt).2
      have hc3 := H1.out.cell hbl
      have hf3 := H1.out.frozen (box k)
      have HR := Lib.hid ((H1.out.set (box k) k (.int .u8 (k : Nat)) rfl).congr fun j hj => untab_step hlt j hj)
      have HB := Lib.hid (H2.out.setCell (p := ⟨w.heap.size, box k, none⟩) (Nat.le_refl _) (.int .u8 (k : Nat)))
      generalize box k = x at *
      go_wp2_with fail
      go_roundw
      case rel => exact ⟨k + 1, by omega, by go_num, HR.out, HB.out⟩
      case measure => simp [intOf]; omega
    · obtain rfl : k = 256 := by omega
      go_wp2_with fail
      go_ret
      exact ⟨rfl, H1.out.congr fun j hj => untab_all j hj, H2.out⟩
theorem inv_pow : ∀ k, gm (gpow 3 k) (gpow 246 k) = 1
  | 0 => by decide
  | k + 1 => by
    have h3 : (3 : Nat) < 256 := by decide
    have h6 : (246 : Nat) < 256 := by decide
    have hp := gpow_lt h3 k
    have hq := gpow_lt h6 k
    show gm (gm (gpow 3 k) 3) (gm (gpow 246 k) 246) = 1
    rw [gm_comm hq h6, gm_assoc hp h3 (gm_lt _ h6), ← gm_assoc h3 h6 hq, show gm 3 246 = 1 by decide, one_gm hq, inv_pow k]
theorem box_pow (k : Nat) : gbox (gpow 246 k) = box (gpow 3 k) := by
  unfold box
  rw [← ginv_only (gpow_lt (by decide) k) (gpow_lt (by decide) k) (inv_pow k)]
theorem pow3_ne (k : Nat) : gpow 3 k ≠ 0 := fun e => by
  have := inv_pow k
  rw [e, gm_zero1] at this
  exact absurd this (by decide)
def bxs (k y : Nat) : Nat := if y = 0 then 99 else if times3 y k = 0 then 0 else box y
theorem bxs_step (k y : Nat) : (if y = gpow 3 k then box (gpow 3 k) else bxs k y) = bxs (k + 1) y := by
  unfold bxs
  by_cases e : y = gpow 3 k
  · have h0 : y ≠ 0 := by rw [e]; exact pow3_ne k
    rw [if_pos e, if_neg h0, if_neg (by simp only [times3]; rw [if_pos e.symm]; omega), e]
  · have t : times3 y (k + 1) = times3 y k := by
      show times3 y k + (if gpow 3 k = y then 1 else 0) = _
      rw [if_neg (fun h => e h.symm), Nat.add_zero]
    rw [if_neg e, t]
theorem bxs_all {y : Nat} (h : y < 256) : bxs 255 y = box y := by
  unfold bxs
  rw [times3_all h]
  by_cases e : y = 0
  · subst e
    rw [if_pos rfl]
    unfold box
    rw [ginv_zero]; rfl
  · rw [if_neg e, if_neg e, if_neg (by decide)]
set_option maxRecDepth 100000 in
set_option maxHeartbeats 1600000 in
theorem rboxes_any (w : World) : Calls Tryz.prog 153 #[] w (NewRow 256 box w) := by
  have hmk := mk256
  have hc0 : (w.alloc (.cells (madeCells #[.int .u8 0] 256) 5)).cell? ⟨w.heap.size, 0, none⟩ = some (.int .u8 0) := (rowB_made w 256).cell (by decide)
  have hf0 : (w.alloc (.cells (madeCells #[.int .u8 0] 256) 5)).frozen? ⟨w.heap.size, 0, none⟩ = false := (rowB_made w 256).frozen 0
  have HR0 := Lib.hid (((rowB_made w 256).set 0 99 (.int .u8 99) rfl).congr (f := bxs 0) fun j _ => by
    unfold bxs
    by_cases e : j = 0
    · rw [if_pos e, if_pos e]
    · rw [if_neg e, if_neg e]; rfl)
  have HB0 := Lib.hid (((Below.refl w.heap.size w).alloc (Nat.le_refl _) (.cells (madeCells #[.int .u8 0] 256) 5)).setCell (p := ⟨w.heap.size, 0, none⟩) (Nat.le_refl _) (.int .u8 99))
  have hse : (w.alloc (.cells (madeCells #[.int .u8 0] 256) 5)).setCell ⟨w.heap.size, 0, none⟩ (.int .u8 99) = w.alloc (.cells ((madeCells #[.int .u8 0] 256).setIfInBounds 0 (.int .u8 99)) 5) := World.setCell_alloc_at _ _ _ _ _ (hn := rfl)
  rw [hse] at HR0 HB0
  clear hse
  go_enter Tryz.func153, Tryz.ntmps153
  go_wp2_with fail
  generalize hW : w.alloc (.cells ((madeCells #[.int .u8 0] 256).setIfInBounds 0 (.int .u8 99)) 5) = W at *
  clear hmk hc0 hf0 hW
  go_loopw [2, 3, 4] (fun x i v wr => ∃ k : Nat, k ≤ 255 ∧ v = .int .i64 k ∧ x = .int .u8 (gpow 3 k : Nat) ∧ i = .int .u8 (gpow 246 k : Nat) ∧ RowB wr w.heap.size 256 (bxs k) ∧ Below w.heap.size w wr) (fun _ _ v _ => 255 - (intOf v).toNat)
  case atStart => exact ⟨0, by decide, rfl, rfl, rfl, HR0.out, HB0.out⟩
  case round =>
    obtain ⟨k, hk, rfl, rfl, rfl, h1, h2⟩ := hrel
    have H1 := Lib.hid h1
    have H2 := Lib.hid h2
    clear h1 h2
    by_cases hlt : k < 255
    · have hxl := gpow_lt (a := 3) (by decide) k
      have hil := gpow_lt (a := 246) (by decide) k
      have HBX := Lib.hid (show gpow 246 k ^^^ rotl (gpow 246 k) 1 ^^^ rotl (gpow 246 k) 2 ^^^ rotl (gpow 246 k) 3 ^^^ rotl (gpow 246 k) 4 ^^^ 99 = box (gpow 3 k) from box_pow k)
      have hc3 := H1.out.cell hxl
      have hf3 := H1.out.frozen (gpow 3 k)
      have HR := Lib.hid ((H1.out.set (gpow 3 k) (box (gpow 3 k)) _ rfl).congr fun j _ => bxs_step k j)
      have HB := Lib.hid (H2.out.setCell (p := ⟨w.heap.size, gpow 3 k, none⟩) (Nat.le_refl _) (.int .u8 ((box (gpow 3 k) : Nat) : Int)))
      rw [← HBX.out] at HR HB
      have HX3 := Lib.hid fun w => (show Calls Tryz.prog 189 #[.int .u8 (gpow 3 k : Nat), .int .u8 3] w fun e w' => e = .returned (.int .u8 (gm (gpow 3 k) 3 : Nat)) ∧ w = w' from rmul_any (gpow 3 k) 3 w hxl (by decide))
      have HI6 := Lib.hid fun w => (show Calls Tryz.prog 189 #[.int .u8 (gpow 246 k : Nat), .int .u8 246] w fun e w' => e = .returned (.int .u8 (gm (gpow 246 k) 246 : Nat)) ∧ w = w' from rmul_any (gpow 246 k) 246 w hil (by decide))
      have HE := Lib.hid (show gm (gpow 3 k) 3 = gpow 3 (k + 1) ∧ gm (gpow 246 k) 246 = gpow 246 (k + 1) from ⟨rfl, rfl⟩)
      generalize bxs k (gpow 3 k) = old at *
      generalize gpow 3 k = x at *
      generalize gpow 246 k = i at *
      have l1 := rotl_lt (n := 1) hil (by decide)
      have l2 := rotl_lt (n := 2) hil (by decide)
      have l3 := rotl_lt (n := 3) hil (by decide)
      have l4 := rotl_lt (n := 4) hil (by decide)
      have e1 := x8 hil l1
      have k1 := xor8 hil l1
      have e2 := x8 k1 l2
      have k2 := xor8 k1 l2
      have e3 := x8 k2 l3
      have k3 := xor8 k2 l3
      have e4 := x8 k3 l4
      have k4 := xor8 k3 l4
      have e5 : bits BinOp.xor .u8 ((i ^^^ rotl i 1 ^^^ rotl i 2 ^^^ rotl i 3 ^^^ rotl i 4 : Nat) : Int) 99 = ((i ^^^ rotl i 1 ^^^ rotl i 2 ^^^ rotl i 3 ^^^ rotl i 4 ^^^ 99 : Nat) : Int) := x8 k4 (show 99 < 256 by decide)
      go_wp2_with (first | (go_at_call 188; (first | (with_reducible refine (rleft_any i 1 1 _ hil (by decide) (by decide)).mono ?_) | (with_reducible refine (rleft_any i 2 2 _ hil (by decide) (by decide)).mono ?_) | (with_reducible refine (rleft_any i 3 3 _ hil (by decide) (by decide)).mono ?_) | (with_reducible refine (rleft_any i 4 4 _ hil (by decide) (by decide)).mono ?_)); rintro e w' ⟨rfl, rfl⟩) | (go_at_call 189; (first | (with_reducible refine (HX3.out _).mono ?_) | (with_reducible refine (HI6.out _).mono ?_)); rintro e w' ⟨rfl, rfl⟩))
      go_roundw
      case rel => exact ⟨k + 1, by omega, by go_num, by rw [HE.out.1], by rw [HE.out.2], HR.out, HB.out⟩
      case measure => simp [intOf]; omega
    · obtain rfl : k = 255 := by omega
      go_wp2_with fail
      go_ret
      exact ⟨rfl, H1.out.congr fun j hj => bxs_all hj, H2.out⟩
end Go.Proofs.YthmlcmlpmolmoaaGreatDoor
namespace Go.Proofs.YthmlcmlpmolmoaaGreatDoor
open Go.RowKit
structure LR (base : Nat) (w : World) (v : Value) (k len : Nat) (S : Nat → Nat → Nat) (G C : Nat → Nat) : Prop where
  own : w.ownsRow base 22 1 v k ((List.range k).map fun j => .slice (some ⟨G j, 0, none⟩) len (C j))
  rows : ∀ j, j < k → RowX w (G j) 5 len (fun t => .int .u8 (S j t : Nat))
namespace LR
variable {base k len : Nat} {w w' : World} {v : Value} {S : Nat → Nat → Nat} {G C : Nat → Nat}
theorem nil (base : Nat) (w : World) (len : Nat) (S : Nat → Nat → Nat) (G C : Nat → Nat) : LR base w (.slice none 0 0) 0 len S G C := ⟨World.ownsRow_nil w base _ 1, fun _ hj => absurd hj (Nat.not_lt_zero _)⟩
theorem keepB {B : Nat} (h : LR base w v k len S G C) (hb : Below B w w') (hB : w.heap.size ≤ B) : LR base w' v k len S G C := by
  refine ⟨?_, fun j hj => (h.rows j hj).below hb (Nat.lt_of_lt_of_le (h.rows j hj).lt hB)⟩
  rcases h.own with ⟨h1, h2 | ⟨g, cap, cur, e, hg, hh, r⟩⟩
  · exact ⟨h1, Or.inl h2⟩
  · exact ⟨h1, Or.inr ⟨g, cap, cur, e, hg, (hb.block g (Nat.lt_of_lt_of_le (Array.getElem?_eq_some_iff.1 hh).1 hB)).trans hh, r⟩⟩
theorem keep (h : LR base w v k len S G C) (hb : Below w.heap.size w w') : LR base w' v k len S G C := h.keepB hb (Nat.le_refl _)
theorem alloc' (h : LR base w v k len S G C) (o : Obj) : LR base (w.alloc o) v k len S G C := h.keep ((Below.refl _ _).alloc (Nat.le_refl _) o)
theorem chg {K : Nat} (h : LR base w v k len S G C) (hc : Chg K w w') (hK : ∀ j, j < k → G j ≠ K) (hT : ∀ c fr, w.heap[K]? ≠ some (.cells c 22 fr)) : LR base w' v k len S G C := by
  refine ⟨?_, fun j hj => (h.rows j hj).of_block (hc.block _ (h.rows j hj).lt (hK j hj))⟩
  rcases h.own with ⟨h1, h2 | ⟨g, cap, cur, e, hg, hh, r⟩⟩
  · exact ⟨h1, Or.inl h2⟩
  · exact ⟨h1, Or.inr ⟨g, cap, cur, e, hg, (hc.block g (Array.getElem?_eq_some_iff.1 hh).1 (fun e' => hT _ _ (e' ▸ hh))).trans hh, r⟩⟩
theorem base_le {B : Nat} (h : LR base w v k len S G C) (hB : B ≤ base) : LR B w v k len S G C := by
  refine ⟨?_, h.rows⟩
  rcases h.own with ⟨h1, h2 | ⟨g, cap, cur, e, hg, r⟩⟩
  · exact ⟨h1, Or.inl h2⟩
  · exact ⟨h1, Or.inr ⟨g, cap, cur, e, Nat.le_trans hB hg, r⟩⟩
theorem slice (h : LR base w v k len S G C) : ∃ A cap, v = .slice A k cap ∧ k ≤ cap ∧ (0 < k → ∃ g, A = some ⟨g, 0, none⟩ ∧ g < w.heap.size ∧ ∀ j, j < k → w.cell? ⟨g, j, none⟩ = some (.slice (some ⟨G j, 0, none⟩) len (C j))) := by
  have hown := h.own
  rcases hown.2 with ⟨rfl, hn⟩ | ⟨g, cap, cur, rfl, hg, hh, h1, r⟩
  · subst hn; exact ⟨none, 0, rfl, Nat.le_refl _, fun h => absurd h (Nat.lt_irrefl _)⟩
  · refine ⟨_, cap, rfl, h1, fun _ => ⟨g, rfl, (Array.getElem?_eq_some_iff.1 hh).1, fun j hj => ?_⟩⟩
    rw [hown.cellAt j (by omega), List.getElem?_map, List.getElem?_range hj]; rfl
end LR
theorem infoS' : (Tryz.prog.info? 22).map (fun i => (i.zero, i.size, i.bytes)) = some (some (.slice none 0 0), 1, 24) := by kernel_rfl
theorem wpList_appS {ops : Array Oper} {rest : List Oper} {o : Oper} {a : Act} {Q : Exit → Act → World → Prop} {w : World} (hgd : o.guard = none) (s x : Operand)
    (ho : o.op = .call { callee := .builtin .append, args := #[s, x], argTypes := #[32, 32] })
    (base : Nat) (v : Value) (k len : Nat) (S : Nat → Nat → Nat) (G C : Nat → Nat) (hs : a.eval s = v) (h : LR base w v k len S G C)
    (X T cT : Nat) (hx : a.eval x = .slice (some ⟨X, 0, none⟩) 1 1) (hX : w.cell? ⟨X, 0, none⟩ = some (.slice (some ⟨T, 0, none⟩) len cT)) (hT : RowX w T 5 len (fun t => .int .u8 (S k t : Nat))) (hk : k ≤ 1000) (hbase : base ≤ w.heap.size)
    (hq : ∀ v' w', LR base w' v' (k + 1) len S (fun j => if j = k then T else G j) (fun j => if j = k then cT else C j) → Below base w w' → wpList Tryz.prog ops Q rest (a.put o.dst v') w') : wpList Tryz.prog ops Q (o :: rest) a w := by
  obtain ⟨i, hi, hz, hsz, hb⟩ := info_parts infoS'
  refine wpList_append_own w hgd s x 32 ho base 22 i (.slice none 0 0) 1 24 Tryz.underlying32 hi hz hsz hb rfl (by decide) v k _ hs h.own ⟨X, 0, none⟩ 1 1 [.slice (some ⟨T, 0, none⟩) len cT] hx rfl ?_ ?_ (by unfold maxLen; omega) (by omega) hbase ?_
  · intro j u hj
    match j, hj with
    | 0, hj => simp at hj; subst hj; exact hX
  · intro u hu; simp at hu; subst hu; rfl
  · intro v' w' h1 h2 _
    have hb' : Below base w w' := (Below.refl base w).grown h2 hbase fun k hk => (h.own.lt k hk).1
    have keepRow : ∀ g f, RowX w g 5 len f → RowX w' g 5 len f := fun g f hr => hr.of_block (h2.block g hr.lt fun e => by
      rcases h.own.2 with ⟨rfl, _⟩ | ⟨g', cap, cur, rfl, hg, hh, _⟩
      · cases e
      · obtain rfl : g = g' := by simpa [Value.ownBlock] using e
        obtain ⟨c, fr, hc, _⟩ := hr
        rw [hh] at hc
        injection hc with hc
        injection hc with _ ht _
        exact absurd ht (by decide))
    refine hq v' w' ⟨?_, fun j hj => ?_⟩ hb'
    · rw [List.range_succ, List.map_append]
      have e1 : (List.range k).map (fun j => Value.slice (some ⟨G j, 0, none⟩) len (C j)) = (List.range k).map (fun j => Value.slice (some ⟨if j = k then T else G j, 0, none⟩) len (if j = k then cT else C j)) :=
        List.map_congr_left fun j hj => by
          have hne : ¬ j = k := Nat.ne_of_lt (List.mem_range.1 hj)
          rw [if_neg hne, if_neg hne]
      rw [← e1]
      simpa using h1
    · by_cases e : j = k
      · subst e; rw [if_pos rfl]; exact keepRow _ _ hT
      · rw [if_neg e]; exact keepRow _ _ (h.rows j (by omega))
theorem OwnB.rowX {w : World} {base n : Nat} {v : Value} {f : Nat → Nat} (h : OwnB w base v n f) (hn : 0 < n) : ∃ g c, v = .slice (some ⟨g, 0, none⟩) n c ∧ base ≤ g ∧ n ≤ c ∧ RowX w g 5 n (fun t => .int .u8 (f t : Nat)) := by
  rcases h.2 with ⟨rfl, hx⟩ | ⟨g, cap, cur, rfl, hg, hh, h1, h2, h3, h4⟩
  · omega
  · refine ⟨g, cap, rfl, hg, h1, cur, (0, 0), hh, by omega, Or.inl rfl, fun i hi => ?_⟩
    have e := congrArg (fun l => l[i]?) h4
    simp only [Nat.mul_one, List.getElem?_take, if_pos hi] at e
    rw [bytesL_at hi] at e
    simpa using e
theorem RowX.arr {w : World} {g n : Nat} {f : Nat → Nat} (h : RowX w g 5 n (fun t => .int .u8 (f t : Nat))) : Arr w g 0 n f := fun j hj => by
  rw [Nat.zero_add]; exact ⟨h.cell hj, h.frozen hj⟩
theorem RowX.slB {w : World} {g n : Nat} {f : Nat → Nat} (h : RowX w g 5 n (fun t => .int .u8 (f t : Nat))) (hf : By n f) : SlB w (some ⟨g, 0, none⟩) n f := SlB.of_rowX h fun j hj => ⟨hf j hj, rfl⟩
end Go.Proofs.YthmlcmlpmolmoaaGreatDoor
namespace Go.Proofs.YthmlcmlpmolmoaaGreatDoor
open Go.RowKit
theorem row4 (w : World) (y0 y1 y2 y3 : Nat) (f : Nat → Nat) (h0 : f 0 = y0) (h1 : f 1 = y1) (h2 : f 2 = y2) (h3 : f 3 = y3) :
    RowX (w.alloc (.cells #[.int .u8 (y0 : Nat), .int .u8 (y1 : Nat), .int .u8 (y2 : Nat), .int .u8 (y3 : Nat)] 5)) w.heap.size 5 4 (fun t => .int .u8 (f t : Nat)) := by
  subst h0 h1 h2 h3
  exact RowX.of_rowIs (World.rowIs_alloc w _ _ _ fun i hi => by
    rcases (show i = 0 ∨ i = 1 ∨ i = 2 ∨ i = 3 by have : i < 4 := hi; omega) with rfl | rfl | rfl | rfl <;> rfl)
abbrev wordOf (S : Nat → Nat) (j t : Nat) : Nat := S (4 * j + t)
def RRoundsP (n : Nat) (key : Nat → Nat) (w : World) (e : Ending) (w' : World) : Prop :=
  ∃ v G C, e = .returned v ∧ LR w.heap.size w' v (n + 7) 16 (fun j t => ks n key (16 * j + t)) G C ∧ Below w.heap.size w w'
set_option maxRecDepth 100000 in
set_option maxHeartbeats 4000000 in
theorem rrounds_any (A1 A2 : Option Addr) (n c1 c2 : Nat) (key : Nat → Nat) (w : World) (hn : n = 4 ∨ n = 8) (hc : 4 * n ≤ c1) (h1 : SlB w A1 (4 * n) key) (h2 : SlB w A2 256 box) :
    Calls Tryz.prog 154 #[.slice A1 (4 * n) c1, .slice A2 256 c2] w (RRoundsP n key w) := by
  obtain ⟨B1, o1, rfl, l1, e1⟩ := h1 (by omega)
  obtain ⟨B2, o2, rfl, l2, e2⟩ := h2 (by decide)
  have HS1 := Lib.hid h1
  have HY := Lib.hid (show By (4 * n) key from fun j hj => (e1 j hj).1)
  have L1 := Lib.hid l1
  have E2 := Lib.hid fun x (hx : x < 256) => (e2 x hx).2
  have L2 := Lib.hid l2
  have HN := Lib.hid hn
  have HC1 := Lib.hid hc
  have hn4 : (4 : Int) ≤ (n : Nat) := by omega
  have hn8 : ((n : Nat) : Int) ≤ 8 := by omega
  have hn0 : ¬ ((n : Nat) : Int) = 0 := by omega
  obtain ⟨l, hl⟩ : ∃ l, 4 * n = l := ⟨_, rfl⟩
  have HL := Lib.hid hl
  rw [hl]
  have hdiv : ((l : Nat) : Int) / 4 = (n : Nat) := by omega
  clear h1 h2 e1 e2 l1 l2 hn hc hl
  go_enter Tryz.func154, Tryz.ntmps154
  go_wp2_with fail
  go_loopw [6, 7] (fun v6 v7 wr => ∃ (i cap : Nat) (A : Option Addr) (G C : Nat → Nat), i ≤ 4 * (n + 7) ∧ v7 = .int .i64 (i : Nat) ∧ v6 = .slice A i cap ∧ LR w.heap.size wr (.slice A i cap) i 4 (wordOf (ks n key)) G C ∧ Below w.heap.size w wr) (fun _ v7 _ => 70 - (intOf v7).toNat)
  case atStart => exact ⟨0, 0, none, fun _ => 0, fun _ => 0, Nat.zero_le _, rfl, rfl, LR.nil _ _ _ _ _ _, Below.refl _ _⟩
  case round =>
    obtain ⟨i, cap, A, G, C, hi, rfl, rfl, h1, h2⟩ := hrel
    have H1 := Lib.hid h1
    have H2 := Lib.hid h2
    clear h1 h2
    by_cases hlt : i < 4 * (n + 7)
    · have hlti : (i : Int) < 4 * ((n : Int) + 7) := by omega
      by_cases hin : i < n
      · have hc4 : ¬ c1 = 4 * i := by have := HC1.out; omega
        have hcb : 0 ≤ 4 * (i : Int) + 4 ∧ 4 * (i : Int) + 4 ≤ (c1 : Nat) := by have := HC1.out; omega
        have HSL := Lib.hid (show SlB (wr.alloc (.cells #[] 5)) (some ⟨B1, o1 + 4 * i, none⟩) 4 (fun t => key (4 * i + t)) from fun _ => ⟨B1, o1 + 4 * i, rfl, Nat.lt_of_lt_of_le L1.out (Nat.le_trans H2.out.size (by simp)), fun j hj => ⟨HY.out _ (by omega), by
          rw [World.cell?_alloc_past _ _ _ (Nat.lt_of_lt_of_le L1.out H2.out.size), H2.out.cell (p := ⟨B1, _, none⟩) L1.out]
          obtain ⟨B, o, e, _, hcc⟩ := HS1.out (by omega)
          obtain ⟨rfl, rfl, _⟩ : B1 = B ∧ o1 = o ∧ True := by injection e with e; injection e with e1 e2; exact ⟨e1, e2, trivial⟩
          rw [Nat.add_assoc]
          exact (hcc (4 * i + j) (by omega)).2⟩⟩)
        have HBY := Lib.hid (show ∀ j, j < 4 → key (4 * i + j) < 256 from fun j hj => HY.out _ (by omega))
        have HKS := Lib.hid (show ∀ t, t < 4 → catB 0 (fun _ => 0) (fun t => key (4 * i + t)) t = wordOf (ks n key) i t from fun t ht => by
          unfold catB
          rw [if_neg (Nat.not_lt_zero _), Nat.sub_zero]
          exact (ks_key (by omega)).symm)
        have H44 := Lib.hid (show 4 * i + 4 - 4 * i = 4 by omega)
        have HSL := Lib.hid (show SlB (wr.alloc (.cells #[] 5)) (some ⟨B1, o1 + 4 * i, none⟩) (4 * i + 4 - 4 * i) (fun t => key (4 * i + t)) by rw [H44.out]; exact HSL.out)
        have HBY := Lib.hid (show ∀ j, j < 4 * i + 4 - 4 * i → key (4 * i + j) < 256 by rw [H44.out]; exact HBY.out)
        have T1 : OwnB (wr.alloc (.cells #[] 5)) wr.heap.size (.slice (some ⟨wr.heap.size, 0, none⟩) 0 0) 0 (fun _ => 0) := OwnB.empty wr _ _ (Nat.le_refl _)
        have T2 : wr.heap.size ≤ (wr.alloc (.cells #[] 5)).heap.size := by simp
        have T1 := Lib.hid T1
        have T2 := Lib.hid T2
        go_wp2_with (at_builtin; first | (refine wpList_appO rfl (.tmp 28) (.tmp 35) rfl wr.heap.size _ 0 (fun _ => 0) rfl T1.out (some ⟨B1, o1 + 4 * i, none⟩) (4 * i + 4 - 4 * i) (c1 - 4 * i) (fun t => key (4 * i + t)) rfl HSL.out (fun h => by cases h) (by omega) T2.out (fun j hj => absurd hj (Nat.not_lt_zero _)) HBY.out ?_; intro A2 c2' w2 ho2 _ _ hb2; rw [Nat.zero_add, H44.out] at ho2 ⊢; obtain ⟨T, cT, hv, hT1, hT2, hT3⟩ := OwnB.rowX ho2 (by decide); cases hv; have HT := Lib.hid (hT3.congr (g := fun t => .int .u8 (wordOf (ks n key) i t : Nat)) fun t ht => by rw [HKS.out t ht]); have HB2 := Lib.hid (((Below.refl wr.heap.size wr).alloc (Nat.le_refl _) (.cells #[] 5)).trans hb2); have HZ2 := Lib.hid (show w.heap.size ≤ (w2.alloc (.cells #[.slice (some ⟨T, 0, none⟩) 4 c2'] 22)).heap.size from Nat.le_trans H2.out.size (Nat.le_trans HB2.out.size (by simp))); clear ho2 hb2 hT3) | (go_must (refine wpList_appS rfl (.tmp 27) (.tmp 37) rfl w.heap.size _ i 4 _ G C rfl (H1.out.keep HB2.out |>.alloc' (.cells #[.slice (some ⟨T, 0, none⟩) 4 c2'] 22)) w2.heap.size T c2' rfl (World.cell?_alloc_at _ _ _ _ rfl) (HT.out.alloc _) (by omega) HZ2.out ?_); intro v3 w3 h3 hb3; have H3 := Lib.hid h3; have HB3 := Lib.hid (H2.out.trans ((HB2.out.mono H2.out.size).trans (((Below.refl w2.heap.size w2).alloc (Nat.le_refl _) _).mono (Nat.le_trans H2.out.size HB2.out.size) |>.trans hb3))); clear h3 hb3))
        obtain ⟨A3, cap3, hv3, _, _⟩ := H3.out.slice
        subst hv3
        clear hc4 hcb
        go_roundw
        case rel => exact ⟨i + 1, cap3, A3, _, _, by omega, by go_num, rfl, H3.out, HB3.out⟩
        case measure => simp [intOf]; omega
      · obtain ⟨i1, hi1⟩ : ∃ i1, i = i1 + 1 := ⟨i - 1, by have := HN.out; omega⟩
        obtain ⟨i2, hi2⟩ : ∃ i2, i = i2 + n := ⟨i - n, by omega⟩
        obtain ⟨A6, cap6, hv6, hcap6, hsl6⟩ := H1.out.slice
        obtain ⟨rfl, _, rfl⟩ : A = A6 ∧ True ∧ cap = cap6 := by injection hv6 with e1 e2 e3; exact ⟨e1, trivial, e3⟩
        obtain ⟨g6, rfl, hg6, hcl6⟩ := hsl6 (by omega)
        have HCL := Lib.hid hcl6
        have HG6 := Lib.hid hg6
        have hs1 : (i : Int) - 1 = (i1 : Nat) := by omega
        have hs2 : (i : Int) - (n : Nat) = (i2 : Nat) := by omega
        have hs2w : IntKind.i64.wrap ((i : Int) - (n : Nat)) = (i2 : Nat) := by rw [IntWalk.i64_in _ (by omega)]; omega
        have hi10 : (0 : Int) ≤ (i1 : Nat) := by omega
        have hi1l : ((i1 : Nat) : Int) < (i : Nat) := by omega
        have hi20 : (0 : Int) ≤ (i2 : Nat) := by omega
        have hi2l : ((i2 : Nat) : Int) < (i : Nat) := by have := HN.out; omega
        have HKB := Lib.hid fun x => ks_by (n := n) (key := key) (by have := HN.out; omega) HY.out x
        have hway : ((((i : Int) % (n : Nat) == 0) = false ∧ ((n : Int) == 8) = false ∧ ∀ j, kt n (ks n key) i j = ks n key (4 * i1 + j)) ∨ (((i : Int) % (n : Nat) == 0) = false ∧ ((n : Int) == 8) = true ∧ ((i : Int) % 8 == 4) = false ∧ ∀ j, kt n (ks n key) i j = ks n key (4 * i1 + j))) ∨
            (((i : Int) % (n : Nat) == 0) = false ∧ ((n : Int) == 8) = true ∧ ((i : Int) % 8 == 4) = true ∧ ∀ j, kt n (ks n key) i j = box (ks n key (4 * i1 + j))) ∨
            (((i : Int) % (n : Nat) == 0) = true ∧ ∀ j, kt n (ks n key) i j = box (ks n key (4 * i1 + (j + 1) % 4)) ^^^ (if j = 0 then gpow 2 (i / n - 1) else 0)) := by
          have e1 : i - 1 = i1 := by omega
          by_cases hm : i % n = 0
          · right; right
            refine ⟨by rw [beq_iff_eq]; omega, fun j => ?_⟩
            unfold kt
            rw [if_pos hm, e1]
          · have hm' : ((i : Int) % (n : Nat) == 0) = false := by rw [beq_eq_false_iff_ne]; omega
            by_cases h8 : n = 8
            · have h8' : ((n : Int) == 8) = true := by rw [beq_iff_eq]; omega
              by_cases h4 : i % 8 = 4
              · right; left
                refine ⟨hm', h8', by rw [beq_iff_eq]; omega, fun j => ?_⟩
                unfold kt
                rw [if_neg hm, if_pos ⟨h8, h4⟩, e1]
              · left; right
                refine ⟨hm', h8', by rw [beq_eq_false_iff_ne]; omega, fun j => ?_⟩
                unfold kt
                rw [if_neg hm, if_neg (fun e => h4 e.2), e1]
            · left; left
              refine ⟨hm', by rw [beq_eq_false_iff_ne]; omega, fun j => ?_⟩
              unfold kt
              rw [if_neg hm, if_neg (fun e => h8 e.1), e1]
        have HI1 := Lib.hid hi1
        have HI2 := Lib.hid hi2
        have HIN := Lib.hid hin
        have hcw := HCL.out i1 (by omega)
        have hcw0 : (wr.alloc (.cells #[] 5)).cell? ⟨g6, i1, none⟩ = some (.slice (some ⟨G i1, 0, none⟩) 4 (C i1)) := (World.cell?_alloc_past _ _ _ HG6.out).trans hcw
        have T1 := Lib.hid (show OwnB (wr.alloc (.cells #[] 5)) wr.heap.size (.slice (some ⟨wr.heap.size, 0, none⟩) 0 0) 0 (fun _ => 0) from OwnB.empty wr _ _ (Nat.le_refl _))
        have T2 := Lib.hid (show wr.heap.size ≤ (wr.alloc (.cells #[] 5)).heap.size by simp)
        have HSL := Lib.hid (((H1.out.rows i1 (by omega)).alloc (.cells #[] 5)).slB fun j _ => HKB.out _)
        clear hi1 hi2 hin hcl6 hg6 hsl6 hv6 hcw
        rcases hway with (⟨ht1, ht2, ht3⟩ | ⟨ht1, ht2, ht4, ht3⟩) | ⟨ht1, ht2, ht4, ht3⟩ | ⟨ht1, ht3⟩
        all_goals
          have HKT := Lib.hid ht3
          clear ht3
        focus
          go_wp2_with (at_builtin; refine wpList_appO rfl (.tmp 39) (.tmp 44) rfl wr.heap.size _ 0 (fun _ => 0) rfl T1.out (some ⟨G i1, 0, none⟩) 4 (C i1) (fun t => ks n key (4 * i1 + t)) rfl HSL.out (fun h => by cases h) (by omega) T2.out (fun j hj => absurd hj (Nat.not_lt_zero _)) (fun j _ => HKB.out _) ?_; intro A2 c2' w2 ho2 _ _ hb2; rw [Nat.zero_add] at ho2 ⊢; obtain ⟨T, cT, hv, hT1, hT2, hT3⟩ := OwnB.rowX ho2 (by decide); cases hv; have HT := Lib.hid (hT3.congr (g := fun t => .int .u8 (ks n key (4 * i1 + t) : Nat)) fun t ht => by unfold catB; rw [if_neg (Nat.not_lt_zero _), Nat.sub_zero]); have HTN := Lib.hid hT1; have HB2 := Lib.hid (((Below.refl wr.heap.size wr).alloc (Nat.le_refl _) (.cells #[] 5)).trans hb2); clear ho2 hb2 hT3 hT1 hT2; have HBW := Lib.hid (H2.out.trans (HB2.out.mono H2.out.size)))
          have HTW := Lib.hid (HT.out.congr (g := fun t => .int .u8 (kt n (ks n key) i t : Nat)) fun t _ => by rw [HKT.out t])
          have HRW := Lib.hid (H1.out.keep HB2.out)
          have HSW := Lib.hid (show T < w2.heap.size ∧ wr.heap.size ≤ T from ⟨HT.out.lt, HTN.out⟩)
          have HBW0 := HB2
          clear HT HB2 HTN HKT ht1 ht2 HBW
          generalize w2 = W at *
          generalize T = TB at *
        rotate_left
        focus
          go_wp2_with (at_builtin; refine wpList_appO rfl (.tmp 39) (.tmp 44) rfl wr.heap.size _ 0 (fun _ => 0) rfl T1.out (some ⟨G i1, 0, none⟩) 4 (C i1) (fun t => ks n key (4 * i1 + t)) rfl HSL.out (fun h => by cases h) (by omega) T2.out (fun j hj => absurd hj (Nat.not_lt_zero _)) (fun j _ => HKB.out _) ?_; intro A2 c2' w2 ho2 _ _ hb2; rw [Nat.zero_add] at ho2 ⊢; obtain ⟨T, cT, hv, hT1, hT2, hT3⟩ := OwnB.rowX ho2 (by decide); cases hv; have HT := Lib.hid (hT3.congr (g := fun t => .int .u8 (ks n key (4 * i1 + t) : Nat)) fun t ht => by unfold catB; rw [if_neg (Nat.not_lt_zero _), Nat.sub_zero]); have HTN := Lib.hid hT1; have HB2 := Lib.hid (((Below.refl wr.heap.size wr).alloc (Nat.le_refl _) (.cells #[] 5)).trans hb2); clear ho2 hb2 hT3 hT1 hT2; have HBW := Lib.hid (H2.out.trans (HB2.out.mono H2.out.size)))
          have HTW := Lib.hid (HT.out.congr (g := fun t => .int .u8 (kt n (ks n key) i t : Nat)) fun t _ => by rw [HKT.out t])
          have HRW := Lib.hid (H1.out.keep HB2.out)
          have HSW := Lib.hid (show T < w2.heap.size ∧ wr.heap.size ≤ T from ⟨HT.out.lt, HTN.out⟩)
          have HBW0 := HB2
          clear HT HB2 HTN HKT ht1 ht2 ht4 HBW
          generalize w2 = W at *
          generalize T = TB at *
        rotate_left
        focus
          have hx0 := HKB.out (4 * i1 + 0)
          have hx1 := HKB.out (4 * i1 + 1)
          have hx2 := HKB.out (4 * i1 + 2)
          have hx3 := HKB.out (4 * i1 + 3)
          have hxi0 : ((ks n key (4 * i1 + 0) : Nat) : Int) < 256 := by omega
          have hxi1 : ((ks n key (4 * i1 + 1) : Nat) : Int) < 256 := by omega
          have hxi2 : ((ks n key (4 * i1 + 2) : Nat) : Int) < 256 := by omega
          have hxi3 : ((ks n key (4 * i1 + 3) : Nat) : Int) < 256 := by omega
          go_wp2_with (at_builtin; refine wpList_appO rfl (.tmp 39) (.tmp 44) rfl wr.heap.size _ 0 (fun _ => 0) rfl T1.out (some ⟨G i1, 0, none⟩) 4 (C i1) (fun t => ks n key (4 * i1 + t)) rfl HSL.out (fun h => by cases h) (by omega) T2.out (fun j hj => absurd hj (Nat.not_lt_zero _)) (fun j _ => HKB.out _) ?_; intro A2 c2' w2 ho2 _ _ hb2; rw [Nat.zero_add] at ho2 ⊢; obtain ⟨T, cT, hv, hT1, hT2, hT3⟩ := OwnB.rowX ho2 (by decide); cases hv; have HT := Lib.hid (hT3.congr (g := fun t => .int .u8 (ks n key (4 * i1 + t) : Nat)) fun t ht => by unfold catB; rw [if_neg (Nat.not_lt_zero _), Nat.sub_zero]); have HTN := Lib.hid hT1; have HB2 := Lib.hid (((Below.refl wr.heap.size wr).alloc (Nat.le_refl _) (.cells #[] 5)).trans hb2); clear ho2 hb2 hT3 hT1 hT2; have HBW := Lib.hid (H2.out.trans (HB2.out.mono H2.out.size)); have hd0 := HT.out.cell (i := 0) (by decide); have hd1 := HT.out.cell (i := 1) (by decide); have hd2 := HT.out.cell (i := 2) (by decide); have hd3 := HT.out.cell (i := 3) (by decide); have hb0 := (HBW.out.cell (p := ⟨B2, o2 + ks n key (4 * i1 + 0), none⟩) L2.out).trans (E2.out _ (HKB.out (4 * i1 + 0))); have hb1 := (HBW.out.cell (p := ⟨B2, o2 + ks n key (4 * i1 + 1), none⟩) L2.out).trans (E2.out _ (HKB.out (4 * i1 + 1))); have hb2 := (HBW.out.cell (p := ⟨B2, o2 + ks n key (4 * i1 + 2), none⟩) L2.out).trans (E2.out _ (HKB.out (4 * i1 + 2))); have hb3 := (HBW.out.cell (p := ⟨B2, o2 + ks n key (4 * i1 + 3), none⟩) L2.out).trans (E2.out _ (HKB.out (4 * i1 + 3))))
          have HE0 := Lib.hid (show kt n (ks n key) i 0 = box (ks n key (4 * i1 + 0)) ∧ kt n (ks n key) i 1 = box (ks n key (4 * i1 + 1)) ∧ kt n (ks n key) i 2 = box (ks n key (4 * i1 + 2)) ∧ kt n (ks n key) i 3 = box (ks n key (4 * i1 + 3)) from ⟨HKT.out 0, HKT.out 1, HKT.out 2, HKT.out 3⟩)
          generalize box (ks n key (4 * i1 + 0)) = y0 at *
          generalize box (ks n key (4 * i1 + 1)) = y1 at *
          generalize box (ks n key (4 * i1 + 2)) = y2 at *
          generalize box (ks n key (4 * i1 + 3)) = y3 at *
          generalize ks n key (4 * i1 + 0) = x0 at *
          generalize ks n key (4 * i1 + 1) = x1 at *
          generalize ks n key (4 * i1 + 2) = x2 at *
          generalize ks n key (4 * i1 + 3) = x3 at *
          have HR0 := Lib.hid (show LR w.heap.size w2.drew _ i 4 _ G C from (H1.out.keep HB2.out).keep (Below.refl _ _).drew)
          have HB0 := Lib.hid (show Below wr.heap.size wr w2.drew from HB2.out.drew)
          refine wp_region_still_tail 24 (by kernel_rfl) (by kernel_rfl) ?_
          change wpStill _ _ w2.drew (fun a' => wpList _ _ _ _ a' w2.drew) _ _
          replace hd0 : w2.drew.cell? _ = _ := hd0
          replace hd1 : w2.drew.cell? _ = _ := hd1
          replace hd2 : w2.drew.cell? _ = _ := hd2
          replace hd3 : w2.drew.cell? _ = _ := hd3
          replace hb0 : w2.drew.cell? _ = _ := hb0
          replace hb1 : w2.drew.cell? _ = _ := hb1
          replace hb2 : w2.drew.cell? _ = _ := hb2
          replace hb3 : w2.drew.cell? _ = _ := hb3
          generalize w2.drew = Wd at *
          simp only [List.take_succ_cons, List.take_zero, List.drop_succ_cons, List.drop_zero]
          repeat still_step
          refine wpStill_nil ?_
          go_wp2_with fail
          have HTW := Lib.hid (row4 Wd y0 y1 y2 y3 (kt n (ks n key) i) HE0.out.1 HE0.out.2.1 HE0.out.2.2.1 HE0.out.2.2.2)
          have HRW := Lib.hid (HR0.out.alloc' (.cells #[.int .u8 (y0 : Nat), .int .u8 (y1 : Nat), .int .u8 (y2 : Nat), .int .u8 (y3 : Nat)] 5))
          have HBW0 := Lib.hid (HB0.out.alloc HB0.out.size (.cells #[.int .u8 (y0 : Nat), .int .u8 (y1 : Nat), .int .u8 (y2 : Nat), .int .u8 (y3 : Nat)] 5))
          have HSW := Lib.hid (show Wd.heap.size < (Wd.alloc (.cells #[.int .u8 (y0 : Nat), .int .u8 (y1 : Nat), .int .u8 (y2 : Nat), .int .u8 (y3 : Nat)] 5)).heap.size ∧ wr.heap.size ≤ Wd.heap.size from ⟨by simp, HB0.out.size⟩)
          generalize Wd.alloc (.cells #[.int .u8 (y0 : Nat), .int .u8 (y1 : Nat), .int .u8 (y2 : Nat), .int .u8 (y3 : Nat)] 5) = W at *
          generalize Wd.heap.size = TB at *
          clear HT HB2 HTN HKT HBW hd0 hd1 hd2 hd3 hb0 hb1 hb2 hb3 HE0 hx0 hx1 hx2 hx3 hxi0 hxi1 hxi2 hxi3 ht1 ht2 ht4 HR0 HB0
        rotate_left
        focus
          have hx0 := HKB.out (4 * i1 + 0)
          have hx1 := HKB.out (4 * i1 + 1)
          have hx2 := HKB.out (4 * i1 + 2)
          have hx3 := HKB.out (4 * i1 + 3)
          have hxi0 : ((ks n key (4 * i1 + 0) : Nat) : Int) < 256 := by omega
          have hxi1 : ((ks n key (4 * i1 + 1) : Nat) : Int) < 256 := by omega
          have hxi2 : ((ks n key (4 * i1 + 2) : Nat) : Int) < 256 := by omega
          have hxi3 : ((ks n key (4 * i1 + 3) : Nat) : Int) < 256 := by omega
          go_wp2_with (at_builtin; refine wpList_appO rfl (.tmp 39) (.tmp 44) rfl wr.heap.size _ 0 (fun _ => 0) rfl T1.out (some ⟨G i1, 0, none⟩) 4 (C i1) (fun t => ks n key (4 * i1 + t)) rfl HSL.out (fun h => by cases h) (by omega) T2.out (fun j hj => absurd hj (Nat.not_lt_zero _)) (fun j _ => HKB.out _) ?_; intro A2 c2' w2 ho2 _ _ hb2; rw [Nat.zero_add] at ho2 ⊢; obtain ⟨T, cT, hv, hT1, hT2, hT3⟩ := OwnB.rowX ho2 (by decide); cases hv; have HT := Lib.hid (hT3.congr (g := fun t => .int .u8 (ks n key (4 * i1 + t) : Nat)) fun t ht => by unfold catB; rw [if_neg (Nat.not_lt_zero _), Nat.sub_zero]); have HTN := Lib.hid hT1; have HB2 := Lib.hid (((Below.refl wr.heap.size wr).alloc (Nat.le_refl _) (.cells #[] 5)).trans hb2); clear ho2 hb2 hT3 hT1 hT2; have HBW := Lib.hid (H2.out.trans (HB2.out.mono H2.out.size)); have hd0 := HT.out.cell (i := 0) (by decide); have hd1 := HT.out.cell (i := 1) (by decide); have hd2 := HT.out.cell (i := 2) (by decide); have hd3 := HT.out.cell (i := 3) (by decide); have hb0 := (HBW.out.cell (p := ⟨B2, o2 + ks n key (4 * i1 + 0), none⟩) L2.out).trans (E2.out _ (HKB.out (4 * i1 + 0))); have hb1 := (HBW.out.cell (p := ⟨B2, o2 + ks n key (4 * i1 + 1), none⟩) L2.out).trans (E2.out _ (HKB.out (4 * i1 + 1))); have hb2 := (HBW.out.cell (p := ⟨B2, o2 + ks n key (4 * i1 + 2), none⟩) L2.out).trans (E2.out _ (HKB.out (4 * i1 + 2))); have hb3 := (HBW.out.cell (p := ⟨B2, o2 + ks n key (4 * i1 + 3), none⟩) L2.out).trans (E2.out _ (HKB.out (4 * i1 + 3))))
          have HE0 := Lib.hid (show kt n (ks n key) i 0 = box (ks n key (4 * i1 + 1)) ^^^ gpow 2 (i / n - 1) ∧ kt n (ks n key) i 1 = box (ks n key (4 * i1 + 2)) ∧ kt n (ks n key) i 2 = box (ks n key (4 * i1 + 3)) ∧ kt n (ks n key) i 3 = box (ks n key (4 * i1 + 0)) from
            ⟨by rw [HKT.out 0, if_pos rfl], by rw [HKT.out 1, if_neg (by decide), Nat.xor_zero], by rw [HKT.out 2, if_neg (by decide), Nat.xor_zero], by rw [HKT.out 3, if_neg (by decide), Nat.xor_zero]⟩)
          obtain ⟨q, hq⟩ : ∃ q, i / n - 1 = q := ⟨_, rfl⟩
          rw [hq] at HE0
          have hdv : ((i / n : Nat) : Int) = (i : Int) / (n : Nat) := by simp
          have hq1 : 1 ≤ i / n := by
            have := HIN.out
            rcases HN.out with h | h <;> subst h <;> omega
          have hq2 : i / n ≤ 60 := Nat.le_trans (Nat.div_le_self _ _) (by have := HN.out; omega)
          have HE := Lib.hid (show IntKind.i64.wrap (IntKind.i64.wrap ((i : Int) / (n : Nat)) - 1) = (q : Nat) by
            rw [← hdv, show IntKind.i64.wrap ((i / n : Nat) : Int) = ((q + 1 : Nat) : Int) by rw [IntWalk.i64_in _ (by omega)]; omega, IntWalk.i64_in _ (by omega)]; omega)
          have hnn : ¬ n = 0 := by have := HN.out; omega
          have hpl : gpow 2 q < 256 := gpow_lt (by decide) q
          have HPW := Lib.hid fun (t : Int) (ht : t = (q : Nat)) w => (show Calls Tryz.prog 190 #[.int .u8 2, .int .i64 t] w fun e w' => e = .returned (.int .u8 (gpow 2 q : Nat)) ∧ w = w' by subst ht; exact rpow_any 2 (q : Nat) w (by decide) (by omega))
          have hy1 := box_lt hx1
          generalize box (ks n key (4 * i1 + 0)) = y0 at *
          generalize box (ks n key (4 * i1 + 1)) = y1 at *
          generalize box (ks n key (4 * i1 + 2)) = y2 at *
          generalize box (ks n key (4 * i1 + 3)) = y3 at *
          generalize ks n key (4 * i1 + 0) = x0 at *
          generalize ks n key (4 * i1 + 1) = x1 at *
          generalize ks n key (4 * i1 + 2) = x2 at *
          generalize ks n key (4 * i1 + 3) = x3 at *
          generalize hgp : gpow 2 q = z at *
          have hyz := x8 hy1 hpl
          clear hdv hq1 hq2 hq hgp
          have HR0 := Lib.hid (show LR w.heap.size w2.drew _ i 4 _ G C from (H1.out.keep HB2.out).keep (Below.refl _ _).drew)
          have HB0 := Lib.hid (show Below wr.heap.size wr w2.drew from HB2.out.drew)
          refine wp_region_still_tail 30 (by kernel_rfl) (by kernel_rfl) ?_
          change wpStill _ _ w2.drew (fun a' => wpList _ _ _ _ a' w2.drew) _ _
          replace hd0 : w2.drew.cell? _ = _ := hd0
          replace hd1 : w2.drew.cell? _ = _ := hd1
          replace hd2 : w2.drew.cell? _ = _ := hd2
          replace hd3 : w2.drew.cell? _ = _ := hd3
          replace hb0 : w2.drew.cell? _ = _ := hb0
          replace hb1 : w2.drew.cell? _ = _ := hb1
          replace hb2 : w2.drew.cell? _ = _ := hb2
          replace hb3 : w2.drew.cell? _ = _ := hb3
          generalize w2.drew = Wd at *
          simp only [List.take_succ_cons, List.take_zero, List.drop_succ_cons, List.drop_zero]
          repeat still_step
          still_call (same_flip (HPW.out _ HE.out _))
          repeat still_step
          refine wpStill_nil ?_
          go_wp2_with fail
          have HTW := Lib.hid (row4 Wd (y1 ^^^ z) y2 y3 y0 (kt n (ks n key) i) HE0.out.1 HE0.out.2.1 HE0.out.2.2.1 HE0.out.2.2.2)
          have HRW := Lib.hid (HR0.out.alloc' (.cells #[.int .u8 ((y1 ^^^ z : Nat) : Int), .int .u8 (y2 : Nat), .int .u8 (y3 : Nat), .int .u8 (y0 : Nat)] 5))
          have HBW0 := Lib.hid (HB0.out.alloc HB0.out.size (.cells #[.int .u8 ((y1 ^^^ z : Nat) : Int), .int .u8 (y2 : Nat), .int .u8 (y3 : Nat), .int .u8 (y0 : Nat)] 5))
          have HSW := Lib.hid (show Wd.heap.size < (Wd.alloc (.cells #[.int .u8 ((y1 ^^^ z : Nat) : Int), .int .u8 (y2 : Nat), .int .u8 (y3 : Nat), .int .u8 (y0 : Nat)] 5)).heap.size ∧ wr.heap.size ≤ Wd.heap.size from ⟨by simp, HB0.out.size⟩)
          generalize Wd.alloc (.cells #[.int .u8 ((y1 ^^^ z : Nat) : Int), .int .u8 (y2 : Nat), .int .u8 (y3 : Nat), .int .u8 (y0 : Nat)] 5) = W at *
          generalize Wd.heap.size = TB at *
          clear HT HB2 HTN HKT HBW hd0 hd1 hd2 hd3 hb0 hb1 hb2 hb3 HE0 hx0 hx1 hx2 hx3 hxi0 hxi1 hxi2 hxi3 ht1 HPW HE hpl hyz hy1 HR0 HB0
        all_goals
          have HRT := Lib.hid fun j (hj : j < i) => (show G j ≠ TB from Nat.ne_of_lt (Nat.lt_of_lt_of_le (H1.out.rows j hj).lt HSW.out.2))
          have HCT := Lib.hid (show ∀ c fr, W.heap[TB]? ≠ some (.cells c 22 fr) from fun c fr e => by
            obtain ⟨c', fr', h', _⟩ := HTW.out
            rw [e] at h'
            injection h' with h'
            injection h' with _ ht _
            exact absurd ht (by decide))
          clear T1 T2 HSL hcw0 hs1 hi10 hi1l
          go_loopw [9] (fun v wx => ∃ k : Nat, k ≤ 4 ∧ v = .int .i64 k ∧ RowX wx TB 5 4 (fun j => .int .u8 ((if j < k then ks n key (4 * i + j) else kt n (ks n key) i j : Nat) : Int)) ∧ Chg TB W wx) (fun v _ => 4 - (intOf v).toNat)
          case atStart => exact ⟨0, by decide, rfl, HTW.out.congr fun j _ => by rw [if_neg (Nat.not_lt_zero _)], Chg.refl _ _⟩
          case round =>
            obtain ⟨k, hk, rfl, h1, h2⟩ := hrel
            have HRX := Lib.hid (HRW.out.chg h2 HRT.out HCT.out)
            have H5 := Lib.hid h1
            have H6 := Lib.hid h2
            clear h1 h2
            by_cases hlk : k < 4
            · have hc1 := H5.out.cell hlk
              have hf1 := H5.out.frozen hlk
              rw [if_neg (Nat.lt_irrefl k)] at hc1
              obtain ⟨A7, cap7, hv7, _, hsl7⟩ := HRX.out.slice
              obtain ⟨g7, hA7, _, hcl7⟩ := hsl7 (by have := HIN.out; have := HN.out; omega)
              obtain rfl : g6 = g7 := by
                rw [hA7] at hv7
                injection hv7 with e1 _ _
                injection e1 with e1
                injection e1
              have hc2 := hcl7 i2 (by have := HI2.out; have := HN.out; omega)
              have hc3 : wr.cell? ⟨G i2, k, none⟩ = some (.int .u8 (ks n key (4 * i2 + k) : Nat)) := (HRX.out.rows i2 (by have := HI2.out; have := HN.out; omega)).cell hlk
              have hxl := kt_by (n := n) (i := i) (j := k) (S := ks n key) (by have := HN.out; omega) (by have := HIN.out; omega) hlk (fun x _ => HKB.out x)
              have hyl := HKB.out (4 * i2 + k)
              have HX := Lib.hid (show kt n (ks n key) i k ^^^ ks n key (4 * i2 + k) = ks n key (4 * i + k) by
                rw [ks_next (by have := HN.out; omega) (by have := HIN.out; omega) hlt hlk]
                unfold nxt
                rw [show i - n = i2 by have := HI2.out; omega, Nat.xor_comm])
              have HM := Lib.hid (((H5.out.set k (.int .u8 ((kt n (ks n key) i k ^^^ ks n key (4 * i2 + k) : Nat) : Int))).congr (g := fun j => .int .u8 ((if j < k + 1 then ks n key (4 * i + j) else kt n (ks n key) i j : Nat) : Int)) fun j _ => by
                by_cases e : j = k
                · subst e; rw [if_pos rfl, if_pos (Nat.lt_succ_self _), HX.out]
                · rw [if_neg e]
                  by_cases h : j < k
                  · rw [if_pos h, if_pos (by omega)]
                  · rw [if_neg h, if_neg (by omega)]).drew)
              have HC := Lib.hid ((H6.out.setCell (a := ⟨TB, k, none⟩) (Or.inl rfl) (.int .u8 ((kt n (ks n key) i k ^^^ ks n key (4 * i2 + k) : Nat) : Int))).drew)
              clear hsl7 hcl7 hv7
              generalize kt n (ks n key) i k = x at *
              generalize ks n key (4 * i2 + k) = y at *
              have hxy := x8 hxl hyl
              go_wp2_with fail
              go_region
              all_goals
                generalize (wr.setCell ⟨TB, k, none⟩ (.int .u8 ((x ^^^ y : Nat) : Int))).drew = W5 at *
                clear hc1 hc2 hc3 hf1 HRX
                go_wp2_with fail
                go_roundw
                case rel => exact ⟨k + 1, by omega, by go_num, HM.out, HC.out⟩
                case measure => simp [intOf]; omega
            · obtain rfl : k = 4 := by omega
              have HTW5 := Lib.hid (H5.out.congr (g := fun t => .int .u8 (wordOf (ks n key) i t : Nat)) fun j hj => by rw [if_pos hj])
              have HB5 := Lib.hid (show Below w.heap.size w wr from H2.out.trans ((HBW0.out.mono H2.out.size).trans (H6.out.below (Nat.le_trans H2.out.size (Nat.le_trans HSW.out.2 (Nat.le_of_lt HSW.out.1))) (Nat.le_trans H2.out.size HSW.out.2))))
              have HZ5 := Lib.hid fun o => (show w.heap.size ≤ (wr.alloc o).heap.size from Nat.le_trans HB5.out.size (by simp))
              clear H5 hs2 hs2w hi20 hi2l
              go_wp2_with (at_builtin; go_must (refine wpList_appS rfl (.tmp 134) (.tmp 136) rfl w.heap.size _ i 4 _ G C rfl (HRX.out.alloc' _) wr.heap.size TB _ rfl (World.cell?_alloc_at _ _ _ _ rfl) (HTW5.out.alloc _) (by omega) (HZ5.out _) ?_); intro v3 w3 h3 hb3; have H3 := Lib.hid h3; have HB3 := Lib.hid ((HB5.out.alloc HB5.out.size _).trans hb3); clear h3 hb3)
              obtain ⟨A3, cap3, hv3, _, _⟩ := H3.out.slice
              subst hv3
              go_roundw
              case rel => exact ⟨i + 1, cap3, A3, _, _, by omega, by go_num, rfl, H3.out, HB3.out⟩
              case measure => simp [intOf]; omega
    · obtain ⟨A6, cap6, hv6, hcap6, hsl6⟩ := H1.out.slice
      obtain ⟨rfl, _, rfl⟩ : A = A6 ∧ True ∧ cap = cap6 := by injection hv6 with e1 e2 e3; exact ⟨e1, trivial, e3⟩
      obtain ⟨g6, rfl, hg6, hcl6⟩ := hsl6 (by have := HN.out; omega)
      have HIE := Lib.hid (show i = 4 * (n + 7) by omega)
      have HKB := Lib.hid fun x => ks_by (n := n) (key := key) (by have := HN.out; omega) HY.out x
      have hli : ¬ (i : Int) < 4 * ((n : Int) + 7) := by omega
      have HCL := Lib.hid fun W (h : Below wr.heap.size wr W) j (hj : j < i) => (h.cell (p := ⟨g6, j, none⟩) hg6).trans (hcl6 j hj)
      have HRS := Lib.hid fun W (h : Below wr.heap.size wr W) j (hj : j < i) => ((H1.out.rows j hj).below h (H1.out.rows j hj).lt).slB fun t _ => HKB.out (4 * j + t)
      have hi60 : i ≤ 60 := by have := HN.out; omega
      generalize hWr : wr = Wr at *
      clear hv6 hsl6 hcl6 hg6 hWr
      go_wp2_with fail
      go_loopw [10, 11] (fun v10 v11 wx => ∃ (m cap10 : Nat) (A10 : Option Addr) (G10 C10 : Nat → Nat), 4 * m ≤ i ∧ v11 = .int .i64 ((4 * m : Nat) : Int) ∧ v10 = .slice A10 m cap10 ∧ LR Wr.heap.size wx (.slice A10 m cap10) m 16 (fun j t => ks n key (16 * j + t)) G10 C10 ∧ Below Wr.heap.size Wr wx) (fun _ v11 _ => 70 - (intOf v11).toNat)
      case atStart => exact ⟨0, 0, none, fun _ => 0, fun _ => 0, Nat.zero_le _, rfl, rfl, LR.nil _ _ _ _ _ _, Below.refl _ _⟩
      case round =>
        obtain ⟨m, cap10, A10, G10, C10, hm, rfl, rfl, h1, h2⟩ := hrel
        have H3 := Lib.hid h1
        have H4 := Lib.hid h2
        clear h1 h2
        obtain ⟨p, hp⟩ : ∃ p, 4 * m = p := ⟨_, rfl⟩
        rw [hp]
        have HP := Lib.hid hp
        by_cases hlm : p < i
        · have hp4 : p + 4 ≤ i := by have := HIE.out; omega
          have hlm2 : (p : Int) < (i : Nat) := by omega
          generalize hW2 : wr = W2 at *
          clear hW2
          go_wp2_with fail
          go_loopw [12, 13] (fun v12 v13 wy => ∃ (k c12 : Nat) (A12 : Option Addr), k ≤ 4 ∧ v13 = .int .i64 (k : Nat) ∧ v12 = .slice A12 (4 * k) c12 ∧ OwnB wy W2.heap.size (.slice A12 (4 * k) c12) (4 * k) (fun t => ks n key (4 * p + t)) ∧ Below W2.heap.size W2 wy) (fun _ v13 _ => 4 - (intOf v13).toNat)
          case atStart => exact ⟨0, 0, none, by decide, rfl, rfl, OwnB.nil _ _ _, Below.refl _ _⟩
          case round =>
            obtain ⟨k, c12, A12, hk, rfl, rfl, h1, h2⟩ := hrel
            have H5 := Lib.hid h1
            have H6 := Lib.hid h2
            clear h1 h2
            by_cases hlk : k < 4
            · obtain ⟨j, hj⟩ : ∃ j, p + k = j := ⟨_, rfl⟩
              have hji : j < i := by omega
              have hjI : ((j : Nat) : Int) < (i : Nat) := by omega
              have hj0 : (0 : Int) ≤ (j : Nat) := by omega
              have hjs : (p : Int) + (k : Nat) = (j : Nat) := by omega
              have HBB := Lib.hid (show Below Wr.heap.size Wr wr from H4.out.trans (H6.out.mono H4.out.size))
              have hc1 := HCL.out wr HBB.out j hji
              have HS := Lib.hid (HRS.out wr HBB.out j hji)
              have HJ := Lib.hid hj
              clear hj
              go_wp2_with (at_builtin; go_must (refine wpList_appO rfl (.tmp 148) (.tmp 154) rfl W2.heap.size _ (4 * k) (fun t => ks n key (4 * p + t)) rfl H5.out (some ⟨G j, 0, none⟩) 4 (C j) (wordOf (ks n key) j) rfl HS.out (fun h => by cases h) (by omega) H6.out.size (fun t _ => HKB.out _) (fun t _ => HKB.out _) ?_); intro A2 c2' w2 ho2 _ hc2 hb2; have HO2 := Lib.hid (ho2.congr (g := fun t => ks n key (4 * p + t)) fun t ht => by
                unfold catB
                by_cases h : t < 4 * k
                · rw [if_pos h]
                · rw [if_neg h]; show ks n key (4 * j + (t - 4 * k)) = _; congr 1; have := HJ.out; omega); have HB2 := Lib.hid (H6.out.trans hb2); clear ho2 hb2 hc2)
              go_roundw
              case rel => exact ⟨k + 1, c2', A2, by omega, by go_num, rfl, HO2.out, HB2.out⟩
              case measure => simp [intOf]; omega
            · obtain rfl : k = 4 := by omega
              obtain ⟨T, cT, hv, hT1, hT2, hT3⟩ := OwnB.rowX H5.out (by decide)
              cases hv
              have HTW := Lib.hid (show RowX wr T 5 16 (fun t => .int .u8 (ks n key (16 * m + t) : Nat)) from RowX.congr hT3 fun t _ => by have := HP.out; rw [show 4 * p + t = 16 * m + t by omega])
              have HRW := Lib.hid (H3.out.keep H6.out)
              have HZ := Lib.hid fun o => (show Wr.heap.size ≤ (wr.alloc o).heap.size from Nat.le_trans H4.out.size (Nat.le_trans H6.out.size (by simp)))
              have HBW := Lib.hid (H4.out.trans (H6.out.mono H4.out.size))
              have hm20 : m ≤ 1000 := by have := HP.out; omega
              have HTN := Lib.hid hT1
              clear hT1 hT2 hT3
              go_wp2_with (at_builtin; go_must (refine wpList_appS rfl (.tmp 156) (.tmp 158) rfl Wr.heap.size _ m 16 (fun j t => ks n key (16 * j + t)) G10 C10 rfl (HRW.out.alloc' _) wr.heap.size T _ rfl (World.cell?_alloc_at _ _ _ _ rfl) (HTW.out.alloc _) hm20 (HZ.out _) ?_); intro v3 w3 h3 hb3; have H7 := Lib.hid h3; have H8 := Lib.hid ((HBW.out.alloc HBW.out.size _).trans hb3); clear h3 hb3)
              obtain ⟨A3, cap3, hv3, _, _⟩ := H7.out.slice
              subst hv3
              go_roundw
              case rel => exact ⟨m + 1, cap3, A3, _, _, by have := HP.out; omega, by have := HP.out; go_num, rfl, H7.out, H8.out⟩
              case measure => have := HP.out; simp [intOf]; omega
        · have hm7 : m = n + 7 := by have := HP.out; have := HIE.out; omega
          have HM7 := Lib.hid hm7
          have hlm2 : ¬ (p : Int) < (i : Nat) := by omega
          clear hm7
          go_wp2_with fail
          go_ret
          exact ⟨_, G10, C10, rfl, by rw [← HM7.out]; exact H3.out.base_le H2.out.size, H2.out.trans (H4.out.mono H2.out.size)⟩
end Go.Proofs.YthmlcmlpmolmoaaGreatDoor
