/- 12 texts in one, in their order. -/
import Derived.Test.YtgcdnhjjoidpmaaGreatDoorPk0
import Derived.Laws.BitsAllLaws
import Derived.Laws.BitsLemmas
import Derived.Test.YtgcdnhjjoidpmaaGreatDoorRows
import Derived.WalkKit
import Derived.ProofKit
import Derived.Lib.Hide
import Derived.WalkMore
import Derived.Conc.MuLone
import Derived.Laws.NewBlocks
import Derived.Deep.WholeRow
import Derived.RegionCalls
/- More of bytes: rows that grow, what is new. -/
namespace Go.Proofs.YtgcdnhjjoidpmaaGreatDoor
open Go.RowKit
theorem SlB.congr {w : World} {A : Option Addr} {n : Nat} {f f' : Nat → Nat} (h : SlB w A n f) (e : ∀ j, j < n → f j = f' j) : SlB w A n f' := fun hn => by
  obtain ⟨B, o, hA, hB, hc⟩ := h hn
  exact ⟨B, o, hA, hB, fun j hj => by rw [← e j hj]; exact hc j hj⟩
theorem SlB.none0 (w : World) (f : Nat → Nat) : SlB w none 0 f := fun h => absurd h (Nat.lt_irrefl 0)
theorem OwnB.less {w : World} {b base n : Nat} {v : Value} {f : Nat → Nat} (h : OwnB w base v n f) (hb : b ≤ base) : OwnB w b v n f := by
  rcases h with ⟨h1, h2 | ⟨g, cap, cur, e, hg, r⟩⟩
  · exact ⟨h1, Or.inl h2⟩
  · exact ⟨h1, Or.inr ⟨g, cap, cur, e, Nat.le_trans hb hg, r⟩⟩
theorem of_drew {w w' : World} (h : Below w.drew.heap.size w.drew w') : Below w.heap.size w w' := ⟨h.os, h.tape, h.output, h.size, h.block⟩
theorem one_sl (w : World) (x : Nat) (hx : x < 256) : SlB (w.alloc (.cells #[.int .u8 (x : Nat)] 5)) (some ⟨w.heap.size, 0, none⟩) 1 (fun _ => x) := one_slB w 5 x hx
theorem alloc_below (W : World) (o : Obj) : Below W.heap.size W (W.alloc o) := (Below.refl _ _).alloc (Nat.le_refl _) o
theorem xor_lt8 {a b : Nat} (ha : a < 256) (hb : b < 256) : a ^^^ b < 256 := Nat.xor_lt_two_pow (n := 8) ha hb
theorem strOf_cat (n m : Nat) (f g h : Nat → Nat) (hf : ∀ i, i < n → f i = h i) (hg : ∀ i, i < m → g i = h (n + i)) : strOf n f ++ strOf m g = strOf (n + m) h := by
  rw [strOf_congr n f h hf, strOf_congr m g (fun i => h (n + i)) hg]
  unfold strOf
  apply ByteArray.ext
  simp only [ByteArray.data_append]
  apply Array.ext'
  simp [List.range_add]
end Go.Proofs.YtgcdnhjjoidpmaaGreatDoor
/- A number in eight bytes. -/
namespace Go.Proofs.YtgcdnhjjoidpmaaGreatDoor
open Go.RowKit
/-- a number in eight bytes -/
def len8 (n j : Nat) : Nat := n / 2 ^ (8 * (7 - j)) % 256
theorem len8_lt (n j : Nat) : len8 n j < 256 := Nat.mod_lt _ (by decide)
end Go.Proofs.YtgcdnhjjoidpmaaGreatDoor
/- More of rows of bytes in the middle of a block. -/
namespace Go.Proofs.YtgcdnhjjoidpmaaGreatDoor
open Go.RowKit
/-- p[:] of an array of bytes behind a pointer -/
theorem all_arr (t : TypeId) (n g o : Nat) (hu : Tryz.prog.underlying t = some (.array n 5)) (hn : 0 < n) (w : World) :
    (Instr.sliceAt t (.pointer (some ⟨g, o, none⟩)) none none none).run Tryz.prog w = .ok (.slice (some ⟨g, o, none⟩) n n) w := by
  have he : Tryz.prog.elem t = 5 := by simp [Program.elem, hu]
  have hl : Tryz.prog.arrayLen t = n := by simp [Program.arrayLen, hu]
  rw [run_sliceAt_array_all (ht := by rw [hl, he]; exact hu), he, sizeU8]
  show Result.ok (slicedAt ⟨g, o, none⟩ _ _ _ 1) w = _
  rw [hl]
  unfold slicedAt
  rw [if_neg (by omega), Go.WideShapes.add_plain, Nat.zero_mul, Nat.add_zero, Nat.sub_zero]
theorem upto_step (f h : Nat → Nat) (k x : Nat) (hx : h k = x) (j : Nat) : (if j = k then x else if j < k then h j else f j) = if j < k + 1 then h j else f j := by
  by_cases e : j = k
  · subst e; rw [if_pos rfl, if_pos (Nat.lt_succ_self _), hx]
  · rw [if_neg e]
    by_cases h : j < k
    · rw [if_pos h, if_pos (by omega)]
    · rw [if_neg h, if_neg (by omega)]
theorem arr_of_list {w : World} {g o n : Nat} {f : Nat → Nat} {L : List Value} {t : TypeId} (h : w.heap[g]? = some (.cells L.toArray t (0, 0))) (hL : ∀ j, j < n → L[o + j]? = (bytesL n f)[j]?) : Arr w g o n f := fun j hj => by
  refine ⟨?_, by simp [World.frozen?, h]⟩
  simp only [World.cell?, h]
  rw [List.getElem?_toArray, hL j hj, bytesL_at hj]
  rfl
theorem cell_off {w : World} {g k j : Nat} (hkj : k ≠ j) (v : Value) : (w.setCell ⟨g, k, none⟩ v).cell? ⟨g, j, none⟩ = w.cell? ⟨g, j, none⟩ :=
  World.cell?_setCell_other w ⟨g, k, none⟩ ⟨g, j, none⟩ v (fun e => hkj (congrArg Addr.off e))
end Go.Proofs.YtgcdnhjjoidpmaaGreatDoor
/- Contracts of package stream: the block of two numbers. -/
namespace Go.Proofs.YtgcdnhjjoidpmaaGreatDoor
open Go.RowKit
/-- two numbers in sixteen bytes -/
def cb (N B : Nat) : Nat → Nat := catB 8 (len8 N) (len8 B)
theorem cb_by (N B : Nat) : By 16 (cb N B) := fun j hj => catB_lt (n := 8) (m := 8) (fun j _ => len8_lt N j) (fun j _ => len8_lt B j) j hj
def jn (N B k j : Nat) : Nat := if j < 8 then (if j < k then len8 N j else 0) else if j < 8 + k then len8 B (j - 8) else 0
theorem jn_step {N B k : Nat} (hk : k < 8) (j : Nat) : (if j = 8 + k then len8 B k else if j = k then len8 N k else jn N B k j) = jn N B (k + 1) j := by
  unfold jn
  by_cases h1 : j = 8 + k
  · subst h1
    rw [if_pos rfl, if_neg (by omega), if_pos (by omega), show 8 + k - 8 = k by omega]
  · rw [if_neg h1]
    by_cases h2 : j = k
    · subst h2
      rw [if_pos rfl, if_pos hk, if_pos (by omega)]
    · rw [if_neg h2]
      by_cases h8 : j < 8
      · rw [if_pos h8, if_pos h8]
        by_cases h : j < k
        · rw [if_pos h, if_pos (by omega)]
        · rw [if_neg h, if_neg (by omega)]
      · rw [if_neg h8, if_neg h8]
        by_cases h : j < 8 + k
        · rw [if_pos h, if_pos (by omega)]
        · rw [if_neg h, if_neg (by omega)]
theorem jn_end {N B j : Nat} (hj : j < 16) : jn N B 8 j = cb N B j := by
  unfold jn cb catB
  by_cases h8 : j < 8
  · rw [if_pos h8, if_pos h8, if_pos h8]
  · rw [if_neg h8, if_neg h8, if_pos (by omega)]
theorem size16 : (Tryz.prog.info? 113).map (·.size) = some 16 := by kernel_rfl
abbrev y16 : Array Value := #[.int .u8 0, .int .u8 0, .int .u8 0, .int .u8 0, .int .u8 0, .int .u8 0, .int .u8 0, .int .u8 0, .int .u8 0, .int .u8 0, .int .u8 0, .int .u8 0, .int .u8 0, .int .u8 0, .int .u8 0, .int .u8 0]
theorem made16 (w : World) : Arr (w.alloc (.cells y16 113)) w.heap.size 0 16 (fun _ => 0) := arr_made w _ _ 16 _ rfl
/-- byte k of a number, as the code reckons it -/
theorem shift_byte {x k : Nat} (hk : k < 8) : ∃ q q8 y z : Nat, (7 : Int) - k = q ∧ (8 : Int) * q = q8 ∧ q ≤ 7 ∧ q8 ≤ 56 ∧ (x : Int) / 2 ^ q8 = y ∧ y ≤ x ∧ (y : Int) % 256 = z ∧ z < 256 ∧ len8 x k = z := by
  refine ⟨7 - k, 8 * (7 - k), x / 2 ^ (8 * (7 - k)), x / 2 ^ (8 * (7 - k)) % 256, by omega, by omega, by omega, by omega, by simp, Nat.div_le_self _ _, by omega, Nat.mod_lt _ (by decide), rfl⟩
set_option maxRecDepth 100000 in
set_option maxHeartbeats 1600000 in
theorem join_any (N B : Nat) (w : World) (hN : N ≤ 9223372036854775807) (hB : B ≤ 9223372036854775807) :
    Calls Tryz.prog 66 #[.int .i64 (N : Nat), .int .i64 (B : Nat)] w fun e w' => e = .returned (aggB 16 (cb N B)) ∧ Below w.heap.size w w' := by
  have HO := Lib.hid ((made16 w).alloc (.cells y16 113))
  have HM := Lib.hid (made16 (w.alloc (.cells y16 113)))
  have hs1 : (w.alloc (.cells y16 113)).heap.size = w.heap.size + 1 := by simp
  rw [hs1] at HM
  have HB := Lib.hid (((Below.refl w.heap.size w).alloc (Nat.le_refl _) (.cells y16 113)).alloc (by simp) (.cells y16 113))
  clear hs1
  go_enter Tryz.func66, Tryz.ntmps66
  go_wp2_with fail
  generalize hW : (w.alloc (.cells y16 113)).alloc (.cells y16 113) = W at *
  clear hW
  go_loopw [8] (fun v wr => ∃ k : Nat, k ≤ 8 ∧ v = .int .i64 k ∧ Arr wr (w.heap.size + 1) 0 16 (jn N B k) ∧ Arr wr w.heap.size 0 16 (fun _ => 0) ∧ Below w.heap.size w wr) (fun v _ => 8 - (intOf v).toNat)
  case atStart => exact ⟨0, by decide, rfl, HM.out.congr fun j hj => by unfold jn; rw [if_neg (Nat.not_lt_zero _)]; by_cases h : j < 8; rw [if_pos h]; rw [if_neg h, if_neg (by omega)], HO.out, HB.out⟩
  case round =>
    obtain ⟨k, hk, rfl, h1, h2, h3⟩ := hrel
    have H1 := Lib.hid h1
    have H2 := Lib.hid h2
    have H3 := Lib.hid h3
    clear h1 h2 h3
    by_cases hlt : k < 8
    · obtain ⟨q, q8, y, z, eq, eq8, hq7, hq56, ey, hyx, ez, lz, hz⟩ := shift_byte (x := N) hlt
      obtain ⟨q', q8', y', z', eq', eq8', _, _, ey', hyx', ez', lz', hz'⟩ := shift_byte (x := B) hlt
      obtain rfl : q = q' := by omega
      obtain rfl : q8 = q8' := by omega
      have hqi : (q : Int) ≤ 7 := by omega
      have hq8i : (q8 : Int) ≤ 56 := by omega
      have hxi : (N : Int) ≤ 9223372036854775807 := by omega
      have hxi' : (B : Int) ≤ 9223372036854775807 := by omega
      have hyi : (y : Int) ≤ 9223372036854775807 := by omega
      have hyi' : (y' : Int) ≤ 9223372036854775807 := by omega
      obtain ⟨k8, hk8, hk8i⟩ : ∃ k8, 8 + k = k8 ∧ (8 : Int) + k = (k8 : Nat) := ⟨8 + k, rfl, by omega⟩
      have hk8l : k8 < 16 := by omega
      have hc3 := H1.out.cell (j := k) (by omega) (Nat.zero_add k).symm
      have hf3 := H1.out.frozen (j := k) (by omega) (Nat.zero_add k).symm
      have hA1 := H1.out.set (i := k) (by omega) (Nat.zero_add k).symm z (v := .int .u8 (z : Nat)) rfl
      have hc4 := hA1.cell hk8l (Nat.zero_add k8).symm
      have hf4 := hA1.frozen hk8l (Nat.zero_add k8).symm
      have HM1 := Lib.hid ((hA1.set hk8l (Nat.zero_add k8).symm z' (v := .int .u8 (z' : Nat)) rfl).congr (f := jn N B (k + 1)) fun j _ => by rw [← hk8, ← hz, ← hz']; exact jn_step hlt j)
      generalize jn N B k k = o1 at hc3
      generalize (if k8 = k then z else jn N B k k8) = o2 at hc4
      have HB1 := Lib.hid ((H3.out.setCell (p := ⟨w.heap.size + 1, k, none⟩) (Nat.le_succ _) (.int .u8 (z : Nat))).setCell (p := ⟨w.heap.size + 1, k8, none⟩) (Nat.le_succ _) (.int .u8 (z' : Nat)))
      have HO1 := Lib.hid ((H2.out.setOther (a := ⟨w.heap.size + 1, k, none⟩) (Nat.ne_of_lt (Nat.lt_succ_self _)) (.int .u8 (z : Nat))).setOther (a := ⟨w.heap.size + 1, k8, none⟩) (Nat.ne_of_lt (Nat.lt_succ_self _)) (.int .u8 (z' : Nat)))
      have HKK := Lib.hid hk8
      clear hz hz' hA1 hk8 hq7 hq56 hyx hyx'
      go_wp2_with fail
      go_roundw
      case rel => exact ⟨k + 1, by omega, by go_num, HM1.out, HO1.out, HB1.out⟩
      case measure => simp [intOf]; omega
    · obtain rfl : k = 8 := by omega
      have HR := Lib.hid (H1.out.congr (f := cb N B) fun j hj => jn_end hj)
      go_wp2_with (first | (refine wpList_loadB rfl 113 (.tmp 5) rfl (w.heap.size + 1) 0 16 rfl _ HR.out _ Tryz.underlying113 rfl size16 ?_) | (refine wpList_storeB rfl 113 (.tmp 4) (.tmp 28) rfl w.heap.size 0 16 _ _ rfl rfl H2.out size16 ?_; intro w2 h1 h2; have HR2 := Lib.hid h1; have HC2 := Lib.hid h2; clear h1 h2))
      exact bodyPost_ret (results_cellB rfl _ _ w.heap.size 0 16 _ rfl HR2.out _ Tryz.underlying113 rfl size16) rfl ⟨rfl, H3.out.trans (HC2.out.below H3.out.size (Nat.le_refl _))⟩
end Go.Proofs.YtgcdnhjjoidpmaaGreatDoor
/- The field of 256 elements on natural numbers: nothing here hangs on the program. -/
namespace Go.Proofs.YtgcdnhjjoidpmaaGreatDoor

/-- twice a byte -/
def dbl (a : Nat) : Nat := if a < 128 then 2 * a else (2 * a - 256) ^^^ 27
/-- k rounds of the product -/
def gmk : Nat → Nat → Nat → Nat → Nat
  | 0, _, _, p => p
  | k + 1, a, b, p => gmk k (dbl a) (b / 2) (if b % 2 = 1 then p ^^^ a else p)
def gm (a b : Nat) : Nat := gmk 8 a b 0
def gpow (a : Nat) : Nat → Nat
  | 0 => 1
  | k + 1 => gm (gpow a k) a

theorem xor8 {a b : Nat} (ha : a < 256) (hb : b < 256) : a ^^^ b < 256 := Nat.xor_lt_two_pow (n := 8) ha hb
theorem gx_par (a b : Nat) : (a ^^^ b) % 2 = (a + b) % 2 := by
  have h := congrArg (fun x : Bool => x.toNat) (Nat.testBit_xor (x := a) (y := b) (i := 0))
  simp only [Nat.testBit_zero] at h
  rcases Nat.mod_two_eq_zero_or_one a with h1 | h1 <;> rcases Nat.mod_two_eq_zero_or_one b with h2 | h2 <;> rw [h1, h2] at h <;> rcases Nat.mod_two_eq_zero_or_one (a ^^^ b) with h3 | h3 <;> rw [h3] at h ⊢ <;> first | omega | exact absurd h (by decide)
theorem x4 (a b c d : Nat) : (a ^^^ b) ^^^ (c ^^^ d) = (a ^^^ c) ^^^ (b ^^^ d) := by
  rw [Nat.xor_assoc, ← Nat.xor_assoc b c d, Nat.xor_comm b c, Nat.xor_assoc c b d, ← Nat.xor_assoc]
theorem xor_add2 (k r : Nat) (h : r < 2 ^ k) : 2 ^ k ^^^ r = 2 ^ k + r := by
  apply Nat.eq_of_testBit_eq
  intro i
  rw [Nat.testBit_xor, Nat.testBit_two_pow]
  rcases Nat.lt_trichotomy i k with hi | hi | hi
  · rw [Nat.testBit_two_pow_add_gt hi]
    simp [Nat.ne_of_gt hi]
  · subst hi
    rw [Nat.testBit_two_pow_add_eq, Nat.testBit_lt_two_pow h]
    simp
  · have h1 : r.testBit i = false := Nat.testBit_lt_two_pow (Nat.lt_of_lt_of_le h (Nat.pow_le_pow_right (by decide) (Nat.le_of_lt hi)))
    have h2 : (2 ^ k + r).testBit i = false := Nat.testBit_lt_two_pow (by
      have : 2 ^ (k + 1) ≤ 2 ^ i := Nat.pow_le_pow_right (by decide) hi
      rw [Nat.pow_succ] at this
      omega)
    rw [h1, h2]
    simp [Nat.ne_of_lt hi]

/-- what holds of 0 and of the powers of 2, and of sums of what it holds of, holds of all bytes -/
theorem byte_ind (P : Nat → Prop) (n : Nat) (h0 : P 0) (hb : ∀ i, i < n → P (2 ^ i)) (hx : ∀ a b, a < 2 ^ n → b < 2 ^ n → P a → P b → P (a ^^^ b)) : ∀ a, a < 2 ^ n → P a := by
  have key : ∀ k, k ≤ n → ∀ a, a < 2 ^ k → P a := by
    intro k
    induction k with
    | zero =>
      intro _ a ha
      obtain rfl : a = 0 := by simp at ha; exact ha
      exact h0
    | succ k ih =>
      intro hk a ha
      by_cases hlt : a < 2 ^ k
      · exact ih (by omega) a hlt
      · have hp : 2 ^ (k + 1) ≤ 2 ^ n := Nat.pow_le_pow_right (by decide) hk
        have hs : 2 ^ (k + 1) = 2 ^ k * 2 := Nat.pow_succ 2 k
        have hr : a - 2 ^ k < 2 ^ k := by omega
        have e : a = 2 ^ k ^^^ (a - 2 ^ k) := by rw [xor_add2 k _ hr]; omega
        rw [e]
        exact hx _ _ (by omega) (by omega) (hb k (by omega)) (ih (by omega) _ hr)
  exact key n (Nat.le_refl n)

theorem dbl_lt {a : Nat} (h : a < 256) : dbl a < 256 := by
  unfold dbl
  split
  · omega
  · exact xor8 (by omega) (by decide)
theorem dbl_eq : ∀ a, a < 256 → dbl a = (a <<< 1) ^^^ (283 * (a >>> 7)) := by decide +kernel
theorem dbl_lin (a : Nat) (ha : a < 256) (b : Nat) (hb : b < 256) : dbl (a ^^^ b) = dbl a ^^^ dbl b := by
  have k : ∀ x, x < 2 → ∀ y, y < 2 → 283 * (x ^^^ y) = (283 * x) ^^^ (283 * y) := by decide +kernel
  rw [dbl_eq _ (xor8 ha hb), dbl_eq a ha, dbl_eq b hb, Nat.shiftLeft_xor_distrib, Nat.shiftRight_xor_distrib, k _ (by rw [Nat.shiftRight_eq_div_pow]; omega) _ (by rw [Nat.shiftRight_eq_div_pow]; omega), x4]
theorem gmk_lt : ∀ (k a b p : Nat), a < 256 → p < 256 → gmk k a b p < 256
  | 0, _, _, _, _, hp => hp
  | k + 1, a, b, p, ha, hp => by
    unfold gmk
    refine gmk_lt k _ _ _ (dbl_lt ha) ?_
    split
    · exact xor8 hp ha
    · exact hp
theorem gm_lt {a : Nat} (b : Nat) (h : a < 256) : gm a b < 256 := gmk_lt 8 a b 0 h (by decide)
/-- rounds are linear in the second factor -/
theorem gmk_lin2 : ∀ (k a b c p q : Nat), gmk k a (b ^^^ c) (p ^^^ q) = gmk k a b p ^^^ gmk k a c q
  | 0, _, _, _, _, _ => rfl
  | k + 1, a, b, c, p, q => by
    simp only [gmk]
    rw [Nat.xor_div_two, ← gmk_lin2 k]
    congr 1
    rw [gx_par]
    rcases Nat.mod_two_eq_zero_or_one b with h | h <;> rcases Nat.mod_two_eq_zero_or_one c with h' | h'
    · rw [if_neg (by omega), if_neg (by omega), if_neg (by omega)]
    · rw [if_pos (by omega), if_neg (by omega), if_pos (by omega), Nat.xor_assoc]
    · rw [if_pos (by omega), if_pos (by omega), if_neg (by omega), Nat.xor_assoc, Nat.xor_assoc, Nat.xor_comm q]
    · rw [if_neg (by omega), if_pos (by omega), if_pos (by omega), x4, Nat.xor_self, Nat.xor_zero]
/-- and in the first -/
theorem gmk_lin1 : ∀ (k a b c p q : Nat), a < 256 → b < 256 → gmk k (a ^^^ b) c (p ^^^ q) = gmk k a c p ^^^ gmk k b c q
  | 0, _, _, _, _, _, _, _ => rfl
  | k + 1, a, b, c, p, q, ha, hb => by
    simp only [gmk]
    rw [dbl_lin a ha b hb, ← gmk_lin1 k _ _ _ _ _ (dbl_lt ha) (dbl_lt hb)]
    congr 1
    split
    · exact x4 p q a b
    · rfl
theorem gm_xor2 (a b c : Nat) : gm a (b ^^^ c) = gm a b ^^^ gm a c := gmk_lin2 8 a b c 0 0
theorem gm_xor1 (a b c : Nat) (ha : a < 256) (hb : b < 256) : gm (a ^^^ b) c = gm a c ^^^ gm b c := gmk_lin1 8 a b c 0 0 ha hb
theorem gm_zero2 (a : Nat) : gm a 0 = 0 := by
  have h := gm_xor2 a 0 0
  rw [Nat.xor_self, Nat.xor_self] at h
  exact h
theorem gm_zero1 (b : Nat) : gm 0 b = 0 := by
  have h := gm_xor1 0 0 b (by decide) (by decide)
  rw [Nat.xor_self, Nat.xor_self] at h
  exact h

/-- two products of bytes, linear in each, are equal where they are at powers of 2 -/
theorem bilin (f g : Nat → Nat → Nat) (hf0 : ∀ a, f a 0 = g a 0) (hf0' : ∀ b, f 0 b = g 0 b)
    (hf1 : ∀ a b c, a < 256 → b < 256 → c < 256 → f (a ^^^ b) c = f a c ^^^ f b c) (hg1 : ∀ a b c, a < 256 → b < 256 → c < 256 → g (a ^^^ b) c = g a c ^^^ g b c)
    (hf2 : ∀ a b c, a < 256 → b < 256 → c < 256 → f a (b ^^^ c) = f a b ^^^ f a c) (hg2 : ∀ a b c, a < 256 → b < 256 → c < 256 → g a (b ^^^ c) = g a b ^^^ g a c)
    (h : ∀ i, i < 8 → ∀ j, j < 8 → f (2 ^ i) (2 ^ j) = g (2 ^ i) (2 ^ j)) : ∀ a, a < 256 → ∀ b, b < 256 → f a b = g a b := by
  have pw : ∀ i, i < 8 → 2 ^ i < 256 := fun i hi => Nat.lt_of_lt_of_le (Nat.pow_lt_pow_right (by decide) hi) (by decide)
  refine byte_ind (fun a => ∀ b, b < 256 → f a b = g a b) 8 (fun b _ => hf0' b) (fun i hi => ?_) (fun a a' ha ha' ih ih' b hb => by rw [hf1 a a' b ha ha' hb, hg1 a a' b ha ha' hb, ih b hb, ih' b hb])
  refine byte_ind (fun b => f (2 ^ i) b = g (2 ^ i) b) 8 (hf0 _) (fun j hj => h i hi j hj) (fun b b' hb hb' ih ih' => by rw [hf2 _ b b' (pw i hi) hb hb', hg2 _ b b' (pw i hi) hb hb', ih, ih'])

theorem gm_comm {a b : Nat} (ha : a < 256) (hb : b < 256) : gm a b = gm b a :=
  bilin gm (fun a b => gm b a) (fun a => by rw [gm_zero2, gm_zero1]) (fun b => by rw [gm_zero2, gm_zero1]) (fun a b c ha hb _ => gm_xor1 a b c ha hb) (fun a b c _ _ _ => gm_xor2 c a b)
    (fun a b c _ _ _ => gm_xor2 a b c) (fun a b c _ hb hc => gm_xor1 b c a hb hc) (by decide +kernel) a ha b hb

theorem gm_assoc {a b c : Nat} (ha : a < 256) (hb : b < 256) (hc : c < 256) : gm (gm a b) c = gm a (gm b c) := by
  have pw : ∀ i, i < 8 → 2 ^ i < 256 := fun i hi => Nat.lt_of_lt_of_le (Nat.pow_lt_pow_right (by decide) hi) (by decide)
  have base : ∀ i, i < 8 → ∀ j, j < 8 → ∀ k, k < 8 → gm (gm (2 ^ i) (2 ^ j)) (2 ^ k) = gm (2 ^ i) (gm (2 ^ j) (2 ^ k)) := by decide +kernel
  have step : ∀ k, k < 8 → ∀ a, a < 256 → ∀ b, b < 256 → gm (gm a b) (2 ^ k) = gm a (gm b (2 ^ k)) := fun k hk =>
    bilin (fun a b => gm (gm a b) (2 ^ k)) (fun a b => gm a (gm b (2 ^ k))) (fun a => by simp only [gm_zero2, gm_zero1]) (fun b => by simp only [gm_zero1])
      (fun a b c ha hb _ => by rw [gm_xor1 a b c ha hb, gm_xor1 _ _ _ (gm_lt c ha) (gm_lt c hb)]) (fun a b c ha hb _ => gm_xor1 a b _ ha hb)
      (fun a b c ha _ _ => by rw [gm_xor2, gm_xor1 _ _ _ (gm_lt b ha) (gm_lt c ha)]) (fun a b c _ hb hc => by rw [gm_xor1 b c _ hb hc, gm_xor2])
      (fun i hi j hj => base i hi j hj k hk)
  exact byte_ind (fun c => gm (gm a b) c = gm a (gm b c)) 8 (by simp only [gm_zero2]) (fun k hk => step k hk a ha b hb) (fun x y hx hy ih ih' => by
    rw [gm_xor2, gm_xor2 b, gm_xor2 a, ih, ih']) c hc
theorem gm_one {a : Nat} (h : a < 256) : gm a 1 = a := by
  have : ∀ a, a < 256 → gm a 1 = a := by decide +kernel
  exact this a h
theorem one_gm {a : Nat} (h : a < 256) : gm 1 a = a := by rw [gm_comm (by decide) h, gm_one h]

theorem gpow_lt {a : Nat} (h : a < 256) : ∀ n, gpow a n < 256
  | 0 => (by decide : 1 < 256)
  | n + 1 => gm_lt a (gpow_lt h n)
theorem gpow_add {a : Nat} (h : a < 256) (m : Nat) : ∀ n, gpow a (m + n) = gm (gpow a m) (gpow a n)
  | 0 => (gm_one (gpow_lt h m)).symm
  | n + 1 => by
    show gm (gpow a (m + n)) a = gm (gpow a m) (gm (gpow a n) a)
    rw [gpow_add h m n, gm_assoc (gpow_lt h m) (gpow_lt h n) h]
theorem gpow_two {a : Nat} (h : a < 256) : gpow a 2 = gm a a := by
  show gm (gm 1 a) a = _
  rw [one_gm h]
theorem gpow_sq {a : Nat} (h : a < 256) (n : Nat) : gpow (gm a a) n = gpow a (2 * n) := by
  induction n with
  | zero => rfl
  | succ n ih =>
    show gm (gpow (gm a a) n) (gm a a) = gpow a (2 * n + 2)
    rw [ih, gpow_add h, gpow_two h]
theorem gpow_zero {n : Nat} (h : 0 < n) : gpow 0 n = 0 := by
  cases n with
  | zero => omega
  | succ n => exact gm_zero2 _

/-- by squares: what is computed fast -/
def gfast (a : Nat) : Nat := 
  let b := gm a a; let c := gm b b; let d := gm c c; let e := gm d d; let f := gm e e; let g := gm f f; let h := gm g g
  gm (gm (gm (gm (gm (gm b c) d) e) f) g) h
def ginv (a : Nat) : Nat := gpow a 254
theorem ginv_fast {a : Nat} (h : a < 256) : ginv a = gfast a := by
  have e2 : ∀ k, gm (gpow a k) (gpow a k) = gpow a (2 * k) := fun k => by rw [← gpow_add h]; congr 1; omega
  have g1 : a = gpow a 1 := (one_gm h).symm
  unfold gfast ginv
  simp only []
  have h1 : gm a a = gpow a 2 := (gpow_two h).symm
  rw [h1]
  simp only [e2, Nat.reduceMul, ← gpow_add h, Nat.reduceAdd]
theorem ginv_lt {a : Nat} (h : a < 256) : ginv a < 256 := gpow_lt h _
theorem gm_inv {a : Nat} (h : a < 256) (h0 : a ≠ 0) : gm a (ginv a) = 1 := by
  have key : ∀ a, a < 256 → a ≠ 0 → gm a (gfast a) = 1 := by decide +kernel
  rw [ginv_fast h]
  exact key a h h0
theorem ginv_zero : ginv 0 = 0 := gpow_zero (by decide)
theorem gpow_255 {a : Nat} (h : a < 256) (h0 : a ≠ 0) : gpow a 255 = 1 := by
  show gm (gpow a 254) a = 1
  rw [gm_comm (gpow_lt h _) h]
  exact gm_inv h h0
theorem ginv_ne {a : Nat} (h : a < 256) (h0 : a ≠ 0) : ginv a ≠ 0 := fun e => by
  have := gm_inv h h0
  rw [e, gm_zero2] at this
  exact absurd this (by decide)
/-- one inverse -/
theorem ginv_only {a b : Nat} (ha : a < 256) (hb : b < 256) (h : gm a b = 1) : b = ginv a := by
  have h0 : a ≠ 0 := fun e => by rw [e, gm_zero1] at h; exact absurd h (by decide)
  have e := gm_assoc (ginv_lt ha) ha hb
  rw [h, gm_comm (ginv_lt ha) ha, gm_inv ha h0, one_gm hb, gm_one (ginv_lt ha)] at e
  exact e
theorem ginv_ginv {a : Nat} (h : a < 256) : ginv (ginv a) = a := by
  by_cases h0 : a = 0
  · subst h0
    rw [ginv_zero, ginv_zero]
  · exact (ginv_only (ginv_lt h) h (by rw [gm_comm (ginv_lt h) h]; exact gm_inv h h0)).symm
theorem gm_eq_zero {a b : Nat} (ha : a < 256) (hb : b < 256) : gm a b = 0 ↔ a = 0 ∨ b = 0 := by
  refine ⟨fun h => ?_, fun h => by rcases h with rfl | rfl; exact gm_zero1 _; exact gm_zero2 _⟩
  by_cases h0 : a = 0
  · exact Or.inl h0
  · right
    have e := gm_assoc (ginv_lt ha) ha hb
    rw [h, gm_zero2, gm_comm (ginv_lt ha) ha, gm_inv ha h0, one_gm hb] at e
    exact e
theorem gpow_mod {a : Nat} (h : a < 256) (h0 : a ≠ 0) (n : Nat) : gpow a (n % 255) = gpow a n := by
  have key : ∀ q r, gpow a (255 * q + r) = gpow a r := by
    intro q
    induction q with
    | zero => intro r; rw [Nat.mul_zero, Nat.zero_add]
    | succ q ih =>
      intro r
      rw [show 255 * (q + 1) + r = 255 + (255 * q + r) by omega, gpow_add h, gpow_255 h h0, one_gm (gpow_lt h _), ih]
  conv => rhs; rw [← Nat.div_add_mod n 255]
  exact (key _ _).symm

/-- a byte turned left -/
def rotl (a k : Nat) : Nat := (a * 2 ^ k) % 256 ||| a / 2 ^ (8 - k)
def gbox (i : Nat) : Nat := i ^^^ rotl i 1 ^^^ rotl i 2 ^^^ rotl i 3 ^^^ rotl i 4 ^^^ 99
def box (a : Nat) : Nat := gbox (ginv a)
def unmix (a : Nat) : Nat := rotl a 1 ^^^ rotl a 3 ^^^ rotl a 6 ^^^ 5
def unbox (a : Nat) : Nat := ginv (unmix a)
theorem gbox_lt {a : Nat} (h : a < 256) : gbox a < 256 := by
  have : ∀ a, a < 256 → gbox a < 256 := by decide +kernel
  exact this a h
theorem unmix_lt {a : Nat} (h : a < 256) : unmix a < 256 := by
  have : ∀ a, a < 256 → unmix a < 256 := by decide +kernel
  exact this a h
theorem unmix_gbox {a : Nat} (h : a < 256) : unmix (gbox a) = a := by
  have : ∀ a, a < 256 → unmix (gbox a) = a := by decide +kernel
  exact this a h
theorem gbox_unmix {a : Nat} (h : a < 256) : gbox (unmix a) = a := by
  have : ∀ a, a < 256 → gbox (unmix a) = a := by decide +kernel
  exact this a h
theorem box_lt {a : Nat} (h : a < 256) : box a < 256 := gbox_lt (ginv_lt h)
theorem unbox_lt {a : Nat} (h : a < 256) : unbox a < 256 := ginv_lt (unmix_lt h)
theorem unbox_box {a : Nat} (h : a < 256) : unbox (box a) = a := by
  unfold unbox box
  rw [unmix_gbox (ginv_lt h), ginv_ginv h]
theorem box_unbox {a : Nat} (h : a < 256) : box (unbox a) = a := by
  unfold unbox box
  rw [ginv_ginv (unmix_lt h), gbox_unmix h]
theorem box_inj {a b : Nat} (ha : a < 256) (hb : b < 256) (h : box a = box b) : a = b := by rw [← unbox_box ha, h, unbox_box hb]
theorem box_moves {a : Nat} (h : a < 256) : box a ≠ a ∧ box a ≠ 255 - a := by
  have : ∀ a, a < 256 → gbox (gfast a) ≠ a ∧ gbox (gfast a) ≠ 255 - a := by decide +kernel
  have := this a h
  rw [← ginv_fast h] at this
  exact this
/-- the square of a sum -/
theorem gm_square {a b : Nat} (ha : a < 256) (hb : b < 256) : gm (a ^^^ b) (a ^^^ b) = gm a a ^^^ gm b b := by
  rw [gm_xor1 a b _ ha hb, gm_xor2 a, gm_xor2 b, gm_comm ha hb, Nat.xor_assoc, ← Nat.xor_assoc (gm b a), Nat.xor_self, Nat.zero_xor]
end Go.Proofs.YtgcdnhjjoidpmaaGreatDoor
/- The block cipher on natural numbers: nothing here hangs on the program. -/
namespace Go.Proofs.YtgcdnhjjoidpmaaGreatDoor

/-! ### columns -/
def mx (a b c d : Nat) : Nat := (dbl a ^^^ (dbl b ^^^ b)) ^^^ (c ^^^ d)
def imx (a b c d : Nat) : Nat := (gm 14 a ^^^ gm 11 b) ^^^ (gm 13 c ^^^ gm 9 d)
theorem xxab (a b c d e : Nat) : a ^^^ ((((a ^^^ b) ^^^ c) ^^^ d) ^^^ e) = e ^^^ (b ^^^ (c ^^^ d)) := by
  have h1 : a ^^^ ((((a ^^^ b) ^^^ c) ^^^ d) ^^^ e) = (a ^^^ a) ^^^ (e ^^^ (b ^^^ (c ^^^ d))) := by ac_rfl
  rw [h1, Nat.xor_self, Nat.zero_xor]
/-- as the program has it -/
theorem mx_code {a b : Nat} (c d : Nat) (ha : a < 256) (hb : b < 256) : a ^^^ ((((a ^^^ b) ^^^ c) ^^^ d) ^^^ dbl (a ^^^ b)) = mx a b c d := by
  rw [xxab, dbl_lin a ha b hb]
  unfold mx
  ac_rfl
structure Lin4 (f : Nat → Nat → Nat → Nat → Nat) : Prop where
  lt : ∀ a b c d, a < 256 → b < 256 → c < 256 → d < 256 → f a b c d < 256
  add : ∀ a b c d a' b' c' d', a < 256 → b < 256 → c < 256 → d < 256 → a' < 256 → b' < 256 → c' < 256 → d' < 256 → f (a ^^^ a') (b ^^^ b') (c ^^^ c') (d ^^^ d') = f a b c d ^^^ f a' b' c' d'
namespace Lin4
variable {f g h k : Nat → Nat → Nat → Nat → Nat}
theorem p1 : Lin4 (fun a _ _ _ => a) := ⟨fun _ _ _ _ h _ _ _ => h, fun _ _ _ _ _ _ _ _ _ _ _ _ _ _ _ _ => rfl⟩
theorem p2 : Lin4 (fun _ a _ _ => a) := ⟨fun _ _ _ _ _ h _ _ => h, fun _ _ _ _ _ _ _ _ _ _ _ _ _ _ _ _ => rfl⟩
theorem p3 : Lin4 (fun _ _ a _ => a) := ⟨fun _ _ _ _ _ _ h _ => h, fun _ _ _ _ _ _ _ _ _ _ _ _ _ _ _ _ => rfl⟩
theorem p4 : Lin4 (fun _ _ _ a => a) := ⟨fun _ _ _ _ _ _ _ h => h, fun _ _ _ _ _ _ _ _ _ _ _ _ _ _ _ _ => rfl⟩
theorem xor (hf : Lin4 f) (hg : Lin4 g) : Lin4 (fun a b c d => f a b c d ^^^ g a b c d) :=
  ⟨fun a b c d h1 h2 h3 h4 => xor8 (hf.lt a b c d h1 h2 h3 h4) (hg.lt a b c d h1 h2 h3 h4), fun a b c d a' b' c' d' h1 h2 h3 h4 h5 h6 h7 h8 => by
    show f _ _ _ _ ^^^ g _ _ _ _ = _
    rw [hf.add a b c d a' b' c' d' h1 h2 h3 h4 h5 h6 h7 h8, hg.add a b c d a' b' c' d' h1 h2 h3 h4 h5 h6 h7 h8, x4]⟩
theorem dbl (hf : Lin4 f) : Lin4 (fun a b c d => Go.Proofs.YtgcdnhjjoidpmaaGreatDoor.dbl (f a b c d)) :=
  ⟨fun a b c d h1 h2 h3 h4 => dbl_lt (hf.lt a b c d h1 h2 h3 h4), fun a b c d a' b' c' d' h1 h2 h3 h4 h5 h6 h7 h8 => by
    show Go.Proofs.YtgcdnhjjoidpmaaGreatDoor.dbl (f _ _ _ _) = _
    rw [hf.add a b c d a' b' c' d' h1 h2 h3 h4 h5 h6 h7 h8, dbl_lin _ (hf.lt a b c d h1 h2 h3 h4) _ (hf.lt a' b' c' d' h5 h6 h7 h8)]⟩
theorem gm {m : Nat} (hm : m < 256) (hf : Lin4 f) : Lin4 (fun a b c d => Go.Proofs.YtgcdnhjjoidpmaaGreatDoor.gm m (f a b c d)) :=
  ⟨fun a b c d _ _ _ _ => gm_lt _ hm, fun a b c d a' b' c' d' h1 h2 h3 h4 h5 h6 h7 h8 => by
    show Go.Proofs.YtgcdnhjjoidpmaaGreatDoor.gm m (f _ _ _ _) = _
    rw [hf.add a b c d a' b' c' d' h1 h2 h3 h4 h5 h6 h7 h8, gm_xor2]⟩
theorem mx (hf : Lin4 f) (hg : Lin4 g) (hh : Lin4 h) (hk : Lin4 k) : Lin4 (fun a b c d => Go.Proofs.YtgcdnhjjoidpmaaGreatDoor.mx (f a b c d) (g a b c d) (h a b c d) (k a b c d)) :=
  (hf.dbl.xor (hg.dbl.xor hg)).xor (hh.xor hk)
theorem imx (hf : Lin4 f) (hg : Lin4 g) (hh : Lin4 h) (hk : Lin4 k) : Lin4 (fun a b c d => Go.Proofs.YtgcdnhjjoidpmaaGreatDoor.imx (f a b c d) (g a b c d) (h a b c d) (k a b c d)) :=
  ((hf.gm (by decide)).xor (hg.gm (by decide))).xor ((hh.gm (by decide)).xor (hk.gm (by decide)))
theorem parts (hf : Lin4 f) {a b c d : Nat} (ha : a < 256) (hb : b < 256) (hc : c < 256) (hd : d < 256) : f a b c d = (f a 0 0 0 ^^^ f 0 b 0 0) ^^^ (f 0 0 c 0 ^^^ f 0 0 0 d) := by
  have z : (0 : Nat) < 256 := by decide
  rw [← hf.add a 0 0 0 0 b 0 0 ha z z z z hb z z, ← hf.add 0 0 c 0 0 0 0 d z z hc z z z z hd, ← hf.add _ _ _ _ _ _ _ _ (xor8 ha z) (xor8 z hb) (xor8 z z) (xor8 z z) (xor8 z z) (xor8 z z) (xor8 hc z) (xor8 z hd)]
  simp
theorem eq (hf : Lin4 f) (hg : Lin4 g) (h1 : ∀ x, x < 256 → f x 0 0 0 = g x 0 0 0) (h2 : ∀ x, x < 256 → f 0 x 0 0 = g 0 x 0 0) (h3 : ∀ x, x < 256 → f 0 0 x 0 = g 0 0 x 0) (h4 : ∀ x, x < 256 → f 0 0 0 x = g 0 0 0 x)
    {a b c d : Nat} (ha : a < 256) (hb : b < 256) (hc : c < 256) (hd : d < 256) : f a b c d = g a b c d := by
  rw [hf.parts ha hb hc hd, hg.parts ha hb hc hd, h1 a ha, h2 b hb, h3 c hc, h4 d hd]
end Lin4
theorem mx_lt {a b c d : Nat} (ha : a < 256) (hb : b < 256) (hc : c < 256) (hd : d < 256) : mx a b c d < 256 := (Lin4.mx .p1 .p2 .p3 .p4).lt a b c d ha hb hc hd
theorem imx_lt {a b c d : Nat} (ha : a < 256) (hb : b < 256) (hc : c < 256) (hd : d < 256) : imx a b c d < 256 := (Lin4.imx .p1 .p2 .p3 .p4).lt a b c d ha hb hc hd
section
variable {a b c d : Nat} (ha : a < 256) (hb : b < 256) (hc : c < 256) (hd : d < 256)
include ha hb hc hd
theorem imx_mx : imx (mx a b c d) (mx b c d a) (mx c d a b) (mx d a b c) = a :=
  Lin4.eq (.imx (.mx .p1 .p2 .p3 .p4) (.mx .p2 .p3 .p4 .p1) (.mx .p3 .p4 .p1 .p2) (.mx .p4 .p1 .p2 .p3)) .p1 (by decide +kernel) (by decide +kernel) (by decide +kernel) (by decide +kernel) ha hb hc hd
theorem mx_imx : mx (imx a b c d) (imx b c d a) (imx c d a b) (imx d a b c) = a :=
  Lin4.eq (.mx (.imx .p1 .p2 .p3 .p4) (.imx .p2 .p3 .p4 .p1) (.imx .p3 .p4 .p1 .p2) (.imx .p4 .p1 .p2 .p3)) .p1 (by decide +kernel) (by decide +kernel) (by decide +kernel) (by decide +kernel) ha hb hc hd
/-- mixed four times is not mixed -/
theorem mx_mx : mx (mx a b c d) (mx b c d a) (mx c d a b) (mx d a b c) = imx (imx a b c d) (imx b c d a) (imx c d a b) (imx d a b c) :=
  Lin4.eq (.mx (.mx .p1 .p2 .p3 .p4) (.mx .p2 .p3 .p4 .p1) (.mx .p3 .p4 .p1 .p2) (.mx .p4 .p1 .p2 .p3)) (.imx (.imx .p1 .p2 .p3 .p4) (.imx .p2 .p3 .p4 .p1) (.imx .p3 .p4 .p1 .p2) (.imx .p4 .p1 .p2 .p3))
    (by decide +kernel) (by decide +kernel) (by decide +kernel) (by decide +kernel) ha hb hc hd
end

/-! ### blocks -/
def mixc (s : Nat → Nat) (i : Nat) : Nat := mx (s (4 * (i / 4) + i % 4)) (s (4 * (i / 4) + (i + 1) % 4)) (s (4 * (i / 4) + (i + 2) % 4)) (s (4 * (i / 4) + (i + 3) % 4))
def imixc (s : Nat → Nat) (i : Nat) : Nat := imx (s (4 * (i / 4) + i % 4)) (s (4 * (i / 4) + (i + 1) % 4)) (s (4 * (i / 4) + (i + 2) % 4)) (s (4 * (i / 4) + (i + 3) % 4))
def subs (t : Nat → Nat) (k : Nat) (s : Nat → Nat) (i : Nat) : Nat := t (s ((i + k * (i % 4)) % 16))
def addk (S : Nat → Nat) (r : Nat) (s : Nat → Nat) (i : Nat) : Nat := s i ^^^ S (16 * r + i)
/-- alike on a block -/
def Eq16 (s t : Nat → Nat) : Prop := ∀ i, i < 16 → s i = t i
variable {s t : Nat → Nat}
theorem Eq16.refl (s : Nat → Nat) : Eq16 s s := fun _ _ => rfl
theorem Eq16.symm (h : Eq16 s t) : Eq16 t s := fun i hi => (h i hi).symm
theorem Eq16.trans {u : Nat → Nat} (h : Eq16 s t) (h' : Eq16 t u) : Eq16 s u := fun i hi => (h i hi).trans (h' i hi)
theorem By.congr (h : By 16 s) (e : Eq16 s t) : By 16 t := fun i hi => e i hi ▸ h i hi
theorem mixc_congr (h : Eq16 s t) : Eq16 (mixc s) (mixc t) := fun i hi => by
  unfold mixc
  rw [h _ (by omega), h (4 * (i / 4) + (i + 1) % 4) (by omega), h (4 * (i / 4) + (i + 2) % 4) (by omega), h (4 * (i / 4) + (i + 3) % 4) (by omega)]
theorem imixc_congr (h : Eq16 s t) : Eq16 (imixc s) (imixc t) := fun i hi => by
  unfold imixc
  rw [h _ (by omega), h (4 * (i / 4) + (i + 1) % 4) (by omega), h (4 * (i / 4) + (i + 2) % 4) (by omega), h (4 * (i / 4) + (i + 3) % 4) (by omega)]
theorem subs_congr (f : Nat → Nat) (k : Nat) (h : Eq16 s t) : Eq16 (subs f k s) (subs f k t) := fun i _ => by unfold subs; rw [h _ (Nat.mod_lt _ (by decide))]
theorem addk_congr (S : Nat → Nat) (r : Nat) (h : Eq16 s t) : Eq16 (addk S r s) (addk S r t) := fun i hi => by unfold addk; rw [h i hi]
theorem mixc_by (h : By 16 s) : By 16 (mixc s) := fun i hi => mx_lt (h _ (by omega)) (h _ (by omega)) (h _ (by omega)) (h _ (by omega))
theorem imixc_by (h : By 16 s) : By 16 (imixc s) := fun i hi => imx_lt (h _ (by omega)) (h _ (by omega)) (h _ (by omega)) (h _ (by omega))
theorem subs_by {f : Nat → Nat} (hf : By 256 f) (k : Nat) (h : By 16 s) : By 16 (subs f k s) := fun i _ => hf _ (h _ (Nat.mod_lt _ (by decide)))
theorem addk_by {S : Nat → Nat} {r : Nat} (hS : By (16 * (r + 1)) S) (h : By 16 s) : By 16 (addk S r s) := fun i hi => xor8 (h i hi) (hS _ (by omega))
theorem box_by : By 256 box := fun _ h => box_lt h
theorem unbox_by : By 256 unbox := fun _ h => unbox_lt h
theorem col_at (s : Nat → Nat) (i j : Nat) : (fun (f : Nat → Nat) (i : Nat) => f (4 * (i / 4) + (i + j) % 4)) s i = s (4 * (i / 4) + (i + j) % 4) := rfl
/-- what a column's function sees at its own places -/
theorem col4 (i : Nat) : ∀ j, j < 4 → ∀ l, 4 * ((4 * (i / 4) + (i + j) % 4) / 4) + (4 * (i / 4) + (i + j) % 4 + l) % 4 = 4 * (i / 4) + (i + j + l) % 4 := fun j _ l => by omega
theorem mixc_at (s : Nat → Nat) (i j : Nat) : mixc s (4 * (i / 4) + (i + j) % 4) = mx (s (4 * (i / 4) + (i + j) % 4)) (s (4 * (i / 4) + (i + j + 1) % 4)) (s (4 * (i / 4) + (i + j + 2) % 4)) (s (4 * (i / 4) + (i + j + 3) % 4)) := by
  unfold mixc
  rw [show 4 * ((4 * (i / 4) + (i + j) % 4) / 4) = 4 * (i / 4) by omega, show (4 * (i / 4) + (i + j) % 4) % 4 = (i + j) % 4 by omega, show (4 * (i / 4) + (i + j) % 4 + 1) % 4 = (i + j + 1) % 4 by omega,
    show (4 * (i / 4) + (i + j) % 4 + 2) % 4 = (i + j + 2) % 4 by omega, show (4 * (i / 4) + (i + j) % 4 + 3) % 4 = (i + j + 3) % 4 by omega]
theorem imixc_at (s : Nat → Nat) (i j : Nat) : imixc s (4 * (i / 4) + (i + j) % 4) = imx (s (4 * (i / 4) + (i + j) % 4)) (s (4 * (i / 4) + (i + j + 1) % 4)) (s (4 * (i / 4) + (i + j + 2) % 4)) (s (4 * (i / 4) + (i + j + 3) % 4)) := by
  unfold imixc
  rw [show 4 * ((4 * (i / 4) + (i + j) % 4) / 4) = 4 * (i / 4) by omega, show (4 * (i / 4) + (i + j) % 4) % 4 = (i + j) % 4 by omega, show (4 * (i / 4) + (i + j) % 4 + 1) % 4 = (i + j + 1) % 4 by omega,
    show (4 * (i / 4) + (i + j) % 4 + 2) % 4 = (i + j + 2) % 4 by omega, show (4 * (i / 4) + (i + j) % 4 + 3) % 4 = (i + j + 3) % 4 by omega]
theorem cyc (i j k : Nat) (s : Nat → Nat) (h : (i + j) % 4 = (i + k) % 4) : s (4 * (i / 4) + (i + j) % 4) = s (4 * (i / 4) + (i + k) % 4) := by rw [h]
/-- one column of a block, from its byte i on -/
theorem four (s : Nat → Nat) (i : Nat) : ∃ a b c d, s (4 * (i / 4) + i % 4) = a ∧ s (4 * (i / 4) + (i + 1) % 4) = b ∧ s (4 * (i / 4) + (i + 2) % 4) = c ∧ s (4 * (i / 4) + (i + 3) % 4) = d ∧
    mixc s (4 * (i / 4) + i % 4) = mx a b c d ∧ mixc s (4 * (i / 4) + (i + 1) % 4) = mx b c d a ∧ mixc s (4 * (i / 4) + (i + 2) % 4) = mx c d a b ∧ mixc s (4 * (i / 4) + (i + 3) % 4) = mx d a b c ∧
    imixc s (4 * (i / 4) + i % 4) = imx a b c d ∧ imixc s (4 * (i / 4) + (i + 1) % 4) = imx b c d a ∧ imixc s (4 * (i / 4) + (i + 2) % 4) = imx c d a b ∧ imixc s (4 * (i / 4) + (i + 3) % 4) = imx d a b c := by
  refine ⟨_, _, _, _, rfl, rfl, rfl, rfl, ?_, ?_, ?_, ?_, ?_, ?_, ?_, ?_⟩
  · exact mixc_at s i 0
  · rw [mixc_at s i 1, show (i + 1 + 1) % 4 = (i + 2) % 4 by omega, show (i + 1 + 2) % 4 = (i + 3) % 4 by omega, show (i + 1 + 3) % 4 = i % 4 by omega]
  · rw [mixc_at s i 2, show (i + 2 + 1) % 4 = (i + 3) % 4 by omega, show (i + 2 + 2) % 4 = i % 4 by omega, show (i + 2 + 3) % 4 = (i + 1) % 4 by omega]
  · rw [mixc_at s i 3, show (i + 3 + 1) % 4 = i % 4 by omega, show (i + 3 + 2) % 4 = (i + 1) % 4 by omega, show (i + 3 + 3) % 4 = (i + 2) % 4 by omega]
  · exact imixc_at s i 0
  · rw [imixc_at s i 1, show (i + 1 + 1) % 4 = (i + 2) % 4 by omega, show (i + 1 + 2) % 4 = (i + 3) % 4 by omega, show (i + 1 + 3) % 4 = i % 4 by omega]
  · rw [imixc_at s i 2, show (i + 2 + 1) % 4 = (i + 3) % 4 by omega, show (i + 2 + 2) % 4 = i % 4 by omega, show (i + 2 + 3) % 4 = (i + 1) % 4 by omega]
  · rw [imixc_at s i 3, show (i + 3 + 1) % 4 = i % 4 by omega, show (i + 3 + 2) % 4 = (i + 1) % 4 by omega, show (i + 3 + 3) % 4 = (i + 2) % 4 by omega]
theorem own_place (i : Nat) : 4 * (i / 4) + i % 4 = i := by omega
theorem imixc_mixc (h : By 16 s) : Eq16 (imixc (mixc s)) s := fun i hi => by
  obtain ⟨a, b, c, d, ea, eb, ec, ed, m1, m2, m3, m4, _⟩ := four s i
  have ha := h (4 * (i / 4) + i % 4) (by omega)
  have hb := h (4 * (i / 4) + (i + 1) % 4) (by omega)
  have hc := h (4 * (i / 4) + (i + 2) % 4) (by omega)
  have hd := h (4 * (i / 4) + (i + 3) % 4) (by omega)
  rw [ea] at ha; rw [eb] at hb; rw [ec] at hc; rw [ed] at hd
  unfold imixc
  rw [m1, m2, m3, m4, imx_mx ha hb hc hd, ← ea, own_place]
theorem mixc_imixc (h : By 16 s) : Eq16 (mixc (imixc s)) s := fun i hi => by
  obtain ⟨a, b, c, d, ea, eb, ec, ed, _, _, _, _, m1, m2, m3, m4⟩ := four s i
  have ha := h (4 * (i / 4) + i % 4) (by omega)
  have hb := h (4 * (i / 4) + (i + 1) % 4) (by omega)
  have hc := h (4 * (i / 4) + (i + 2) % 4) (by omega)
  have hd := h (4 * (i / 4) + (i + 3) % 4) (by omega)
  rw [ea] at ha; rw [eb] at hb; rw [ec] at hc; rw [ed] at hd
  unfold mixc
  rw [m1, m2, m3, m4, mx_imx ha hb hc hd, ← ea, own_place]
theorem mixc_two (h : By 16 s) : Eq16 (mixc (mixc s)) (imixc (imixc s)) := fun i hi => by
  obtain ⟨a, b, c, d, ea, eb, ec, ed, m1, m2, m3, m4, n1, n2, n3, n4⟩ := four s i
  have ha := h (4 * (i / 4) + i % 4) (by omega)
  have hb := h (4 * (i / 4) + (i + 1) % 4) (by omega)
  have hc := h (4 * (i / 4) + (i + 2) % 4) (by omega)
  have hd := h (4 * (i / 4) + (i + 3) % 4) (by omega)
  rw [ea] at ha; rw [eb] at hb; rw [ec] at hc; rw [ed] at hd
  have e1 : mixc (mixc s) i = mx (mx a b c d) (mx b c d a) (mx c d a b) (mx d a b c) := by
    show mx _ _ _ _ = _
    rw [m1, m2, m3, m4]
  have e2 : imixc (imixc s) i = imx (imx a b c d) (imx b c d a) (imx c d a b) (imx d a b c) := by
    show imx _ _ _ _ = _
    rw [n1, n2, n3, n4]
  rw [e1, e2, mx_mx ha hb hc hd]
/-- three times mixed is unmixed -/
theorem mixc_three (h : By 16 s) : Eq16 (mixc (mixc (mixc s))) (imixc s) :=
  (mixc_congr (mixc_two h)).trans (mixc_imixc (imixc_by h))
theorem subs_back {f g : Nat → Nat} {k l : Nat} (hfg : ∀ x, x < 256 → f (g x) = x) (hkl : ∀ i, i < 16 → ((i + k * (i % 4)) % 16 + l * ((i + k * (i % 4)) % 16 % 4)) % 16 = i) (h : By 16 s) : Eq16 (subs f k (subs g l s)) s := fun i hi => by
  unfold subs
  rw [hkl i hi, hfg _ (h i hi)]
theorem unsub_sub (h : By 16 s) : Eq16 (subs unbox 12 (subs box 4 s)) s := subs_back (fun _ h => unbox_box h) (by decide) h
theorem sub_unsub (h : By 16 s) : Eq16 (subs box 4 (subs unbox 12 s)) s := subs_back (fun _ h => box_unbox h) (by decide) h
theorem addk_addk (S : Nat → Nat) (r : Nat) (s : Nat → Nat) : Eq16 (addk S r (addk S r s)) s := fun i _ => by
  unfold addk
  rw [Nat.xor_assoc, Nat.xor_self, Nat.xor_zero]

/-! ### there and back -/
def est (n : Nat) (S b : Nat → Nat) : Nat → Nat → Nat
  | 0 => addk S 0 b
  | r + 1 => addk S (r + 1) (if r + 1 < n + 6 then mixc (subs box 4 (est n S b r)) else subs box 4 (est n S b r))
def enc (n : Nat) (S b : Nat → Nat) : Nat → Nat := est n S b (n + 6)
def dst (n : Nat) (S b : Nat → Nat) : Nat → Nat → Nat
  | 0 => b
  | k + 1 => subs unbox 12 (if 0 < k then imixc (addk S (n + 6 - k) (dst n S b k)) else addk S (n + 6 - k) (dst n S b k))
def dec (n : Nat) (S b : Nat → Nat) : Nat → Nat := addk S 0 (dst n S b (n + 6))
variable {n : Nat} {S b : Nat → Nat}
theorem est_by (hS : By (16 * (n + 7)) S) (hb : By 16 b) : ∀ r, r ≤ n + 6 → By 16 (est n S b r)
  | 0, _ => addk_by (fun i hi => hS i (by omega)) hb
  | r + 1, hr => by
    have ih := subs_by box_by 4 (est_by hS hb r (by omega))
    refine addk_by (fun i hi => hS i (by omega)) ?_
    split
    · exact mixc_by ih
    · exact ih
theorem dst_by (hS : By (16 * (n + 7)) S) (hb : By 16 b) : ∀ k, k ≤ n + 6 → By 16 (dst n S b k)
  | 0, _ => hb
  | k + 1, hk => by
    have ih := addk_by (S := S) (r := n + 6 - k) (fun i hi => hS i (by omega)) (dst_by hS hb k (by omega))
    refine subs_by unbox_by 12 ?_
    split
    · exact imixc_by ih
    · exact ih
theorem enc_by (hS : By (16 * (n + 7)) S) (hb : By 16 b) : By 16 (enc n S b) := est_by hS hb _ (Nat.le_refl _)
theorem dec_by (hS : By (16 * (n + 7)) S) (hb : By 16 b) : By 16 (dec n S b) := addk_by (fun i hi => hS i (by omega)) (dst_by hS hb _ (Nat.le_refl _))
theorem dst_enc (hS : By (16 * (n + 7)) S) (hb : By 16 b) : ∀ k, k ≤ n + 6 → Eq16 (dst n S (enc n S b) k) (est n S b (n + 6 - k))
  | 0, _ => Eq16.refl _
  | k + 1, hk => by
    have ih := dst_enc hS hb k (by omega)
    obtain ⟨r, hr⟩ : ∃ r, n + 6 - k = r + 1 := ⟨n + 6 - (k + 1), by omega⟩
    have e1 : Eq16 (addk S (n + 6 - k) (dst n S (enc n S b) k)) (if 0 < k then mixc (subs box 4 (est n S b r)) else subs box 4 (est n S b r)) := by
      refine (addk_congr S _ ih).trans ?_
      rw [hr]
      show Eq16 (addk S (r + 1) (addk S (r + 1) _)) _
      refine (addk_addk _ _ _).trans ?_
      by_cases h0 : 0 < k
      · rw [if_pos h0, if_pos (by omega)]; exact Eq16.refl _
      · rw [if_neg h0, if_neg (by omega)]; exact Eq16.refl _
    have hby := est_by hS hb r (by omega)
    have hsb := subs_by box_by 4 hby
    rw [show n + 6 - (k + 1) = r by omega]
    show Eq16 (subs unbox 12 (if 0 < k then imixc (addk S (n + 6 - k) (dst n S (enc n S b) k)) else addk S (n + 6 - k) (dst n S (enc n S b) k))) _
    by_cases h0 : 0 < k
    · rw [if_pos h0]
      rw [if_pos h0] at e1
      exact (subs_congr unbox 12 ((imixc_congr e1).trans (imixc_mixc hsb))).trans (unsub_sub hby)
    · rw [if_neg h0]
      rw [if_neg h0] at e1
      exact (subs_congr unbox 12 e1).trans (unsub_sub hby)
/-- what was encrypted is decrypted -/
theorem dec_enc (hS : By (16 * (n + 7)) S) (hb : By 16 b) : Eq16 (dec n S (enc n S b)) b := by
  have h := dst_enc hS hb (n + 6) (Nat.le_refl _)
  rw [Nat.sub_self] at h
  exact (addk_congr S 0 h).trans (addk_addk S 0 b)
theorem est_dec (hS : By (16 * (n + 7)) S) (hb : By 16 b) : ∀ r, r ≤ n + 6 → Eq16 (est n S (dec n S b) r) (dst n S b (n + 6 - r))
  | 0, _ => addk_addk S 0 _
  | r + 1, hr => by
    have ih := est_dec hS hb r (by omega)
    obtain ⟨k, hk⟩ : ∃ k, n + 6 - r = k + 1 := ⟨n + 6 - (r + 1), by omega⟩
    have hrk : n + 6 - k = r + 1 := by omega
    have hby := addk_by (S := S) (r := r + 1) (fun i hi => hS i (by omega)) (dst_by hS hb k (by omega))
    rw [show n + 6 - (r + 1) = k by omega]
    rw [hk] at ih
    have ih2 : Eq16 (est n S (dec n S b) r) (subs unbox 12 (if 0 < k then imixc (addk S (r + 1) (dst n S b k)) else addk S (r + 1) (dst n S b k))) := by
      refine ih.trans ?_
      show Eq16 (subs unbox 12 (if 0 < k then imixc (addk S (n + 6 - k) (dst n S b k)) else addk S (n + 6 - k) (dst n S b k))) _
      rw [hrk]; exact Eq16.refl _
    refine Eq16.trans (t := addk S (r + 1) (addk S (r + 1) (dst n S b k))) ?_ (addk_addk _ _ _)
    refine addk_congr S (r + 1) ?_
    by_cases h0 : 0 < k
    · rw [if_pos h0] at ih2
      rw [if_pos (by omega)]
      exact (mixc_congr ((subs_congr box 4 ih2).trans (sub_unsub (imixc_by hby)))).trans (mixc_imixc hby)
    · rw [if_neg h0] at ih2
      rw [if_neg (by omega)]
      exact (subs_congr box 4 ih2).trans (sub_unsub hby)
/-- and the other way round -/
theorem enc_dec (hS : By (16 * (n + 7)) S) (hb : By 16 b) : Eq16 (enc n S (dec n S b)) b := by
  have h := est_dec hS hb (n + 6) (Nat.le_refl _)
  rw [Nat.sub_self] at h
  exact h
theorem est_congr {c : Nat → Nat} (h : Eq16 b c) : ∀ r, Eq16 (est n S b r) (est n S c r)
  | 0 => addk_congr S 0 h
  | r + 1 => by
    have ih := subs_congr box 4 (est_congr h r)
    refine addk_congr S (r + 1) ?_
    split
    · exact mixc_congr ih
    · exact ih
theorem dst_congr {c : Nat → Nat} (h : Eq16 b c) : ∀ k, Eq16 (dst n S b k) (dst n S c k)
  | 0 => h
  | k + 1 => by
    have ih := addk_congr S (n + 6 - k) (dst_congr h k)
    refine subs_congr unbox 12 ?_
    split
    · exact imixc_congr ih
    · exact ih
theorem enc_congr {c : Nat → Nat} (h : Eq16 b c) : Eq16 (enc n S b) (enc n S c) := est_congr h _
theorem dec_congr {c : Nat → Nat} (h : Eq16 b c) : Eq16 (dec n S b) (dec n S c) := addk_congr S 0 (dst_congr h _)
theorem enc_inj {c : Nat → Nat} (hS : By (16 * (n + 7)) S) (hb : By 16 b) (hc : By 16 c) (h : Eq16 (enc n S b) (enc n S c)) : Eq16 b c :=
  ((dec_enc hS hb).symm.trans (dec_congr h)).trans (dec_enc hS hc)

/-! ### round keys -/
def kt (n : Nat) (S : Nat → Nat) (i j : Nat) : Nat :=
  if i % n = 0 then box (S (4 * (i - 1) + (j + 1) % 4)) ^^^ (if j = 0 then gpow 2 (i / n - 1) else 0)
  else if n = 8 ∧ i % 8 = 4 then box (S (4 * (i - 1) + j)) else S (4 * (i - 1) + j)
def nxt (n : Nat) (S : Nat → Nat) (i j : Nat) : Nat := S (4 * (i - n) + j) ^^^ kt n S i j
/-- the schedule behind k words that were made -/
def sch (n : Nat) (key : Nat → Nat) : Nat → Nat → Nat
  | 0 => fun x => if x < 4 * n then key x else 0
  | k + 1 => fun x => if x / 4 = n + k then nxt n (sch n key k) (n + k) (x % 4) else sch n key k x
def ks (n : Nat) (key : Nat → Nat) : Nat → Nat := sch n key (3 * n + 28)
theorem nxt_by {i j : Nat} (hn : 0 < n) (hi : n ≤ i) (hj : j < 4) (h : By (4 * i) S) : nxt n S i j < 256 := by
  unfold nxt kt
  refine xor8 (h _ (by omega)) ?_
  split
  · refine xor8 (box_lt (h _ (by omega))) ?_
    split
    · exact gpow_lt (by decide) _
    · decide
  · split
    · exact box_lt (h _ (by omega))
    · exact h _ (by omega)
theorem sch_by {key : Nat → Nat} (hn : 0 < n) (hk : By (4 * n) key) : ∀ k x, sch n key k x < 256
  | 0, x => by
    show (if x < 4 * n then key x else 0) < 256
    split
    · exact hk x ‹_›
    · decide
  | k + 1, x => by
    show (if x / 4 = n + k then nxt n (sch n key k) (n + k) (x % 4) else sch n key k x) < 256
    split
    · exact nxt_by hn (by omega) (by omega) fun i _ => sch_by hn hk k i
    · exact sch_by hn hk k x
theorem ks_by {key : Nat → Nat} (hn : 0 < n) (hk : By (4 * n) key) (x : Nat) : ks n key x < 256 := sch_by hn hk _ x
/-- what was made stays -/
theorem sch_stay {key : Nat → Nat} (k : Nat) : ∀ m x, x / 4 < n + k → sch n key (k + m) x = sch n key k x
  | 0, _, _ => rfl
  | m + 1, x, hx => by
    show (if x / 4 = n + (k + m) then _ else sch n key (k + m) x) = _
    rw [if_neg (by omega), sch_stay k m x hx]
theorem ks_key {key : Nat → Nat} {x : Nat} (hx : x < 4 * n) : ks n key x = key x := by
  unfold ks
  rw [← Nat.zero_add (3 * n + 28), sch_stay 0 _ x (by omega)]
  show (if x < 4 * n then key x else 0) = _
  rw [if_pos hx]
theorem kt_congr {T : Nat → Nat} {i j : Nat} (hn : 0 < n) (hi : n ≤ i) (hj : j < 4) (h : ∀ x, x < 4 * i → S x = T x) : kt n S i j = kt n T i j := by
  unfold kt
  rw [h _ (by omega), h (4 * (i - 1) + j) (by omega)]
theorem nxt_congr {T : Nat → Nat} {i j : Nat} (hn : 0 < n) (hi : n ≤ i) (hj : j < 4) (h : ∀ x, x < 4 * i → S x = T x) : nxt n S i j = nxt n T i j := by
  unfold nxt
  rw [kt_congr hn hi hj h, h _ (by omega)]
/-- the round keys say each other -/
theorem ks_next {key : Nat → Nat} {i j : Nat} (hn : 0 < n) (hi : n ≤ i) (hi2 : i < 4 * (n + 7)) (hj : j < 4) : ks n key (4 * i + j) = nxt n (ks n key) i j := by
  obtain ⟨k, rfl⟩ : ∃ k, i = n + k := ⟨i - n, by omega⟩
  obtain ⟨m, hm⟩ : ∃ m, 3 * n + 28 = k + 1 + m := ⟨3 * n + 28 - (k + 1), by omega⟩
  have e1 : ks n key (4 * (n + k) + j) = nxt n (sch n key k) (n + k) j := by
    unfold ks
    rw [hm, sch_stay (k + 1) m _ (by omega)]
    show (if (4 * (n + k) + j) / 4 = n + k then nxt n (sch n key k) (n + k) ((4 * (n + k) + j) % 4) else _) = _
    rw [if_pos (by omega), show (4 * (n + k) + j) % 4 = j by omega]
  rw [e1]
  refine nxt_congr hn hi hj fun x hx => ?_
  unfold ks
  rw [show 3 * n + 28 = k + (3 * n + 28 - k) by omega, sch_stay k _ x (by omega)]
theorem sch_congr {key key' : Nat → Nat} (hn : 0 < n) (h : ∀ x, x < 4 * n → key x = key' x) : ∀ k x, sch n key k x = sch n key' k x
  | 0, x => by
    show (if x < 4 * n then key x else 0) = (if x < 4 * n then key' x else 0)
    split
    · exact h x ‹_›
    · rfl
  | k + 1, x => by
    show (if x / 4 = n + k then nxt n (sch n key k) (n + k) (x % 4) else sch n key k x) = (if x / 4 = n + k then nxt n (sch n key' k) (n + k) (x % 4) else sch n key' k x)
    rw [sch_congr hn h k x, nxt_congr hn (Nat.le_add_right n k) (Nat.mod_lt x (by decide)) fun y _ => sch_congr hn h k y]
theorem ks_congr {key key' : Nat → Nat} (hn : 0 < n) (h : ∀ x, x < 4 * n → key x = key' x) (x : Nat) : ks n key x = ks n key' x := sch_congr hn h _ x
end Go.Proofs.YtgcdnhjjoidpmaaGreatDoor
/- Bits of int: nothing here hangs on the program. -/
namespace Go.Proofs.YtgcdnhjjoidpmaaGreatDoor

theorem i64_and_nat (a b : Nat) (ha : a < 9223372036854775808) (hb : b < 9223372036854775808) : bits .and .i64 (a : Int) (b : Int) = ((a &&& b : Nat) : Int) := by
  have hx : a &&& b < 2 ^ 63 := Nat.and_lt_two_pow _ (by omega)
  show IntKind.i64.wrap ((BitVec.ofInt 64 (a : Int) &&& BitVec.ofInt 64 (b : Int)).toNat : Int) = _
  rw [BitVec.toNat_and, ofInt_u64 a (by omega), ofInt_u64 b (by omega), IntKind.wrap_i64]
  omega
theorem i64_or_nat (a b : Nat) (ha : a < 9223372036854775808) (hb : b < 9223372036854775808) : bits .or .i64 (a : Int) (b : Int) = ((a ||| b : Nat) : Int) := by
  have hx : a ||| b < 2 ^ 63 := Nat.or_lt_two_pow (by omega) (by omega)
  show IntKind.i64.wrap ((BitVec.ofInt 64 (a : Int) ||| BitVec.ofInt 64 (b : Int)).toNat : Int) = _
  rw [BitVec.toNat_or, ofInt_u64 a (by omega), ofInt_u64 b (by omega), IntKind.wrap_i64]
  omega
theorem i64_xor_nat (a b : Nat) (ha : a < 9223372036854775808) (hb : b < 9223372036854775808) : bits .xor .i64 (a : Int) (b : Int) = ((a ^^^ b : Nat) : Int) := by
  have hx : a ^^^ b < 2 ^ 63 := Nat.xor_lt_two_pow (by omega) (by omega)
  show IntKind.i64.wrap ((BitVec.ofInt 64 (a : Int) ^^^ BitVec.ofInt 64 (b : Int)).toNat : Int) = _
  rw [BitVec.toNat_xor, ofInt_u64 a (by omega), ofInt_u64 b (by omega), IntKind.wrap_i64]
  omega
/-- a mask of k bits, of any int -/
theorem i64_mask (k m : Nat) (hk : k ≤ 62) (hm : m = 2 ^ k - 1) (n : Int) : bits .and .i64 n (m : Int) = n % ((2 ^ k : Nat) : Int) := by
  have hp : 2 ^ k ≤ 2 ^ 62 := Nat.pow_le_pow_right (by decide) hk
  have hp0 : 0 < 2 ^ k := Nat.two_pow_pos k
  have key : (BitVec.ofInt 64 n &&& BitVec.ofInt 64 (m : Int)).toNat = (n % ((2 ^ 64 : Nat) : Int)).toNat % 2 ^ k := by
    rw [BitVec.toNat_and, BitVec.toNat_ofInt, ofInt_u64 m (by omega), hm, Nat.and_two_pow_sub_one_eq_mod]
  show IntKind.i64.wrap ((BitVec.ofInt 64 n &&& BitVec.ofInt 64 (m : Int)).toNat : Nat) = _
  rw [key]
  have hd : (n % ((2 ^ 64 : Nat) : Int)).toNat % 2 ^ k = (n % ((2 ^ k : Nat) : Int)).toNat := by
    apply Int.natCast_inj.1
    have h0 : 0 ≤ n % ((2 ^ 64 : Nat) : Int) := Int.emod_nonneg _ (by decide)
    have h1 : 0 ≤ n % ((2 ^ k : Nat) : Int) := Int.emod_nonneg _ (by omega)
    rw [Int.natCast_emod, Int.toNat_of_nonneg h0, Int.toNat_of_nonneg h1]
    refine Int.emod_emod_of_dvd n ?_
    exact Int.natCast_dvd_natCast.2 (Nat.pow_dvd_pow 2 (by omega))
  rw [hd]
  have h1 : 0 ≤ n % ((2 ^ k : Nat) : Int) := Int.emod_nonneg _ (by omega)
  have h2 : n % ((2 ^ k : Nat) : Int) < ((2 ^ k : Nat) : Int) := Int.emod_lt_of_pos _ (by omega)
  rw [Int.toNat_of_nonneg h1, IntKind.wrap_i64]
  omega
end Go.Proofs.YtgcdnhjjoidpmaaGreatDoor
/- Contracts of package field. -/
namespace Go.Proofs.YtgcdnhjjoidpmaaGreatDoor
open Go.RowKit

theorem and128 : ∀ a, a < 256 → (a &&& 128) = if a < 128 then 0 else 128 := by decide +kernel
theorem and7 : ∀ a, a < 8 → (a &&& 7) = a := by decide +kernel
theorem ret_u8 {a b : Nat} (h : a = b) : Ending.returned (.int .u8 (a : Int)) = .returned (.int .u8 (b : Int)) := by rw [h]
theorem ret_u8' {a : Int} {b : Nat} (h : a = (b : Int)) : Ending.returned (.int .u8 a) = .returned (.int .u8 (b : Int)) := by rw [h]

theorem gmk_done : ∀ (k a p : Nat), gmk k a 0 p = p
  | 0, _, _ => rfl
  | k + 1, a, p => by
    simp only [gmk]
    rw [if_neg (by decide)]
    exact gmk_done k _ _

theorem double_any (a : Nat) (w : World) (ha : a < 256) :
    Calls Tryz.prog 104 #[.int .u8 a] w fun e w' => e = .returned (.int .u8 (dbl a : Nat)) ∧ w = w' := by
  have hand : bits BinOp.and .u8 (a : Int) 128 = (((a &&& 128) : Nat) : Int) := u8_and_nat a 128 ha (by decide)
  rw [and128 a ha] at hand
  by_cases h : a < 128
  · rw [if_pos h] at hand
    have HD := Lib.hid (show dbl a = 2 * a from if_pos h)
    go_enter Tryz.func104, Tryz.ntmps104
    go_wp2
    go_ret
    exact ⟨ret_u8' (by rw [HD.out]; omega), rfl⟩
  · rw [if_neg h] at hand
    have HD := Lib.hid (show dbl a = (2 * a - 256) ^^^ 27 from if_neg h)
    have HX := Lib.hid (show bits BinOp.xor .u8 ((a : Int) * 2 % 256) 27 = ((dbl a : Nat) : Int) by
      rw [HD.out, show (a : Int) * 2 % 256 = ((2 * a - 256 : Nat) : Int) by omega]
      exact u8_xor_nat _ 27 (by omega) (by decide))
    go_enter Tryz.func104, Tryz.ntmps104
    go_wp2
    go_ret
    exact ⟨ret_u8' HX.out, rfl⟩

theorem mul_any (a b : Nat) (w : World) (ha : a < 256) (hb : b < 256) :
    Calls Tryz.prog 94 #[.int .u8 a, .int .u8 b] w fun e w' => e = .returned (.int .u8 (gm a b : Nat)) ∧ w = w' := by
  go_enter Tryz.func94, Tryz.ntmps94
  go_wp2_with fail
  go_loop [0, 1, 5] (fun x y p => ∃ k a' b' p' : Nat, k ≤ 8 ∧ b' < 2 ^ k ∧ a' < 256 ∧ p' < 256 ∧ gmk k a' b' p' = gm a b ∧ x = .int .u8 a' ∧ y = .int .u8 b' ∧ p = .int .u8 p') (fun _ y _ => (intOf y).toNat)
  case atStart => exact ⟨8, a, b, 0, Nat.le_refl _, hb, ha, by decide, rfl, rfl, rfl, rfl⟩
  case round =>
    obtain ⟨k, a', b', p', hk, hb', ha', hp', hg, rfl, rfl, rfl⟩ := hrel
    have HG := Lib.hid hg
    clear hg
    have hand : bits BinOp.and .u8 (b' : Int) 1 = (((b' &&& 1) : Nat) : Int) := u8_and_nat b' 1 (Nat.lt_of_lt_of_le hb' (Nat.le_trans (Nat.pow_le_pow_right (by decide) hk) (by decide))) (by decide)
    rw [Nat.and_one_is_mod] at hand
    by_cases h0 : 0 < b'
    · have hxl := xor8 hp' ha'
      have hx : bits BinOp.xor .u8 (p' : Int) (a' : Int) = ((p' ^^^ a' : Nat) : Int) := u8_xor_nat p' a' hp' ha'
      obtain ⟨k, rfl⟩ : ∃ j, k = j + 1 := by
        cases k with
        | zero => exact absurd hb' (by simp; omega)
        | succ j => exact ⟨j, rfl⟩
      have hb2 : b' / 2 < 2 ^ k := by rw [Nat.pow_succ] at hb'; omega
      have HB := Lib.hid hb2
      clear hb2 hb'
      by_cases hodd : b' % 2 = 1
      · have HG2 := Lib.hid (show gmk k (dbl a') (b' / 2) (p' ^^^ a') = gm a b by rw [← HG.out]; simp only [gmk, if_pos hodd])
        go_wp2_with (go_at_call 104; refine (double_any _ _ (by assumption)).mono ?_; rintro e w' ⟨rfl, rfl⟩)
        go_round
        case rel => exact ⟨k, dbl a', b' / 2, p' ^^^ a', by omega, HB.out, dbl_lt ha', hxl, HG2.out, rfl, by go_num, rfl⟩
        case measure => simp [intOf]; omega
      · have HG2 := Lib.hid (show gmk k (dbl a') (b' / 2) p' = gm a b by rw [← HG.out]; simp only [gmk, if_neg hodd])
        have hev : ((b' : Int) % 2 == 1) = false := by rw [beq_eq_false_iff_ne]; omega
        go_wp2_with (go_at_call 104; refine (double_any _ _ (by assumption)).mono ?_; rintro e w' ⟨rfl, rfl⟩)
        go_round
        case rel => exact ⟨k, dbl a', b' / 2, p', by omega, HB.out, dbl_lt ha', hp', HG2.out, rfl, by go_num, rfl⟩
        case measure => simp [intOf]; omega
    · obtain rfl : b' = 0 := by omega
      rw [gmk_done] at HG
      clear hand hb' h0
      go_wp2_with fail
      go_ret
      exact ⟨ret_u8 HG.out, rfl⟩
theorem rot_any (a n : Nat) (w : World) (ha : a < 256) (hn : n < 8) :
    Calls Tryz.prog 117 #[.int .u8 a, .int .i64 n] w fun e w' => e = .returned (.int .u8 (rotl a n : Nat)) ∧ w = w' := by
  have hand : bits BinOp.and .u64 (n : Int) 7 = ((n &&& 7 : Nat) : Int) := u64_and_nat n 7 (by omega) (by decide)
  rw [and7 n hn] at hand
  have HX := Lib.hid (show bits BinOp.or .u8 ((a : Int) * 2 ^ n % 256) ((a : Int) / 2 ^ (8 - n)) = ((rotl a n : Nat) : Int) by
    have h1 : (a : Int) * 2 ^ n % 256 = ((a * 2 ^ n % 256 : Nat) : Int) := by simp
    have h2 : (a : Int) / 2 ^ (8 - n) = ((a / 2 ^ (8 - n) : Nat) : Int) := by simp
    rw [h1, h2]
    exact u8_or_nat _ _ (Nat.mod_lt _ (by decide)) (Nat.lt_of_le_of_lt (Nat.div_le_self _ _) ha))
  go_enter Tryz.func117, Tryz.ntmps117
  go_wp2
  go_ret
  exact ⟨ret_u8' HX.out, rfl⟩

theorem left_any (a n : Nat) (t : Int) (w : World) (ha : a < 256) (hn : n < 8) (ht : t = (n : Int)) :
    Calls Tryz.prog 103 #[.int .u8 a, .int .i64 t] w fun e w' => e = .returned (.int .u8 (rotl a n : Nat)) ∧ w = w' := by
  subst ht
  go_enter Tryz.func103, Tryz.ntmps103
  go_wp2_with (go_at_call 117; refine (rot_any _ _ _ (by assumption) (by assumption)).mono ?_; rintro e w' ⟨rfl, rfl⟩)
  go_ret
  exact ⟨rfl, rfl⟩

theorem pow_any (a : Nat) (n : Int) (w : World) (ha : a < 256) (hn : n ≤ 9223372036854775807) :
    Calls Tryz.prog 107 #[.int .u8 a, .int .i64 n] w fun e w' => e = .returned (.int .u8 (gpow a n.toNat : Nat)) ∧ w = w' := by
  go_enter Tryz.func107, Tryz.ntmps107
  go_wp2_with fail
  go_step3
  go_wp2_with fail
  go_step3
  go_wp2_with fail
  go_loop [1, 5, 6] (fun x p s => ∃ (m : Int) (p' s' : Nat), m ≤ 9223372036854775807 ∧ p' < 256 ∧ s' < 256 ∧ gm p' (gpow s' m.toNat) = gpow a n.toNat ∧ x = .int .i64 m ∧ p = .int .u8 p' ∧ s = .int .u8 s') (fun x _ _ => (intOf x).toNat)
  case atStart => exact ⟨n, 1, a, hn, by decide, ha, one_gm (gpow_lt ha _), rfl, rfl, rfl⟩
  case round =>
    obtain ⟨m, p', s', hm, hp', hs', hg, rfl, rfl, rfl⟩ := hrel
    have HG := Lib.hid hg
    clear hg
    by_cases h0 : 0 < m
    · obtain ⟨k, rfl⟩ := Int.eq_ofNat_of_zero_le (show 0 ≤ m by omega)
      have hk : k ≤ 9223372036854775807 := by omega
      have hand : bits BinOp.and .i64 (k : Int) 1 = (((k &&& 1) : Nat) : Int) := i64_and_nat k 1 (by omega) (by decide)
      rw [Nat.and_one_is_mod] at hand
      have HT := Lib.hid (show ((k : Int) / 2).toNat = k / 2 by omega)
      have hsl := gm_lt s' hs'
      by_cases hodd : k % 2 = 1
      · have hpl := gm_lt s' hp'
        have HG2 := Lib.hid (show gm (gm p' s') (gpow (gm s' s') ((k : Int) / 2).toNat) = gpow a n.toNat by
          rw [← HG.out, HT.out, gpow_sq hs', gm_assoc hp' hs' (gpow_lt hs' _)]
          rw [show gm s' (gpow s' (2 * (k / 2))) = gpow s' (1 + 2 * (k / 2)) by rw [gpow_add hs']; congr 1; exact (one_gm hs').symm]
          congr 2
          omega)
        have hev : ((k : Int) % 2 == 0) = false := by rw [beq_eq_false_iff_ne]; omega
        go_wp2_with (go_at_call 94; refine (mul_any _ _ _ (by assumption) (by assumption)).mono ?_; rintro e w' ⟨rfl, rfl⟩)
        go_round
        case rel => exact ⟨(k : Int) / 2, _, _, by omega, hpl, hsl, HG2.out, rfl, rfl, rfl⟩
        case measure => simp [intOf]; omega
      · have HG2 := Lib.hid (show gm p' (gpow (gm s' s') ((k : Int) / 2).toNat) = gpow a n.toNat by
          rw [← HG.out, HT.out, gpow_sq hs']
          congr 2
          omega)
        have hev : ((k : Int) % 2 == 0) = true := by rw [beq_iff_eq]; omega
        go_wp2_with (go_at_call 94; refine (mul_any _ _ _ (by assumption) (by assumption)).mono ?_; rintro e w' ⟨rfl, rfl⟩)
        go_round
        case rel => exact ⟨(k : Int) / 2, _, _, by omega, hp', hsl, HG2.out, rfl, rfl, rfl⟩
        case measure => simp [intOf]; omega
    · rw [show m.toNat = 0 by omega] at HG
      have HP := Lib.hid (show p' = gpow a n.toNat by rw [← HG.out]; exact (gm_one hp').symm)
      clear HG
      go_wp2_with fail
      go_ret
      exact ⟨ret_u8 HP.out, rfl⟩

theorem inv_any (a : Nat) (w : World) (ha : a < 256) :
    Calls Tryz.prog 102 #[.int .u8 a] w fun e w' => e = .returned (.int .u8 (ginv a : Nat)) ∧ w = w' := by
  go_enter Tryz.func102, Tryz.ntmps102
  go_wp2_with (go_at_call 107; refine (pow_any _ _ _ (by assumption) (by decide)).mono ?_; rintro e w' ⟨rfl, rfl⟩)
  go_ret
  exact ⟨rfl, rfl⟩

theorem x8 {a b : Nat} (ha : a < 256) (hb : b < 256) : bits BinOp.xor .u8 (a : Int) (b : Int) = ((a ^^^ b : Nat) : Int) := u8_xor_nat a b ha hb
theorem rotl_lt {a n : Nat} (ha : a < 256) (hn : n < 8) : rotl a n < 256 := by
  have : ∀ n, n < 8 → ∀ a, a < 256 → rotl a n < 256 := by decide +kernel
  exact this n hn a ha

set_option maxHeartbeats 800000 in
theorem box_any (a : Nat) (w : World) (ha : a < 256) :
    Calls Tryz.prog 93 #[.int .u8 a] w fun e w' => e = .returned (.int .u8 (box a : Nat)) ∧ w = w' := by
  have HB := Lib.hid (show gbox (ginv a) = box a from rfl)
  have hi := ginv_lt ha
  have HI := Lib.hid (inv_any a w ha)
  generalize ginv a = i at *
  have l1 := rotl_lt (n := 1) hi (by decide)
  have l2 := rotl_lt (n := 2) hi (by decide)
  have l3 := rotl_lt (n := 3) hi (by decide)
  have l4 := rotl_lt (n := 4) hi (by decide)
  have e1 := x8 hi l1
  have k1 := xor8 hi l1
  have e2 := x8 k1 l2
  have k2 := xor8 k1 l2
  have e3 := x8 k2 l3
  have k3 := xor8 k2 l3
  have e4 := x8 k3 l4
  have k4 := xor8 k3 l4
  have e5 : bits BinOp.xor .u8 ((i ^^^ rotl i 1 ^^^ rotl i 2 ^^^ rotl i 3 ^^^ rotl i 4 : Nat) : Int) 99 = ((i ^^^ rotl i 1 ^^^ rotl i 2 ^^^ rotl i 3 ^^^ rotl i 4 ^^^ 99 : Nat) : Int) := x8 k4 (show 99 < 256 by decide)
  have HB2 := Lib.hid (show (i ^^^ rotl i 1 ^^^ rotl i 2 ^^^ rotl i 3 ^^^ rotl i 4 ^^^ 99) = box a from HB.out)
  clear HB
  go_enter Tryz.func93, Tryz.ntmps93
  go_wp2_with (first | (go_at_call 102; refine HI.out.mono ?_; rintro e w' ⟨rfl, rfl⟩) | (go_at_call 103; (first | (with_reducible refine (left_any i 1 1 w hi (by decide) (by decide)).mono ?_) | (with_reducible refine (left_any i 2 2 w hi (by decide) (by decide)).mono ?_) | (with_reducible refine (left_any i 3 3 w hi (by decide) (by decide)).mono ?_) | (with_reducible refine (left_any i 4 4 w hi (by decide) (by decide)).mono ?_)); rintro e w' ⟨rfl, rfl⟩))
  go_ret
  exact ⟨ret_u8 HB2.out, rfl⟩
end Go.Proofs.YtgcdnhjjoidpmaaGreatDoor
/- sync.Once, one goroutine: Do with a method value, by that method's contract. -/
namespace Go.Proofs.YtgcdnhjjoidpmaaGreatDoor
open Go.MuLone

noncomputable abbrev muLink : Go.Conc.Locks.MuLink := { lock := 90, unlock := 91, ilock := 98, iunlock := 99, lockSlow := 113, unlockSlow := 116, disable := 109, enable := 111, acquire := 112, relMerge := 114, cas32 := 110, add32 := 115, tMutex := 81, tIMutex := 79, tPMutex := Tryz.f90.params.getD 0 0, tPIMutex := Tryz.f98.params.getD 0 0, tPI32 := 158, tUP := 160, tNoCopy := 74, tU32 := 75 }
/-- what a pointer's type says -/
theorem ptr_facts {p t : TypeId} (hu : Tryz.prog.underlying p = some (.pointer t)) (hi : (Tryz.prog.info? p).map (fun i => (i.zero, i.size)) = some (some (.pointer none), 1)) :
    (∀ w, Sem.run Tryz.prog (underlying p) w = .ok (.pointer t) w) ∧ (∀ w, Sem.run Tryz.prog (Go.sizeOf p) w = .ok 1 w) ∧ (∀ w, Sem.run Tryz.prog (isAgg p) w = .ok false w) ∧ (∀ w, Sem.run Tryz.prog (zeroValue p) w = .ok (.pointer none) w) := by
  have h1 : ∀ w, Sem.run Tryz.prog (underlying p) w = .ok (.pointer t) w := run_underlying hu
  refine ⟨h1, fun w => ?_, fun w => ?_, (zero_of_info hi).1⟩
  · have := (zero_of_info hi).2
    cases hq : Tryz.prog.info? p with
    | none => simp [hq] at this
    | some i => simp [hq] at this; simp [sizeOf, typeInfo, hq, this]
  · unfold isAgg
    rw [Sem.run_bind, h1]
    rfl
theorem muLib : Go.Conc.Locks.MuLib Tryz.prog muLink := by
  have pM := ptr_facts (p := muLink.tPMutex) (t := 81) (by kernel_rfl) (by kernel_rfl)
  have pIM := ptr_facts (p := muLink.tPIMutex) (t := 79) (by kernel_rfl) (by kernel_rfl)
  exact ⟨Tryz.func90, Tryz.func91, Tryz.func98, Tryz.func99, Tryz.func109, Tryz.func111, Tryz.func112, Tryz.func114, Tryz.func110, Tryz.func115, Tryz.underlying79, Tryz.runUnderlying79, Tryz.sizeOf79, Tryz.isAgg79, Tryz.zeroValue79, Tryz.underlying81, Tryz.runUnderlying81, Tryz.sizeOf81, Tryz.isAgg81, Tryz.zeroValue81, (by kernel_rfl), pM.1, pM.2.1, pM.2.2.1, pM.2.2.2, (by kernel_rfl), pIM.1, pIM.2.1, pIM.2.2.1, pIM.2.2.2, Tryz.underlying158, Tryz.runUnderlying158, Tryz.sizeOf158, Tryz.isAgg158, Tryz.zeroValue158, Tryz.underlying160, Tryz.runUnderlying160, Tryz.sizeOf160, Tryz.isAgg160, Tryz.zeroValue160, Tryz.underlying74, Tryz.runUnderlying74, Tryz.sizeOf74, Tryz.isAgg74, Tryz.zeroValue74, Tryz.underlying21, Tryz.runUnderlying21, Tryz.sizeOf21, Tryz.isAgg21, Tryz.zeroValue21, (by kernel_rfl)⟩

/-- '(*sync/atomic.Bool).Store(true)', entered as a deferred call -/
theorem store_deferred (a : Addr) (x : Value) (u : FrameMode) (w : World) (hc : w.cell? a = some x) (hz : w.frozen? a = false) :
    CallsD Tryz.prog 92 #[.pointer (some a), .bool true] u w fun e u' w' => u' = u ∧ (e = .returned (.tuple #[]) ∧ w' = w.drew.setCell a (.int .u32 1)) := by
  have hc' : w.drew.cell? a = some x := by go_simp
  have hz' : w.drew.frozen? a = false := by go_simp
  have hst := run_call_store (P := Tryz.prog) Tryz.func100 (by kernel_rfl) (by kernel_rfl) (by kernel_rfl) (by kernel_rfl) (k := .u32) (y := 1) hc' hz'
  go_enter_d Tryz.func92, Tryz.ntmps92
  go_wp2
  go_region_calls
  all_goals (go_end0; exact ⟨rfl, rfl⟩)

/-- what a world must have of a Once: its word and its lock -/
structure OnceAt (w : World) (b off : Nat) (d m : Int) : Prop where
  done : w.cell? ⟨b, off, none⟩ = some (.int .u32 d)
  lock : w.cell? ⟨b, off + 1, none⟩ = some (.int .i32 m)
  fdone : w.frozen? ⟨b, off, none⟩ = false
  flock : w.frozen? ⟨b, off + 1, none⟩ = false

/-- '(*sync.Once).Do', done already -/
theorem do_done (b off : Nat) (fv : Value) (m : Int) (w : World) (h : OnceAt w b off 1 m) :
    Calls Tryz.prog 62 #[.pointer (some ⟨b, off, none⟩), fv] w fun e w' => e = .returned (.tuple #[]) ∧ w' = w := by
  have hl := run_call_load (P := Tryz.prog) Tryz.func89 (by kernel_rfl) (by kernel_rfl) (by kernel_rfl) .u32 (by kernel_rfl) h.done
  have hnot : ∀ (x : Bool) (w : World), (Op.unary .not (.bool x)).run Tryz.prog w = .ok (.bool (!x)) w := fun _ _ => rfl
  go_enter Tryz.func62, Tryz.ntmps62
  go_wp2
  go_end0
  exact ⟨rfl, rfl⟩
end Go.Proofs.YtgcdnhjjoidpmaaGreatDoor
/- sync.Once's slow road with a method, by that method's contract. -/
namespace Go.Proofs.YtgcdnhjjoidpmaaGreatDoor
open Go.MuLone

set_option maxRecDepth 100000 in
set_option maxHeartbeats 1600000 in
theorem slow_any (b off : Nat) (rv : Value) (w : World) (h : OnceAt w b off 0 0) (R : World → Prop)
    (hF : Calls Tryz.prog 81 #[rv] (w.setCell ⟨b, off + 1, none⟩ (.int .i32 1)) fun e w' => e = .returned (.tuple #[]) ∧ R w') (hR : ∀ w', R w' → OnceAt w' b off 0 1) :
    Calls Tryz.prog 80 #[.pointer (some ⟨b, off, none⟩), .func (.func 81) #[rv] #[]] w fun e w' => e = .returned (.tuple #[]) ∧
      ∃ w1, R w1 ∧ w' = (w1.drew.setCell ⟨b, off, none⟩ (.int .u32 1)).setCell ⟨b, off + 1, none⟩ (.int .i32 0) := by
  have hl := run_call_load (P := Tryz.prog) Tryz.func89 (by kernel_rfl) (by kernel_rfl) (by kernel_rfl) .u32 (by kernel_rfl) (w := w.setCell ⟨b, off + 1, none⟩ (.int .i32 1)) (a := ⟨b, off, none⟩) (x := 0) ((World.cell?_setCell_other _ ⟨b, off + 1, none⟩ ⟨b, off, none⟩ _ (by simp)).trans h.done)
  have hnot : ∀ (x : Bool) (w : World), (Op.unary .not (.bool x)).run Tryz.prog w = .ok (.bool (!x)) w := fun _ _ => rfl
  have HR := Lib.hid hR
  have HF := Lib.hid hF
  have H := Lib.hid h
  clear hR hF h
  go_enter_defers Tryz.func80, Tryz.ntmps80
  go_wp2_with (first | (go_at_call 90; refine (lock_free muLib ⟨b, off + 1, none⟩ _ H.out.lock H.out.flock).mono ?_; rintro e w' ⟨rfl, rfl⟩) | (go_at_call 79; go_in) | (go_at_call 81; refine HF.out.mono ?_; rintro e w' ⟨rfl, hw⟩; have HW := Lib.hid hw; clear hw))
  have h1 := HR.out _ HW.out
  -- the door: two deferred calls, the last laid first
  refine leaves_cons (f := 92) (args := #[.pointer (some ⟨b, off, none⟩), .bool true]) (by simp) (by simp [go_sem]) ?_
  refine (store_deferred ⟨b, off, none⟩ (.int .u32 0) .returning _ h1.done h1.fdone).mono ?_
  rintro e u' w'' ⟨rfl, rfl, rfl⟩
  refine leaves_cons (f := 91) (args := #[.pointer (some ⟨b, off + 1, none⟩)]) (by simp [settle]) (by simp [go_sem]) ?_
  refine (unlock_deferred muLib ⟨b, off + 1, none⟩ _ _ ?_ (by simp [h1.flock])).mono ?_
  · refine (World.cell?_setCell_other _ ⟨b, off, none⟩ ⟨b, off + 1, none⟩ _ (by simp)).trans ?_
    rw [World.cell?_drew]
    exact h1.lock
  rintro e u' w'' ⟨rfl, rfl, rfl⟩
  exact ⟨_, results_none rfl _ _ _, rfl, w', HW.out, rfl⟩

/-- '(*sync.Once).Do', not yet done, the lock free -/
theorem do_first (b off : Nat) (rv : Value) (w : World) (h : OnceAt w b off 0 0) (R : World → Prop)
    (hF : Calls Tryz.prog 81 #[rv] (w.setCell ⟨b, off + 1, none⟩ (.int .i32 1)) fun e w' => e = .returned (.tuple #[]) ∧ R w') (hR : ∀ w', R w' → OnceAt w' b off 0 1) :
    Calls Tryz.prog 62 #[.pointer (some ⟨b, off, none⟩), .func (.func 81) #[rv] #[]] w fun e w' => e = .returned (.tuple #[]) ∧
      ∃ w1, R w1 ∧ w' = (w1.drew.setCell ⟨b, off, none⟩ (.int .u32 1)).setCell ⟨b, off + 1, none⟩ (.int .i32 0) := by
  have hl := run_call_load (P := Tryz.prog) Tryz.func89 (by kernel_rfl) (by kernel_rfl) (by kernel_rfl) .u32 (by kernel_rfl) h.done
  have hnot : ∀ (x : Bool) (w : World), (Op.unary .not (.bool x)).run Tryz.prog w = .ok (.bool (!x)) w := fun _ _ => rfl
  have HS := Lib.hid (slow_any b off rv w h R hF hR)
  clear hR hF h
  go_enter Tryz.func62, Tryz.ntmps62
  go_wp2_with (first | (go_at_call 80; refine HS.out.mono ?_; rintro e w' ⟨rfl, hw⟩; have HW := Lib.hid hw; clear hw) | (go_at_call 79; go_in))
  go_end0
  exact ⟨rfl, HW.out⟩
end Go.Proofs.YtgcdnhjjoidpmaaGreatDoor
/- Contracts of package aes: the key in memory; words of the schedule. -/
namespace Go.Proofs.YtgcdnhjjoidpmaaGreatDoor
open Go.RowKit

/-- a key in block g -/
structure KeyMem (w : World) (g n : Nat) (d m : Int) (S B U D : Nat → Nat) : Prop where
  words : w.cell? ⟨g, 0, none⟩ = some (.int .i64 (n : Nat))
  sch : Arr w g 1 240 S
  once : OnceAt w g 241 d m
  box : Arr w g 244 256 B
  unbox : Arr w g 500 256 U
  dbl : Arr w g 756 256 D
namespace KeyMem
variable {w w' : World} {g n : Nat} {d m : Int} {S B U D : Nat → Nat}
theorem lt (h : KeyMem w g n d m S B U D) : g < w.heap.size := block_lt h.words
theorem of_block (h : KeyMem w g n d m S B U D) (e : w'.heap[g]? = w.heap[g]?) : KeyMem w' g n d m S B U D :=
  ⟨(World.cell?_of_block e).trans h.words, h.sch.of_block e, ⟨(World.cell?_of_block e).trans h.once.done, (World.cell?_of_block e).trans h.once.lock, (World.frozen?_of_block e).trans h.once.fdone, (World.frozen?_of_block e).trans h.once.flock⟩,
    h.box.of_block e, h.unbox.of_block e, h.dbl.of_block e⟩
theorem keep (h : KeyMem w g n d m S B U D) (hb : Below w.heap.size w w') : KeyMem w' g n d m S B U D := h.of_block (hb.block g h.lt)
theorem chg {K : Nat} (h : KeyMem w g n d m S B U D) (hc : Chg K w w') (hK : g ≠ K) : KeyMem w' g n d m S B U D := h.of_block (hc.block g h.lt hK)
theorem congr {S' B' U' D' : Nat → Nat} (h : KeyMem w g n d m S B U D) (h1 : ∀ j, j < 240 → S j = S' j) (h2 : ∀ j, j < 256 → B j = B' j) (h3 : ∀ j, j < 256 → U j = U' j) (h4 : ∀ j, j < 256 → D j = D' j) : KeyMem w g n d m S' B' U' D' :=
  ⟨h.words, h.sch.congr h1, h.once, h.box.congr h2, h.unbox.congr h3, h.dbl.congr h4⟩
theorem cell_apart {w : World} {g k j : Nat} (hkj : k ≠ j) (v : Value) : (w.setCell ⟨g, k, none⟩ v).cell? ⟨g, j, none⟩ = w.cell? ⟨g, j, none⟩ :=
  World.cell?_setCell_other w ⟨g, k, none⟩ ⟨g, j, none⟩ v (fun e => hkj (congrArg Addr.off e))
theorem once_apart {w : World} {g o k : Nat} {d m : Int} (h : OnceAt w g o d m) (h1 : k ≠ o) (h2 : k ≠ o + 1) (v : Value) : OnceAt (w.setCell ⟨g, k, none⟩ v) g o d m :=
  ⟨(cell_apart h1 v).trans h.done, (cell_apart h2 v).trans h.lock, by rw [World.frozen?_setCell]; exact h.fdone, by rw [World.frozen?_setCell]; exact h.flock⟩
theorem setSch (h : KeyMem w g n d m S B U D) {i k : Nat} (hi : i < 240) (hk : k = 1 + i) (x : Nat) {v : Value} (hv : v = .int .u8 (x : Nat)) : KeyMem (w.setCell ⟨g, k, none⟩ v) g n d m (fun j => if j = i then x else S j) B U D :=
  ⟨(cell_apart (by omega) v).trans h.words, h.sch.set hi hk x hv, once_apart h.once (by omega) (by omega) v, h.box.setApart (by omega) v, h.unbox.setApart (by omega) v, h.dbl.setApart (by omega) v⟩
theorem setBox (h : KeyMem w g n d m S B U D) {i k : Nat} (hi : i < 256) (hk : k = 244 + i) (x : Nat) {v : Value} (hv : v = .int .u8 (x : Nat)) : KeyMem (w.setCell ⟨g, k, none⟩ v) g n d m S (fun j => if j = i then x else B j) U D :=
  ⟨(cell_apart (by omega) v).trans h.words, h.sch.setApart (by omega) v, once_apart h.once (by omega) (by omega) v, h.box.set hi hk x hv, h.unbox.setApart (by omega) v, h.dbl.setApart (by omega) v⟩
theorem setUnbox (h : KeyMem w g n d m S B U D) {i k : Nat} (hi : i < 256) (hk : k = 500 + i) (x : Nat) {v : Value} (hv : v = .int .u8 (x : Nat)) : KeyMem (w.setCell ⟨g, k, none⟩ v) g n d m S B (fun j => if j = i then x else U j) D :=
  ⟨(cell_apart (by omega) v).trans h.words, h.sch.setApart (by omega) v, once_apart h.once (by omega) (by omega) v, h.box.setApart (by omega) v, h.unbox.set hi hk x hv, h.dbl.setApart (by omega) v⟩
theorem setDbl (h : KeyMem w g n d m S B U D) {i k : Nat} (hi : i < 256) (hk : k = 756 + i) (x : Nat) {v : Value} (hv : v = .int .u8 (x : Nat)) : KeyMem (w.setCell ⟨g, k, none⟩ v) g n d m S B U (fun j => if j = i then x else D j) :=
  ⟨(cell_apart (by omega) v).trans h.words, h.sch.setApart (by omega) v, once_apart h.once (by omega) (by omega) v, h.box.setApart (by omega) v, h.unbox.setApart (by omega) v, h.dbl.set hi hk x hv⟩
theorem setLock (h : KeyMem w g n d m S B U D) (m' : Int) {v : Value} (hv : v = .int .i32 m') : KeyMem (w.setCell ⟨g, 242, none⟩ v) g n d m' S B U D := by
  subst hv
  exact ⟨(cell_apart (by omega) _).trans h.words, h.sch.setApart (by omega) _, ⟨(cell_apart (by omega) _).trans h.once.done, World.cell?_setCell_same w ⟨g, 242, none⟩ _ h.once.lock, by rw [World.frozen?_setCell]; exact h.once.fdone, by rw [World.frozen?_setCell]; exact h.once.flock⟩,
    h.box.setApart (by omega) _, h.unbox.setApart (by omega) _, h.dbl.setApart (by omega) _⟩
theorem setDone (h : KeyMem w g n d m S B U D) (d' : Int) {v : Value} (hv : v = .int .u32 d') : KeyMem (w.setCell ⟨g, 241, none⟩ v) g n d' m S B U D := by
  subst hv
  exact ⟨(cell_apart (by omega) _).trans h.words, h.sch.setApart (by omega) _, ⟨World.cell?_setCell_same w ⟨g, 241, none⟩ _ h.once.done, (cell_apart (by omega) _).trans h.once.lock, by rw [World.frozen?_setCell]; exact h.once.fdone, by rw [World.frozen?_setCell]; exact h.once.flock⟩,
    h.box.setApart (by omega) _, h.unbox.setApart (by omega) _, h.dbl.setApart (by omega) _⟩
theorem drew (h : KeyMem w g n d m S B U D) : KeyMem w.drew g n d m S B U D := h.of_block rfl
theorem drewN (h : KeyMem w g n d m S B U D) (k : Nat) : KeyMem (w.drewN k) g n d m S B U D := h.of_block rfl
theorem alloc (h : KeyMem w g n d m S B U D) (o : Obj) : KeyMem (w.alloc o) g n d m S B U D := h.keep ((Below.refl _ _).alloc (Nat.le_refl _) o)
end KeyMem

theorem last_any (g n : Nat) (w : World) (hn : n ≤ 8) (hw : w.cell? ⟨g, 0, none⟩ = some (.int .i64 (n : Nat))) :
    Calls Tryz.prog 83 #[.pointer (some ⟨g, 0, none⟩)] w fun e w' => e = .returned (.int .i64 ((n + 6 : Nat) : Int)) ∧ w = w' := by
  go_enter Tryz.func83, Tryz.ntmps83
  go_wp2
  go_ret
  exact ⟨ret_int (by omega), rfl⟩

theorem size88 : (Tryz.prog.info? 153).map (·.size) = some 4 := by kernel_rfl
theorem size65 : (Tryz.prog.info? 130).map (·.size) = some 16 := by kernel_rfl
set_option maxRecDepth 100000 in
set_option maxHeartbeats 800000 in
theorem word_any (g i : Nat) (S : Nat → Nat) (w : World) (hi : i < 60) (hS : Arr w g 1 240 S) :
    Calls Tryz.prog 105 #[.pointer (some ⟨g, 0, none⟩), .int .i64 (i : Nat)] w fun e w' => e = .returned (aggB 4 (fun j => S (4 * i + j))) ∧ Below w.heap.size w w' := by
  have hsl := sl_arr 126 240 g 1 (4 * i) (4 * i + 4) Tryz.underlying126 (by omega) (by omega) (by omega) ((i : Int) * 4) (((i : Int) + 1) * 4) (by omega) (by omega)
  rw [show 4 * i + 4 - 4 * i = 4 by omega] at hsl
  have hpa := to_arr 153 4 5 Tryz.underlying153 (some ⟨g, 1 + 4 * i, none⟩) 4 (240 - 4 * i) (Nat.le_refl _)
  have HL := Lib.hid ((hS.alloc (.cells #[.int .u8 0, .int .u8 0, .int .u8 0, .int .u8 0] 153)).sub (a := 4 * i) (m := 4) (by omega) rfl)
  have HN := Lib.hid (arr_made w #[.int .u8 0, .int .u8 0, .int .u8 0, .int .u8 0] 153 4 (fun _ => 0) rfl)
  have HB := Lib.hid ((Chg.refl w.heap.size w).alloc (.cells #[.int .u8 0, .int .u8 0, .int .u8 0, .int .u8 0] 153))
  clear hS
  go_enter Tryz.func105, Tryz.ntmps105
  go_wp2_with (first | (refine wpList_loadB rfl 153 (.tmp 14) rfl g (1 + 4 * i) 4 rfl _ HL.out _ Tryz.underlying153 rfl size88 ?_) | (refine wpList_storeB rfl 153 (.tmp 4) (.tmp 15) rfl w.heap.size 0 4 _ _ rfl rfl HN.out size88 ?_; intro w2 h1 h2; have HR := Lib.hid h1; have HC := Lib.hid h2; clear h1 h2))
  exact bodyPost_ret (results_cellB rfl _ _ w.heap.size 0 4 _ rfl HR.out _ Tryz.underlying153 rfl size88) rfl ⟨rfl, (HB.out.trans HC.out).below (Nat.le_refl _) (Nat.le_refl _)⟩

/-- the words' bytes, by the box -/
theorem boxed_any (g : Nat) (B f : Nat → Nat) (w : World) (hB : Arr w g 244 256 B) (hf : By 4 f) :
    Calls Tryz.prog 106 #[.pointer (some ⟨g, 0, none⟩), aggB 4 f] w fun e w' => e = .returned (aggB 4 (fun j => B (f j))) ∧ Below w.heap.size w w' := by
  have HF := Lib.hid hf
  have HBX := Lib.hid ((hB.alloc (.cells (bytesL 4 f).toArray 153)).alloc (.cells #[.int .u8 0, .int .u8 0, .int .u8 0, .int .u8 0] 153))
  have HL := Lib.hid ((arr_made w _ 153 4 f rfl).alloc (.cells #[.int .u8 0, .int .u8 0, .int .u8 0, .int .u8 0] 153))
  have HN := Lib.hid (arr_made (w.alloc (.cells (bytesL 4 f).toArray 153)) #[.int .u8 0, .int .u8 0, .int .u8 0, .int .u8 0] 153 4 (fun _ => 0) rfl)
  have HC := Lib.hid (((Below.refl w.heap.size w).alloc (Nat.le_refl _) (.cells (bytesL 4 f).toArray 153)).alloc (by simp) (.cells #[.int .u8 0, .int .u8 0, .int .u8 0, .int .u8 0] 153))
  have hs1 : (w.alloc (.cells (bytesL 4 f).toArray 153)).heap.size = w.heap.size + 1 := by simp
  rw [hs1] at HN
  have HG := Lib.hid (hB.lt (by decide))
  clear hf hB hs1
  go_enter Tryz.func106, Tryz.ntmps106
  go_wp2_with ((refine wpList_loadB rfl 153 (.tmp 3) rfl w.heap.size 0 4 rfl _ HL.out _ Tryz.underlying153 rfl size88 ?_))
  generalize hW : (w.alloc (.cells (bytesL 4 f).toArray 153)).alloc (.cells #[.int .u8 0, .int .u8 0, .int .u8 0, .int .u8 0] 153) = W at *
  clear hW
  go_wp2_with fail
  go_loopw [8] (fun i wr => ∃ k : Nat, k ≤ 4 ∧ i = .int .i64 k ∧ Arr wr w.heap.size 0 4 (fun j => if j < k then B (f j) else f j) ∧ Arr wr (w.heap.size + 1) 0 4 (fun _ => 0) ∧ Arr wr g 244 256 B ∧ Below w.heap.size w wr) (fun i _ => 4 - (intOf i).toNat)
  case atStart => exact ⟨0, by decide, rfl, HL.out, HN.out, HBX.out, HC.out⟩
  case round =>
    obtain ⟨k, hk, rfl, h1, h2, h3, h4⟩ := hrel
    have H1 := Lib.hid h1
    have H2 := Lib.hid h2
    have H3 := Lib.hid h3
    have H4 := Lib.hid h4
    clear h1 h2 h3 h4
    by_cases hlt : k < 4
    · have hfk := HF.out k hlt
      obtain ⟨x, hx⟩ : ∃ x, f k = x := ⟨_, rfl⟩
      have hix := index_arr 153 4 f k x Tryz.underlying153 hlt hx
      rw [hx] at hfk
      have hc1 := H3.out.cell hfk rfl
      have hc2 := H1.out.cell hlt (Nat.zero_add k).symm
      have hf2 := H1.out.frozen hlt (Nat.zero_add k).symm
      rw [if_neg (Nat.lt_irrefl k), hx] at hc2
      have HX := Lib.hid hx
      clear hx
      go_wp2_with fail
      have hn2 : w.heap.size + 1 ≠ w.heap.size := by omega
      go_roundw
      case rel => exact ⟨k + 1, by omega, by go_num, (H1.out.set hlt (Nat.zero_add k).symm (B x) rfl).congr fun j _ => by
          by_cases e : j = k
          · subst e; rw [if_pos rfl, if_pos (Nat.lt_succ_self _), HX.out]
          · rw [if_neg e]
            by_cases h : j < k
            · rw [if_pos h, if_pos (by omega)]
            · rw [if_neg h, if_neg (by omega)], H2.out.setOther hn2 _, H3.out.setOther (Nat.ne_of_lt HG.out) _, H4.out.setCell (p := ⟨w.heap.size, k, none⟩) (Nat.le_refl _) _⟩
      case measure => simp [intOf]; omega
    · obtain rfl : k = 4 := by omega
      have HR := Lib.hid (H1.out.congr (f := fun j => B (f j)) fun j hj => by rw [if_pos hj])
      go_wp2_with (first | (refine wpList_loadB rfl 153 (.tmp 3) rfl w.heap.size 0 4 rfl _ HR.out _ Tryz.underlying153 rfl size88 ?_) | (refine wpList_storeB rfl 153 (.tmp 4) (.tmp 21) rfl (w.heap.size + 1) 0 4 _ _ rfl rfl H2.out size88 ?_; intro w2 h1 h2; have HR2 := Lib.hid h1; have HC2 := Lib.hid h2; clear h1 h2))
      exact bodyPost_ret (results_cellB rfl _ _ (w.heap.size + 1) 0 4 _ rfl HR2.out _ Tryz.underlying153 rfl size88) rfl ⟨rfl, H4.out.trans (HC2.out.below H4.out.size (Nat.le_succ _))⟩
end Go.Proofs.YtgcdnhjjoidpmaaGreatDoor
/- Contracts of package aes: one word more of the schedule. -/
namespace Go.Proofs.YtgcdnhjjoidpmaaGreatDoor
open Go.RowKit

theorem aggB4 (f : Nat → Nat) : aggB 4 f = .agg #[.int .u8 (f 0 : Nat), .int .u8 (f 1 : Nat), .int .u8 (f 2 : Nat), .int .u8 (f 3 : Nat)] := rfl
/-- the schedule with word i put in -/
def putW (n i : Nat) (S : Nat → Nat) (x : Nat) : Nat := if x / 4 = i then nxt n S i (x % 4) else S x
/-- behind j bytes of word i -/
def putWj (n i j : Nat) (S : Nat → Nat) (x : Nat) : Nat := if x / 4 = i ∧ x % 4 < j then nxt n S i (x % 4) else S x
theorem putWj_zero (n i : Nat) (S : Nat → Nat) (x : Nat) : S x = putWj n i 0 S x := by unfold putWj; rw [if_neg (by omega)]
theorem putWj_four (n i : Nat) (S : Nat → Nat) (x : Nat) : putWj n i 4 S x = putW n i S x := by
  unfold putWj putW
  by_cases h : x / 4 = i
  · rw [if_pos ⟨h, by omega⟩, if_pos h]
  · rw [if_neg (fun e => h e.1), if_neg h]
theorem putWj_step (n i j : Nat) (S : Nat → Nat) (hj : j < 4) (x : Nat) : (if x = 4 * i + j then nxt n S i j else putWj n i j S x) = putWj n i (j + 1) S x := by
  unfold putWj
  by_cases h : x = 4 * i + j
  · rw [if_pos h, if_pos (by omega), show x % 4 = j by omega]
  · rw [if_neg h]
    by_cases h2 : x / 4 = i ∧ x % 4 < j
    · rw [if_pos h2, if_pos (by omega)]
    · rw [if_neg h2, if_neg (by omega)]
theorem kt_by {n i j : Nat} {S : Nat → Nat} (hn : 0 < n) (hi : n ≤ i) (hj : j < 4) (h : By (4 * i) S) : kt n S i j < 256 := by
  unfold kt
  split
  · refine xor8 (box_lt (h _ (by omega))) ?_
    split
    · exact gpow_lt (by decide) _
    · decide
  · split
    · exact box_lt (h _ (by omega))
    · exact h _ (by omega)
set_option maxHeartbeats 1600000 in
theorem make_any (g n i : Nat) (m : Int) (S U D : Nat → Nat) (w : World) (hn : n = 4 ∨ n = 8) (hi : n ≤ i) (hi2 : i < 60) (hS : By 240 S) (hk : KeyMem w g n 0 m S box U D) :
    Calls Tryz.prog 95 #[.pointer (some ⟨g, 0, none⟩), .int .i64 (i : Nat)] w fun e w' => e = .returned (.tuple #[]) ∧ KeyMem w' g n 0 m (putW n i S) box U D ∧ Chg g w w' := by
  have HW1 := Lib.hid fun i1 (h : i = i1 + 1) => word_any g i1 S w (by omega) hk.sch
  have HK := Lib.hid hk
  have HS := Lib.hid hS
  have HG := Lib.hid hk.lt
  obtain ⟨i1, hi1⟩ : ∃ i1, i = i1 + 1 := ⟨i - 1, by omega⟩
  obtain ⟨i2, hi3⟩ : ∃ i2, i = i2 + n := ⟨i - n, by omega⟩
  have HI1 := Lib.hid hi1
  have HI2 := Lib.hid hi3
  have hs1 : (i : Int) - 1 = (i1 : Nat) := by omega
  have hs2 : (i : Int) - (n : Nat) = (i2 : Nat) := by omega
  have hn4 : (4 : Int) ≤ (n : Nat) := by omega
  have hn8 : ((n : Nat) : Int) ≤ 8 := by omega
  have hn0 : ¬ ((n : Nat) : Int) = 0 := by omega
  have hway : ((((i : Int) % (n : Nat) == 0) = false ∧ ((n : Int) == 8) = false ∧ ∀ j, kt n S i j = S (4 * i1 + j)) ∨ (((i : Int) % (n : Nat) == 0) = false ∧ ((n : Int) == 8) = true ∧ ((i : Int) % 8 == 4) = false ∧ ∀ j, kt n S i j = S (4 * i1 + j))) ∨
      (((i : Int) % (n : Nat) == 0) = false ∧ ((n : Int) == 8) = true ∧ ((i : Int) % 8 == 4) = true ∧ ∀ j, kt n S i j = box (S (4 * i1 + j))) ∨
      (((i : Int) % (n : Nat) == 0) = true ∧ ∀ j, kt n S i j = box (S (4 * i1 + (j + 1) % 4)) ^^^ (if j = 0 then gpow 2 (i / n - 1) else 0)) := by
    have e1 : i - 1 = i1 := by omega
    by_cases hm : i % n = 0
    · right; right
      refine ⟨by rw [beq_iff_eq]; omega, fun j => ?_⟩
      unfold kt
      rw [if_pos hm, e1]
    · have hm' : ((i : Int) % (n : Nat) == 0) = false := by rw [beq_eq_false_iff_ne]; omega
      by_cases h8 : n = 8
      · have h8' : ((n : Int) == 8) = true := by rw [beq_iff_eq]; omega
        by_cases h4 : i % 8 = 4
        · right; left
          refine ⟨hm', h8', by rw [beq_iff_eq]; omega, fun j => ?_⟩
          unfold kt
          rw [if_neg hm, if_pos ⟨h8, h4⟩, e1]
        · left; right
          refine ⟨hm', h8', by rw [beq_eq_false_iff_ne]; omega, fun j => ?_⟩
          unfold kt
          rw [if_neg hm, if_neg (fun e => h4 e.2), e1]
      · left; left
        refine ⟨hm', by rw [beq_eq_false_iff_ne]; omega, fun j => ?_⟩
        unfold kt
        rw [if_neg hm, if_neg (fun e => h8 e.1), e1]
  have HN := Lib.hid hn
  clear hk hS hi1 hi3 hn
  go_enter Tryz.func95, Tryz.ntmps95
  go_wp2_with fail
  refine (HW1.out i1 HI1.out).mono ?_
  rintro e w1 ⟨rfl, hb1⟩
  have HK1 := Lib.hid (HK.out.keep hb1)
  have HB1 := Lib.hid hb1
  clear hb1
  have HA1 := Lib.hid (arr_made w1 #[.int .u8 0, .int .u8 0, .int .u8 0, .int .u8 0] 153 4 (fun _ => 0) rfl)
  have HTB := Lib.hid (Nat.ne_of_lt HK1.out.lt)
  generalize htb : w1.heap.size = tb at HTB
  have HTE := Lib.hid htb
  clear htb
  rcases hway with (⟨ht1, ht2, ht3⟩ | ⟨ht1, ht2, ht4, ht3⟩) | ⟨ht1, ht2, ht4, ht3⟩ | ⟨ht1, ht3⟩
  all_goals
    have HKT := Lib.hid ht3
    clear ht3
  focus
    -- each way ends in the same facts: w2, its word tb
    go_wp2_with ((refine wpList_storeB rfl 153 (.tmp 4) (.tmp 10) rfl w1.heap.size 0 4 _ _ rfl rfl HA1.out size88 ?_; intro w2 h1 h2; have HR2 := Lib.hid h1; have HC2 := Lib.hid h2; clear h1 h2; have HK2 := Lib.hid ((HK1.out.alloc _).chg HC2.out (Nat.ne_of_lt HK1.out.lt)); have hw2 := HK2.out.words; have HB2 := Lib.hid (HB1.out.trans (((Chg.refl w1.heap.size w1).alloc _).trans HC2.out |>.below HB1.out.size HB1.out.size))))
    have HT := Lib.hid (HR2.out.congr (f := kt n S i) fun j _ => (HKT.out j).symm)
    rw [HTE.out] at HT ⊢
    have HB := HB2
    clear HR2 HC2 HA1 HK1 HB1 HKT HTE HB2 ht1 ht2
  rotate_left
  focus
    go_wp2_with ((refine wpList_storeB rfl 153 (.tmp 4) (.tmp 10) rfl w1.heap.size 0 4 _ _ rfl rfl HA1.out size88 ?_; intro w2 h1 h2; have HR2 := Lib.hid h1; have HC2 := Lib.hid h2; clear h1 h2; have HK2 := Lib.hid ((HK1.out.alloc _).chg HC2.out (Nat.ne_of_lt HK1.out.lt)); have hw2 := HK2.out.words; have HB2 := Lib.hid (HB1.out.trans (((Chg.refl w1.heap.size w1).alloc _).trans HC2.out |>.below HB1.out.size HB1.out.size))))
    have HT := Lib.hid (HR2.out.congr (f := kt n S i) fun j _ => (HKT.out j).symm)
    rw [HTE.out] at HT ⊢
    have HB := HB2
    clear HR2 HC2 HA1 HK1 HB1 HKT HTE HB2 ht1 ht2 ht4
  rotate_left
  focus
    go_wp2_with (first | (refine wpList_storeB rfl 153 (.tmp 4) (.tmp 10) rfl w1.heap.size 0 4 _ _ rfl rfl HA1.out size88 ?_; intro w2 h1 h2; have HR2 := Lib.hid h1; have HC2 := Lib.hid h2; clear h1 h2; have HK2 := Lib.hid ((HK1.out.alloc _).chg HC2.out (Nat.ne_of_lt HK1.out.lt)); have hw2 := HK2.out.words; have HB2 := Lib.hid (HB1.out.trans (((Chg.refl w1.heap.size w1).alloc _).trans HC2.out |>.below HB1.out.size HB1.out.size))) | (refine wpList_loadB rfl 153 (.tmp 4) rfl w1.heap.size 0 4 rfl _ HR2.out _ Tryz.underlying153 rfl size88 ?_))
    refine (boxed_any g box _ w2 HK2.out.box (fun j hj => HS.out _ (by have := HI1.out; omega))).mono ?_
    rintro e w3 ⟨rfl, hb3⟩
    have HK3 := Lib.hid (HK2.out.keep hb3)
    have HR3 := Lib.hid (HR2.out.keep hb3)
    have HB3 := Lib.hid (HB2.out.trans (hb3.mono HB2.out.size))
    clear hb3
    go_wp2_with ((refine wpList_storeB rfl 153 (.tmp 4) (.tmp 55) rfl w1.heap.size 0 4 _ _ rfl rfl HR3.out size88 ?_; intro w4 h1 h2; have HR4 := Lib.hid h1; have HC4 := Lib.hid h2; clear h1 h2; have HK4 := Lib.hid (HK3.out.chg HC4.out (Nat.ne_of_lt HK1.out.lt)); have hw4 := HK4.out.words; have HB4 := Lib.hid (HB3.out.trans (HC4.out.below HB3.out.size HB1.out.size))))
    have HT := Lib.hid (HR4.out.congr (f := kt n S i) fun j _ => (HKT.out j).symm)
    rw [HTE.out] at HT ⊢
    have HB := HB4
    clear HR2 HC2 HA1 HK1 HB1 HKT HTE HB2 HR3 HB3 HR4 HC4 HB4 HK2 HK3 ht1 ht2 ht4 hw2
    generalize w4 = w2 at *
    have HK2 := HK4
    clear HK4
  rotate_left
  focus
    go_wp2_with (first | ((refine wpList_storeB rfl 153 (.tmp 4) (.tmp 10) rfl w1.heap.size 0 4 _ _ rfl rfl HA1.out size88 ?_; intro w2 h1 h2; have HR2 := Lib.hid h1; have HC2 := Lib.hid h2; clear h1 h2; have HK2 := Lib.hid ((HK1.out.alloc _).chg HC2.out (Nat.ne_of_lt HK1.out.lt)); have hw2 := HK2.out.words; have HB2 := Lib.hid (HB1.out.trans (((Chg.refl w1.heap.size w1).alloc _).trans HC2.out |>.below HB1.out.size HB1.out.size))); have hc0 := HR2.out.cell (j := 0) (by decide) rfl; have hc1 := HR2.out.cell (j := 1) (by decide) rfl; have hc2 := HR2.out.cell (j := 2) (by decide) rfl; have hc3 := HR2.out.cell (j := 3) (by decide) rfl))
    refine (boxed_any g box (fun j => S (4 * i1 + (j + 1) % 4)) w2 HK2.out.box (fun j hj => HS.out _ (by have := HI1.out; omega))).mono ?_
    rintro e w3 ⟨rfl, hb3⟩
    have HK3 := Lib.hid (HK2.out.keep hb3)
    have HR3 := Lib.hid (HR2.out.keep hb3)
    have HB3 := Lib.hid (HB2.out.trans (hb3.mono HB2.out.size))
    clear hb3
    go_wp2_with ((refine wpList_storeB rfl 153 (.tmp 4) (.tmp 29) rfl w1.heap.size 0 4 _ _ rfl rfl HR3.out size88 ?_; intro w4 h1 h2; have HR4 := Lib.hid h1; have HC4 := Lib.hid h2; clear h1 h2; have HK4 := Lib.hid (HK3.out.chg HC4.out (Nat.ne_of_lt HK1.out.lt)); have hw4 := HK4.out.words; have HB4 := Lib.hid (HB3.out.trans (HC4.out.below HB3.out.size HB1.out.size)); have hd0 := HR4.out.cell (j := 0) (by decide) rfl; have hf0 := HR4.out.frozen (j := 0) (by decide) rfl))
    have hxl := box_lt (HS.out (4 * i1 + (0 + 1) % 4) (by have := HI1.out; omega))
    have HP0 := Lib.hid (show box (S (4 * i1 + (0 + 1) % 4)) ^^^ gpow 2 (i / n - 1) = kt n S i 0 by rw [HKT.out 0, if_pos rfl])
    have HPj := Lib.hid (show ∀ j, j ≠ 0 → box (S (4 * i1 + (j + 1) % 4)) = kt n S i j from fun j hj => by rw [HKT.out j, if_neg hj, Nat.xor_zero])
    have HR5 := Lib.hid (((HR4.out.set (k := 0) (i := 0) (by decide) rfl (box (S (4 * i1 + (0 + 1) % 4)) ^^^ gpow 2 (i / n - 1)) rfl).congr (f := kt n S i) fun j _ => by
      by_cases e : j = 0
      · subst e; rw [if_pos rfl, HP0.out]
      · rw [if_neg e, HPj.out j e]).drew)
    have HK5 := Lib.hid ((HK4.out.chg ((Chg.refl w1.heap.size w4).setCell (a := ⟨w1.heap.size, 0, none⟩) (Or.inl rfl) (.int .u8 ((box (S (4 * i1 + (0 + 1) % 4)) ^^^ gpow 2 (i / n - 1) : Nat) : Int))) (Nat.ne_of_lt HK1.out.lt)).drew)
    have HB5 := Lib.hid ((HB4.out.setCell (p := ⟨w1.heap.size, 0, none⟩) HB1.out.size (.int .u8 ((box (S (4 * i1 + (0 + 1) % 4)) ^^^ gpow 2 (i / n - 1) : Nat) : Int))).drew)
    obtain ⟨q, hq⟩ : ∃ q, i / n - 1 = q := ⟨_, rfl⟩
    rw [hq] at HR5 HK5 HB5
    have hdv : ((i / n : Nat) : Int) = (i : Int) / (n : Nat) := by simp
    have hq1 : 1 ≤ i / n := by
      rcases HN.out with h | h <;> subst h <;> omega
    have hq2 : i / n ≤ 60 := Nat.le_trans (Nat.div_le_self _ _) (by omega)
    have HE := Lib.hid (show IntKind.i64.wrap (wrap64 ((i : Int) / (n : Nat)) - 1) = (q : Nat) by
      rw [← hdv, show wrap64 ((i / n : Nat) : Int) = ((q + 1 : Nat) : Int) by unfold wrap64; omega, IntWalk.i64_in _ (by omega)]; omega)
    have hpl : gpow 2 q < 256 := gpow_lt (by decide) q
    have HPW := Lib.hid fun (t : Int) (ht : t = (q : Nat)) w => (show Calls Tryz.prog 107 #[.int .u8 2, .int .i64 t] w fun e w' => e = .returned (.int .u8 (gpow 2 q : Nat)) ∧ w = w' by subst ht; exact pow_any 2 (q : Nat) w (by decide) (by omega))
    generalize box (S (4 * i1 + (0 + 1) % 4)) = x at *
    generalize hgp : gpow 2 q = y at *
    have hx := x8 hxl hpl
    clear hdv hq1 hq2 hq hgp hc0 hc1 hc2 hc3
    go_region_with (go_at_call 107; refine (HPW.out _ HE.out _).mono ?_; rintro e w' ⟨rfl, rfl⟩)
    all_goals
      generalize hw2' : (w4.setCell ⟨w1.heap.size, 0, none⟩ (.int .u8 ((x ^^^ y : Nat) : Int))).drew = wc at *
      rw [HTE.out] at HR5 ⊢
      have HT := HR5
      have HB := HB5
      clear HR2 HC2 HA1 HK1 HB1 HKT HTE HB2 HR3 HB3 HR4 HC4 HB4 HK2 HK3 HK4 hw4 hf0 hd0 HPW HP0 HPj HR5 HB5 ht1 hw2 HE hx hw2' w4 w3 w2
      have HK2 := HK5
      clear HK5
      have hw2 := HK2.out.words
  all_goals
    go_wp2_with fail
    refine (word_any g i2 S _ (by omega) HK2.out.sch).mono ?_
    rintro e w3 ⟨rfl, hb3⟩
    have HK3 := Lib.hid ((HK2.out.keep hb3).alloc (.cells #[.int .u8 0, .int .u8 0, .int .u8 0, .int .u8 0] 153))
    have HT3 := Lib.hid ((HT.out.keep hb3).alloc (.cells #[.int .u8 0, .int .u8 0, .int .u8 0, .int .u8 0] 153))
    have HB3 := Lib.hid (((HB.out.trans (hb3.mono HB.out.size))).alloc (Nat.le_trans HB.out.size hb3.size) (.cells #[.int .u8 0, .int .u8 0, .int .u8 0, .int .u8 0] 153))
    have HA3 := Lib.hid (arr_made w3 #[.int .u8 0, .int .u8 0, .int .u8 0, .int .u8 0] 153 4 (fun _ => 0) rfl)
    have HL3 := Lib.hid (show tb < w3.heap.size ∧ g < w3.heap.size ∧ w.heap.size ≤ w3.heap.size from ⟨Nat.lt_of_lt_of_le (HT.out.lt (by decide)) hb3.size, Nat.lt_of_lt_of_le HK2.out.lt hb3.size, Nat.le_trans HB.out.size hb3.size⟩)
    clear hb3 HK2 HT HB
    go_wp2_with ((refine wpList_storeB rfl 153 (.tmp 5) (.tmp 63) rfl w3.heap.size 0 4 _ _ rfl rfl HA3.out size88 ?_; intro w4 h1 h2; have HO4 := Lib.hid h1; have HC4 := Lib.hid h2; clear h1 h2; have HK4 := Lib.hid (HK3.out.chg HC4.out (Nat.ne_of_lt HL3.out.2.1)); have HT4 := Lib.hid (HT3.out.chg HC4.out (Nat.ne_of_lt HL3.out.1)); have HB4 := Lib.hid (HB3.out.trans (HC4.out.below HB3.out.size HL3.out.2.2))))
    generalize hob : w3.heap.size = ob at *
    clear HC4 HA3 HB3 HT3 HK3
    go_loopw [64] (fun v wr => ∃ k : Nat, k ≤ 4 ∧ v = .int .i64 k ∧ KeyMem wr g n 0 m (putWj n i k S) box U D ∧ Arr wr tb 0 4 (kt n S i) ∧ Arr wr ob 0 4 (fun j => S (4 * i2 + j)) ∧ Chg g w wr) (fun v _ => 4 - (intOf v).toNat)
    case atStart => exact ⟨0, by decide, rfl, HK4.out.congr (fun j _ => putWj_zero n i S j) (fun _ _ => rfl) (fun _ _ => rfl) (fun _ _ => rfl), HT4.out, HO4.out, Chg.of_below HB4.out⟩
    case round =>
      obtain ⟨k, hk, rfl, h1, h2, h3, h4⟩ := hrel
      have H1 := Lib.hid h1
      have H2 := Lib.hid h2
      have H3 := Lib.hid h3
      have H4 := Lib.hid h4
      clear h1 h2 h3 h4
      by_cases hlt : k < 4
      · have hc1 := H2.out.cell hlt (Nat.zero_add k).symm
        have hc2 := H3.out.cell hlt (Nat.zero_add k).symm
        have hi4 : 4 * i + k < 240 := by omega
        have hc3 := H1.out.sch.cell hi4 (show 1 + (i * 4 + k) = 1 + (4 * i + k) by omega)
        have hf3 := H1.out.sch.frozen hi4 (show 1 + (i * 4 + k) = 1 + (4 * i + k) by omega)
        have hw5 : 1 + (i * 4 + k) = 1 + (4 * i + k) := by omega
        have HM5 := Lib.hid ((H1.out.setSch (k := 1 + (i * 4 + k)) hi4 (by omega) (S (4 * i2 + k) ^^^ kt n S i k) rfl).drew)
        have HC5 := Lib.hid ((H4.out.setCell (a := ⟨g, 1 + (i * 4 + k), none⟩) (Or.inl rfl) (.int .u8 ((S (4 * i2 + k) ^^^ kt n S i k : Nat) : Int))).drew)
        have HT5 := Lib.hid ((H2.out.setOther (a := ⟨g, 1 + (i * 4 + k), none⟩) HTB.out.symm (.int .u8 ((S (4 * i2 + k) ^^^ kt n S i k : Nat) : Int))).drew)
        have HO5 := Lib.hid ((H3.out.setOther (a := ⟨g, 1 + (i * 4 + k), none⟩) (Nat.ne_of_gt HL3.out.2.1) (.int .u8 ((S (4 * i2 + k) ^^^ kt n S i k : Nat) : Int))).drew)
        clear hw5
        have htl : kt n S i k < 256 := kt_by (by have := HN.out; omega) hi hlt (fun x hx => HS.out x (by omega))
        have hol : S (4 * i2 + k) < 256 := HS.out _ (by have := HI2.out; omega)
        have HX := Lib.hid (show S (4 * i2 + k) ^^^ kt n S i k = nxt n S i k by unfold nxt; rw [show i - n = i2 by have := HI2.out; omega])
        generalize kt n S i k = y at *
        generalize S (4 * i2 + k) = x at *
        have hx := x8 hol htl
        go_wp2_with fail
        go_region
        all_goals
          generalize (wr.setCell ⟨g, 1 + (i * 4 + k), none⟩ (.int .u8 ((x ^^^ y : Nat) : Int))).drew = W5 at *
          clear hc1 hc2 hc3 hf3
          go_wp2_with fail
          go_roundw
          case rel => exact ⟨k + 1, by omega, by go_num, HM5.out.congr (fun j _ => by rw [HX.out]; exact putWj_step n i k S hlt j) (fun _ _ => rfl) (fun _ _ => rfl) (fun _ _ => rfl), HT5.out, HO5.out, HC5.out⟩
          case measure => simp [intOf]; omega
      · obtain rfl : k = 4 := by omega
        go_wp2_with fail
        go_end0
        exact ⟨rfl, H1.out.congr (fun j _ => putWj_four n i S j) (fun _ _ => rfl) (fun _ _ => rfl) (fun _ _ => rfl), H4.out⟩
end Go.Proofs.YtgcdnhjjoidpmaaGreatDoor
