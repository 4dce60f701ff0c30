/- Unpack. -/
import Derived.Test.YtglajdedalikdaaDoorDigD
import Derived.Test.YtglajdedalikdaaDoorRowX
namespace Go.Proofs.YtglajdedalikdaaDoor
open Go.RowKit

/-- half t of bytes -/
def hb (bs : Nat → Nat) (t : Nat) : Nat := if t % 2 = 0 then bs (t / 2) / 16 else bs (t / 2) % 16
theorem hb_lt (bs : Nat → Nat) (t : Nat) (h : bs (t / 2) < 256) : hb bs t < 16 := by unfold hb; split <;> omega

theorem shr_and : ∀ x < 256, bits BinOp.and .u8 ((x : Nat) : Int) 15 = ((x % 16 : Nat) : Int) := by decide +kernel
theorem halfOf_any (B o cap n : Nat) (t : Nat) (bs : Nat → Nat) (w : World) (hn : t / 2 < n) (hn2 : n ≤ 281474976710656) (hx : bs (t / 2) < 256) (hc : w.cell? ⟨B, o + t / 2, none⟩ = some (.int .u8 (bs (t / 2) : Nat))) :
    Calls Tryd.prog 28 #[.slice (some ⟨B, o, none⟩) n cap, .int .i64 t] w fun e w' => e = .returned (.int .u8 (hb bs t : Nat)) ∧ w = w' := by
  have hbt := rfl (a := hb bs t)
  conv at hbt => rhs; unfold hb
  generalize bs (t / 2) = x at *
  obtain ⟨q, e1, hq⟩ : ∃ q : Nat, ((t : Nat) : Int).tdiv 2 = q ∧ q = t / 2 := ⟨t / 2, by rw [Int.tdiv_eq_ediv_of_nonneg (by omega)]; omega, rfl⟩
  rw [← hq] at hc hn
  have hn' : (q : Int) < n := by omega
  clear hq
  by_cases ht : t % 2 = 0
  · rw [if_pos ht] at hbt
    have HB := Lib.hid hbt
    have e2 : ((t : Nat) : Int).tmod 2 = 0 := by rw [Int.tmod_eq_emod_of_nonneg (by omega)]; omega
    clear ht hbt
    go_enter Tryd.func28, Tryd.ntmps28
    go_wp2
    go_ret
    exact ⟨by rw [HB.out]; rfl, rfl⟩
  · rw [if_neg ht] at hbt
    have HB := Lib.hid hbt
    have e2 : ((t : Nat) : Int).tmod 2 = 1 := by rw [Int.tmod_eq_emod_of_nonneg (by omega)]; omega
    have hand := shr_and x hx
    clear ht hbt
    go_enter Tryd.func28, Tryd.ntmps28
    go_wp2
    go_ret
    exact ⟨by rw [HB.out]; rfl, rfl⟩

theorem halfOf_int (B o cap n : Nat) (t : Int) (k : Nat) (bs : Nat → Nat) (w : World) (hk : t = k) (hn : k / 2 < n) (hn2 : n ≤ 281474976710656) (hx : bs (k / 2) < 256 ∧ w.cell? ⟨B, o + k / 2, none⟩ = some (.int .u8 (bs (k / 2) : Nat))) :
    Calls Tryd.prog 28 #[.slice (some ⟨B, o, none⟩) n cap, .int .i64 t] w fun e w' => e = .returned (.int .u8 (hb bs k : Nat)) ∧ w = w' := by
  subst hk; exact halfOf_any B o cap n k bs w hn hn2 hx.1 hx.2

/-- are the halves digits, and is the half ahead of an odd number of them 0? -/
def okB (bs : Nat → Nat) (n : Nat) : Bool := (n % 2 == 0 || hb bs 0 == 0) && (List.range n).all fun i => decide (hb bs (n % 2 + i) ≤ 9)
theorem okB_bad {bs : Nat → Nat} {n i : Nat} (h : i < n) (hb9 : ¬ hb bs (n % 2 + i) ≤ 9) : okB bs n = false := by
  unfold okB
  have : ((List.range n).all fun i => decide (hb bs (n % 2 + i) ≤ 9)) = false := by
    rw [List.all_eq_false]; exact ⟨i, List.mem_range.2 h, by simpa using hb9⟩
  rw [this, Bool.and_false]
theorem okB_lead {bs : Nat → Nat} {n : Nat} (h : n % 2 = 1) (h0 : ¬ hb bs 0 = 0) : okB bs n = false := by
  unfold okB
  have : (n % 2 == 0 || hb bs 0 == 0) = false := by simp [h0]; omega
  rw [this, Bool.false_and]
theorem okB_ok {bs : Nat → Nat} {n : Nat} (h : n % 2 = 0 ∨ hb bs 0 = 0) (ha : ∀ i, i < n → hb bs (n % 2 + i) ≤ 9) : okB bs n = true := by
  unfold okB
  have h1 : (n % 2 == 0 || hb bs 0 == 0) = true := by simpa using h
  have h2 : ((List.range n).all fun i => decide (hb bs (n % 2 + i) ≤ 9)) = true := by
    rw [List.all_eq_true]; intro i hi; simpa using ha i (List.mem_range.1 hi)
  rw [h1, h2]; rfl
def unpE (len : Nat) (bs : Nat → Nat) (n : Int) : Int := if n < 0 then 1 else if 999 < n then 2 else if len < (n.toNat + 1) / 2 then 3 else if okB bs n.toNat then 0 else 4
def unpV (len : Nat) (bs : Nat → Nat) (n : Int) : ByteArray := if unpE len bs n = 0 then strOf n.toNat (fun i => 48 + hb bs (n.toNat % 2 + i)) else ByteArray.empty
def unpU (len : Nat) (bs : Nat → Nat) (n : Int) : Int := if unpE len bs n = 0 then ((n.toNat + 1) / 2 : Nat) else 0
def unpR (len : Nat) (bs : Nat → Nat) (n : Int) : Ending := .returned (.tuple #[.string (unpV len bs n), .int .i64 (unpU len bs n), .int .i64 (unpE len bs n)])
theorem unpR_bad {len : Nat} {bs : Nat → Nat} {n x : Int} (h : unpE len bs n = x) (hx : x ≠ 0) : unpR len bs n = .returned (.tuple #[.string ByteArray.empty, .int .i64 0, .int .i64 x]) := by
  unfold unpR unpV unpU; rw [h, if_neg hx, if_neg hx]
theorem unpR_ok {len : Nat} {bs : Nat → Nat} {n : Nat} (h : unpE len bs n = 0) :
    unpR len bs n = .returned (.tuple #[.string (strOf n fun i => 48 + hb bs (n % 2 + i)), .int .i64 ((n + 1) / 2 : Nat), .int .i64 0]) := by
  unfold unpR unpV unpU; rw [h]; rfl
theorem ite_f {b : Bool} {x : Int} (h : x = if b then 0 else 4) (hb : b = false) : x = 4 := by subst hb; simpa using h
theorem ite_t {b : Bool} {x : Int} (h : x = if b then 0 else 4) (hb : b = true) : x = 0 := by subst hb; simpa using h
theorem unpE_inner {len : Nat} {bs : Nat → Nat} {n : Nat} (h9 : n ≤ 999) (hl : (n + 1) / 2 ≤ len) : unpE len bs n = if okB bs n then 0 else 4 := by
  unfold unpE; rw [if_neg (by omega), if_neg (by omega), if_neg (by simp only [Int.toNat_natCast]; omega)]; rfl

set_option maxHeartbeats 1600000 in
theorem unpack_in (B o cap len : Nat) (n : Nat) (bs : Nat → Nat) (w : World) (hl : len ≤ 281474976710656) (h9 : n ≤ 999) (h0 : 0 < n) (hfit : (n + 1) / 2 ≤ len)
    (hx : ∀ j, j < len → bs j < 256 ∧ w.cell? ⟨B, o + j, none⟩ = some (.int .u8 (bs j : Nat))) (hB : B < w.heap.size) :
    Calls Tryd.prog 12 #[.slice (some ⟨B, o, none⟩) len cap, .int .i64 n] w fun e w' => e = unpR len bs n ∧ Below w.heap.size w w' := by
  have HX := Lib.hid hx
  clear hx
  have HE := Lib.hid (unpE_inner (bs := bs) h9 hfit)
  obtain ⟨m, hm⟩ : ∃ m, m = (n + 1) / 2 := ⟨_, rfl⟩
  have HM := Lib.hid hm
  have HI := Lib.hid (show ((n : Int) + 1) / 2 = (m : Nat) by omega)
  obtain ⟨p, hp, hp'⟩ : ∃ p : Nat, (n : Int).tmod 2 = p ∧ n % 2 = p := ⟨n % 2, by rw [Int.tmod_eq_emod_of_nonneg (by omega)]; omega, rfl⟩
  have HP := Lib.hid hp'
  have hmk := mk8 n (by omega)
  have hml : (m : Int) ≤ len := by omega
  have hp2 : p ≤ 1 := by omega
  have hd1 : decide (len < m) = false := by rw [decide_eq_false_iff_not]; omega
  have hd2 : decide ((n : Int) < 0) = false := by rw [decide_eq_false_iff_not]; omega
  have hd3 : decide ((999 : Int) < n) = false := by rw [decide_eq_false_iff_not]; omega
  clear hm hp'
  by_cases hp1 : p = 1
  · subst hp1
    have hp0 : (n : Int).tmod 2 = 1 := hp
    clear hp
    have HC0 := Lib.hid (HX.out 0 (by omega))
    have hq0 := hb_lt bs 0 HC0.out.1
    by_cases hz : hb bs 0 = 0
    · have HZ0 := Lib.hid hz
      clear hz
      go_enter Tryd.func12, Tryd.ntmps12
      go_wp2_with (first | (go_at_call 26; refine (packedSize_any _ _ (by omega) (by omega)).mono ?_; rintro e w' ⟨rfl, rfl⟩; rw [HI.out]) | (go_at_call 28; refine (halfOf_int B o cap len _ 0 bs _ rfl (by omega) hl HC0.out).mono ?_; rintro e w' ⟨rfl, rfl⟩; rw [HZ0.out]))
      have HA := Lib.hid (show ∀ i, i < n → (1 + i) / 2 < m from fun i hi => by have := HM.out; have := HP.out; omega)
      go_loopw [34] (fun c wr => ∃ i : Nat, i ≤ n ∧ c = .int .i64 i ∧ (∀ j, j < i → hb bs (n % 2 + j) ≤ 9) ∧ wr.rowIs w.heap.size 5 n (fun j => .int .u8 (if j < i then 48 + hb bs (n % 2 + j) else 0 : Nat)) ∧ Below w.heap.size w wr) (fun c _ => n - (intOf c).toNat)
      case atStart => exact ⟨0, Nat.zero_le _, rfl, fun j hj => absurd hj (by omega), (World.rowIs_made w (.int .u8 0) n _).congr fun j hj => by rw [if_neg (by omega)]; rfl, (Below.refl _ _).alloc (Nat.le_refl _) _⟩
      case round =>
        obtain ⟨i, hi, rfl, hall, hrow, hb'⟩ := hrel
        have HL := Lib.hid hall
        have HR := Lib.hid hrow
        have HB := Lib.hid hb'
        clear hall hrow hb'
        by_cases hlt : i < n
        · have HC := Lib.hid (show bs ((1 + i) / 2) < 256 ∧ wr.cell? ⟨B, o + (1 + i) / 2, none⟩ = some (.int .u8 (bs ((1 + i) / 2) : Nat)) from by
            have h1 := HX.out ((1 + i) / 2) (by have := HA.out i hlt; omega)
            exact ⟨h1.1, (HB.out.cell (p := ⟨B, _, none⟩) hB).trans h1.2⟩)
          have hq16 := hb_lt bs (1 + i) HC.out.1
          have HQ := Lib.hid (show hb bs (n % 2 + i) = hb bs (1 + i) by rw [HP.out])
          obtain ⟨d, hd⟩ : ∃ d, hb bs (1 + i) = d := ⟨_, rfl⟩
          have HD := Lib.hid hd
          rw [hd] at hq16
          clear hd
          have hc := HR.out.cell hlt
          have hf := HR.out.frozen i
          rw [if_neg (Nat.lt_irrefl i)] at hc
          by_cases h9d : d ≤ 9
          · go_wp2_with (go_at_call 28; refine (halfOf_int B o cap len _ (1 + i) bs _ (by omega) (by have := HA.out i hlt; omega) hl HC.out).mono ?_; rintro e w' ⟨rfl, rfl⟩; rw [HD.out])
            go_roundw
            case rel =>
              exact ⟨i + 1, by omega, by go_num, fun j hj => by
                rcases Nat.lt_or_ge j i with h | h
                · exact HL.out j h
                · obtain rfl : j = i := by omega
                  rw [HQ.out, HD.out]; exact h9d, (HR.out.set i (.int .u8 (48 + (d : Int)))).congr fun j _ => by
                by_cases hj : j = i
                · subst hj; rw [if_pos rfl, if_pos (by omega), HQ.out, HD.out]; norm_cast
                · simp only [if_neg hj, show (j < i + 1) = (j < i) from propext ⟨by omega, by omega⟩], HB.out.setCell (Nat.le_refl _) _⟩
            case measure => simp [intOf]; omega
          · have h9' : (9 : Int) < d := by omega
            have HZ := Lib.hid (unpR_bad (ite_f HE.out (okB_bad hlt (by rw [HQ.out, HD.out]; exact h9d))) (by decide))
            go_wp2_with (go_at_call 28; refine (halfOf_int B o cap len _ (1 + i) bs _ (by omega) (by have := HA.out i hlt; omega) hl HC.out).mono ?_; rintro e w' ⟨rfl, rfl⟩; rw [HD.out])
            go_ret3
            exact ⟨HZ.out.symm, HB.out⟩
        · obtain rfl : i = n := by omega
          have HZ := Lib.hid (unpR_ok (ite_t HE.out (okB_ok (by right; exact HZ0.out) HL.out)))
          have hcv := convRow HR.out (fun j => 48 + hb bs (i % 2 + j)) (Nat.le_refl _) (fun j hj => by rw [if_pos hj])
          rw [← HM.out] at HZ
          go_wp2_with fail
          go_ret3
          exact ⟨HZ.out.symm, HB.out⟩
    · have HZ0 := Lib.hid (unpR_bad (ite_f HE.out (okB_lead HP.out hz)) (by decide))
      obtain ⟨x, hxx⟩ : ∃ x, hb bs 0 = x := ⟨_, rfl⟩
      have HX0 := Lib.hid hxx
      rw [hxx] at hz
      clear hxx
      have hz2 : (((x : Nat) : Int) != 0) = true := by simp; omega
      go_enter Tryd.func12, Tryd.ntmps12
      go_wp2_with (first | (go_at_call 26; refine (packedSize_any _ _ (by omega) (by omega)).mono ?_; rintro e w' ⟨rfl, rfl⟩; rw [HI.out]) | (go_at_call 28; refine (halfOf_int B o cap len _ 0 bs _ rfl (by omega) hl HC0.out).mono ?_; rintro e w' ⟨rfl, rfl⟩; rw [HX0.out]))
      go_ret3
      exact ⟨HZ0.out.symm, Below.refl _ _⟩
  · obtain rfl : p = 0 := by omega
    have hp0 : (n : Int).tmod 2 = 0 := hp
    clear hp
    go_enter Tryd.func12, Tryd.ntmps12
    go_wp2_with (first | (go_at_call 26; refine (packedSize_any _ _ (by omega) (by omega)).mono ?_; rintro e w' ⟨rfl, rfl⟩; rw [HI.out]))
    have HA := Lib.hid (show ∀ i, i < n → (0 + i) / 2 < m from fun i hi => by have := HM.out; have := HP.out; omega)
    go_loopw [34] (fun c wr => ∃ i : Nat, i ≤ n ∧ c = .int .i64 i ∧ (∀ j, j < i → hb bs (n % 2 + j) ≤ 9) ∧ wr.rowIs w.heap.size 5 n (fun j => .int .u8 (if j < i then 48 + hb bs (n % 2 + j) else 0 : Nat)) ∧ Below w.heap.size w wr) (fun c _ => n - (intOf c).toNat)
    case atStart => exact ⟨0, Nat.zero_le _, rfl, fun j hj => absurd hj (by omega), (World.rowIs_made w (.int .u8 0) n _).congr fun j hj => by rw [if_neg (by omega)]; rfl, (Below.refl _ _).alloc (Nat.le_refl _) _⟩
    case round =>
      obtain ⟨i, hi, rfl, hall, hrow, hb'⟩ := hrel
      have HL := Lib.hid hall
      have HR := Lib.hid hrow
      have HB := Lib.hid hb'
      clear hall hrow hb'
      by_cases hlt : i < n
      · have HC := Lib.hid (show bs ((0 + i) / 2) < 256 ∧ wr.cell? ⟨B, o + (0 + i) / 2, none⟩ = some (.int .u8 (bs ((0 + i) / 2) : Nat)) from by
          have h1 := HX.out ((0 + i) / 2) (by have := HA.out i hlt; omega)
          exact ⟨h1.1, (HB.out.cell (p := ⟨B, _, none⟩) hB).trans h1.2⟩)
        have hq16 := hb_lt bs (0 + i) HC.out.1
        have HQ := Lib.hid (show hb bs (n % 2 + i) = hb bs (0 + i) by rw [HP.out])
        obtain ⟨d, hd⟩ : ∃ d, hb bs (0 + i) = d := ⟨_, rfl⟩
        have HD := Lib.hid hd
        rw [hd] at hq16
        clear hd
        have hc := HR.out.cell hlt
        have hf := HR.out.frozen i
        rw [if_neg (Nat.lt_irrefl i)] at hc
        by_cases h9d : d ≤ 9
        · go_wp2_with (go_at_call 28; refine (halfOf_int B o cap len _ (0 + i) bs _ (by omega) (by have := HA.out i hlt; omega) hl HC.out).mono ?_; rintro e w' ⟨rfl, rfl⟩; rw [HD.out])
          go_roundw
          case rel =>
            exact ⟨i + 1, by omega, by go_num, fun j hj => by
              rcases Nat.lt_or_ge j i with h | h
              · exact HL.out j h
              · obtain rfl : j = i := by omega
                rw [HQ.out, HD.out]; exact h9d, (HR.out.set i (.int .u8 (48 + (d : Int)))).congr fun j _ => by
              by_cases hj : j = i
              · subst hj; rw [if_pos rfl, if_pos (by omega), HQ.out, HD.out]; norm_cast
              · simp only [if_neg hj, show (j < i + 1) = (j < i) from propext ⟨by omega, by omega⟩], HB.out.setCell (Nat.le_refl _) _⟩
          case measure => simp [intOf]; omega
        · have h9' : (9 : Int) < d := by omega
          have HZ := Lib.hid (unpR_bad (ite_f HE.out (okB_bad hlt (by rw [HQ.out, HD.out]; exact h9d))) (by decide))
          go_wp2_with (go_at_call 28; refine (halfOf_int B o cap len _ (0 + i) bs _ (by omega) (by have := HA.out i hlt; omega) hl HC.out).mono ?_; rintro e w' ⟨rfl, rfl⟩; rw [HD.out])
          go_ret3
          exact ⟨HZ.out.symm, HB.out⟩
      · obtain rfl : i = n := by omega
        have HZ := Lib.hid (unpR_ok (ite_t HE.out (okB_ok (by left; exact HP.out) HL.out)))
        have hcv := convRow HR.out (fun j => 48 + hb bs (i % 2 + j)) (Nat.le_refl _) (fun j hj => by rw [if_pos hj])
        rw [← HM.out] at HZ
        go_wp2_with fail
        go_ret3
        exact ⟨HZ.out.symm, HB.out⟩

set_option maxHeartbeats 400000 in
theorem unpack_any (A : Option Addr) (cap len : Nat) (n : Int) (bs : Nat → Nat) (w : World) (hl : len ≤ 281474976710656) (hA : SlB w A len bs) :
    Calls Tryd.prog 12 #[.slice A len cap, .int .i64 n] w fun e w' => e = unpR len bs n ∧ Below w.heap.size w w' := by
  rcases (show n < 0 ∨ (0 ≤ n ∧ 999 < n) ∨ (0 ≤ n ∧ n ≤ 999) by omega) with h | ⟨h, h'⟩ | ⟨h, h'⟩
  · have HZ := Lib.hid (unpR_bad (len := len) (bs := bs) (show unpE len bs n = 1 by unfold unpE; rw [if_pos h]) (by decide))
    go_enter Tryd.func12, Tryd.ntmps12
    go_wp2_with fail
    go_ret3
    exact ⟨HZ.out.symm, Below.refl _ _⟩
  · have HZ := Lib.hid (unpR_bad (len := len) (bs := bs) (show unpE len bs n = 2 by unfold unpE; rw [if_neg (by omega), if_pos h']) (by decide))
    go_enter Tryd.func12, Tryd.ntmps12
    go_wp2_with fail
    go_ret3
    exact ⟨HZ.out.symm, Below.refl _ _⟩
  · obtain ⟨n, rfl⟩ := Int.eq_ofNat_of_zero_le h
    by_cases hfit : (n + 1) / 2 ≤ len
    · by_cases h0 : n = 0
      · subst h0
        have HZ := Lib.hid (unpR_ok (len := len) (bs := bs) (n := 0) (by rw [unpE_inner (by omega) (by omega)]; rfl))
        have hmk : ∀ w : World, (Instr.makeSlice 22 (.int .i64 0) (.int .i64 0)).run Tryd.prog w = .ok (.slice (some ⟨w.heap.size, 0, none⟩) 0 0) (w.alloc (.cells (madeCells #[.int .u8 0] 0) 5)) := fun w => mk8 0 (by omega) w
        have hcv := fun (w : World) => convRow (World.rowIs_made w (.int .u8 0) 0 5) (fun i => 48 + hb bs (0 % 2 + i)) (Nat.le_refl _) (fun j hj => absurd hj (by omega))
        go_enter Tryd.func12, Tryd.ntmps12
        go_wp2_with (go_at_call 26; refine (packedSize_any _ _ (by omega) (by omega)).mono ?_; rintro e w' ⟨rfl, rfl⟩)
        go_loopw [34] (fun c wr => c = .int .i64 0 ∧ wr = w.alloc (.cells (madeCells #[.int .u8 0] 0) 5)) (fun _ _ => 0)
        case atStart => exact ⟨rfl, rfl⟩
        case round =>
          obtain ⟨rfl, rfl⟩ := hrel
          go_wp2_with fail
          go_ret3
          exact ⟨HZ.out.symm, (Below.refl _ _).alloc (Nat.le_refl _) _⟩
      · obtain ⟨B, o, rfl, hB, hc⟩ := hA (by omega)
        exact unpack_in B o cap len n bs w hl (by omega) (by omega) hfit hc hB
    · have HZ := Lib.hid (unpR_bad (len := len) (bs := bs) (show unpE len bs n = 3 by unfold unpE; rw [if_neg (by omega), if_neg (by omega), if_pos (by simp only [Int.toNat_natCast]; omega)]) (by decide))
      have hlt : (len : Int) < ((n : Int) + 1) / 2 := by omega
      obtain ⟨m, hm⟩ : ∃ m : Nat, ((n : Int) + 1) / 2 = m := ⟨(n + 1) / 2, by omega⟩
      have HM := Lib.hid hm
      rw [hm] at hlt
      clear hm
      go_enter Tryd.func12, Tryd.ntmps12
      go_wp2_with (go_at_call 26; refine (packedSize_any _ _ (by omega) (by omega)).mono ?_; rintro e w' ⟨rfl, rfl⟩; rw [HM.out])
      go_ret3
      exact ⟨HZ.out.symm, Below.refl _ _⟩
end Go.Proofs.YtglajdedalikdaaDoor
