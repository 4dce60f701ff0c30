/- Contracts of the reference's aes: shifting, products, mixing. -/
import Derived.Test.YtgfdnhpfdbaddaaRef04A
namespace Go.Proofs.Ytgfdnhpfdbaddaa
open Go.RowKit

set_option maxHeartbeats 1600000 in
theorem rshift_any (A1 : Option Addr) (c1 t : Nat) (ti : Int) (a : Nat → Nat) (w : World) (ht : (t = 1 ∧ ti = 1) ∨ (t = 3 ∧ ti = 3)) (h1 : SlB w A1 16 a) :
    Calls Try.prog 29 #[.slice A1 16 c1, .int .i64 ti] w (NewRow 16 (fun i => a ((i + 4 * t * (i % 4)) % 16)) w) := by
  obtain ⟨B1, o1, rfl, l1, e1⟩ := h1 (by decide)
  have E1 := Lib.hid e1
  have L1 := Lib.hid l1
  have hmk := mk16
  clear h1 e1 l1
  obtain ⟨F, hF⟩ : ∃ F : Nat → Nat, F = fun i => a ((i + 4 * t * (i % 4)) % 16) := ⟨_, rfl⟩
  have HFE := Lib.hid hF
  clear hF
  rcases ht with ⟨rfl, rfl⟩ | ⟨rfl, rfl⟩
  all_goals
    go_enter Try.func29, Try.ntmps29
    go_wp2_with fail
    clear hmk
    go_loopw [6] (fun v wr => ∃ q : Nat, q ≤ 4 ∧ v = .int .i64 q ∧ RowB wr w.heap.size 16 (fun j => if j < 4 * q then F j else 0) ∧ Below w.heap.size w wr) (fun v _ => 4 - (intOf v).toNat)
    case atStart => exact ⟨0, by decide, rfl, (rowB_made w 16).congr fun j _ => (if_neg (Nat.not_lt_zero _)).symm, (Below.refl _ _).alloc (Nat.le_refl _) _⟩
    case round =>
      obtain ⟨q, hq, rfl, h1, h2⟩ := hrel
      have H1 := Lib.hid h1
      have H2 := Lib.hid h2
      clear h1 h2
      by_cases hlt : q < 4
      · go_wp2_with fail
        go_loopw [7] (fun v wx => ∃ r : Nat, r ≤ 4 ∧ v = .int .i64 r ∧ RowB wx w.heap.size 16 (fun j => if j < 4 * q + r then F j else 0) ∧ Below w.heap.size w wx) (fun v _ => 4 - (intOf v).toNat)
        case atStart => exact ⟨0, by decide, rfl, H1.out, H2.out⟩
        case round =>
          obtain ⟨r, hr, rfl, h1, h2⟩ := hrel
          have H3 := Lib.hid h1
          have H4 := Lib.hid h2
          clear h1 h2
          by_cases hlr : r < 4
          · first
              | (have hc1 := (H4.out.cell (p := ⟨B1, o1 + (4 * q + r + 4 * r) % 16, none⟩) L1.out).trans (E1.out ((4 * q + r + 4 * r) % 16) (Nat.mod_lt _ (by decide))).2
                 have HF0 := Lib.hid (show F (4 * q + r) = a ((4 * q + r + 4 * r) % 16) by rw [HFE.out]; show a _ = a _; congr 1; omega))
              | (have hc1 := (H4.out.cell (p := ⟨B1, o1 + (4 * q + r + 4 * r * 3) % 16, none⟩) L1.out).trans (E1.out ((4 * q + r + 4 * r * 3) % 16) (Nat.mod_lt _ (by decide))).2
                 have HF0 := Lib.hid (show F (4 * q + r) = a ((4 * q + r + 4 * r * 3) % 16) by rw [HFE.out]; show a _ = a _; congr 1; omega))
            have h16 : 4 * q + r < 16 := by omega
            have hc3 := H3.out.cell h16
            have hf3 := H3.out.frozen (4 * q + r)
            rw [if_neg (Nat.lt_irrefl _)] at hc3
            have HR := Lib.hid ((H3.out.set (4 * q + r) (F (4 * q + r)) _ rfl).congr fun j _ => upto_row F (4 * q + r) _ rfl j)
            have HB := Lib.hid (H4.out.setCell (p := ⟨w.heap.size, 4 * q + r, none⟩) (Nat.le_refl _) (.int .u8 ((F (4 * q + r) : Nat) : Int)))
            rw [← HF0.out] at hc1
            generalize F (4 * q + r) = y at *
            go_wp2_with fail
            go_roundw
            case rel => exact ⟨r + 1, by omega, by go_num, HR.out, HB.out⟩
            case measure => simp [intOf]; omega
          · obtain rfl : r = 4 := by omega
            go_wp2_with fail
            go_roundw
            case rel => exact ⟨q + 1, by omega, by go_num, H3.out.congr fun j _ => by rw [show 4 * (q + 1) = 4 * q + 4 by omega], H4.out⟩
            case measure => simp [intOf]; omega
      · obtain rfl : q = 4 := by omega
        go_wp2_with fail
        go_ret
        exact ⟨rfl, H1.out.congr fun j hj => by rw [if_pos (show j < 4 * 4 from hj), HFE.out], H2.out⟩

/-- twice a byte, as the reference has it -/
theorem dbl_ref : ∀ a, a < 256 → 128 ≤ a → 2 * a ^^^ 283 = dbl a := by decide +kernel
set_option maxHeartbeats 800000 in
theorem rtimes_any (f b : Nat) (w : World) (hf : f < 256) (hb : b < 256) :
    Calls Try.prog 41 #[.int .i64 (f : Nat), .int .u8 (b : Nat)] w fun e w' => e = .returned (.int .u8 (gm f b : Nat)) ∧ w = w' := by
  rw [gm_comm hf hb]
  go_enter Try.func41, Try.ntmps41
  go_wp2_with fail
  go_loop [0, 5, 6] (fun y p x => ∃ k a' b' p' : Nat, k ≤ 8 ∧ b' < 2 ^ k ∧ a' < 256 ∧ p' < 256 ∧ gmk k a' b' p' = gm b f ∧ x = .int .i64 a' ∧ y = .int .i64 b' ∧ p = .int .u8 p') (fun y _ _ => (intOf y).toNat)
  case atStart => exact ⟨8, b, f, 0, Nat.le_refl _, hf, hb, by decide, rfl, rfl, rfl, rfl⟩
  case round =>
    obtain ⟨k, a', b', p', hk, hb', ha', hp', hg, rfl, rfl, rfl⟩ := hrel
    have HG := Lib.hid hg
    clear hg
    by_cases h0 : 0 < b'
    · have hb256 : b' < 256 := Nat.lt_of_lt_of_le hb' (Nat.le_trans (Nat.pow_le_pow_right (by decide) hk) (by decide))
      have hxl := xor8 hp' ha'
      have hx : bits BinOp.xor .u8 (p' : Int) (a' : Int) = ((p' ^^^ a' : Nat) : Int) := u8_xor_nat p' a' hp' ha'
      obtain ⟨k, rfl⟩ : ∃ j, k = j + 1 := by
        cases k with
        | zero => exact absurd hb' (by simp; omega)
        | succ j => exact ⟨j, rfl⟩
      have hb2 : b' / 2 < 2 ^ k := by rw [Nat.pow_succ] at hb'; omega
      have HB := Lib.hid hb2
      clear hb2 hb'
      have hd : (a' < 128 ∧ dbl a' = 2 * a') ∨ (128 ≤ a' ∧ bits BinOp.xor .i64 (2 * (a' : Int)) 283 = ((dbl a' : Nat) : Int)) := by
        by_cases h : a' < 128
        · left; exact ⟨h, if_pos h⟩
        · right
          refine ⟨by omega, ?_⟩
          rw [← dbl_ref a' ha' (by omega)]
          have := i64_xor_nat (2 * a') 283 (by omega) (by decide)
          simpa using this
      have hdl := dbl_lt ha'
      by_cases hodd : b' % 2 = 1
      · have HG2 := Lib.hid (show gmk k (dbl a') (b' / 2) (p' ^^^ a') = gm b f by rw [← HG.out]; simp only [gmk, if_pos hodd])
        rcases hd with ⟨h, hd⟩ | ⟨h, hd⟩
        · have HD := Lib.hid hd
          clear hd hdl
          go_wp2_with fail
          go_round
          case rel => exact ⟨k, dbl a', b' / 2, p' ^^^ a', by omega, HB.out, dbl_lt ha', hxl, HG2.out, by rw [HD.out]; go_num, by go_num, rfl⟩
          case measure => simp [intOf]; omega
        · generalize dbl a' = d at *
          go_wp2_with fail
          go_round
          case rel => exact ⟨k, d, b' / 2, p' ^^^ a', by omega, HB.out, hdl, hxl, HG2.out, rfl, by go_num, rfl⟩
          case measure => simp [intOf]; omega
      · have HG2 := Lib.hid (show gmk k (dbl a') (b' / 2) p' = gm b f by rw [← HG.out]; simp only [gmk, if_neg hodd])
        have hev : ((b' : Int) % 2 == 1) = false := by rw [beq_eq_false_iff_ne]; omega
        rcases hd with ⟨h, hd⟩ | ⟨h, hd⟩
        · have HD := Lib.hid hd
          clear hd hdl
          go_wp2_with fail
          go_round
          case rel => exact ⟨k, dbl a', b' / 2, p', by omega, HB.out, dbl_lt ha', hp', HG2.out, by rw [HD.out]; go_num, by go_num, rfl⟩
          case measure => simp [intOf]; omega
        · generalize dbl a' = d at *
          go_wp2_with fail
          go_round
          case rel => exact ⟨k, d, b' / 2, p', by omega, HB.out, hdl, hp', HG2.out, rfl, by go_num, rfl⟩
          case measure => simp [intOf]; omega
    · obtain rfl : b' = 0 := by omega
      rw [gmk_done] at HG
      clear hb' h0
      go_wp2_with fail
      go_ret
      exact ⟨ret_u8 HG.out, rfl⟩
end Go.Proofs.Ytgfdnhpfdbaddaa
