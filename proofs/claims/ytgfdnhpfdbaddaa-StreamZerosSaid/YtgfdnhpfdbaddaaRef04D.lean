/- Contracts of the reference's aes: the maps of all bytes. -/
import Derived.Test.YtgfdnhpfdbaddaaRef04C
import Derived.Test.YtgfdnhpfdbaddaaAesC
import Derived.Test.YtgfdnhpfdbaddaaGfP
namespace Go.Proofs.Ytgfdnhpfdbaddaa
open Go.RowKit

theorem mk256 (W : World) : (Instr.makeSlice 22 (.int .i64 256) (.int .i64 256)).run Try.prog W = .ok (.slice (some ⟨W.heap.size, 0, none⟩) 256 256) (W.alloc (.cells (madeCells #[.int .u8 0] 256) 5)) := mk8 256 (by decide) W
set_option maxRecDepth 100000 in
set_option maxHeartbeats 800000 in
theorem rback_any (A1 : Option Addr) (c1 : Nat) (w : World) (h1 : SlB w A1 256 box) :
    Calls Try.prog 27 #[.slice A1 256 c1] w (NewRow 256 unbox w) := by
  obtain ⟨B1, o1, rfl, l1, e1⟩ := h1 (by decide)
  have E1 := Lib.hid e1
  have L1 := Lib.hid l1
  have hmk := mk256
  clear h1 e1 l1
  go_enter Try.func27, Try.ntmps27
  go_wp2_with fail
  clear hmk
  go_loopw [4] (fun v wr => ∃ k : Nat, k ≤ 256 ∧ v = .int .i64 k ∧ RowB wr w.heap.size 256 (untab k) ∧ Below w.heap.size w wr) (fun v _ => 256 - (intOf v).toNat)
  case atStart => exact ⟨0, by decide, rfl, (rowB_made w 256).congr fun j _ => (if_neg (Nat.not_lt_zero _)).symm, (Below.refl _ _).alloc (Nat.le_refl _) _⟩
  case round =>
    obtain ⟨k, hk, rfl, h1, h2⟩ := hrel
    have H1 := Lib.hid h1
    have H2 := Lib.hid h2
    clear h1 h2
    by_cases hlt : k < 256
    · have hbl := box_lt hlt
      have hc1 := (H2.out.cell (p := ⟨B1, o1 + k, none⟩) L1.out).trans (E1.out k hlt).2
      have hc3 := H1.out.cell hbl
      have hf3 := H1.out.frozen (box k)
      have HR := Lib.hid ((H1.out.set (box k) k (.int .u8 (k : Nat)) rfl).congr fun j hj => untab_step hlt j hj)
      have HB := Lib.hid (H2.out.setCell (p := ⟨w.heap.size, box k, none⟩) (Nat.le_refl _) (.int .u8 (k : Nat)))
      generalize box k = x at *
      go_wp2_with fail
      go_roundw
      case rel => exact ⟨k + 1, by omega, by go_num, HR.out, HB.out⟩
      case measure => simp [intOf]; omega
    · obtain rfl : k = 256 := by omega
      go_wp2_with fail
      go_ret
      exact ⟨rfl, H1.out.congr fun j hj => untab_all j hj, H2.out⟩

theorem inv_pow : ∀ k, gm (gpow 3 k) (gpow 246 k) = 1
  | 0 => by decide
  | k + 1 => by
    have h3 : (3 : Nat) < 256 := by decide
    have h6 : (246 : Nat) < 256 := by decide
    have hp := gpow_lt h3 k
    have hq := gpow_lt h6 k
    show gm (gm (gpow 3 k) 3) (gm (gpow 246 k) 246) = 1
    rw [gm_comm hq h6, gm_assoc hp h3 (gm_lt _ h6), ← gm_assoc h3 h6 hq, show gm 3 246 = 1 by decide, one_gm hq, inv_pow k]
theorem box_pow (k : Nat) : gbox (gpow 246 k) = box (gpow 3 k) := by
  unfold box
  rw [← ginv_only (gpow_lt (by decide) k) (gpow_lt (by decide) k) (inv_pow k)]
theorem pow3_ne (k : Nat) : gpow 3 k ≠ 0 := fun e => by
  have := inv_pow k
  rw [e, gm_zero1] at this
  exact absurd this (by decide)
/-- the map behind k powers of 3 -/
def bxs (k y : Nat) : Nat := if y = 0 then 99 else if times3 y k = 0 then 0 else box y
theorem bxs_step (k y : Nat) : (if y = gpow 3 k then box (gpow 3 k) else bxs k y) = bxs (k + 1) y := by
  unfold bxs
  by_cases e : y = gpow 3 k
  · have h0 : y ≠ 0 := by rw [e]; exact pow3_ne k
    rw [if_pos e, if_neg h0, if_neg (by simp only [times3]; rw [if_pos e.symm]; omega), e]
  · have t : times3 y (k + 1) = times3 y k := by
      show times3 y k + (if gpow 3 k = y then 1 else 0) = _
      rw [if_neg (fun h => e h.symm), Nat.add_zero]
    rw [if_neg e, t]
theorem bxs_all {y : Nat} (h : y < 256) : bxs 255 y = box y := by
  unfold bxs
  rw [times3_all h]
  by_cases e : y = 0
  · subst e
    rw [if_pos rfl]
    unfold box
    rw [ginv_zero]; rfl
  · rw [if_neg e, if_neg e, if_neg (by decide)]

set_option maxRecDepth 100000 in
set_option maxHeartbeats 1600000 in
theorem rboxes_any (w : World) : Calls Try.prog 25 #[] w (NewRow 256 box w) := by
  have hmk := mk256
  have hc0 : (w.alloc (.cells (madeCells #[.int .u8 0] 256) 5)).cell? ⟨w.heap.size, 0, none⟩ = some (.int .u8 0) := (rowB_made w 256).cell (by decide)
  have hf0 : (w.alloc (.cells (madeCells #[.int .u8 0] 256) 5)).frozen? ⟨w.heap.size, 0, none⟩ = false := (rowB_made w 256).frozen 0
  have HR0 := Lib.hid (((rowB_made w 256).set 0 99 (.int .u8 99) rfl).congr (f := bxs 0) fun j _ => by
    unfold bxs
    by_cases e : j = 0
    · rw [if_pos e, if_pos e]
    · rw [if_neg e, if_neg e]; rfl)
  have HB0 := Lib.hid (((Below.refl w.heap.size w).alloc (Nat.le_refl _) (.cells (madeCells #[.int .u8 0] 256) 5)).setCell (p := ⟨w.heap.size, 0, none⟩) (Nat.le_refl _) (.int .u8 99))
  have hse : (w.alloc (.cells (madeCells #[.int .u8 0] 256) 5)).setCell ⟨w.heap.size, 0, none⟩ (.int .u8 99) = w.alloc (.cells ((madeCells #[.int .u8 0] 256).setIfInBounds 0 (.int .u8 99)) 5) := World.setCell_alloc_at _ _ _ _ _ (hn := rfl)
  rw [hse] at HR0 HB0
  clear hse
  go_enter Try.func25, Try.ntmps25
  go_wp2_with fail
  generalize hW : w.alloc (.cells ((madeCells #[.int .u8 0] 256).setIfInBounds 0 (.int .u8 99)) 5) = W at *
  clear hmk hc0 hf0 hW
  go_loopw [2, 3, 4] (fun x i v wr => ∃ k : Nat, k ≤ 255 ∧ v = .int .i64 k ∧ x = .int .u8 (gpow 3 k : Nat) ∧ i = .int .u8 (gpow 246 k : Nat) ∧ RowB wr w.heap.size 256 (bxs k) ∧ Below w.heap.size w wr) (fun _ _ v _ => 255 - (intOf v).toNat)
  case atStart => exact ⟨0, by decide, rfl, rfl, rfl, HR0.out, HB0.out⟩
  case round =>
    obtain ⟨k, hk, rfl, rfl, rfl, h1, h2⟩ := hrel
    have H1 := Lib.hid h1
    have H2 := Lib.hid h2
    clear h1 h2
    by_cases hlt : k < 255
    · have hxl := gpow_lt (a := 3) (by decide) k
      have hil := gpow_lt (a := 246) (by decide) k
      have HBX := Lib.hid (show gpow 246 k ^^^ rotl (gpow 246 k) 1 ^^^ rotl (gpow 246 k) 2 ^^^ rotl (gpow 246 k) 3 ^^^ rotl (gpow 246 k) 4 ^^^ 99 = box (gpow 3 k) from box_pow k)
      have hc3 := H1.out.cell hxl
      have hf3 := H1.out.frozen (gpow 3 k)
      have HR := Lib.hid ((H1.out.set (gpow 3 k) (box (gpow 3 k)) _ rfl).congr fun j _ => bxs_step k j)
      have HB := Lib.hid (H2.out.setCell (p := ⟨w.heap.size, gpow 3 k, none⟩) (Nat.le_refl _) (.int .u8 ((box (gpow 3 k) : Nat) : Int)))
      rw [← HBX.out] at HR HB
      have HX3 := Lib.hid fun w => (show Calls Try.prog 39 #[.int .u8 (gpow 3 k : Nat), .int .u8 3] w fun e w' => e = .returned (.int .u8 (gm (gpow 3 k) 3 : Nat)) ∧ w = w' from rmul_any (gpow 3 k) 3 w hxl (by decide))
      have HI6 := Lib.hid fun w => (show Calls Try.prog 39 #[.int .u8 (gpow 246 k : Nat), .int .u8 246] w fun e w' => e = .returned (.int .u8 (gm (gpow 246 k) 246 : Nat)) ∧ w = w' from rmul_any (gpow 246 k) 246 w hil (by decide))
      have HE := Lib.hid (show gm (gpow 3 k) 3 = gpow 3 (k + 1) ∧ gm (gpow 246 k) 246 = gpow 246 (k + 1) from ⟨rfl, rfl⟩)
      generalize bxs k (gpow 3 k) = old at *
      generalize gpow 3 k = x at *
      generalize gpow 246 k = i at *
      have l1 := rotl_lt (n := 1) hil (by decide)
      have l2 := rotl_lt (n := 2) hil (by decide)
      have l3 := rotl_lt (n := 3) hil (by decide)
      have l4 := rotl_lt (n := 4) hil (by decide)
      have e1 := x8 hil l1
      have k1 := xor8 hil l1
      have e2 := x8 k1 l2
      have k2 := xor8 k1 l2
      have e3 := x8 k2 l3
      have k3 := xor8 k2 l3
      have e4 := x8 k3 l4
      have k4 := xor8 k3 l4
      have e5 : bits BinOp.xor .u8 ((i ^^^ rotl i 1 ^^^ rotl i 2 ^^^ rotl i 3 ^^^ rotl i 4 : Nat) : Int) 99 = ((i ^^^ rotl i 1 ^^^ rotl i 2 ^^^ rotl i 3 ^^^ rotl i 4 ^^^ 99 : Nat) : Int) := x8 k4 (show 99 < 256 by decide)
      go_wp2_with (first | (go_at_call 38; (first | (with_reducible refine (rleft_any i 1 1 _ hil (by decide) (by decide)).mono ?_) | (with_reducible refine (rleft_any i 2 2 _ hil (by decide) (by decide)).mono ?_) | (with_reducible refine (rleft_any i 3 3 _ hil (by decide) (by decide)).mono ?_) | (with_reducible refine (rleft_any i 4 4 _ hil (by decide) (by decide)).mono ?_)); rintro e w' ⟨rfl, rfl⟩) | (go_at_call 39; (first | (with_reducible refine (HX3.out _).mono ?_) | (with_reducible refine (HI6.out _).mono ?_)); rintro e w' ⟨rfl, rfl⟩))
      go_roundw
      case rel => exact ⟨k + 1, by omega, by go_num, by rw [HE.out.1], by rw [HE.out.2], HR.out, HB.out⟩
      case measure => simp [intOf]; omega
    · obtain rfl : k = 255 := by omega
      go_wp2_with fail
      go_ret
      exact ⟨rfl, H1.out.congr fun j hj => bxs_all hj, H2.out⟩
end Go.Proofs.Ytgfdnhpfdbaddaa
