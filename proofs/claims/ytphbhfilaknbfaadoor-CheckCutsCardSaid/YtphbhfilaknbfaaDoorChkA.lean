/- Contracts of package check: the register. -/
import Derived.Test.YtphbhfilaknbfaaDoorCrc
import Derived.Test.YtphbhfilaknbfaaDoorAppB
namespace Go.Proofs.YtphbhfilaknbfaaDoor
open Go.RowKit

/-- the table of sixteen, in memory -/
def Tab (w : World) : Prop := ∀ i, i < 16 → w.cell? ⟨0, i, none⟩ = some (.int .u32 (tab16 i : Nat))
theorem Tab.lt {w : World} (h : Tab w) : 0 < w.heap.size := block_lt (h 0 (by omega))
theorem Tab.below {w w' : World} {B : Nat} (h : Tab w) (hb : Below B w w') (hB : 0 < B) : Tab w' := fun i hi => (hb.cell (p := ⟨_, i, none⟩) hB).trans (h i hi)
theorem Tab.keep {w w' : World} (h : Tab w) (hb : Below w.heap.size w w') : Tab w' := h.below hb h.lt
theorem Tab.drewN {w : World} (h : Tab w) (n : Nat) : Tab (w.drewN n) := h

theorem shift_any (r : Nat) (w : World) (hr : r < 4294967296) (ht : Tab w) :
    Calls Tryd.prog 19 #[.int .u32 r] w fun e w' => e = .returned (.int .u32 (bsteps 4 r : Nat)) ∧ w = w' := by
  have hc := ht (r % 16) (by omega)
  have hand : bits BinOp.and .u32 (r : Int) 15 = ((r &&& 15 : Nat) : Int) := u32_and_nat r 15 hr (by decide)
  rw [show (r &&& 15) = r % 16 from Nat.and_two_pow_sub_one_eq_mod r 4] at hand
  have hl := tab16_lt (r % 16) (by omega)
  have HX := Lib.hid (u32_xor_nat (r / 16) (tab16 (r % 16)) (by omega) hl)
  rw [shift4_eq r] at HX
  generalize tab16 (r % 16) = x at *
  have hq : r % 16 < 16 := by omega
  generalize r % 16 = q at *
  clear ht
  go_enter Tryd.func19, Tryd.ntmps19
  go_wp2
  go_ret
  exact ⟨by rw [← HX.out]; rfl, rfl⟩

/-- parts: rows of bytes, known by a row of slices -/
structure Parts (w : World) (g k : Nat) (A : Nat → Option Addr) (n c : Nat → Nat) (f : Nat → Nat → Nat) : Prop where
  cells : ∀ j, j < k → w.cell? ⟨g, j, none⟩ = some (.slice (A j) (n j) (c j))
  rows : ∀ j, j < k → SlB w (A j) (n j) (f j)

theorem Parts.keep {w w' : World} {g k : Nat} {A : Nat → Option Addr} {n c : Nat → Nat} {f : Nat → Nat → Nat} (h : Parts w g k A n c f) (hb : Below w.heap.size w w') (hk : 0 < k) : Parts w' g k A n c f :=
  ⟨fun j hj => (hb.cell (p := ⟨g, j, none⟩) (block_lt (a := ⟨g, 0, none⟩) (h.cells 0 hk))).trans (h.cells j hj), fun j hj => (h.rows j hj).keep hb⟩
theorem run_parts1 (w : World) (A0 : Option Addr) (n0 c0 : Nat) : (Instr.buildSlice 33 1 #[(0, .slice A0 n0 c0)]).run Tryd.prog w = .ok (.slice (some ⟨w.heap.size, 0, none⟩) 1 1) (w.alloc (.cells #[.slice A0 n0 c0] 22)) := by go_simp
theorem run_parts2 (w : World) (A0 : Option Addr) (n0 c0 : Nat) (A1 : Option Addr) (n1 c1 : Nat) : (Instr.buildSlice 33 2 #[(0, .slice A0 n0 c0), (1, .slice A1 n1 c1)]).run Tryd.prog w = .ok (.slice (some ⟨w.heap.size, 0, none⟩) 2 2) (w.alloc (.cells #[.slice A0 n0 c0, .slice A1 n1 c1] 22)) := by go_simp
theorem run_parts3 (w : World) (A0 : Option Addr) (n0 c0 : Nat) (A1 : Option Addr) (n1 c1 : Nat) (A2 : Option Addr) (n2 c2 : Nat) : (Instr.buildSlice 33 3 #[(0, .slice A0 n0 c0), (1, .slice A1 n1 c1), (2, .slice A2 n2 c2)]).run Tryd.prog w = .ok (.slice (some ⟨w.heap.size, 0, none⟩) 3 3) (w.alloc (.cells #[.slice A0 n0 c0, .slice A1 n1 c1, .slice A2 n2 c2] 22)) := by go_simp
theorem back32 (x c : Nat) (hx : x < 4294967296) (hc : c < 256) : bits BinOp.xor .u32 (x : Int) (c : Int) = ((x ^^^ c : Nat) : Int) := u32_xor_nat x c hx (by omega)

set_option maxHeartbeats 800000 in
theorem sum_any (g k cap : Nat) (A : Nat → Option Addr) (n c : Nat → Nat) (f : Nat → Nat → Nat) (w : World) (hk : k ≤ 1000) (hn : ∀ j, j < k → n j ≤ 281474976710656) (hp : Parts w g k A n c f) (ht : Tab w) :
    Calls Tryd.prog 11 #[.slice (some ⟨g, 0, none⟩) k cap] w fun e w' => e = .returned (.int .i64 ((4294967295 - regs 4294967295 n f k : Nat) : Int)) ∧ w = w' := by
  have HP := Lib.hid hp
  have HT := Lib.hid ht
  have HN := Lib.hid hn
  have HB := Lib.hid (fun j (hj : j < k) => regs_lt 4294967295 n f j (by decide) (fun i hi t ht => (hp.rows i (by omega)).byte ht))
  have HE := Lib.hid (regs_lt 4294967295 n f k (by decide) (fun i hi t ht => (hp.rows i (by omega)).byte ht))
  clear hp ht hn
  go_enter Tryd.func11, Tryd.ntmps11
  go_wp2_with fail
  go_loop [3, 10] (fun s i => ∃ j : Nat, j ≤ k ∧ i = .int .i64 j ∧ s = .int .u32 (regs 4294967295 n f j : Nat)) (fun _ i => k - (intOf i).toNat)
  case atStart => exact ⟨0, Nat.zero_le _, rfl, rfl⟩
  case round =>
    obtain ⟨j, hj, rfl, rfl⟩ := hrel
    by_cases hlt : j < k
    · have hcell := HP.out.cells j hlt
      have HR := Lib.hid (HP.out.rows j hlt)
      have hnj := HN.out j hlt
      have HBj := Lib.hid (HB.out j hlt)
      have HS := Lib.hid (show regs 4294967295 n f (j + 1) = reg (regs 4294967295 n f j) (f j) (n j) from rfl)
      generalize regs 4294967295 n f j = r0 at *
      generalize A j = Aj at *
      generalize n j = nj at *
      generalize c j = cj at *
      generalize f j = fj at *
      go_wp2_with fail
      go_loop [3, 16] (fun s i => ∃ t : Nat, t ≤ nj ∧ i = .int .i64 t ∧ s = .int .u32 (reg r0 fj t : Nat)) (fun _ i => nj - (intOf i).toNat)
      case atStart => exact ⟨0, Nat.zero_le _, rfl, rfl⟩
      case round =>
        obtain ⟨t, ht, rfl, rfl⟩ := hrel
        by_cases htl : t < nj
        · obtain ⟨B, o, rfl, hB, hc⟩ := HR.out (by omega)
          obtain ⟨hb, hcell2⟩ := hc t htl
          have hreg := reg_lt r0 fj t HBj.out (fun i hi => (hc i (by omega)).1)
          have HS2 := Lib.hid (show reg r0 fj (t + 1) = bsteps 8 (reg r0 fj t ^^^ fj t) from rfl)
          clear hc
          generalize reg r0 fj t = x at *
          generalize fj t = y at *
          have hx := back32 x y hreg hb
          have hxl : x ^^^ y < 4294967296 := Nat.xor_lt_two_pow (n := 32) hreg (by omega)
          generalize x ^^^ y = z at *
          have HZ := Lib.hid (bsteps_add 4 4 z)
          have hz4 := bsteps_lt 4 z hxl
          go_wp2_with (go_at_call 19; refine (shift_any _ _ (by assumption) HT.out).mono ?_; rintro e w' ⟨rfl, rfl⟩)
          go_round
          case rel => exact ⟨t + 1, by omega, by go_num, by rw [HS2.out, ← HZ.out]⟩
          case measure => simp [intOf]; omega
        · obtain rfl : t = nj := by omega
          go_wp2_with fail
          go_round
          case rel => exact ⟨j + 1, by omega, by go_num, by rw [HS.out]⟩
          case measure => simp [intOf]; omega
    · obtain rfl : j = k := by omega
      have hr := HE.out
      have hx : bits BinOp.xor .u32 IntKind.u32.max ((regs 4294967295 n f j : Nat) : Int) = ((4294967295 - regs 4294967295 n f j : Nat) : Int) := (u32_xor_nat 4294967295 _ (by decide) HE.out).trans (by rw [not32 _ HE.out])
      have hsg : IntKind.u32.signed = false := rfl
      obtain ⟨q, hq, hq2⟩ : ∃ q, 4294967295 - regs 4294967295 n f j = q ∧ q ≤ 4294967295 := ⟨_, rfl, by omega⟩
      have HQ := Lib.hid hq
      rw [hq] at hx
      clear hq
      go_wp2_with fail
      go_ret
      exact ⟨by rw [HQ.out]; rfl, rfl⟩
end Go.Proofs.YtphbhfilaknbfaaDoor
