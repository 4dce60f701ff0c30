/- 7 texts in one, in their order. -/
import Derived.Test.YtengejmkpkacgaaDoorPk4
import Derived.Maps.AppendAt
import Derived.Deep.Matrix
/- The reference: the words of a block. -/
namespace Go.Proofs.YtengejmkpkacgaaDoor
open Go.RowKit
--DEFS blk
def blkG (sv : Value) (B o c k q0 q1 q2 q3 b0 b1 b2 b3 y0 y1 y2 z1 z2 z3 : Nat) : Nat → Value → World → Prop
  | 0, v, _ => v = sv
  | 1, v, _ => v = .slice (some ⟨B, o, none⟩) 64 c
  | 2, v, _ => v = .int .i64 (k : Nat)
  | 3, v, _ => v = .int .i64 (q0 : Nat)
  | 4, v, _ => v = .pointer (some ⟨B, o + q0, none⟩)
  | 5, v, _ => v = .int .u8 (b0 : Nat)
  | 6, v, _ => v = .int .i64 (b0 : Nat)
  | 7, v, _ => v = .int .i64 (y0 : Nat)
  | 8, v, _ => v = .slice (some ⟨B, o, none⟩) 64 c
  | 9, v, _ => v = .int .i64 (k : Nat)
  | 10, v, _ => v = .int .i64 (q0 : Nat)
  | 11, v, _ => v = .int .i64 (q1 : Nat)
  | 12, v, _ => v = .pointer (some ⟨B, o + q1, none⟩)
  | 13, v, _ => v = .int .u8 (b1 : Nat)
  | 14, v, _ => v = .int .i64 (b1 : Nat)
  | 15, v, _ => v = .int .i64 (y1 : Nat)
  | 16, v, _ => v = .int .i64 (z1 : Nat)
  | 17, v, _ => v = .slice (some ⟨B, o, none⟩) 64 c
  | 18, v, _ => v = .int .i64 (k : Nat)
  | 19, v, _ => v = .int .i64 (q0 : Nat)
  | 20, v, _ => v = .int .i64 (q2 : Nat)
  | 21, v, _ => v = .pointer (some ⟨B, o + q2, none⟩)
  | 22, v, _ => v = .int .u8 (b2 : Nat)
  | 23, v, _ => v = .int .i64 (b2 : Nat)
  | 24, v, _ => v = .int .i64 (y2 : Nat)
  | 25, v, _ => v = .int .i64 (z2 : Nat)
  | 26, v, _ => v = .slice (some ⟨B, o, none⟩) 64 c
  | 27, v, _ => v = .int .i64 (k : Nat)
  | 28, v, _ => v = .int .i64 (q0 : Nat)
  | 29, v, _ => v = .int .i64 (q3 : Nat)
  | 30, v, _ => v = .pointer (some ⟨B, o + q3, none⟩)
  | 31, v, _ => v = .int .u8 (b3 : Nat)
  | 32, v, _ => v = .int .i64 (b3 : Nat)
  | 33, v, _ => v = .int .i64 (z3 : Nat)
  | 34, v, w => ∃ g, v = .slice (some ⟨g, 0, none⟩) 1 1 ∧ w.cell? ⟨g, 0, none⟩ = some (.int .i64 (z3 : Nat))
  | _, _, _ => True
theorem blkG_stays (sv : Value) (B o c k q0 q1 q2 q3 b0 b1 b2 b3 y0 y1 y2 z1 z2 z3 : Nat) : ∀ i v w w', blkG sv B o c k q0 q1 q2 q3 b0 b1 b2 b3 y0 y1 y2 z1 z2 z3 i v w → Below w.heap.size w w' → blkG sv B o c k q0 q1 q2 q3 b0 b1 b2 b3 y0 y1 y2 z1 z2 z3 i v w'
  | 0, _, _, _, h, _ => h
  | 1, _, _, _, h, _ => h
  | 2, _, _, _, h, _ => h
  | 3, _, _, _, h, _ => h
  | 4, _, _, _, h, _ => h
  | 5, _, _, _, h, _ => h
  | 6, _, _, _, h, _ => h
  | 7, _, _, _, h, _ => h
  | 8, _, _, _, h, _ => h
  | 9, _, _, _, h, _ => h
  | 10, _, _, _, h, _ => h
  | 11, _, _, _, h, _ => h
  | 12, _, _, _, h, _ => h
  | 13, _, _, _, h, _ => h
  | 14, _, _, _, h, _ => h
  | 15, _, _, _, h, _ => h
  | 16, _, _, _, h, _ => h
  | 17, _, _, _, h, _ => h
  | 18, _, _, _, h, _ => h
  | 19, _, _, _, h, _ => h
  | 20, _, _, _, h, _ => h
  | 21, _, _, _, h, _ => h
  | 22, _, _, _, h, _ => h
  | 23, _, _, _, h, _ => h
  | 24, _, _, _, h, _ => h
  | 25, _, _, _, h, _ => h
  | 26, _, _, _, h, _ => h
  | 27, _, _, _, h, _ => h
  | 28, _, _, _, h, _ => h
  | 29, _, _, _, h, _ => h
  | 30, _, _, _, h, _ => h
  | 31, _, _, _, h, _ => h
  | 32, _, _, _, h, _ => h
  | 33, _, _, _, h, _ => h
  | 34, v, w, w', h_, hb => by
    obtain ⟨g, h1, h2⟩ := h_; exact ⟨g, h1, (hb.cell (p := ⟨g, 0, none⟩) (block_lt h2)).trans h2⟩
  | _ + 35, _, _, _, _, _ => trivial
--END DEFS blk
set_option maxRecDepth 100000 in
set_option maxHeartbeats 3200000 in
theorem block_any (A : Option Addr) (c : Nat) (b : Nat → Nat) (w : World) (hA : SlB w A 64 b) :
    Calls Tryd.prog 53 #[.slice A 64 c] w fun e w' => ∃ v, e = .returned v ∧ OwnI w' w.heap.size v 64 (wn b 48) ∧ Below w.heap.size w w' := by
  have HY := Lib.hid (show ∀ j, j < 64 → b j < 256 from fun j hj => hA.byte hj)
  obtain ⟨B, o, rfl, hB, hc⟩ := hA (by decide)
  have HCL := Lib.hid (show ∀ j, j < 64 → w.cell? ⟨B, o + j, none⟩ = some (.int .u8 (b j : Nat)) from fun j hj => (hc j hj).2)
  have HBL := Lib.hid hB
  clear hc hB hA
  go_enter Tryd.func53, Tryd.ntmps53
  go_wp2_with fail
  go_loopw [3, 4] (fun v t wr => ∃ k : Nat, k ≤ 64 ∧ t = .int .i64 k ∧ OwnI wr w.heap.size v k (wn b 48) ∧ Below w.heap.size w wr) (fun _ t _ => 64 - (intOf t).toNat)
  case atStart => exact ⟨0, Nat.zero_le _, rfl, OwnI.nil _ _ _, Below.refl _ _⟩
  case round =>
    obtain ⟨k, hk, rfl, h1, h2⟩ := hrel
    have H1 := Lib.hid h1
    have H2 := Lib.hid h2
    clear h1 h2
    by_cases hlt : k < 64
    · have hki : (k : Int) < 64 := by omega
      have hsz := H2.out.size
      by_cases h16 : k < 16
      · have hk16 : (k : Int) < 16 := by omega
        obtain ⟨q0, hq0⟩ : ∃ q, q = 4 * k := ⟨_, rfl⟩
        obtain ⟨q1, hq1⟩ : ∃ q, q = q0 + 1 := ⟨_, rfl⟩
        obtain ⟨q2, hq2⟩ : ∃ q, q = q0 + 2 := ⟨_, rfl⟩
        obtain ⟨q3, hq3⟩ : ∃ q, q = q0 + 3 := ⟨_, rfl⟩
        have a0 : (4 : Int) * (k : Nat) = (q0 : Nat) ∧ True := ⟨by omega, trivial⟩
        have a1 : (q0 : Int) + 1 = (q1 : Nat) ∧ True := ⟨by omega, trivial⟩
        have a2 : (q0 : Int) + 2 = (q2 : Nat) ∧ True := ⟨by omega, trivial⟩
        have a3 : (q0 : Int) + 3 = (q3 : Nat) ∧ True := ⟨by omega, trivial⟩
        have m0 : q0 < 64 := by omega
        have m1 : q1 < 64 := by omega
        have m2 : q2 < 64 := by omega
        have m3 : q3 < 64 := by omega
        have cell : ∀ j, j < 64 → wr.cell? ⟨B, o + j, none⟩ = some (.int .u8 (b j : Nat)) := fun j hj => (H2.out.cell (p := ⟨B, o + j, none⟩) HBL.out).trans (HCL.out j hj)
        have c0 := cell q0 (by omega)
        have c1 := cell q1 (by omega)
        have c2 := cell q2 (by omega)
        have c3 := cell q3 (by omega)
        have l0 := HY.out q0 (by omega)
        have l1 := HY.out q1 (by omega)
        have l2 := HY.out q2 (by omega)
        have l3 := HY.out q3 (by omega)
        have CE := Lib.hid (show ∀ w', Below wr.drew.heap.size wr.drew w' → w'.cell? ⟨B, o + q0, none⟩ = some (.int .u8 (b q0 : Nat)) ∧ w'.cell? ⟨B, o + q1, none⟩ = some (.int .u8 (b q1 : Nat)) ∧ w'.cell? ⟨B, o + q2, none⟩ = some (.int .u8 (b q2 : Nat)) ∧ w'.cell? ⟨B, o + q3, none⟩ = some (.int .u8 (b q3 : Nat)) from fun w' hb =>
          ⟨(hb.cell (p := ⟨B, o + q0, none⟩) (Nat.lt_of_lt_of_le HBL.out hsz)).trans c0, (hb.cell (p := ⟨B, o + q1, none⟩) (Nat.lt_of_lt_of_le HBL.out hsz)).trans c1, (hb.cell (p := ⟨B, o + q2, none⟩) (Nat.lt_of_lt_of_le HBL.out hsz)).trans c2, (hb.cell (p := ⟨B, o + q3, none⟩) (Nat.lt_of_lt_of_le HBL.out hsz)).trans c3⟩)
        have HV := Lib.hid (show wn b 48 k = b q0 * 16777216 + b q1 * 65536 + b q2 * 256 + b q3 by rw [wn_first b k h16, hq1, hq2, hq3, hq0]; rfl)
        clear hq0 hq1 hq2 hq3 cell c0 c1 c2 c3
        generalize b q0 = b0 at *
        generalize b q1 = b1 at *
        generalize b q2 = b2 at *
        generalize b q3 = b3 at *
        obtain ⟨y0, hy0⟩ : ∃ y, y = b0 * 16777216 := ⟨_, rfl⟩
        obtain ⟨y1, hy1⟩ : ∃ y, y = b1 * 65536 := ⟨_, rfl⟩
        obtain ⟨y2, hy2⟩ : ∃ y, y = b2 * 256 := ⟨_, rfl⟩
        obtain ⟨z1, hz1⟩ : ∃ z, z = y0 + y1 := ⟨_, rfl⟩
        obtain ⟨z2, hz2⟩ : ∃ z, z = z1 + y2 := ⟨_, rfl⟩
        obtain ⟨z3, hz3⟩ : ∃ z, z = z2 + b3 := ⟨_, rfl⟩
        have d0 : (b0 : Int) * 16777216 = (y0 : Nat) ∧ True := ⟨by omega, trivial⟩
        have d1 : (b1 : Int) * 65536 = (y1 : Nat) ∧ True := ⟨by omega, trivial⟩
        have d2 : (b2 : Int) * 256 = (y2 : Nat) ∧ True := ⟨by omega, trivial⟩
        have d3 : (y0 : Int) + (y1 : Nat) = (z1 : Nat) ∧ True := ⟨by omega, trivial⟩
        have d4 : (z1 : Int) + (y2 : Nat) = (z2 : Nat) ∧ True := ⟨by omega, trivial⟩
        have d5 : (z2 : Int) + (b3 : Nat) = (z3 : Nat) ∧ True := ⟨by omega, trivial⟩
        have lz : y0 < 4294967296 ∧ y1 < 4294967296 ∧ y2 < 4294967296 ∧ z1 < 4294967296 ∧ z2 < 4294967296 ∧ z3 < 4294967296 := by omega
        have HV2 := Lib.hid (show z3 = wn b 48 k by rw [HV.out]; omega)
        clear hy0 hy1 hy2 hz1 hz2 hz3 HV
        go_wp2_with fail
        refine ord.wp_region_ordT 35 [[], [], [], [2], [1, 3], [4], [5], [6], [], [], [9], [10], [8, 11], [12], [13], [14], [7, 15], [], [], [18], [19], [17, 20], [21], [22], [23], [16, 24], [], [], [27], [28], [26, 29], [30], [31], [25, 32], [33]] [(0, 15), (1, 16), (2, 17), (3, 18), (4, 19), (5, 20), (6, 21), (7, 22), (8, 23), (9, 24), (10, 25), (11, 26), (12, 27), (13, 28), (14, 29), (15, 30), (16, 31), (17, 32), (18, 33), (19, 34), (20, 35), (21, 36), (22, 37), (23, 38), (24, 39), (25, 40), (26, 41), (27, 42), (28, 43), (29, 44), (30, 45), (31, 46), (32, 47), (33, 48), (34, 49)] (blkG u3 B o c k q0 q1 q2 q3 b0 b1 b2 b3 y0 y1 y2 z1 z2 z3) (by kernel_rfl) (by kernel_rfl) (by kernel_rfl) (blkG_stays _ _ _ _ _ _ _ _ _ _ _ _ _ _ _ _ _ _ _) ((ord.steps_cons ?_ (ord.steps_cons ?_ (ord.steps_cons ?_ (ord.steps_cons ?_ (ord.steps_cons ?_ (ord.steps_cons ?_ (ord.steps_cons ?_ (ord.steps_cons ?_ (ord.steps_cons ?_ (ord.steps_cons ?_ (ord.steps_cons ?_ (ord.steps_cons ?_ (ord.steps_cons ?_ (ord.steps_cons ?_ (ord.steps_cons ?_ (ord.steps_cons ?_ (ord.steps_cons ?_ (ord.steps_cons ?_ (ord.steps_cons ?_ (ord.steps_cons ?_ (ord.steps_cons ?_ (ord.steps_cons ?_ (ord.steps_cons ?_ (ord.steps_cons ?_ (ord.steps_cons ?_ (ord.steps_cons ?_ (ord.steps_cons ?_ (ord.steps_cons ?_ (ord.steps_cons ?_ (ord.steps_cons ?_ (ord.steps_cons ?_ (ord.steps_cons ?_ (ord.steps_cons ?_ (ord.steps_cons ?_ (ord.steps_cons ?_ ord.steps_nil)))))))))))))))))))))))))))))))))))) ?_
        --STEPS blk
        · intro o ho x w hb hG
          obtain rfl := Option.some.inj ho
          clear ho
          refine Or.inl ⟨ord.want0 rfl, ?_⟩
          exact ord.makes_move rfl ⟨Below.refl _ _, rfl⟩
        · intro o ho x w hb hG
          obtain rfl := Option.some.inj ho
          clear ho
          refine Or.inl ⟨ord.want0 rfl, ?_⟩
          exact ord.makes_move rfl ⟨Below.refl _ _, rfl⟩
        · intro o ho x w hb hG
          obtain rfl := Option.some.inj ho
          clear ho
          refine Or.inl ⟨ord.want0 rfl, ?_⟩
          exact ord.makes_move rfl ⟨Below.refl _ _, rfl⟩
        · intro o ho x w hb hG
          obtain rfl := Option.some.inj ho
          clear ho
          have h17 : x 2 = .int .i64 (k : Nat) := hG (2, 17) (List.mem_of_getElem? (i := 2) rfl) rfl
          refine Or.inl ⟨ord.want0 rfl, ?_⟩
          exact ord.makes_bin rfl rfl h17 (by exact run_mulI _ _ 4 k _ a0.1 (by omega) w) ⟨Below.refl _ _, rfl⟩
        · intro o ho x w hb hG
          obtain rfl := Option.some.inj ho
          clear ho
          have h16 : x 1 = .slice (some ⟨B, o, none⟩) 64 c := hG (1, 16) (List.mem_of_getElem? (i := 1) rfl) rfl
          have h18 : x 3 = .int .i64 (q0 : Nat) := hG (3, 18) (List.mem_of_getElem? (i := 3) rfl) rfl
          refine Or.inl ⟨ord.want0 rfl, ?_⟩
          exact ord.makes_indexAddr rfl h16 h18 (by exact run_idx8 B o 64 c q0 m0 w) ⟨Below.refl _ _, rfl⟩
        · intro o ho x w hb hG
          obtain rfl := Option.some.inj ho
          clear ho
          have h19 : x 4 = .pointer (some ⟨B, o + q0, none⟩) := hG (4, 19) (List.mem_of_getElem? (i := 4) rfl) rfl
          refine Or.inl ⟨ord.want0 rfl, ?_⟩
          exact ord.makes_load rfl h19 (by exact run_load8 _ b0 w (CE.out w hb).1) ⟨Below.refl _ _, rfl⟩
        · intro o ho x w hb hG
          obtain rfl := Option.some.inj ho
          clear ho
          have h20 : x 5 = .int .u8 (b0 : Nat) := hG (5, 20) (List.mem_of_getElem? (i := 5) rfl) rfl
          refine Or.inl ⟨ord.want0 rfl, ?_⟩
          exact ord.makes_conv rfl h20 (by exact run_conv8 b0 l0 w) ⟨Below.refl _ _, rfl⟩
        · intro o ho x w hb hG
          obtain rfl := Option.some.inj ho
          clear ho
          have h21 : x 6 = .int .i64 (b0 : Nat) := hG (6, 21) (List.mem_of_getElem? (i := 6) rfl) rfl
          refine Or.inl ⟨ord.want0 rfl, ?_⟩
          exact ord.makes_bin rfl h21 rfl (by exact run_mulI _ _ b0 16777216 _ d0.1 (by omega) w) ⟨Below.refl _ _, rfl⟩
        · intro o ho x w hb hG
          obtain rfl := Option.some.inj ho
          clear ho
          refine Or.inl ⟨ord.want0 rfl, ?_⟩
          exact ord.makes_move rfl ⟨Below.refl _ _, rfl⟩
        · intro o ho x w hb hG
          obtain rfl := Option.some.inj ho
          clear ho
          refine Or.inl ⟨ord.want0 rfl, ?_⟩
          exact ord.makes_move rfl ⟨Below.refl _ _, rfl⟩
        · intro o ho x w hb hG
          obtain rfl := Option.some.inj ho
          clear ho
          have h24 : x 9 = .int .i64 (k : Nat) := hG (9, 24) (List.mem_of_getElem? (i := 9) rfl) rfl
          refine Or.inl ⟨ord.want0 rfl, ?_⟩
          exact ord.makes_bin rfl rfl h24 (by exact run_mulI _ _ 4 k q0 a0.1 (by omega) w) ⟨Below.refl _ _, rfl⟩
        · intro o ho x w hb hG
          obtain rfl := Option.some.inj ho
          clear ho
          have h25 : x 10 = .int .i64 (q0 : Nat) := hG (10, 25) (List.mem_of_getElem? (i := 10) rfl) rfl
          refine Or.inl ⟨ord.want0 rfl, ?_⟩
          exact ord.makes_bin rfl h25 rfl (by exact run_addI _ _ q0 1 q1 a1.1 (by omega) w) ⟨Below.refl _ _, rfl⟩
        · intro o ho x w hb hG
          obtain rfl := Option.some.inj ho
          clear ho
          have h23 : x 8 = .slice (some ⟨B, o, none⟩) 64 c := hG (8, 23) (List.mem_of_getElem? (i := 8) rfl) rfl
          have h26 : x 11 = .int .i64 (q1 : Nat) := hG (11, 26) (List.mem_of_getElem? (i := 11) rfl) rfl
          refine Or.inl ⟨ord.want0 rfl, ?_⟩
          exact ord.makes_indexAddr rfl h23 h26 (by exact run_idx8 B o 64 c q1 m1 w) ⟨Below.refl _ _, rfl⟩
        · intro o ho x w hb hG
          obtain rfl := Option.some.inj ho
          clear ho
          have h27 : x 12 = .pointer (some ⟨B, o + q1, none⟩) := hG (12, 27) (List.mem_of_getElem? (i := 12) rfl) rfl
          refine Or.inl ⟨ord.want0 rfl, ?_⟩
          exact ord.makes_load rfl h27 (by exact run_load8 _ b1 w (CE.out w hb).2.1) ⟨Below.refl _ _, rfl⟩
        · intro o ho x w hb hG
          obtain rfl := Option.some.inj ho
          clear ho
          have h28 : x 13 = .int .u8 (b1 : Nat) := hG (13, 28) (List.mem_of_getElem? (i := 13) rfl) rfl
          refine Or.inl ⟨ord.want0 rfl, ?_⟩
          exact ord.makes_conv rfl h28 (by exact run_conv8 b1 l1 w) ⟨Below.refl _ _, rfl⟩
        · intro o ho x w hb hG
          obtain rfl := Option.some.inj ho
          clear ho
          have h29 : x 14 = .int .i64 (b1 : Nat) := hG (14, 29) (List.mem_of_getElem? (i := 14) rfl) rfl
          refine Or.inl ⟨ord.want0 rfl, ?_⟩
          exact ord.makes_bin rfl h29 rfl (by exact run_mulI _ _ b1 65536 _ d1.1 (by omega) w) ⟨Below.refl _ _, rfl⟩
        · intro o ho x w hb hG
          obtain rfl := Option.some.inj ho
          clear ho
          have h22 : x 7 = .int .i64 (y0 : Nat) := hG (7, 22) (List.mem_of_getElem? (i := 7) rfl) rfl
          have h30 : x 15 = .int .i64 (y1 : Nat) := hG (15, 30) (List.mem_of_getElem? (i := 15) rfl) rfl
          refine Or.inl ⟨ord.want0 rfl, ?_⟩
          exact ord.makes_bin rfl h22 h30 (by exact run_addI _ _ y0 y1 z1 d3.1 (by omega) w) ⟨Below.refl _ _, rfl⟩
        · intro o ho x w hb hG
          obtain rfl := Option.some.inj ho
          clear ho
          refine Or.inl ⟨ord.want0 rfl, ?_⟩
          exact ord.makes_move rfl ⟨Below.refl _ _, rfl⟩
        · intro o ho x w hb hG
          obtain rfl := Option.some.inj ho
          clear ho
          refine Or.inl ⟨ord.want0 rfl, ?_⟩
          exact ord.makes_move rfl ⟨Below.refl _ _, rfl⟩
        · intro o ho x w hb hG
          obtain rfl := Option.some.inj ho
          clear ho
          have h33 : x 18 = .int .i64 (k : Nat) := hG (18, 33) (List.mem_of_getElem? (i := 18) rfl) rfl
          refine Or.inl ⟨ord.want0 rfl, ?_⟩
          exact ord.makes_bin rfl rfl h33 (by exact run_mulI _ _ 4 k q0 a0.1 (by omega) w) ⟨Below.refl _ _, rfl⟩
        · intro o ho x w hb hG
          obtain rfl := Option.some.inj ho
          clear ho
          have h34 : x 19 = .int .i64 (q0 : Nat) := hG (19, 34) (List.mem_of_getElem? (i := 19) rfl) rfl
          refine Or.inl ⟨ord.want0 rfl, ?_⟩
          exact ord.makes_bin rfl h34 rfl (by exact run_addI _ _ q0 2 q2 a2.1 (by omega) w) ⟨Below.refl _ _, rfl⟩
        · intro o ho x w hb hG
          obtain rfl := Option.some.inj ho
          clear ho
          have h32 : x 17 = .slice (some ⟨B, o, none⟩) 64 c := hG (17, 32) (List.mem_of_getElem? (i := 17) rfl) rfl
          have h35 : x 20 = .int .i64 (q2 : Nat) := hG (20, 35) (List.mem_of_getElem? (i := 20) rfl) rfl
          refine Or.inl ⟨ord.want0 rfl, ?_⟩
          exact ord.makes_indexAddr rfl h32 h35 (by exact run_idx8 B o 64 c q2 m2 w) ⟨Below.refl _ _, rfl⟩
        · intro o ho x w hb hG
          obtain rfl := Option.some.inj ho
          clear ho
          have h36 : x 21 = .pointer (some ⟨B, o + q2, none⟩) := hG (21, 36) (List.mem_of_getElem? (i := 21) rfl) rfl
          refine Or.inl ⟨ord.want0 rfl, ?_⟩
          exact ord.makes_load rfl h36 (by exact run_load8 _ b2 w (CE.out w hb).2.2.1) ⟨Below.refl _ _, rfl⟩
        · intro o ho x w hb hG
          obtain rfl := Option.some.inj ho
          clear ho
          have h37 : x 22 = .int .u8 (b2 : Nat) := hG (22, 37) (List.mem_of_getElem? (i := 22) rfl) rfl
          refine Or.inl ⟨ord.want0 rfl, ?_⟩
          exact ord.makes_conv rfl h37 (by exact run_conv8 b2 l2 w) ⟨Below.refl _ _, rfl⟩
        · intro o ho x w hb hG
          obtain rfl := Option.some.inj ho
          clear ho
          have h38 : x 23 = .int .i64 (b2 : Nat) := hG (23, 38) (List.mem_of_getElem? (i := 23) rfl) rfl
          refine Or.inl ⟨ord.want0 rfl, ?_⟩
          exact ord.makes_bin rfl h38 rfl (by exact run_mulI _ _ b2 256 _ d2.1 (by omega) w) ⟨Below.refl _ _, rfl⟩
        · intro o ho x w hb hG
          obtain rfl := Option.some.inj ho
          clear ho
          have h31 : x 16 = .int .i64 (z1 : Nat) := hG (16, 31) (List.mem_of_getElem? (i := 16) rfl) rfl
          have h39 : x 24 = .int .i64 (y2 : Nat) := hG (24, 39) (List.mem_of_getElem? (i := 24) rfl) rfl
          refine Or.inl ⟨ord.want0 rfl, ?_⟩
          exact ord.makes_bin rfl h31 h39 (by exact run_addI _ _ z1 y2 z2 d4.1 (by omega) w) ⟨Below.refl _ _, rfl⟩
        · intro o ho x w hb hG
          obtain rfl := Option.some.inj ho
          clear ho
          refine Or.inl ⟨ord.want0 rfl, ?_⟩
          exact ord.makes_move rfl ⟨Below.refl _ _, rfl⟩
        · intro o ho x w hb hG
          obtain rfl := Option.some.inj ho
          clear ho
          refine Or.inl ⟨ord.want0 rfl, ?_⟩
          exact ord.makes_move rfl ⟨Below.refl _ _, rfl⟩
        · intro o ho x w hb hG
          obtain rfl := Option.some.inj ho
          clear ho
          have h42 : x 27 = .int .i64 (k : Nat) := hG (27, 42) (List.mem_of_getElem? (i := 27) rfl) rfl
          refine Or.inl ⟨ord.want0 rfl, ?_⟩
          exact ord.makes_bin rfl rfl h42 (by exact run_mulI _ _ 4 k q0 a0.1 (by omega) w) ⟨Below.refl _ _, rfl⟩
        · intro o ho x w hb hG
          obtain rfl := Option.some.inj ho
          clear ho
          have h43 : x 28 = .int .i64 (q0 : Nat) := hG (28, 43) (List.mem_of_getElem? (i := 28) rfl) rfl
          refine Or.inl ⟨ord.want0 rfl, ?_⟩
          exact ord.makes_bin rfl h43 rfl (by exact run_addI _ _ q0 3 q3 a3.1 (by omega) w) ⟨Below.refl _ _, rfl⟩
        · intro o ho x w hb hG
          obtain rfl := Option.some.inj ho
          clear ho
          have h41 : x 26 = .slice (some ⟨B, o, none⟩) 64 c := hG (26, 41) (List.mem_of_getElem? (i := 26) rfl) rfl
          have h44 : x 29 = .int .i64 (q3 : Nat) := hG (29, 44) (List.mem_of_getElem? (i := 29) rfl) rfl
          refine Or.inl ⟨ord.want0 rfl, ?_⟩
          exact ord.makes_indexAddr rfl h41 h44 (by exact run_idx8 B o 64 c q3 m3 w) ⟨Below.refl _ _, rfl⟩
        · intro o ho x w hb hG
          obtain rfl := Option.some.inj ho
          clear ho
          have h45 : x 30 = .pointer (some ⟨B, o + q3, none⟩) := hG (30, 45) (List.mem_of_getElem? (i := 30) rfl) rfl
          refine Or.inl ⟨ord.want0 rfl, ?_⟩
          exact ord.makes_load rfl h45 (by exact run_load8 _ b3 w (CE.out w hb).2.2.2) ⟨Below.refl _ _, rfl⟩
        · intro o ho x w hb hG
          obtain rfl := Option.some.inj ho
          clear ho
          have h46 : x 31 = .int .u8 (b3 : Nat) := hG (31, 46) (List.mem_of_getElem? (i := 31) rfl) rfl
          refine Or.inl ⟨ord.want0 rfl, ?_⟩
          exact ord.makes_conv rfl h46 (by exact run_conv8 b3 l3 w) ⟨Below.refl _ _, rfl⟩
        · intro o ho x w hb hG
          obtain rfl := Option.some.inj ho
          clear ho
          have h40 : x 25 = .int .i64 (z2 : Nat) := hG (25, 40) (List.mem_of_getElem? (i := 25) rfl) rfl
          have h47 : x 32 = .int .i64 (b3 : Nat) := hG (32, 47) (List.mem_of_getElem? (i := 32) rfl) rfl
          refine Or.inl ⟨ord.want0 rfl, ?_⟩
          exact ord.makes_bin rfl h40 h47 (by exact run_addI _ _ z2 b3 z3 d5.1 (by omega) w) ⟨Below.refl _ _, rfl⟩
        · intro o ho x w hb hG
          obtain rfl := Option.some.inj ho
          clear ho
          have h48 : x 33 = .int .i64 (z3 : Nat) := hG (33, 48) (List.mem_of_getElem? (i := 33) rfl) rfl
          refine Or.inl ⟨ord.want0 rfl, ?_⟩
          exact ord.makes_build1 rfl h48 (run_int1 w z3) ⟨(Below.refl _ _).alloc (Nat.le_refl _) _, _, rfl, (World.cell?_alloc_at _ _ _ _ rfl).trans rfl⟩
        --END STEPS blk
        · intro x w5 hb hG
          have e0 : x 0 = u3 := hG (0, 15) (List.mem_of_getElem? (i := 0) rfl)
          obtain ⟨g, e34, hc34⟩ : ∃ g, x 34 = .slice (some ⟨g, 0, none⟩) 1 1 ∧ w5.cell? ⟨g, 0, none⟩ = some (.int .i64 (z3 : Nat)) := hG (34, 49) (List.mem_of_getElem? (i := 34) rfl)
          clear hG
          simp only [ord.puts, ord.put', List.set_cons_zero, List.set_cons_succ, if_true]
          rw [e0, e34]
          simp only [List.drop_succ_cons, List.drop_zero]
          have hsz5 : w.heap.size ≤ w5.heap.size := Nat.le_trans hsz hb.size
          have HO := Lib.hid (H1.out.keep hb)
          have HB5 := Lib.hid (H2.out.trans (hb.mono hsz))
          have HC5 := Lib.hid hc34
          clear hb hc34
          go_wp2_with (refine wpList_app1I rfl (.tmp 15) (.tmp 49) rfl w.heap.size _ k _ rfl HO.out g z3 rfl HC5.out (by omega) hsz5 HV2.out ?_; intro v' w' h1 h2; have HO6 := Lib.hid h1; have HB6 := Lib.hid (HB5.out.trans h2); clear h1 h2)
          go_roundw
          case rel => exact ⟨k + 1, by omega, by go_num, HO6.out, HB6.out⟩
          case measure => simp [intOf]; omega
      · have hk16 : (16 : Int) ≤ k := by omega
        have h16n : 16 ≤ k := by omega
        obtain ⟨A3, c3, rfl, hc3, hc3m, hrow, hnil⟩ := H1.out.slice
        obtain ⟨g3, rfl, hg3, hrow⟩ := hrow (by omega)
        have HR := Lib.hid hrow
        have c2 : wr.cell? ⟨g3, k - 2, none⟩ = some (.int .i64 (wn b 48 (k - 2) : Nat)) := hrow.cell (by omega) (Nat.zero_add _).symm
        have c15 : wr.cell? ⟨g3, k - 15, none⟩ = some (.int .i64 (wn b 48 (k - 15) : Nat)) := hrow.cell (by omega) (Nat.zero_add _).symm
        have l2 := wn_lt HY.out 48 (k - 2)
        have l15 := wn_lt HY.out 48 (k - 15)
        have HV := Lib.hid (wn_next b k h16n hlt)
        obtain ⟨x2, hx2⟩ : ∃ x, wn b 48 (k - 2) = x := ⟨_, rfl⟩
        obtain ⟨x15, hx15⟩ : ∃ x, wn b 48 (k - 15) = x := ⟨_, rfl⟩
        rw [hx2] at c2 l2 HV
        rw [hx15] at c15 l15 HV
        clear hrow hx2 hx15
        go_wp2_with fail
        refine (rright_any 7 x15 _ l15 (by decide) (by decide)).mono ?_
        rintro e wa ⟨rfl, na, rfl⟩
        go_wp2_with fail
        refine (rright_any 18 x15 _ l15 (by decide) (by decide)).mono ?_
        rintro e wb ⟨rfl, nb, rfl⟩
        have HOa := Lib.hid ((H1.out.drewN na).drewN nb)
        have HBa := Lib.hid (drawn (drawn H2.out na) nb)
        have HRa := Lib.hid ((HR.out.drewN na).drewN nb)
        have c2 : ((wr.drewN na).drewN nb).cell? ⟨g3, k - 2, none⟩ = some (.int .i64 (x2 : Nat)) := c2
        clear H1 H2 HR c15
        generalize (wr.drewN na).drewN nb = wb at *
        have a7 := rr_lt (n := 7) l15
        have a18 := rr_lt (n := 18) l15
        have hxa := i64_xor_nat (rr 7 x15) (rr 18 x15) (by omega) (by omega)
        have hxb : bits BinOp.xor .i64 ((rr 7 x15 ^^^ rr 18 x15 : Nat) : Int) ((x15 : Int) / 8) = ((ls0 x15 : Nat) : Int) := i64_xor_nat _ (x15 / 8) (by have := xor32 a7 a18; omega) (by omega)
        have hl0 := ls0_lt l15
        generalize rr 7 x15 ^^^ rr 18 x15 = b1 at *
        generalize rr 7 x15 = b2 at *
        generalize rr 18 x15 = b3 at *
        generalize ls0 x15 = s0 at *
        go_wp2_with fail
        refine (rright_any 17 x2 _ l2 (by decide) (by decide)).mono ?_
        rintro e wc ⟨rfl, na, rfl⟩
        go_wp2_with fail
        refine (rright_any 19 x2 _ l2 (by decide) (by decide)).mono ?_
        rintro e wd ⟨rfl, nb, rfl⟩
        have HOb := Lib.hid ((HOa.out.drewN na).drewN nb)
        have HBb := Lib.hid (drawn (drawn HBa.out na) nb)
        have HRb := Lib.hid ((HRa.out.drewN na).drewN nb)
        clear HOa HBa HRa c2
        generalize (wb.drewN na).drewN nb = wd at *
        have a17 := rr_lt (n := 17) l2
        have a19 := rr_lt (n := 19) l2
        have hxc := i64_xor_nat (rr 17 x2) (rr 19 x2) (by omega) (by omega)
        have hxd : bits BinOp.xor .i64 ((rr 17 x2 ^^^ rr 19 x2 : Nat) : Int) ((x2 : Int) / 1024) = ((ls1 x2 : Nat) : Int) := i64_xor_nat _ (x2 / 1024) (by have := xor32 a17 a19; omega) (by omega)
        have hl1 := ls1_lt l2
        generalize rr 17 x2 ^^^ rr 19 x2 = b4 at *
        generalize rr 17 x2 = b5 at *
        generalize rr 19 x2 = b6 at *
        generalize ls1 x2 = s1 at *
        have c16 : wd.cell? ⟨g3, k - 16, none⟩ = some (.int .i64 (wn b 48 (k - 16) : Nat)) := HRb.out.cell (by omega) (Nat.zero_add _).symm
        have c7 : wd.cell? ⟨g3, k - 7, none⟩ = some (.int .i64 (wn b 48 (k - 7) : Nat)) := HRb.out.cell (by omega) (Nat.zero_add _).symm
        have l16 := wn_lt HY.out 48 (k - 16)
        have l7 := wn_lt HY.out 48 (k - 7)
        obtain ⟨x16, hx16⟩ : ∃ x, wn b 48 (k - 16) = x := ⟨_, rfl⟩
        obtain ⟨x7, hx7⟩ : ∃ x, wn b 48 (k - 7) = x := ⟨_, rfl⟩
        obtain ⟨i16, hi16⟩ : ∃ i, k - 16 = i := ⟨_, rfl⟩
        obtain ⟨i7, hi7⟩ : ∃ i, k - 7 = i := ⟨_, rfl⟩
        have j16 : (k : Int) - 16 = i16 := by omega
        have j7 : (k : Int) - 7 = i7 := by omega
        have j16w : IntKind.i64.wrap (i16 : Int) = i16 := IntWalk.i64_in _ (by omega)
        have j7w : IntKind.i64.wrap (i7 : Int) = i7 := IntWalk.i64_in _ (by omega)
        have j16k : (i16 : Int) < k := by omega
        have j7k : (i7 : Int) < k := by omega
        rw [hx16] at c16 l16 HV
        rw [hi16] at c16
        rw [hx7] at c7 l7 HV
        rw [hi7] at c7
        obtain ⟨z, hz⟩ : ∃ z, (x16 + s0 + x7 + s1) % 4294967296 = z := ⟨_, rfl⟩
        rw [hz] at HV
        clear hx16 hx7 hi16 hi7
        obtain ⟨v1, hv1⟩ : ∃ v, v = x16 + s0 := ⟨_, rfl⟩
        obtain ⟨v2, hv2⟩ : ∃ v, v = v1 + x7 := ⟨_, rfl⟩
        obtain ⟨v3, hv3⟩ : ∃ v, v = v2 + s1 := ⟨_, rfl⟩
        have e1 : (x16 : Int) + s0 = v1 := by omega
        have e2 : (v1 : Int) + x7 = v2 := by omega
        have e3 : (v2 : Int) + s1 = v3 := by omega
        have f1 : IntKind.i64.wrap (v1 : Int) = v1 := IntWalk.i64_in _ (by omega)
        have f2 : IntKind.i64.wrap (v2 : Int) = v2 := IntWalk.i64_in _ (by omega)
        have f3 : IntKind.i64.wrap (v3 : Int) = v3 := IntWalk.i64_in _ (by omega)
        have e4 : (v3 : Int).tmod 4294967296 = z := by rw [Int.tmod_eq_emod_of_nonneg (by omega)]; omega
        have hsz5 := HBb.out.size
        have HZ := Lib.hid HV.out.symm
        clear hz hv1 hv2 hv3 HV hsz
        have hk64 : k ≤ 1000000000000 := by omega
        have hcell : ((wd.alloc (.cells #[.int .i64 z] 3)).drew).cell? ⟨wd.heap.size, 0, none⟩ = some (.int .i64 z) := World.cell?_alloc_at _ _ _ _ rfl
        have hsz2 : w.heap.size ≤ ((wd.alloc (.cells #[.int .i64 z] 3)).drew).heap.size := by show _ ≤ (wd.heap.push _).size; simp; omega
        go_wp2_with fail
        go_region_law (refine step_app1I rfl (.tmp 77) (.tmp 94) rfl w.heap.size _ k _ rfl ((HOb.out.alloc _).drew) wd.heap.size z rfl hcell hk64 hsz2 HZ.out ?_; intro v' w' hown' hb')
        all_goals
          have HO6 := Lib.hid hown'
          have HB6 := Lib.hid (((HBb.out.alloc HBb.out.size _).drew).trans hb')
          clear hown' hb' hcell hsz2
          go_wp2_with fail
          go_roundw
          case rel => exact ⟨k + 1, by omega, by go_num, HO6.out, HB6.out⟩
          case measure => simp [intOf]; omega
    · obtain rfl : k = 64 := by omega
      go_wp2_with fail
      go_ret
      exact ⟨_, rfl, H1.out, H2.out⟩
end Go.Proofs.YtengejmkpkacgaaDoor
/- The reference: a step. -/
namespace Go.Proofs.YtengejmkpkacgaaDoor
open Go.RowKit
/-- append of a row of ints to an own row that is empty -/
theorem wpList_appNI {ops : Array Oper} {rest : List Oper} {o : Oper} {a : Act} {Q : Exit → Act → World → Prop} {w : World} (hgd : o.guard = none) (s x : Operand)
    (ho : o.op = .call { callee := .builtin .append, args := #[s, x], argTypes := #[40, 40] })
    (base : Nat) (v : Value) (f : Nat → Nat) (hs : a.eval s = v) (hown : OwnI w base v 0 f)
    (g m c : Nat) (hx : a.eval x = .slice (some ⟨g, 0, none⟩) m c) (hc : ArrV w g 0 m (ints f)) (hn : m ≤ 1000000000000) (hbase : base ≤ w.heap.size)
    (h : ∀ v' w', OwnI w' base v' m f → Below base w w' → wpList Tryd.prog ops Q rest (a.put o.dst v') w') : wpList Tryd.prog ops Q (o :: rest) a w := by
  obtain ⟨i, hi, hz, hsz, hb⟩ := info_parts infoI
  refine wpList_append_own w hgd s x 40 ho base 3 i (.int .i64 0) 1 8 Tryd.underlying40 hi hz hsz hb rfl (by decide) v 0 _ hs hown ⟨g, 0, none⟩ m c (valsL m (ints f)) hx (by simp [valsL]) ?_ ?_ (by unfold maxLen; omega) (by omega) hbase ?_
  · intro j u hj
    obtain ⟨hjm, rfl⟩ := valsL_get hj
    rw [Go.WideShapes.add_plain]
    exact (hc j hjm).1
  · exact vals_one fun _ _ => rfl
  · intro v' w' h1 h2 _
    rw [Nat.zero_add, show valsL 0 (ints f) ++ valsL m (ints f) = valsL m (ints f) from rfl] at h1
    exact h v' w' h1 ((Below.refl base w).grown h2 hbase fun k hk => (hown.lt k hk).1)
theorem own_emptyI (w : World) (base : Nat) (f : Nat → Nat) (hb : base ≤ w.heap.size) : OwnI (w.alloc (.cells #[] 3)) base (.slice (some ⟨w.heap.size, 0, none⟩) 0 0) 0 f :=
  World.ownsRow_made w #[] 0 hb (by unfold maxLen; omega) rfl
/-- what a step reads -/
structure StepMem (w0 w : World) (gs gh gw gk : Nat) (s h : S8) (W : Nat → Nat) : Prop where
  st : ArrV w gs 0 8 (ints (at8 s))
  hh : ArrV w gh 0 8 (ints (at8 h))
  ww : ArrV w gw 0 64 (ints W)
  kk : ArrV w gk 0 64 (ints kc)
  bl : Below w0.heap.size w0 w
theorem StepMem.drewN {w0 w : World} {gs gh gw gk : Nat} {s h : S8} {W : Nat → Nat} (m : StepMem w0 w gs gh gw gk s h W) (n : Nat) : StepMem w0 (w.drewN n) gs gh gw gk s h W := ⟨m.st, m.hh, m.ww, m.kk, drawn m.bl n⟩
theorem step_new (w : World) (a b c d e f g h : Nat) (s : S8) (ha : a = s.a) (hb : s.b = b) (hc : s.c = c) (hd : s.d = d) (he : e = s.e) (hf : s.f = f) (hg : s.g = g) (hh : s.h = h) :
    ArrV (w.alloc (.cells #[.int .i64 (a : Nat), .int .i64 (b : Nat), .int .i64 (c : Nat), .int .i64 (d : Nat), .int .i64 (e : Nat), .int .i64 (f : Nat), .int .i64 (g : Nat), .int .i64 (h : Nat)] 3)) w.heap.size 0 8 (ints (at8 s)) := by
  subst ha hb hc hd he hf hg hh
  exact arrV_new rfl rfl
set_option maxRecDepth 100000 in
set_option maxHeartbeats 3200000 in
theorem step_any (gh ch gw cw gk ck : Nat) (s : S8) (W : Nat → Nat) (w : World) (hs : s.ok) (hW : ∀ j, j < 64 → W j < 4294967296) (h1 : ArrV w gh 0 8 (ints (at8 s))) (h2 : ArrV w gw 0 64 (ints W)) (h3 : ArrV w gk 0 64 (ints kc)) :
    Calls Tryd.prog 52 #[.slice (some ⟨gh, 0, none⟩) 8 ch, .slice (some ⟨gw, 0, none⟩) 64 cw, .slice (some ⟨gk, 0, none⟩) 64 ck] w fun e w' => ∃ g c, e = .returned (.slice (some ⟨g, 0, none⟩) 8 c) ∧ ArrV w' g 0 8 (ints (at8 (add8 s (rs W s 64)))) ∧ Below w.heap.size w w' := by
  have HS := Lib.hid hs
  have HWL := Lib.hid hW
  have HH := Lib.hid h1
  have HWA := Lib.hid h2
  have HK := Lib.hid h3
  clear hs hW h1 h2 h3
  have HE := Lib.hid (own_emptyI w w.heap.size (at8 s) (Nat.le_refl _))
  have HHa := Lib.hid (HH.out.alloc (.cells #[] 3))
  have HBa := Lib.hid ((Below.refl w.heap.size w).alloc (Nat.le_refl _) (.cells #[] 3))
  go_enter Tryd.func52, Tryd.ntmps52
  go_wp2_with (refine wpList_appNI rfl (.tmp 17) (.tmp 18) rfl w.heap.size _ (at8 s) rfl HE.out gh 8 ch rfl HHa.out (by decide) HBa.out.size ?_; intro v1 w1 h1 h2; obtain ⟨A1, c1, rfl, _, _, hr, _⟩ := h1.slice; obtain ⟨gs1, rfl, _, hr⟩ := hr (by decide); have HM1 := Lib.hid (show StepMem w w1 gs1 gh gw gk s s W from ⟨hr, HH.out.keep (HBa.out.trans h2), HWA.out.keep (HBa.out.trans h2), HK.out.keep (HBa.out.trans h2), HBa.out.trans h2⟩); clear hr h1 h2)
  clear HE HHa HBa HH HWA HK
  go_loopw [7, 8] (fun v t wr => ∃ (k gs cs : Nat), k ≤ 64 ∧ t = .int .i64 k ∧ v = .slice (some ⟨gs, 0, none⟩) 8 cs ∧ StepMem w wr gs gh gw gk (rs W s k) s W) (fun _ t _ => 64 - (intOf t).toNat)
  case atStart => exact ⟨0, gs1, c1, Nat.zero_le _, rfl, rfl, HM1.out⟩
  case round =>
    obtain ⟨k, gs, cs, hk, rfl, rfl, hm⟩ := hrel
    have H1 := Lib.hid hm
    clear hm HM1
    by_cases hlt : k < 64
    · have hsok := rs_ok (W := W) HS.out k
      have HXa := Lib.hid (show (rs W s (k + 1)).a = (((rs W s k).h + bs1 (rs W s k).e + chn (rs W s k).e (rs W s k).f (rs W s k).g + kc k + W k) + (bs0 (rs W s k).a + maj (rs W s k).a (rs W s k).b (rs W s k).c)) % 4294967296 from rfl)
      have HXb := Lib.hid (show (rs W s (k + 1)).b = (rs W s k).a from rfl)
      have HXc := Lib.hid (show (rs W s (k + 1)).c = (rs W s k).b from rfl)
      have HXd := Lib.hid (show (rs W s (k + 1)).d = (rs W s k).c from rfl)
      have HXe := Lib.hid (show (rs W s (k + 1)).e = ((rs W s k).d + ((rs W s k).h + bs1 (rs W s k).e + chn (rs W s k).e (rs W s k).f (rs W s k).g + kc k + W k)) % 4294967296 from rfl)
      have HXf := Lib.hid (show (rs W s (k + 1)).f = (rs W s k).e from rfl)
      have HXg := Lib.hid (show (rs W s (k + 1)).g = (rs W s k).f from rfl)
      have HXh := Lib.hid (show (rs W s (k + 1)).h = (rs W s k).g from rfl)
      have la' := hsok.a
      have lb' := hsok.b
      have lc' := hsok.c
      have ld' := hsok.d
      have le' := hsok.e
      have lf' := hsok.f
      have lg' := hsok.g
      have lh' := hsok.h
      have lk := kc_lt k
      have lw := HWL.out k hlt
      clear hsok
      have HCa := Lib.hid (show ∀ w', StepMem w w' gs gh gw gk (rs W s k) s W → w'.cell? ⟨gs, 0, none⟩ = some (.int .i64 ((rs W s k).a : Nat)) from fun w' m => m.st.cell (j := 0) (by decide) rfl)
      have HCb := Lib.hid (show ∀ w', StepMem w w' gs gh gw gk (rs W s k) s W → w'.cell? ⟨gs, 1, none⟩ = some (.int .i64 ((rs W s k).b : Nat)) from fun w' m => m.st.cell (j := 1) (by decide) rfl)
      have HCc := Lib.hid (show ∀ w', StepMem w w' gs gh gw gk (rs W s k) s W → w'.cell? ⟨gs, 2, none⟩ = some (.int .i64 ((rs W s k).c : Nat)) from fun w' m => m.st.cell (j := 2) (by decide) rfl)
      have HCd := Lib.hid (show ∀ w', StepMem w w' gs gh gw gk (rs W s k) s W → w'.cell? ⟨gs, 3, none⟩ = some (.int .i64 ((rs W s k).d : Nat)) from fun w' m => m.st.cell (j := 3) (by decide) rfl)
      have HCe := Lib.hid (show ∀ w', StepMem w w' gs gh gw gk (rs W s k) s W → w'.cell? ⟨gs, 4, none⟩ = some (.int .i64 ((rs W s k).e : Nat)) from fun w' m => m.st.cell (j := 4) (by decide) rfl)
      have HCf := Lib.hid (show ∀ w', StepMem w w' gs gh gw gk (rs W s k) s W → w'.cell? ⟨gs, 5, none⟩ = some (.int .i64 ((rs W s k).f : Nat)) from fun w' m => m.st.cell (j := 5) (by decide) rfl)
      have HCg := Lib.hid (show ∀ w', StepMem w w' gs gh gw gk (rs W s k) s W → w'.cell? ⟨gs, 6, none⟩ = some (.int .i64 ((rs W s k).g : Nat)) from fun w' m => m.st.cell (j := 6) (by decide) rfl)
      have HCh := Lib.hid (show ∀ w', StepMem w w' gs gh gw gk (rs W s k) s W → w'.cell? ⟨gs, 7, none⟩ = some (.int .i64 ((rs W s k).h : Nat)) from fun w' m => m.st.cell (j := 7) (by decide) rfl)
      have HCw := Lib.hid (show ∀ w', StepMem w w' gs gh gw gk (rs W s k) s W → w'.cell? ⟨gw, k, none⟩ = some (.int .i64 (W k : Nat)) from fun w' m => m.ww.cell hlt (Nat.zero_add _).symm)
      have HCk := Lib.hid (show ∀ w', StepMem w w' gs gh gw gk (rs W s k) s W → w'.cell? ⟨gk, k, none⟩ = some (.int .i64 (kc k : Nat)) from fun w' m => m.kk.cell hlt (Nat.zero_add _).symm)
      generalize (rs W s k).a = xa at *
      generalize (rs W s k).b = xb at *
      generalize (rs W s k).c = xc at *
      generalize (rs W s k).d = xd at *
      generalize (rs W s k).e = xe at *
      generalize (rs W s k).f = xf at *
      generalize (rs W s k).g = xg at *
      generalize (rs W s k).h = xh at *
      generalize kc k = xk at *
      generalize hww : W k = xw at *
      clear hww
      have HTE := Lib.hid fun (n : Nat) (h1 : 1 ≤ n) (h2 : n ≤ 31) w => rright_any n xe w le' h1 h2
      have HTA := Lib.hid fun (n : Nat) (h1 : 1 ≤ n) (h2 : n ≤ 31) w => rright_any n xa w la' h1 h2
      have ce := HCe.out wr H1.out
      have ca := HCa.out wr H1.out
      have cf := HCf.out wr H1.out
      have cg := HCg.out wr H1.out
      have p1 := i64_and_nat xe xf (by omega) (by omega)
      have ln : 4294967295 - xe < 4294967296 := by omega
      have p2 : IntKind.i64.wrap (4294967295 - (xe : Int)) = ((4294967295 - xe : Nat) : Int) := by rw [IntWalk.i64_in _ (by omega)]; omega
      have p3 := i64_and_nat (4294967295 - xe) xg (by omega) (by omega)
      have b1 := and32' (a := xe) lf'
      have b2 := and32' (a := 4294967295 - xe) lg'
      have p4 : bits BinOp.or .i64 ((xe &&& xf : Nat) : Int) ((4294967295 - xe &&& xg : Nat) : Int) = ((chn xe xf xg : Nat) : Int) := by rw [← chn_or le']; exact i64_or_nat _ _ (by omega) (by omega)
      have lc := chn_lt (e := xe) lf' lg'
      generalize chn xe xf xg = cc at *
      generalize xe &&& xf = v2 at *
      generalize 4294967295 - xe &&& xg = v3 at *
      generalize 4294967295 - xe = v4 at *
      go_wp2_with fail
      go_quiet (fail)
      have H2 := Lib.hid (H1.out.drewN nq)
      clear H1 ce ca cf cg p1 p2 p3 p4
      generalize wr.drewN nq = W2 at *
      have ch' := HCh.out W2 H2.out
      have cw' := HCw.out W2 H2.out
      have ck' := HCk.out W2 H2.out
      have a6 := rr_lt (n := 6) le'
      have a11 := rr_lt (n := 11) le'
      have a25 := rr_lt (n := 25) le'
      have q1 := i64_xor_nat (rr 6 xe) (rr 11 xe) (by omega) (by omega)
      have a611 := xor32 a6 a11
      have q2 : bits BinOp.xor .i64 ((rr 6 xe ^^^ rr 11 xe : Nat) : Int) ((rr 25 xe : Nat) : Int) = ((bs1 xe : Nat) : Int) := i64_xor_nat _ _ (by omega) (by omega)
      have R6 := Lib.hid (HTE.out 6 (by decide) (by decide))
      have R11 := Lib.hid (HTE.out 11 (by decide) (by decide))
      have R25 := Lib.hid (HTE.out 25 (by decide) (by decide))
      have lb := bs1_lt le'
      generalize bs1 xe = s1 at *
      generalize rr 6 xe ^^^ rr 11 xe = v2 at *
      generalize rr 6 xe = r6 at *
      generalize rr 11 xe = r11 at *
      generalize rr 25 xe = r25 at *
      obtain ⟨X1, hX1⟩ : ∃ X, X = xh + s1 := ⟨_, rfl⟩
      obtain ⟨X2, hX2⟩ : ∃ X, X = X1 + cc := ⟨_, rfl⟩
      obtain ⟨X3, hX3⟩ : ∃ X, X = X2 + xk := ⟨_, rfl⟩
      obtain ⟨X, hX⟩ : ∃ X, X = X3 + xw := ⟨_, rfl⟩
      have e1 : (xh : Int) + s1 = X1 := by omega
      have e2 : (X1 : Int) + cc = X2 := by omega
      have e3 : (X2 : Int) + xk = X3 := by omega
      have e4 : (X3 : Int) + xw = X := by omega
      have f1 : IntKind.i64.wrap (X1 : Int) = X1 := IntWalk.i64_in _ (by omega)
      have f2 : IntKind.i64.wrap (X2 : Int) = X2 := IntWalk.i64_in _ (by omega)
      have f3 : IntKind.i64.wrap (X3 : Int) = X3 := IntWalk.i64_in _ (by omega)
      have f4 : IntKind.i64.wrap (X : Int) = X := IntWalk.i64_in _ (by omega)
      have lX : X < 42949672960 := by omega
      have HXX := Lib.hid (show xh + s1 + cc + xk + xw = X by omega)
      clear hX1 hX2 hX3 hX
      go_wp2_with fail
      go_quiet ((go_at_call 66; first | (with_reducible exact Calls.quiet_of (R6.out _)) | (with_reducible exact Calls.quiet_of (R11.out _)) | (with_reducible exact Calls.quiet_of (R25.out _))))
      have H3 := Lib.hid (H2.out.drewN nq)
      clear H2 ch' cw' ck' q1 q2 R6 R11 R25 e1 e2 e3 e4 f1 f2 f3 f4 HTE
      generalize W2.drewN nq = W3 at *
      have cb := HCb.out W3 H3.out
      have cc' := HCc.out W3 H3.out
      have q1 := i64_and_nat xa xb (by omega) (by omega)
      have q2 := i64_and_nat xa xc (by omega) (by omega)
      have q4 := i64_and_nat xb xc (by omega) (by omega)
      have t1 := and32 (b := xb) la'
      have t2 := and32 (b := xc) la'
      have t4 := and32 (b := xc) lb'
      have q3 := i64_or_nat (xa &&& xb) (xa &&& xc) (by omega) (by omega)
      have t3 := or32 t1 t2
      have q5 : bits BinOp.or .i64 (((xa &&& xb) ||| (xa &&& xc) : Nat) : Int) ((xb &&& xc : Nat) : Int) = ((maj xa xb xc : Nat) : Int) := by rw [← maj_or]; exact i64_or_nat _ _ (by omega) (by omega)
      have lm := maj_lt (c := xc) la' lb'
      generalize maj xa xb xc = mm at *
      generalize (xa &&& xb) ||| (xa &&& xc) = v5 at *
      generalize xa &&& xb = v6 at *
      generalize xa &&& xc = v7 at *
      generalize xb &&& xc = v8 at *
      go_wp2_with fail
      go_quiet (fail)
      have H4 := Lib.hid (H3.out.drewN nq)
      clear H3 cb cc' q1 q2 q3 q4 q5
      generalize W3.drewN nq = W4 at *
      go_wp2_with fail
      refine (HTA.out 2 (by decide) (by decide) _).mono ?_
      rintro e Wa ⟨rfl, na, rfl⟩
      have H5 := Lib.hid (H4.out.drewN na)
      clear H4
      generalize W4.drewN na = Wa at *
      go_wp2_with fail
      refine (HTA.out 13 (by decide) (by decide) _).mono ?_
      rintro e Wb ⟨rfl, nb, rfl⟩
      have H6 := Lib.hid (H5.out.drewN nb)
      clear H5
      generalize Wa.drewN nb = Wb at *
      have a2 := rr_lt (n := 2) la'
      have a13 := rr_lt (n := 13) la'
      have a22 := rr_lt (n := 22) la'
      have q1 := i64_xor_nat (rr 2 xa) (rr 13 xa) (by omega) (by omega)
      have a213 := xor32 a2 a13
      have q2 : bits BinOp.xor .i64 ((rr 2 xa ^^^ rr 13 xa : Nat) : Int) ((rr 22 xa : Nat) : Int) = ((bs0 xa : Nat) : Int) := i64_xor_nat _ _ (by omega) (by omega)
      have R22 := Lib.hid (HTA.out 22 (by decide) (by decide))
      have lb0 := bs0_lt la'
      generalize bs0 xa = s0 at *
      generalize rr 2 xa ^^^ rr 13 xa = v2 at *
      generalize rr 2 xa = r2 at *
      generalize rr 13 xa = r13 at *
      generalize rr 22 xa = r22 at *
      go_wp2_with fail
      refine (R22.out _).mono ?_
      rintro e Wc ⟨rfl, nc, rfl⟩
      have H7 := Lib.hid (H6.out.drewN nc)
      clear H6 HTA
      generalize Wb.drewN nc = Wc at *
      obtain ⟨Y, hY⟩ : ∃ Y, Y = s0 + mm := ⟨_, rfl⟩
      have e1 : (s0 : Int) + mm = Y := by omega
      have lY : Y < 8589934592 := by omega
      have HYY := Lib.hid hY
      clear hY
      go_wp2_with fail
      obtain ⟨XY, hXY⟩ : ∃ Z, Z = X + Y := ⟨_, rfl⟩
      obtain ⟨z1, hz1⟩ : ∃ Z, Z = XY % 4294967296 := ⟨_, rfl⟩
      obtain ⟨DX, hDX⟩ : ∃ Z, Z = xd + X := ⟨_, rfl⟩
      obtain ⟨z2, hz2⟩ : ∃ Z, Z = DX % 4294967296 := ⟨_, rfl⟩
      have e1 : (X : Int) + Y = XY := by omega
      have e2 : (xd : Int) + X = DX := by omega
      have f1 : IntKind.i64.wrap (XY : Int) = XY := IntWalk.i64_in _ (by omega)
      have f2 : IntKind.i64.wrap (DX : Int) = DX := IntWalk.i64_in _ (by omega)
      have e3 : (XY : Int).tmod 4294967296 = z1 := by rw [Int.tmod_eq_emod_of_nonneg (by omega)]; omega
      have e4 : (DX : Int).tmod 4294967296 = z2 := by rw [Int.tmod_eq_emod_of_nonneg (by omega)]; omega
      have f3 : IntKind.i64.wrap (z1 : Int) = z1 := IntWalk.i64_in _ (by omega)
      have f4 : IntKind.i64.wrap (z2 : Int) = z2 := IntWalk.i64_in _ (by omega)
      have HZ1 := Lib.hid (show z1 = (rs W s (k + 1)).a by rw [HXa.out]; have h1 := HXX.out; have h2 := HYY.out; omega)
      have HZ2 := Lib.hid (show z2 = (rs W s (k + 1)).e by rw [HXe.out]; have h1 := HXX.out; omega)
      have H8 := Lib.hid (show StepMem w Wc.drew gs gh gw gk (rs W s k) s W from H7.out.drewN 1)
      have cb : Wc.drew.cell? ⟨gs, 1, none⟩ = some (.int .i64 (xb : Nat)) := HCb.out _ H8.out
      have cc' : Wc.drew.cell? ⟨gs, 2, none⟩ = some (.int .i64 (xc : Nat)) := HCc.out _ H8.out
      have cd : Wc.drew.cell? ⟨gs, 3, none⟩ = some (.int .i64 (xd : Nat)) := HCd.out _ H8.out
      have cf : Wc.drew.cell? ⟨gs, 5, none⟩ = some (.int .i64 (xf : Nat)) := HCf.out _ H8.out
      have cg : Wc.drew.cell? ⟨gs, 6, none⟩ = some (.int .i64 (xg : Nat)) := HCg.out _ H8.out
      clear hXY hz1 hDX hz2 H7
      refine wp_region_still_tail 24 (by kernel_rfl) (by kernel_rfl) ?_
      change wpStill _ _ Wc.drew (fun a' => wpList _ _ _ _ a' Wc.drew) _ _
      generalize Wc.drew = Wd at *
      simp only [List.take_succ_cons, List.take_zero, List.drop_succ_cons, List.drop_zero]
      repeat still_step
      refine wpStill_nil ?_
      go_wp2_with fail
      have HN := Lib.hid (step_new Wd z1 xa xb xc z2 xe xf xg (rs W s (k + 1)) HZ1.out HXb.out HXc.out HXd.out HZ2.out HXf.out HXg.out HXh.out)
      have H9 := Lib.hid (show StepMem w (Wd.alloc (.cells #[.int .i64 (z1 : Nat), .int .i64 (xa : Nat), .int .i64 (xb : Nat), .int .i64 (xc : Nat), .int .i64 (z2 : Nat), .int .i64 (xe : Nat), .int .i64 (xf : Nat), .int .i64 (xg : Nat)] 3)) Wd.heap.size gh gw gk (rs W s (k + 1)) s W from
        ⟨HN.out, H8.out.hh.alloc _, H8.out.ww.alloc _, H8.out.kk.alloc _, H8.out.bl.alloc H8.out.bl.size _⟩)
      go_roundw
      case rel => exact ⟨k + 1, _, _, by omega, by go_num, rfl, H9.out⟩
      case measure => simp [intOf]; omega
    · obtain rfl : k = 64 := by omega
      have TOK := Lib.hid (rs_ok (W := W) HS.out 64)
      generalize hT : rs W s 64 = T at *
      have HTT := Lib.hid hT
      clear hT
      have HA := Lib.hid (at8_add s T)
      have HBL := Lib.hid H1.out.bl
      have HSG := Lib.hid (show ∀ w', Below wr.heap.size wr w' → ArrV w' gs 0 8 (ints (at8 T)) from fun w' h => H1.out.st.keep h)
      have HHG := Lib.hid (show ∀ w', Below wr.heap.size wr w' → ArrV w' gh 0 8 (ints (at8 s)) from fun w' h => H1.out.hh.keep h)
      rw [show ((64 : Nat) : Int) = 64 from rfl]
      clear H1
      go_wp2_with fail
      obtain ⟨W1, hW1⟩ : ∃ W1, W1 = wr := ⟨_, rfl⟩
      subst hW1
      go_loopw [15, 16] (fun v t wx => ∃ k : Nat, k ≤ 8 ∧ t = .int .i64 k ∧ OwnI wx W1.heap.size v k (at8 (add8 s T)) ∧ Below W1.heap.size W1 wx) (fun _ t _ => 8 - (intOf t).toNat)
      case atStart => exact ⟨0, Nat.zero_le _, rfl, OwnI.nil _ _ _, Below.refl _ _⟩
      case round =>
        obtain ⟨k, hk, rfl, h1, h2⟩ := hrel
        have G1 := Lib.hid h1
        have G2 := Lib.hid h2
        clear h1 h2
        by_cases hlt8 : k < 8
        · have hki : (k : Int) < 8 := by omega
          have ch' : wr.cell? ⟨gh, k, none⟩ = some (.int .i64 (at8 s k : Nat)) := (HHG.out wr G2.out).cell hlt8 (Nat.zero_add _).symm
          have cs' : wr.cell? ⟨gs, k, none⟩ = some (.int .i64 (at8 T k : Nat)) := (HSG.out wr G2.out).cell hlt8 (Nat.zero_add _).symm
          have l1 := at8_lt HS.out k
          have l2 := at8_lt TOK.out k
          obtain ⟨z, hz⟩ : ∃ z, z = at8 (add8 s T) k := ⟨_, rfl⟩
          have hz2 : z = (at8 s k + at8 T k) % 4294967296 := by rw [hz]; exact HA.out k hlt8
          have HZ := Lib.hid hz
          generalize at8 s k = y1 at *
          generalize at8 T k = y2 at *
          obtain ⟨y, hy⟩ : ∃ y, y = y1 + y2 := ⟨_, rfl⟩
          have e1 : (y1 : Int) + y2 = y := by omega
          have f1 : IntKind.i64.wrap (y : Int) = y := IntWalk.i64_in _ (by omega)
          have e2 : (y : Int).tmod 4294967296 = z := by rw [Int.tmod_eq_emod_of_nonneg (by omega)]; omega
          have f2 : IntKind.i64.wrap (z : Int) = z := IntWalk.i64_in _ (by omega)
          have hszw := G2.out.size
          have hk8 : k ≤ 1000000000000 := by omega
          clear hz hz2 hy
          have hcell : ((wr.alloc (.cells #[.int .i64 z] 3)).drew).cell? ⟨wr.heap.size, 0, none⟩ = some (.int .i64 z) := World.cell?_alloc_at _ _ _ _ rfl
          have hsz2 : W1.heap.size ≤ ((wr.alloc (.cells #[.int .i64 z] 3)).drew).heap.size := by show _ ≤ (wr.heap.push _).size; simp; omega
          go_wp2_with fail
          go_region_law (refine step_app1I rfl (.tmp 124) (.tmp 135) rfl W1.heap.size _ k _ rfl ((G1.out.alloc _).drew) wr.heap.size z rfl hcell hk8 hsz2 HZ.out ?_; intro v' w' hown' hb')
          all_goals
            have HO6 := Lib.hid hown'
            have HB6 := Lib.hid (((G2.out.alloc G2.out.size _).drew).trans hb')
            clear hown' hb' hcell hsz2
            go_wp2_with fail
            go_roundw
            case rel => exact ⟨k + 1, by omega, by go_num, HO6.out, HB6.out⟩
            case measure => simp [intOf]; omega
        · obtain rfl : k = 8 := by omega
          obtain ⟨A9, c9, rfl, _, _, hr9, _⟩ := G1.out.slice
          obtain ⟨g9, rfl, _, hr9⟩ := hr9 (by decide)
          have HR9 := Lib.hid hr9
          clear hr9
          go_wp2_with fail
          go_ret
          exact ⟨g9, c9, rfl, by rw [HTT.out]; exact HR9.out, HBL.out.trans (G2.out.mono HBL.out.size)⟩
end Go.Proofs.YtengejmkpkacgaaDoor
/- Runs of single operations on bytes and ints. -/
namespace Go.Proofs.YtengejmkpkacgaaDoor
open Go.RowKit
namespace ord
section
variable {P : Program} {ops : Array Oper} {o : Oper} {a : Act} {w : World} {N : Value → World → Prop}
theorem makes_build4 {t : TypeId} {len i1 i2 i3 i4 : Nat} {o1 o2 o3 o4 : Operand} {v1 v2 v3 v4 u : Value} {w' : World} (ho : o.op = .buildSlice t len #[(i1, o1), (i2, o2), (i3, o3), (i4, o4)]) (h1 : a.eval o1 = v1) (h2 : a.eval o2 = v2) (h3 : a.eval o3 = v3) (h4 : a.eval o4 = v4)
    (hrun : (Instr.buildSlice t len #[(i1, v1), (i2, v2), (i3, v3), (i4, v4)]).run P w = .ok u w') (hN : N u w') : makes P o a w N := makes_build ho (by simp [h1, h2, h3, h4]) hrun hN
end
end ord
theorem run_idxI (g n c q : Nat) (hq : q < n) (w : World) : (Instr.indexAt 40 (.slice (some ⟨g, 0, none⟩) n c) (.int .i64 (q : Nat))).run Tryd.prog w = .ok (.pointer (some ⟨g, q, none⟩)) w := by
  have hq2 : (q : Int) < n := by omega
  go_simp
theorem run_loadI (p : Addr) (x : Nat) (w : World) (h : w.cell? p = some (.int .i64 (x : Nat))) : (Instr.loadAt 3 (.pointer (some p))).run Tryd.prog w = .ok (.int .i64 (x : Nat)) w := by
  go_simp
theorem run_convI8 (x d : Nat) (hd : d = x % 256) (w : World) : (convert 3 5 (.int .i64 (x : Nat))).run Tryd.prog w = .ok (.int .u8 (d : Nat)) w := by
  have h2 : IntKind.u8.wrap (x : Int) = (d : Nat) := by simp [IntKind.wrap, IntKind.bits, IntKind.signed]; omega
  go_simp
theorem run_bytes4 (w : World) (a b c d : Nat) : (Instr.buildSlice 22 4 #[(0, .int .u8 (a : Nat)), (1, .int .u8 (b : Nat)), (2, .int .u8 (c : Nat)), (3, .int .u8 (d : Nat))]).run Tryd.prog w =
    .ok (.slice (some ⟨w.heap.size, 0, none⟩) 4 4) (w.alloc (.cells #[.int .u8 (a : Nat), .int .u8 (b : Nat), .int .u8 (c : Nat), .int .u8 (d : Nat)] 5)) := by go_simp
end Go.Proofs.YtengejmkpkacgaaDoor
/- The reference: Sum. -/
namespace Go.Proofs.YtengejmkpkacgaaDoor
open Go.RowKit
theorem padL_eq (n : Nat) : padL n = 64 * ((n + 72) / 64) := rfl
theorem padf_lo (n : Nat) (f : Nat → Nat) (j : Nat) (h : j < n) : padf n f j = f j := if_pos h
theorem padf_at (n : Nat) (f : Nat → Nat) : padf n f n = 128 := by unfold padf; rw [if_neg (Nat.lt_irrefl _), if_pos rfl]
theorem padf_zero (n : Nat) (f : Nat → Nat) (j : Nat) (h1 : n < j) (h2 : j < padL n - 8) : padf n f j = 0 := by unfold padf; rw [if_neg (by omega), if_neg (by omega), if_pos h2]
theorem padf_len (n : Nat) (f : Nat → Nat) (q j : Nat) (h1 : j = padL n - 8 + (7 - q)) (hq : q ≤ 7) : padf n f j = 8 * n / 2 ^ (8 * q) % 256 := by
  have hp : n + 9 ≤ padL n := by unfold padL; omega
  unfold padf
  rw [if_neg (by omega), if_neg (by omega), if_neg (by omega), show padL n - 1 - j = q by omega, Nat.pow_mul]
--DEFS out
def outG (sv : Value) (g c k xx y1 y2 y3 : Nat) (D : Nat → Nat) : Nat → Value → World → Prop
  | 0, v, _ => v = sv
  | 1, v, _ => v = .slice (some ⟨g, 0, none⟩) 8 c
  | 2, v, _ => v = .int .i64 (k : Nat)
  | 3, v, _ => v = .pointer (some ⟨g, k, none⟩)
  | 4, v, _ => v = .int .i64 (xx : Nat)
  | 5, v, _ => v = .int .i64 (y1 : Nat)
  | 6, v, _ => v = .int .u8 (D 0 : Nat)
  | 7, v, _ => v = .slice (some ⟨g, 0, none⟩) 8 c
  | 8, v, _ => v = .int .i64 (k : Nat)
  | 9, v, _ => v = .pointer (some ⟨g, k, none⟩)
  | 10, v, _ => v = .int .i64 (xx : Nat)
  | 11, v, _ => v = .int .i64 (y2 : Nat)
  | 12, v, _ => v = .int .u8 (D 1 : Nat)
  | 13, v, _ => v = .slice (some ⟨g, 0, none⟩) 8 c
  | 14, v, _ => v = .int .i64 (k : Nat)
  | 15, v, _ => v = .pointer (some ⟨g, k, none⟩)
  | 16, v, _ => v = .int .i64 (xx : Nat)
  | 17, v, _ => v = .int .i64 (y3 : Nat)
  | 18, v, _ => v = .int .u8 (D 2 : Nat)
  | 19, v, _ => v = .slice (some ⟨g, 0, none⟩) 8 c
  | 20, v, _ => v = .int .i64 (k : Nat)
  | 21, v, _ => v = .pointer (some ⟨g, k, none⟩)
  | 22, v, _ => v = .int .i64 (xx : Nat)
  | 23, v, _ => v = .int .u8 (D 3 : Nat)
  | 24, v, w => ∃ gg, v = .slice (some ⟨gg, 0, none⟩) 4 4 ∧ SlB w (some ⟨gg, 0, none⟩) 4 D
  | _, _, _ => True
theorem outG_stays (sv : Value) (g c k xx y1 y2 y3 : Nat) (D : Nat → Nat) : ∀ i v w w', outG sv g c k xx y1 y2 y3 D i v w → Below w.heap.size w w' → outG sv g c k xx y1 y2 y3 D i v w'
  | 0, _, _, _, h, _ => h
  | 1, _, _, _, h, _ => h
  | 2, _, _, _, h, _ => h
  | 3, _, _, _, h, _ => h
  | 4, _, _, _, h, _ => h
  | 5, _, _, _, h, _ => h
  | 6, _, _, _, h, _ => h
  | 7, _, _, _, h, _ => h
  | 8, _, _, _, h, _ => h
  | 9, _, _, _, h, _ => h
  | 10, _, _, _, h, _ => h
  | 11, _, _, _, h, _ => h
  | 12, _, _, _, h, _ => h
  | 13, _, _, _, h, _ => h
  | 14, _, _, _, h, _ => h
  | 15, _, _, _, h, _ => h
  | 16, _, _, _, h, _ => h
  | 17, _, _, _, h, _ => h
  | 18, _, _, _, h, _ => h
  | 19, _, _, _, h, _ => h
  | 20, _, _, _, h, _ => h
  | 21, _, _, _, h, _ => h
  | 22, _, _, _, h, _ => h
  | 23, _, _, _, h, _ => h
  | 24, v, w, w', h_, hb => by
    obtain ⟨gg, h1, h2⟩ := h_; exact ⟨gg, h1, h2.keep hb⟩
  | _ + 25, _, _, _, _, _ => trivial
--END DEFS out
set_option maxRecDepth 100000 in
set_option maxHeartbeats 3200000 in
theorem rsum_own (A : Option Addr) (n cap : Nat) (f : Nat → Nat) (w : World) (hn : n ≤ 10000000000000) (hA : SlB w A n f) (hnil : A = none → n = 0 ∧ cap = 0) :
    Calls Tryd.prog 36 #[.slice A n cap] w fun e w' => ∃ A' c', e = .returned (.slice A' 32 c') ∧ (SlB w' A' 32 (sha n f) ∧ OwnB w' w.heap.size (.slice A' 32 c') 32 (sha n f)) ∧ Below w.heap.size w w' := by
  have HA := Lib.hid hA
  have HNIL := Lib.hid hnil
  have HPB := Lib.hid fun m => padf_by n f m (fun j hj => hA.byte hj)
  have HFB := Lib.hid (show ∀ j, j < n → f j < 256 from fun j hj => hA.byte hj)
  have hni : (n : Int) ≤ 10000000000000 := by omega
  clear hA hnil
  have H0 := Lib.hid (show OwnB (w.alloc (.cells #[] 5)) w.heap.size (.slice (some ⟨w.heap.size, 0, none⟩) 0 0) 0 f from OwnB.empty w w.heap.size f (Nat.le_refl _))
  have HA0 := Lib.hid (HA.out.keep ((Below.refl _ _).alloc (Nat.le_refl _) (.cells #[] 5)))
  have HB0 := Lib.hid ((Below.refl w.heap.size w).alloc (Nat.le_refl _) (.cells #[] 5))
  go_enter Tryd.func36, Tryd.ntmps36
  have HW := Lib.hid fun W => one_sl W 128 (by decide)
  go_wp2_with (first | (refine wpList_appO rfl (.tmp 11) (.tmp 12) rfl w.heap.size _ 0 f rfl H0.out A n cap f rfl HA0.out HNIL.out (by omega) HB0.out.size (fun j hj => absurd hj (Nat.not_lt_zero j)) HFB.out ?_; intro A1 c1 w1 h1 h2 h3 h4; rw [Nat.zero_add] at h1 h2 h3 ⊢; have HO1 := Lib.hid (OwnB.congr (g := f) h1 fun j _ => rfl); have HB1 := Lib.hid (HB0.out.trans h4); clear h1 h2 h3 h4; have HO1' := Lib.hid (HO1.out.alloc (.cells #[.int .u8 ((128 : Nat) : Int)] 5)); have HB1' := Lib.hid (HB1.out.alloc HB1.out.size (.cells #[.int .u8 ((128 : Nat) : Int)] 5))) |
    (refine wpList_appO rfl (.tmp 13) (.tmp 14) rfl w.heap.size _ n f rfl HO1'.out (some ⟨_, 0, none⟩) 1 1 (fun _ => 128) rfl (HW.out _) (fun h => by cases h) (by omega) HB1'.out.size HFB.out (fun _ _ => by decide) ?_; intro A2 c2 w2 h1 h2 h3 h4; have HO2 := Lib.hid (OwnB.congr (g := padf n f) h1 fun j hj => by unfold catB; by_cases e : j < n; rw [if_pos e, padf_lo n f j e]; rw [if_neg e, show j = n by omega, padf_at]); have HB2 := Lib.hid (HB1'.out.trans h4); have HC2 := Lib.hid h3; clear h1 h2 h3 h4))
  clear H0 HA0 HB0 HW HO1 HB1 HO1' HB1' HC2
  have HPL := Lib.hid (padL_eq n)
  have HZ := Lib.hid fun W => one_sl W 0 (by decide)
  go_loopw [3] (fun v wr => ∃ (m : Nat) (A3 : Option Addr) (c3 : Nat), n + 1 ≤ m ∧ m ≤ padL n - 8 ∧ v = .slice A3 m c3 ∧ OwnB wr w.heap.size (.slice A3 m c3) m (padf n f) ∧ Below w.heap.size w wr) (fun v _ => padL n - 8 - lenOf v)
  case atStart => exact ⟨n + 1, A2, c2, Nat.le_refl _, by have := HPL.out; omega, rfl, HO2.out, HB2.out⟩
  case round =>
    obtain ⟨m, A3, c3, hm1, hm2, rfl, h1, h2⟩ := hrel
    have H1 := Lib.hid h1
    have H2 := Lib.hid h2
    clear h1 h2 HO2 HB2
    have hm3 : m ≤ 20000000000000 := by have := HPL.out; omega
    have hmi : (m : Int) ≤ 20000000000000 := by omega
    by_cases hr : m % 64 = 56
    · have hb : ((m : Int) % 64 != 56) = false := by simp; omega
      have HLm := Lib.hid (show m = padL n - 8 by have := HPL.out; omega)
      have HX8 := Lib.hid (show (8 : Int) * (n : Int) = ((8 * n : Nat) : Int) by omega)
      have hx1 : 8 * n < 9223372036854775808 := by omega
      clear hr
      go_wp2_with fail
      rw [HX8.out]
      generalize hx : 8 * n = x at *
      have HX := Lib.hid hx
      clear hx HX8
      go_loopw [3, 5] (fun v t wr => ∃ (j : Nat) (A3 : Option Addr) (c3 : Nat), j ≤ 8 ∧ t = .int .i64 (7 - (j : Int)) ∧ v = .slice A3 (m + j) c3 ∧ OwnB wr w.heap.size (.slice A3 (m + j) c3) (m + j) (padf n f) ∧ Below w.heap.size w wr) (fun _ t _ => (intOf t + 1).toNat)
      case atStart => exact ⟨0, A3, c3, Nat.zero_le _, rfl, rfl, H1.out, H2.out⟩
      case round =>
        obtain ⟨j, A5, c5, hj, rfl, rfl, h1, h2⟩ := hrel
        have G1 := Lib.hid h1
        have G2 := Lib.hid h2
        clear h1 h2 H1 H2
        by_cases hj8 : j < 8
        · obtain ⟨q, hq⟩ : ∃ q, q = 7 - j := ⟨_, rfl⟩
          obtain ⟨q8, hq8⟩ : ∃ q8, q8 = 8 * q := ⟨_, rfl⟩
          have eq : (7 : Int) - j = q := by omega
          have eq8 : (8 : Int) * q = q8 := by omega
          have hqi : (q : Int) ≤ 7 := by omega
          have hq8i : (q8 : Int) ≤ 56 := by omega
          have hxi : (x : Int) < 9223372036854775808 := by omega
          obtain ⟨y, hy⟩ : ∃ y, y = x / 2 ^ q8 := ⟨_, rfl⟩
          have hyx : y ≤ x := by rw [hy]; exact Nat.div_le_self _ _
          have ey : (x : Int) / 2 ^ q8 = y := by rw [hy]; simp
          obtain ⟨z, hz⟩ : ∃ z, z = y % 256 := ⟨_, rfl⟩
          have ez : (y : Int) % 256 = z := by omega
          have lz : z < 256 := by omega
          have HZP := Lib.hid (show z = padf n f (m + j) by
            rw [padf_len n f q (m + j) (by have := HLm.out; omega) (by omega), HX.out, ← hq8, ← hy, hz])
          have HZ1 := Lib.hid fun W => one_sl W z lz
          have hyi : (y : Int) < 9223372036854775808 := by omega
          have HEQ := Lib.hid eq
          clear hq hq8 hy hz
          rw [eq]
          have HO3 := Lib.hid (G1.out.alloc (.cells #[.int .u8 (z : Nat)] 5))
          have HB3 := Lib.hid (G2.out.alloc G2.out.size (.cells #[.int .u8 (z : Nat)] 5))
          go_wp2_with (refine wpList_appO rfl (.tmp 30) (.tmp 36) rfl w.heap.size _ (m + j) (padf n f) rfl HO3.out (some ⟨_, 0, none⟩) 1 1 (fun _ => z) rfl (HZ1.out _) (fun h => by cases h) (by omega) HB3.out.size (HPB.out _) (fun _ _ => lz) ?_; intro A4 c4 w4 h1 h2 h3 h4; have HO4 := Lib.hid (OwnB.congr (g := padf n f) h1 fun i hi => by unfold catB; by_cases e : i < m + j; rw [if_pos e]; rw [if_neg e, HZP.out, show i = m + j by omega]); have HB4 := Lib.hid (HB3.out.trans h4); clear h1 h2 h3 h4)
          exact ⟨⟨j + 1, A4, c4, by omega, congrArg _ (by have := HEQ.out; omega), rfl, HO4.out, HB4.out⟩, by simp [intOf]⟩
        · obtain rfl : j = 8 := by omega
          have HLm8 := Lib.hid (show m + 8 = padL n by have := HLm.out; have := HPL.out; omega)
          have et : (7 : Int) - ((8 : Nat) : Int) = -1 := by omega
          rw [et]
          rw [HLm8.out] at G1 ⊢
          clear et
          obtain ⟨A6, c6, e6, hsl6⟩ := OwnB.slice G1.out (HPB.out _)
          obtain ⟨A7, c7, e7, hc7, hc7m, _⟩ := OwnB.cap_le G1.out
          cases e6; cases e7
          have HP := Lib.hid hsl6
          have HCP := Lib.hid hc7
          clear hsl6 hc7
          go_wp2_with fail
          refine (words_any wr).mono ?_
          rintro e Wa ⟨rfl, h1, h2⟩
          have HKa := Lib.hid h1
          have HPa := Lib.hid (HP.out.keep h2)
          have HBa := Lib.hid (G2.out.trans (h2.mono G2.out.size))
          clear h1 h2 G1 G2 HP
          generalize wr.heap.size = gk at *
          go_wp2_with fail
          refine (first_any Wa).mono ?_
          rintro e Wb ⟨rfl, h1, h2⟩
          have HKb := Lib.hid (HKa.out.keep h2)
          have HPb := Lib.hid (HPa.out.keep h2)
          have HBb := Lib.hid (HBa.out.trans (h2.mono HBa.out.size))
          have HFb := Lib.hid h1
          clear h1 h2 HPa HKa HBa
          generalize Wa.heap.size = gf at *
          go_wp2_with fail
          have HPF := Lib.hid (HPB.out (padL n))
          have HST := Lib.hid fun b => hs_ok (padf n f) b
          have HWN := Lib.hid (show ∀ b, 64 * b + 64 ≤ padL n → ∀ j, j < 64 → padf n f (64 * b + j) < 256 from fun b hb j hj => HPF.out _ (by omega))
          have HHS := Lib.hid (show ∀ b, hs (padf n f) (b + 1) = add8 (hs (padf n f) b) (rs (wn (fun j => padf n f (64 * b + j)) 48) (hs (padf n f) b) 64) from fun _ => rfl)
          have HEND := Lib.hid (show ∀ j, sha n f j = dig (hs (padf n f) ((n + 72) / 64)) j from fun _ => rfl)
          obtain ⟨NB, hNB⟩ : ∃ NB, (n + 72) / 64 = NB := ⟨_, rfl⟩
          rw [hNB] at HEND
          have hPL : padL n = 64 * NB := by rw [HPL.out, hNB]
          have hNBs : NB ≤ 1000000000000 := by omega
          have hNBi : (NB : Int) ≤ 1000000000000 := by omega
          rw [hPL] at HPb HCP HWN ⊢
          clear hNB HPL hPL HLm8 HPF HLm HPB HX hx1 hb hm1 hm2
          generalize padf n f = P at *
          go_loopw [7, 8] (fun v t wr => ∃ (b g c : Nat), b ≤ NB ∧ t = .int .i64 ((64 * b : Nat) : Int) ∧ v = .slice (some ⟨g, 0, none⟩) 8 c ∧ ArrV wr g 0 8 (ints (at8 (hs P b))) ∧ SlB wr A5 (64 * NB) P ∧ ArrV wr gk 0 64 (ints kc) ∧ Below w.heap.size w wr) (fun _ t _ => 64 * NB - (intOf t).toNat)
          case atStart => exact ⟨0, gf, 8, Nat.zero_le _, rfl, rfl, HFb.out, HPb.out, HKb.out, HBb.out⟩
          case round =>
            obtain ⟨b, g, c, hb, rfl, rfl, h1, h2, h3, h4⟩ := hrel
            have K1 := Lib.hid h1
            have K2 := Lib.hid h2
            have K3 := Lib.hid h3
            have K4 := Lib.hid h4
            clear h1 h2 h3 h4 HFb HPb HKb HBb
            by_cases hlt : b < NB
            · obtain ⟨i, hi⟩ : ∃ i, i = 64 * b := ⟨_, rfl⟩
              obtain ⟨i6, hi6⟩ : ∃ i6, i6 = i + 64 := ⟨_, rfl⟩
              obtain ⟨NL, hNL⟩ : ∃ NL, NL = 64 * NB := ⟨_, rfl⟩
              have ei6 : (i : Int) + 64 = i6 := by omega
              have hi6n : (i : Int) < NL := by omega
              have hNLi : (NL : Int) ≤ 100000000000000 := by omega
              obtain ⟨A8, hA8⟩ : ∃ A8, hiA A5 c5 i = A8 := ⟨_, rfl⟩
              have hsl := fun W => run_mid W A5 NL c5 i i6 (by omega) (by have := HCP.out; omega)
              rw [hA8, show i6 - i = 64 by omega] at hsl
              have HSB := Lib.hid ((K2.out.mid (c := c5) (l := i) (m := 64) (by omega) HCP.out))
              rw [hA8] at HSB
              have HI := Lib.hid hi
              have HI6 := Lib.hid hi6
              have HNL := Lib.hid hNL
              rw [← hi, ← hNL]
              clear hi hi6 hNL hA8
              go_wp2_with fail
              refine (block_any A8 (c5 - i) _ wr HSB.out).mono ?_
              rintro e Wc ⟨vw, rfl, h1, h2⟩
              obtain ⟨Aw, cw, rfl, _, _, hr, _⟩ := h1.slice
              obtain ⟨gw, rfl, _, hr⟩ := hr (by decide)
              have HWc := Lib.hid hr
              have K1c := Lib.hid (K1.out.keep h2)
              have K2c := Lib.hid (K2.out.keep h2)
              have K3c := Lib.hid (K3.out.keep h2)
              have K4c := Lib.hid (K4.out.trans (h2.mono K4.out.size))
              clear hr h1 h2 K1 K2 K3 K4 hsl HSB
              go_wp2_with fail
              refine (step_any g c gw cw gk 64 (hs P b) _ Wc (HST.out b) (fun j hj => wn_lt (by
                have h := HWN.out b (by have := HI.out; have := HNL.out; omega)
                rw [← HI.out] at h
                exact h) 48 j) K1c.out HWc.out K3c.out).mono ?_
              rintro e Wd ⟨g2, c2', rfl, h1, h2⟩
              have L1 := Lib.hid (show ArrV Wd g2 0 8 (ints (at8 (hs P (b + 1)))) by
                rw [HHS.out b, ← HI.out]; exact h1)
              have L2 := Lib.hid (K2c.out.keep h2)
              have L3 := Lib.hid (K3c.out.keep h2)
              have L4 := Lib.hid (K4c.out.trans (h2.mono K4c.out.size))
              clear h1 h2 K1c K2c K3c K4c HWc
              go_wp2_with fail
              have hNL := HNL.out
              have hI := HI.out
              have hI6 := HI6.out
              subst hNL
              go_roundw
              case rel => exact ⟨b + 1, g2, c2', by omega, by rw [show 64 * (b + 1) = i6 by omega], rfl, L1.out, L2.out, L3.out, L4.out⟩
              case measure => simp [intOf]; omega
            · obtain rfl : b = NB := by omega
              have HSK := Lib.hid (HST.out b)
              generalize hs P b = s at *
              obtain ⟨NL, hNL⟩ : ∃ NL, NL = 64 * b := ⟨_, rfl⟩
              rw [← hNL]
              have HNL := Lib.hid hNL
              have hNLi : (NL : Int) ≤ 100000000000000 := by omega
              clear hNL HWN HHS HST hNBs hNBi
              go_wp2_with fail
              have HAG := Lib.hid (show ∀ w', Below wr.heap.size wr w' → ArrV w' g 0 8 (ints (at8 s)) from fun w' h => K1.out.keep h)
              have KB := Lib.hid K4.out
              clear K1 K2 K3 K4
              obtain ⟨W1, hW1⟩ : ∃ W1, W1 = wr := ⟨_, rfl⟩
              subst hW1
              go_loopw [9, 10] (fun v t wx => ∃ (k : Nat), k ≤ 8 ∧ t = .int .i64 k ∧ OwnB wx W1.heap.size v (4 * k) (dig s) ∧ Below W1.heap.size W1 wx) (fun _ t _ => 8 - (intOf t).toNat)
              case atStart => exact ⟨0, Nat.zero_le _, rfl, OwnB.nil _ _ _, Below.refl _ _⟩
              case round =>
                obtain ⟨k, hk, rfl, h1, h2⟩ := hrel
                have G1 := Lib.hid h1
                have G2 := Lib.hid h2
                clear h1 h2
                by_cases hk8n : k < 8
                · have hki : (k : Int) < 8 := by omega
                  have hl := at8_lt HSK.out k
                  have CE := Lib.hid (show ∀ w', Below wr.drew.heap.size wr.drew w' → w'.cell? ⟨g, k, none⟩ = some (.int .i64 (at8 s k : Nat)) from fun w' hb =>
                    (HAG.out w' (G2.out.trans ((of_drew hb).mono G2.out.size))).cell hk8n (Nat.zero_add _).symm)
                  have hd0 := Lib.hid (show dig s (4 * k + 0) = at8 s k / 16777216 % 256 by unfold dig; rw [show (4 * k + 0) / 4 = k by omega, show (4 * k + 0) % 4 = 0 by omega])
                  have hd1 := Lib.hid (show dig s (4 * k + 1) = at8 s k / 65536 % 256 by unfold dig; rw [show (4 * k + 1) / 4 = k by omega, show (4 * k + 1) % 4 = 1 by omega])
                  have hd2 := Lib.hid (show dig s (4 * k + 2) = at8 s k / 256 % 256 by unfold dig; rw [show (4 * k + 2) / 4 = k by omega, show (4 * k + 2) % 4 = 2 by omega])
                  have hd3 := Lib.hid (show dig s (4 * k + 3) = at8 s k % 256 by unfold dig; rw [show (4 * k + 3) / 4 = k by omega, show (4 * k + 3) % 4 = 3 by omega]; simp)
                  have HDL := Lib.hid (show ∀ j, (fun t => dig s (4 * k + t)) j < 256 from fun j => dig_lt s _)
                  have HDE := Lib.hid (show ∀ j, (fun t => dig s (4 * k + t)) j = dig s (4 * k + j) from fun _ => rfl)
                  generalize at8 s k = xx at *
                  obtain ⟨D, hD⟩ : ∃ D : Nat → Nat, D = fun t => dig s (4 * k + t) := ⟨_, rfl⟩
                  rw [← hD] at HDL HDE
                  rw [← HDE.out] at hd0 hd1 hd2 hd3
                  clear hD
                  obtain ⟨y1, e1⟩ : ∃ y, xx / 16777216 = y ∧ True := ⟨_, rfl, trivial⟩
                  obtain ⟨y2, e2⟩ : ∃ y, xx / 65536 = y ∧ True := ⟨_, rfl, trivial⟩
                  obtain ⟨y3, e3⟩ : ∃ y, xx / 256 = y ∧ True := ⟨_, rfl, trivial⟩
                  rw [e1.1] at hd0
                  rw [e2.1] at hd1
                  rw [e3.1] at hd2
                  go_wp2_with fail
                  refine ord.wp_region_ordT 25 [[], [], [], [1, 2], [3], [4], [5], [], [], [7, 8], [9], [10], [11], [], [], [13, 14], [15], [16], [17], [], [], [19, 20], [21], [22], [6, 12, 18, 23]] [(0, 59), (1, 60), (2, 61), (3, 62), (4, 63), (5, 64), (6, 65), (7, 66), (8, 67), (9, 68), (10, 69), (11, 70), (12, 71), (13, 72), (14, 73), (15, 74), (16, 75), (17, 76), (18, 77), (19, 78), (20, 79), (21, 80), (22, 81), (23, 82), (24, 83)] (outG u9 g c k xx y1 y2 y3 D) (by kernel_rfl) (by kernel_rfl) (by kernel_rfl) (outG_stays _ _ _ _ _ _ _ _ _) ((ord.steps_cons ?_ (ord.steps_cons ?_ (ord.steps_cons ?_ (ord.steps_cons ?_ (ord.steps_cons ?_ (ord.steps_cons ?_ (ord.steps_cons ?_ (ord.steps_cons ?_ (ord.steps_cons ?_ (ord.steps_cons ?_ (ord.steps_cons ?_ (ord.steps_cons ?_ (ord.steps_cons ?_ (ord.steps_cons ?_ (ord.steps_cons ?_ (ord.steps_cons ?_ (ord.steps_cons ?_ (ord.steps_cons ?_ (ord.steps_cons ?_ (ord.steps_cons ?_ (ord.steps_cons ?_ (ord.steps_cons ?_ (ord.steps_cons ?_ (ord.steps_cons ?_ (ord.steps_cons ?_ ord.steps_nil)))))))))))))))))))))))))) ?_
                  --STEPS out
                  · intro o ho x w hb hG
                    obtain rfl := Option.some.inj ho
                    clear ho
                    refine Or.inl ⟨ord.want0 rfl, ?_⟩
                    exact ord.makes_move rfl ⟨Below.refl _ _, rfl⟩
                  · intro o ho x w hb hG
                    obtain rfl := Option.some.inj ho
                    clear ho
                    refine Or.inl ⟨ord.want0 rfl, ?_⟩
                    exact ord.makes_move rfl ⟨Below.refl _ _, rfl⟩
                  · intro o ho x w hb hG
                    obtain rfl := Option.some.inj ho
                    clear ho
                    refine Or.inl ⟨ord.want0 rfl, ?_⟩
                    exact ord.makes_move rfl ⟨Below.refl _ _, rfl⟩
                  · intro o ho x w hb hG
                    obtain rfl := Option.some.inj ho
                    clear ho
                    have h60 : x 1 = .slice (some ⟨g, 0, none⟩) 8 c := hG (1, 60) (List.mem_of_getElem? (i := 1) rfl) rfl
                    have h61 : x 2 = .int .i64 (k : Nat) := hG (2, 61) (List.mem_of_getElem? (i := 2) rfl) rfl
                    refine Or.inl ⟨ord.want0 rfl, ?_⟩
                    exact ord.makes_indexAddr rfl h60 h61 (by exact run_idxI g 8 c k hk8n w) ⟨Below.refl _ _, rfl⟩
                  · intro o ho x w hb hG
                    obtain rfl := Option.some.inj ho
                    clear ho
                    have h62 : x 3 = .pointer (some ⟨g, k, none⟩) := hG (3, 62) (List.mem_of_getElem? (i := 3) rfl) rfl
                    refine Or.inl ⟨ord.want0 rfl, ?_⟩
                    exact ord.makes_load rfl h62 (by exact run_loadI _ xx w (CE.out w hb)) ⟨Below.refl _ _, rfl⟩
                  · intro o ho x w hb hG
                    obtain rfl := Option.some.inj ho
                    clear ho
                    have h63 : x 4 = .int .i64 (xx : Nat) := hG (4, 63) (List.mem_of_getElem? (i := 4) rfl) rfl
                    refine Or.inl ⟨ord.want0 rfl, ?_⟩
                    exact ord.makes_bin rfl h63 rfl (by exact run_quoI _ _ xx 16777216 y1 e1.1 (by decide) (by omega) w) ⟨Below.refl _ _, rfl⟩
                  · intro o ho x w hb hG
                    obtain rfl := Option.some.inj ho
                    clear ho
                    have h64 : x 5 = .int .i64 (y1 : Nat) := hG (5, 64) (List.mem_of_getElem? (i := 5) rfl) rfl
                    refine Or.inl ⟨ord.want0 rfl, ?_⟩
                    exact ord.makes_conv rfl h64 (by exact run_convI8 y1 (D 0) hd0.out w) ⟨Below.refl _ _, rfl⟩
                  · intro o ho x w hb hG
                    obtain rfl := Option.some.inj ho
                    clear ho
                    refine Or.inl ⟨ord.want0 rfl, ?_⟩
                    exact ord.makes_move rfl ⟨Below.refl _ _, rfl⟩
                  · intro o ho x w hb hG
                    obtain rfl := Option.some.inj ho
                    clear ho
                    refine Or.inl ⟨ord.want0 rfl, ?_⟩
                    exact ord.makes_move rfl ⟨Below.refl _ _, rfl⟩
                  · intro o ho x w hb hG
                    obtain rfl := Option.some.inj ho
                    clear ho
                    have h66 : x 7 = .slice (some ⟨g, 0, none⟩) 8 c := hG (7, 66) (List.mem_of_getElem? (i := 7) rfl) rfl
                    have h67 : x 8 = .int .i64 (k : Nat) := hG (8, 67) (List.mem_of_getElem? (i := 8) rfl) rfl
                    refine Or.inl ⟨ord.want0 rfl, ?_⟩
                    exact ord.makes_indexAddr rfl h66 h67 (by exact run_idxI g 8 c k hk8n w) ⟨Below.refl _ _, rfl⟩
                  · intro o ho x w hb hG
                    obtain rfl := Option.some.inj ho
                    clear ho
                    have h68 : x 9 = .pointer (some ⟨g, k, none⟩) := hG (9, 68) (List.mem_of_getElem? (i := 9) rfl) rfl
                    refine Or.inl ⟨ord.want0 rfl, ?_⟩
                    exact ord.makes_load rfl h68 (by exact run_loadI _ xx w (CE.out w hb)) ⟨Below.refl _ _, rfl⟩
                  · intro o ho x w hb hG
                    obtain rfl := Option.some.inj ho
                    clear ho
                    have h69 : x 10 = .int .i64 (xx : Nat) := hG (10, 69) (List.mem_of_getElem? (i := 10) rfl) rfl
                    refine Or.inl ⟨ord.want0 rfl, ?_⟩
                    exact ord.makes_bin rfl h69 rfl (by exact run_quoI _ _ xx 65536 y2 e2.1 (by decide) (by omega) w) ⟨Below.refl _ _, rfl⟩
                  · intro o ho x w hb hG
                    obtain rfl := Option.some.inj ho
                    clear ho
                    have h70 : x 11 = .int .i64 (y2 : Nat) := hG (11, 70) (List.mem_of_getElem? (i := 11) rfl) rfl
                    refine Or.inl ⟨ord.want0 rfl, ?_⟩
                    exact ord.makes_conv rfl h70 (by exact run_convI8 y2 (D 1) hd1.out w) ⟨Below.refl _ _, rfl⟩
                  · intro o ho x w hb hG
                    obtain rfl := Option.some.inj ho
                    clear ho
                    refine Or.inl ⟨ord.want0 rfl, ?_⟩
                    exact ord.makes_move rfl ⟨Below.refl _ _, rfl⟩
                  · intro o ho x w hb hG
                    obtain rfl := Option.some.inj ho
                    clear ho
                    refine Or.inl ⟨ord.want0 rfl, ?_⟩
                    exact ord.makes_move rfl ⟨Below.refl _ _, rfl⟩
                  · intro o ho x w hb hG
                    obtain rfl := Option.some.inj ho
                    clear ho
                    have h72 : x 13 = .slice (some ⟨g, 0, none⟩) 8 c := hG (13, 72) (List.mem_of_getElem? (i := 13) rfl) rfl
                    have h73 : x 14 = .int .i64 (k : Nat) := hG (14, 73) (List.mem_of_getElem? (i := 14) rfl) rfl
                    refine Or.inl ⟨ord.want0 rfl, ?_⟩
                    exact ord.makes_indexAddr rfl h72 h73 (by exact run_idxI g 8 c k hk8n w) ⟨Below.refl _ _, rfl⟩
                  · intro o ho x w hb hG
                    obtain rfl := Option.some.inj ho
                    clear ho
                    have h74 : x 15 = .pointer (some ⟨g, k, none⟩) := hG (15, 74) (List.mem_of_getElem? (i := 15) rfl) rfl
                    refine Or.inl ⟨ord.want0 rfl, ?_⟩
                    exact ord.makes_load rfl h74 (by exact run_loadI _ xx w (CE.out w hb)) ⟨Below.refl _ _, rfl⟩
                  · intro o ho x w hb hG
                    obtain rfl := Option.some.inj ho
                    clear ho
                    have h75 : x 16 = .int .i64 (xx : Nat) := hG (16, 75) (List.mem_of_getElem? (i := 16) rfl) rfl
                    refine Or.inl ⟨ord.want0 rfl, ?_⟩
                    exact ord.makes_bin rfl h75 rfl (by exact run_quoI _ _ xx 256 y3 e3.1 (by decide) (by omega) w) ⟨Below.refl _ _, rfl⟩
                  · intro o ho x w hb hG
                    obtain rfl := Option.some.inj ho
                    clear ho
                    have h76 : x 17 = .int .i64 (y3 : Nat) := hG (17, 76) (List.mem_of_getElem? (i := 17) rfl) rfl
                    refine Or.inl ⟨ord.want0 rfl, ?_⟩
                    exact ord.makes_conv rfl h76 (by exact run_convI8 y3 (D 2) hd2.out w) ⟨Below.refl _ _, rfl⟩
                  · intro o ho x w hb hG
                    obtain rfl := Option.some.inj ho
                    clear ho
                    refine Or.inl ⟨ord.want0 rfl, ?_⟩
                    exact ord.makes_move rfl ⟨Below.refl _ _, rfl⟩
                  · intro o ho x w hb hG
                    obtain rfl := Option.some.inj ho
                    clear ho
                    refine Or.inl ⟨ord.want0 rfl, ?_⟩
                    exact ord.makes_move rfl ⟨Below.refl _ _, rfl⟩
                  · intro o ho x w hb hG
                    obtain rfl := Option.some.inj ho
                    clear ho
                    have h78 : x 19 = .slice (some ⟨g, 0, none⟩) 8 c := hG (19, 78) (List.mem_of_getElem? (i := 19) rfl) rfl
                    have h79 : x 20 = .int .i64 (k : Nat) := hG (20, 79) (List.mem_of_getElem? (i := 20) rfl) rfl
                    refine Or.inl ⟨ord.want0 rfl, ?_⟩
                    exact ord.makes_indexAddr rfl h78 h79 (by exact run_idxI g 8 c k hk8n w) ⟨Below.refl _ _, rfl⟩
                  · intro o ho x w hb hG
                    obtain rfl := Option.some.inj ho
                    clear ho
                    have h80 : x 21 = .pointer (some ⟨g, k, none⟩) := hG (21, 80) (List.mem_of_getElem? (i := 21) rfl) rfl
                    refine Or.inl ⟨ord.want0 rfl, ?_⟩
                    exact ord.makes_load rfl h80 (by exact run_loadI _ xx w (CE.out w hb)) ⟨Below.refl _ _, rfl⟩
                  · intro o ho x w hb hG
                    obtain rfl := Option.some.inj ho
                    clear ho
                    have h81 : x 22 = .int .i64 (xx : Nat) := hG (22, 81) (List.mem_of_getElem? (i := 22) rfl) rfl
                    refine Or.inl ⟨ord.want0 rfl, ?_⟩
                    exact ord.makes_conv rfl h81 (by exact run_convI8 xx (D 3) hd3.out w) ⟨Below.refl _ _, rfl⟩
                  · intro o ho x w hb hG
                    obtain rfl := Option.some.inj ho
                    clear ho
                    have h65 : x 6 = .int .u8 (D 0 : Nat) := hG (6, 65) (List.mem_of_getElem? (i := 6) rfl) rfl
                    have h71 : x 12 = .int .u8 (D 1 : Nat) := hG (12, 71) (List.mem_of_getElem? (i := 12) rfl) rfl
                    have h77 : x 18 = .int .u8 (D 2 : Nat) := hG (18, 77) (List.mem_of_getElem? (i := 18) rfl) rfl
                    have h82 : x 23 = .int .u8 (D 3 : Nat) := hG (23, 82) (List.mem_of_getElem? (i := 23) rfl) rfl
                    refine Or.inl ⟨ord.want0 rfl, ?_⟩
                    exact ord.makes_build4 rfl h65 h71 h77 h82 (run_bytes4 w (D 0) (D 1) (D 2) (D 3)) ⟨(Below.refl _ _).alloc (Nat.le_refl _) _, _, rfl, four_slB w 5 D HDL.out⟩
                  --END STEPS out
                  · intro x5 w5 hb hG
                    have e0 : x5 0 = u9 := hG (0, 59) (List.mem_of_getElem? (i := 0) rfl)
                    obtain ⟨gg, e24, hsl24⟩ : ∃ gg, x5 24 = .slice (some ⟨gg, 0, none⟩) 4 4 ∧ SlB w5 (some ⟨gg, 0, none⟩) 4 D := hG (24, 83) (List.mem_of_getElem? (i := 24) rfl)
                    clear hG
                    simp only [ord.puts, ord.put', List.set_cons_zero, List.set_cons_succ, if_true]
                    rw [e0, e24]
                    simp only [List.drop_succ_cons, List.drop_zero]
                    have HO := Lib.hid (G1.out.keep hb)
                    have HB5 := Lib.hid (G2.out.trans (hb.mono G2.out.size))
                    have HC5 := Lib.hid hsl24
                    clear hb hsl24
                    go_wp2_with (refine wpList_appO rfl (.tmp 59) (.tmp 83) rfl W1.heap.size _ (4 * k) (dig s) rfl HO.out (some ⟨gg, 0, none⟩) 4 4 D rfl HC5.out (fun h => by cases h) (by omega) HB5.out.size (fun j _ => dig_lt s j) (fun j _ => HDL.out j) ?_; intro A4 c4 w4 h1 h2 h3 h4; have HO6 := Lib.hid (OwnB.congr (g := dig s) h1 fun j hj => by unfold catB; by_cases e : j < 4 * k; rw [if_pos e]; rw [if_neg e, HDE.out, show 4 * k + (j - 4 * k) = j by omega]); have HB6 := Lib.hid (HB5.out.trans h4); clear h1 h2 h3 h4)
                    go_roundw
                    case rel => exact ⟨k + 1, by omega, by go_num, HO6.out, HB6.out⟩
                    case measure => simp [intOf]; omega
                · obtain rfl : k = 8 := by omega
                  obtain ⟨A9, c9, rfl, hsl9⟩ := OwnB.slice G1.out (fun j _ => dig_lt s j)
                  have HS9 := Lib.hid hsl9
                  clear hsl9
                  go_wp2_with fail
                  go_ret
                  exact ⟨A9, c9, rfl, ⟨HS9.out.congr fun j _ => (HEND.out j).symm, (G1.out.less KB.out.size).congr fun j _ => (HEND.out j).symm⟩, KB.out.trans (G2.out.mono KB.out.size)⟩
    · have hb : ((m : Int) % 64 != 56) = true := by simp; omega
      have HLm := Lib.hid (show m + 1 ≤ padL n - 8 by have := HPL.out; omega)
      have HMS := Lib.hid (show padL n - 8 - (m + 1) < padL n - 8 - m by have := HLm.out; omega)
      have HO3 := Lib.hid (H1.out.alloc (.cells #[.int .u8 ((0 : Nat) : Int)] 5))
      have HB3 := Lib.hid (H2.out.alloc H2.out.size (.cells #[.int .u8 ((0 : Nat) : Int)] 5))
      clear hr
      go_wp2_with (refine wpList_appO rfl (.tmp 20) (.tmp 21) rfl w.heap.size _ m (padf n f) rfl HO3.out (some ⟨_, 0, none⟩) 1 1 (fun _ => 0) rfl (HZ.out _) (fun h => by cases h) (by omega) HB3.out.size (HPB.out m) (fun _ _ => by decide) ?_; intro A4 c4 w4 h1 h2 h3 h4; have HO4 := Lib.hid (OwnB.congr (g := padf n f) h1 fun j hj => by unfold catB; by_cases e : j < m; rw [if_pos e]; rw [if_neg e, padf_zero n f j (by omega) (by have := HLm.out; omega)]); have HB4 := Lib.hid (HB3.out.trans h4); clear h1 h2 h3 h4)
      go_roundw
      case rel => exact ⟨m + 1, A4, c4, by omega, HLm.out, rfl, HO4.out, HB4.out⟩
      case measure => exact HMS.out
theorem rsum_any (A : Option Addr) (n cap : Nat) (f : Nat → Nat) (w : World) (hn : n ≤ 10000000000000) (hA : SlB w A n f) (hnil : A = none → n = 0 ∧ cap = 0) :
    Calls Tryd.prog 36 #[.slice A n cap] w fun e w' => ∃ A' c', e = .returned (.slice A' 32 c') ∧ SlB w' A' 32 (sha n f) ∧ Below w.heap.size w w' :=
  (rsum_own A n cap f w hn hA hnil).mono fun _ _ ⟨A', c', he, h, hb⟩ => ⟨A', c', he, h.1, hb⟩
end Go.Proofs.YtengejmkpkacgaaDoor
/- The reference: a number in eight bytes. -/
namespace Go.Proofs.YtengejmkpkacgaaDoor
open Go.RowKit
set_option maxRecDepth 100000 in
set_option maxHeartbeats 800000 in
theorem eight_any (x : Nat) (w : World) (hx : x ≤ 9223372036854775807) :
    Calls Tryd.prog 30 #[.int .i64 (x : Nat)] w fun e w' => ∃ A c, e = .returned (.slice A 8 c) ∧ OwnB w' w.heap.size (.slice A 8 c) 8 (len8 x) ∧ Below w.heap.size w w' := by
  have hxi : (x : Int) ≤ 9223372036854775807 := by omega
  go_enter Tryd.func30, Tryd.ntmps30
  go_wp2_with fail
  go_loopw [3, 4] (fun v t wr => ∃ (j : Nat) (A c : _), j ≤ 8 ∧ t = .int .i64 (7 - (j : Int)) ∧ v = .slice A j c ∧ OwnB wr w.heap.size (.slice A j c) j (len8 x) ∧ Below w.heap.size w wr) (fun _ t _ => (intOf t + 1).toNat)
  case atStart => exact ⟨0, none, 0, Nat.zero_le _, rfl, rfl, OwnB.nil _ _ _, Below.refl _ _⟩
  case round =>
    obtain ⟨j, A5, c5, hj, rfl, rfl, h1, h2⟩ := hrel
    have G1 := Lib.hid h1
    have G2 := Lib.hid h2
    clear h1 h2
    by_cases hj8 : j < 8
    · obtain ⟨q, hq⟩ : ∃ q, q = 7 - j := ⟨_, rfl⟩
      obtain ⟨q8, hq8⟩ : ∃ q8, q8 = 8 * q := ⟨_, rfl⟩
      have eq : (7 : Int) - j = q := by omega
      have eq8 : (8 : Int) * q = q8 := by omega
      have hqi : (q : Int) ≤ 7 := by omega
      have hq8i : (q8 : Int) ≤ 56 := by omega
      obtain ⟨y, hy⟩ : ∃ y, y = x / 2 ^ q8 := ⟨_, rfl⟩
      have hyx : y ≤ x := by rw [hy]; exact Nat.div_le_self _ _
      have ey : (x : Int) / 2 ^ q8 = y := by rw [hy]; simp
      obtain ⟨z, hz⟩ : ∃ z, z = y % 256 := ⟨_, rfl⟩
      have ez : (y : Int) % 256 = z := by omega
      have lz : z < 256 := by omega
      have HZP := Lib.hid (show z = len8 x j by unfold len8; rw [hz, hy, hq8, hq])
      have HZ1 := Lib.hid fun W => one_sl W z lz
      have hyi : (y : Int) ≤ 9223372036854775807 := by omega
      have HEQ := Lib.hid eq
      clear hq hq8 hy hz
      rw [eq]
      have HO3 := Lib.hid (G1.out.alloc (.cells #[.int .u8 (z : Nat)] 5))
      have HB3 := Lib.hid (G2.out.alloc G2.out.size (.cells #[.int .u8 (z : Nat)] 5))
      go_wp2_with (refine wpList_appO rfl (.tmp 9) (.tmp 15) rfl w.heap.size _ j (len8 x) rfl HO3.out (some ⟨_, 0, none⟩) 1 1 (fun _ => z) rfl (HZ1.out _) (fun h => by cases h) (by omega) HB3.out.size (fun i _ => len8_lt x i) (fun _ _ => lz) ?_; intro A4 c4 w4 h1 h2 h3 h4; have HO4 := Lib.hid (OwnB.congr (g := len8 x) h1 fun i hi => by unfold catB; by_cases e : i < j; rw [if_pos e]; rw [if_neg e, HZP.out, show i = j by omega]); have HB4 := Lib.hid (HB3.out.trans h4); clear h1 h2 h3 h4)
      exact ⟨⟨j + 1, A4, c4, by omega, congrArg _ (by have := HEQ.out; omega), rfl, HO4.out, HB4.out⟩, by simp [intOf]⟩
    · obtain rfl : j = 8 := by omega
      have et : (7 : Int) - ((8 : Nat) : Int) = -1 := by omega
      rw [et]
      clear et
      go_wp2_with fail
      go_ret
      exact ⟨A5, c5, rfl, G1.out, G2.out⟩
end Go.Proofs.YtengejmkpkacgaaDoor
/- Two rows of bytes that grow in turn. -/
namespace Go.Proofs.YtengejmkpkacgaaDoor
open Go.RowKit
/-- two rows do not share a block -/
def Apart (v1 v2 : Value) : Prop := ∀ g, v1.ownBlock = some g → v2.ownBlock ≠ some g
theorem Apart.symm {v1 v2 : Value} (h : Apart v1 v2) : Apart v2 v1 := fun g h2 h1 => h g h1 h2
theorem Apart.nil (v : Value) : Apart (.slice none 0 0) v := fun g h => by simp [Value.ownBlock] at h
theorem OwnB.grown {w w' : World} {base n : Nat} {v v1 : Value} {f : Nat → Nat} (h : OwnB w base v n f) (hg : w.grownBy w' v1.ownBlock) (ha : Apart v1 v) : OwnB w' base v n f := by
  refine World.ownsRow.kept h hg ?_
  cases e : v.ownBlock with
  | none => exact Or.inl rfl
  | some g => exact Or.inr fun e1 => ha g e1.symm e
/-- append, where another row grows too -/
theorem wpList_appW {ops : Array Oper} {rest : List Oper} {o : Oper} {a : Act} {Q : Exit → Act → World → Prop} {w : World} (hgd : o.guard = none) (s x : Operand)
    (ho : o.op = .call { callee := .builtin .append, args := #[s, x], argTypes := #[22, 22] })
    (base : Nat) (v : Value) (n : Nat) (f : Nat → Nat) (hs : a.eval s = v) (hown : OwnB w base v n f)
    (A : Option Addr) (m cap : Nat) (g : Nat → Nat) (hx : a.eval x = .slice A m cap) (hA : SlB w A m g) (hnil : A = none → m = 0 ∧ cap = 0) (hn : n + m ≤ 100000000000000) (hbase : base ≤ w.heap.size)
    (v2 : Value) (n2 : Nat) (f2 : Nat → Nat) (h2 : OwnB w base v2 n2 f2) (hap : Apart v v2)
    (h : ∀ v' w', OwnB w' base v' (n + m) (catB n f g) → OwnB w' base v2 n2 f2 → Apart v' v2 → Below base w w' → wpList Tryd.prog ops Q rest (a.put o.dst v') w') : wpList Tryd.prog ops Q (o :: rest) a w := by
  obtain ⟨i, hi, hz, hsz, hb⟩ := info_parts info8
  cases A with
  | none =>
    obtain ⟨rfl, rfl⟩ := hnil rfl
    refine wpList_append_own_none hgd s x 22 ho base 5 i 1 Tryd.underlying22 hi v n _ hs hown hx ?_
    refine h v w ?_ h2 hap (Below.refl _ _)
    exact OwnB.congr hown fun j hj => by unfold catB; rw [if_pos (show j < n from hj)]
  | some ad =>
    refine wpList_append_own_at w hgd s x 22 ho base 5 i (.int .u8 0) 1 1 Tryd.underlying22 hi hz hsz hb rfl (by decide) v n _ hs hown ad m cap (bytesL m g) hx (by simp [bytesL]) ?_ (bytes_one m g) (by unfold maxLen; omega) (by omega) hbase ?_
    · intro j u hj
      obtain ⟨hjm, rfl⟩ := bytesL_get m g j u hj
      obtain ⟨B, off, e, _, hc⟩ := hA (by omega)
      obtain rfl : ad = ⟨B, off, none⟩ := Option.some.inj e
      rw [Go.WideShapes.add_plain]
      exact (hc j hjm).2
    · intro v' w' h1 hg _ hat
      rw [bytesL_cat] at h1
      refine h v' w' h1 (h2.grown hg hap) ?_ ((Below.refl base w).grown hg hbase fun k hk => (hown.lt k hk).1)
      rcases hat with e | e
      · intro b hb'
        rw [e] at hb'
        exact hap b hb'
      · intro b hb' hb2
        rw [e] at hb'
        injection hb' with hb'
        have := (World.ownsRow.lt h2 b hb2).2
        omega
/-- append, where another row stays as it is, as a run -/
theorem run_appW (w : World) (base : Nat) (v : Value) (n : Nat) (f : Nat → Nat) (hown : OwnB w base v n f) (ad : Addr) (m cap : Nat) (g : Nat → Nat) (hA : SlB w (some ad) m g) (hn : n + m ≤ 100000000000000) (hbase : base ≤ w.heap.size)
    (v2 : Value) (n2 : Nat) (f2 : Nat → Nat) (h2 : OwnB w base v2 n2 f2) (hap : Apart v v2) :
    ∃ v' w', (Builtin.append_ #[22, 22] 22 #[v, .slice (some ad) m cap]).run Tryd.prog w = .ok v' w' ∧ OwnB w' base v' (n + m) (catB n f g) ∧ OwnB w' base v2 n2 f2 ∧ Apart v' v2 ∧ Below base w w' := by
  obtain ⟨i, hi, hz, hsz, hb⟩ := info_parts info8
  obtain ⟨v', w', hr, h1, hg, _, hat⟩ := run_append_own_at (P := Tryd.prog) w base 22 22 5 i (.int .u8 0) 1 1 Tryd.underlying22 hi hz hsz hb rfl (by decide) v n _ hown ad m cap (bytesL m g) (by simp [bytesL])
    (fun j u hj => by
      obtain ⟨hjm, rfl⟩ := bytesL_get m g j u hj
      obtain ⟨B, off, e, _, hc⟩ := hA (by omega)
      obtain rfl : ad = ⟨B, off, none⟩ := Option.some.inj e
      rw [Go.WideShapes.add_plain]
      exact (hc j hjm).2) (bytes_one m g) (by unfold maxLen; omega) (by omega) hbase
  rw [bytesL_cat] at h1
  refine ⟨v', w', hr, h1, h2.grown hg hap, ?_, (Below.refl base w).grown hg hbase fun k hk => (hown.lt k hk).1⟩
  rcases hat with e | e
  · intro b hb'
    rw [e] at hb'
    exact hap b hb'
  · intro b hb' hb2
    rw [e] at hb'
    injection hb' with hb'
    have := (World.ownsRow.lt h2 b hb2).2
    omega
/-- append in a region that draws its order, where another row stays as it is -/
theorem step_appW {ops : Array Oper} {o : Oper} {a : Act} {w : World} {K : Act → World → Prop} {Q : Exit → Act → World → Prop} {E : Prop} (s x : Operand)
    (ho : o.op = .call { callee := .builtin .append, args := #[s, x], argTypes := #[22, 22] }) (ht : o.type = 22) (hw : Region.wanted o (yielded ops a.tmps) = true)
    (base : Nat) (v : Value) (n : Nat) (f : Nat → Nat) (hs : a.eval s = v) (hown : OwnB w base v n f)
    (ad : Addr) (m cap : Nat) (g : Nat → Nat) (hx : a.eval x = .slice (some ad) m cap) (hA : SlB w (some ad) m g) (hn : n + m ≤ 100000000000000) (hbase : base ≤ w.heap.size)
    (v2 : Value) (n2 : Nat) (f2 : Nat → Nat) (h2 : OwnB w base v2 n2 f2) (hap : Apart v v2)
    (h : ∀ v' w', OwnB w' base v' (n + m) (catB n f g) → OwnB w' base v2 n2 f2 → Apart v' v2 → Below base w w' → K (a.put o.dst v') w') :
    if Region.wanted o (yielded ops a.tmps) = true then Oper.wp Tryd.prog o a w K Q else E := by
  rw [if_pos hw]
  obtain ⟨v', w', hr, h1, h3, h4, h5⟩ := run_appW w base v n f hown ad m cap g hA hn hbase v2 n2 f2 h2 hap
  unfold Oper.wp
  simp [execOp, ho, ht, resolve, invoke, builtin, hs, hx, hr, Result.andThen]
  exact h v' w' h1 h3 h4 h5
/-- a row known whole, as one that may grow -/
theorem RowB.own {w : World} {g n base : Nat} {f : Nat → Nat} (h : RowB w g n f) (hb : base ≤ g) (hn : n ≤ maxLen) : OwnB w base (.slice (some ⟨g, 0, none⟩) n n) n f :=
  ⟨by simp [bytesL], Or.inr ⟨g, n, (bytesL n f).toArray, rfl, hb, h, Nat.le_refl _, hn, by simp [bytesL], by rw [Nat.mul_one, List.toList_toArray]; exact List.take_of_length_le (by simp [bytesL])⟩⟩
theorem OwnB.at0 {w : World} {base n st c : Nat} {f : Nat → Nat} (h : OwnB w base (.slice (some ⟨st, 0, none⟩) n c) n f) (hf : ∀ j, j < n → f j < 256) {j : Nat} (hj : j < n) : w.cell? ⟨st, j, none⟩ = some (.int .u8 (f j : Nat)) := by
  obtain ⟨A, c', e, hs⟩ := OwnB.slice h hf
  cases e
  obtain ⟨B, o, e, _, hc⟩ := hs (by omega)
  cases e
  have := (hc j hj).2
  rwa [Nat.zero_add] at this
theorem ownBlock_at (g n c : Nat) : (Value.slice (some ⟨g, 0, none⟩) n c).ownBlock = some g := rfl
end Go.Proofs.YtengejmkpkacgaaDoor
/- Rows of bytes that came in, and a row that grows beside a block that changes (layer 5). -/
namespace Go.Proofs.YtengejmkpkacgaaDoor
set_option maxRecDepth 100000
open Go.RowKit
/-- a row of rows of bytes that came in -/
def RowsIn (w : World) (AB : Option Addr) (nb : Nat) : Prop :=
  0 < nb → ∃ B o, AB = some ⟨B, o, none⟩ ∧ B < w.heap.size ∧ ∀ j, j < nb → ∃ (R : Option Addr) (l c : Nat) (f : Nat → Nat), w.cell? ⟨B, o + j, none⟩ = some (.slice R l c) ∧ SlB w R l f ∧ l ≤ c ∧ (R = none → l = 0 ∧ c = 0)
open Go.ChangeShapes Go.WideShapes Go.ChangeAt in
/-- a [][]byte parameter, opened -/
theorem open_rows {H : Type} {enc : TypeId × Value → H} {W : World} {base : Nat} {v : Value} {d : DataW H} {p : List MemPlace}
    (hval : Value.okWide Tryd.prog W .any base 31 v) (h : DataW.Trod enc Tryd.prog W 0 (fun _ => true) true 31 v d p) :
    ∃ A n c, v = .slice A n c ∧ RowsIn W A n ∧ (n ≤ c ∧ ∃ els sp, (d = .slice els sp ∧ els.length + sp.length = c) ∨ (d = .nil ∧ c = 0)) := by
  obtain ⟨a0, len, cap, rfl⟩ := okWide_slice Tryd.underlying31 hval
  obtain ⟨fuel, hf⟩ := h
  rcases Deep.open_int_rows Tryd.underlying31 Tryd.underlying22 Tryd.underlying5 (show Tryd.prog.cellsOf 22 = 1 by kernel_rfl) (show Tryd.prog.cellsOf 5 = 1 by kernel_rfl) hf with ⟨hcs, hx⟩ | ⟨a, len', cap', Ar, L, C, Z, hcs, _, hl, hm, hx, hr⟩
  · simp only [Value.cells] at hcs
    injection hcs with hcs
    injection hcs with h1 h2 h3
    subst h1 h2 h3
    injection hx with hd _
    exact ⟨none, 0, 0, rfl, fun h => absurd h (Nat.lt_irrefl 0), Nat.le_refl _, [], [], Or.inr ⟨hd, rfl⟩⟩
  · simp only [Value.cells] at hcs
    injection hcs with hcs
    injection hcs with h1 h2 h3
    subst h1 h2 h3
    injection hx with hd _
    refine ⟨some a, len, cap, rfl, fun hn => ?_, hl, _, _, Or.inl ⟨hd, by simp; omega⟩⟩
    obtain ⟨b, off, spot⟩ := a
    have hspot : spot = none := by simpa [Addr.add] using World.cell?_spot (hr 0 (by omega)).1
    subst hspot
    have hb0 := block_lt (hr 0 (by omega)).1
    refine ⟨b, off, rfl, hb0, fun j hj => ?_⟩
    obtain ⟨k1, k2, k3, k4, k5, k6, k7⟩ := hr j (by omega)
    have hml : maxLen = 9223372036854775807 := by decide
    have k1' : W.cell? ⟨b, off + j, none⟩ = some (.slice (Ar j) (L j) (C j)) := by
      by_cases h0 : j = 0
      · subst h0; simpa [Addr.add] using k1
      · simpa [Addr.add, h0] using k1
    refine ⟨Ar j, L j, C j, fun i => ((Z j).getD i 0).toNat, k1', fun hn2 => ?_, k2, fun h => ⟨by have := k6 h; omega, k6 h⟩⟩
    cases hA : Ar j with
    | none => have := k6 hA; omega
    | some a' =>
      obtain ⟨b2, off2, rfl, hc⟩ := ints_at (fun i hi => (k7 a' hA).2 i (by omega)) (by omega)
      refine ⟨b2, off2, rfl, block_lt (hc 0 (by omega)), fun i hi => ?_⟩
      have hr := range_u8 k5 i
      rw [← List.getD_eq_getElem?_getD] at hr
      refine ⟨by show ((Z j).getD i 0).toNat < 256; omega, ?_⟩
      show _ = some (Value.int .u8 (((Z j).getD i 0).toNat : Nat))
      rw [hc i (by omega), Int.toNat_of_nonneg hr.1]
open Go.ChangeShapes Go.WideShapes Go.ChangeAt in
theorem rows_len {H : Type} {ts : List TypeId} {ds : List (DataW H)} (h : (DataW.weightsEach Tryd.prog ts ds).all (· ≤ reachBytes) = true) {j : Nat} {d : DataW H} (ht : ts[j]? = some 31) (hd : ds[j]? = some d)
    {n c : Nat} (z : n ≤ c ∧ ∃ els sp, (d = .slice els sp ∧ els.length + sp.length = c) ∨ (d = .nil ∧ c = 0)) : n ≤ 140737488351232 := by
  obtain ⟨h1, els, sp, h2⟩ := z
  rcases h2 with ⟨rfl, h2⟩ | ⟨_, h2⟩
  · have h3 := sized_slice h ht hd Tryd.underlying31
    rw [show Tryd.prog.bytesOf 22 = 24 by kernel_rfl] at h3
    have : reachBytes = 140737488351232 := rfl
    omega
  · omega
theorem OwnB.chg {w w' : World} {base n K : Nat} {v : Value} {f : Nat → Nat} (h : OwnB w base v n f) (hc : Chg K w w') (hK : K < base) : OwnB w' base v n f := by
  rcases h with ⟨h1, h2 | ⟨g, cap, cur, e, hg, hh, r⟩⟩
  · exact ⟨h1, Or.inl h2⟩
  · exact ⟨h1, Or.inr ⟨g, cap, cur, e, hg, (hc.block g (Array.getElem?_eq_some_iff.1 hh).1 (by omega)).trans hh, r⟩⟩
end Go.Proofs.YtengejmkpkacgaaDoor
