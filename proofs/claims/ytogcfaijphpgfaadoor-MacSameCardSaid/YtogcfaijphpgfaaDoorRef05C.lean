/- The reference: the words of a block. -/
import Derived.Test.YtogcfaijphpgfaaDoorRunI
namespace Go.Proofs.YtogcfaijphpgfaaDoor
open Go.RowKit
--DEFS blk
def blkG (sv : Value) (B o c k q0 q1 q2 q3 b0 b1 b2 b3 y0 y1 y2 z1 z2 z3 : Nat) : Nat → Value → World → Prop
  | 0, v, _ => v = sv
  | 1, v, _ => v = .slice (some ⟨B, o, none⟩) 64 c
  | 2, v, _ => v = .int .i64 (k : Nat)
  | 3, v, _ => v = .int .i64 (q0 : Nat)
  | 4, v, _ => v = .pointer (some ⟨B, o + q0, none⟩)
  | 5, v, _ => v = .int .u8 (b0 : Nat)
  | 6, v, _ => v = .int .i64 (b0 : Nat)
  | 7, v, _ => v = .int .i64 (y0 : Nat)
  | 8, v, _ => v = .slice (some ⟨B, o, none⟩) 64 c
  | 9, v, _ => v = .int .i64 (k : Nat)
  | 10, v, _ => v = .int .i64 (q0 : Nat)
  | 11, v, _ => v = .int .i64 (q1 : Nat)
  | 12, v, _ => v = .pointer (some ⟨B, o + q1, none⟩)
  | 13, v, _ => v = .int .u8 (b1 : Nat)
  | 14, v, _ => v = .int .i64 (b1 : Nat)
  | 15, v, _ => v = .int .i64 (y1 : Nat)
  | 16, v, _ => v = .int .i64 (z1 : Nat)
  | 17, v, _ => v = .slice (some ⟨B, o, none⟩) 64 c
  | 18, v, _ => v = .int .i64 (k : Nat)
  | 19, v, _ => v = .int .i64 (q0 : Nat)
  | 20, v, _ => v = .int .i64 (q2 : Nat)
  | 21, v, _ => v = .pointer (some ⟨B, o + q2, none⟩)
  | 22, v, _ => v = .int .u8 (b2 : Nat)
  | 23, v, _ => v = .int .i64 (b2 : Nat)
  | 24, v, _ => v = .int .i64 (y2 : Nat)
  | 25, v, _ => v = .int .i64 (z2 : Nat)
  | 26, v, _ => v = .slice (some ⟨B, o, none⟩) 64 c
  | 27, v, _ => v = .int .i64 (k : Nat)
  | 28, v, _ => v = .int .i64 (q0 : Nat)
  | 29, v, _ => v = .int .i64 (q3 : Nat)
  | 30, v, _ => v = .pointer (some ⟨B, o + q3, none⟩)
  | 31, v, _ => v = .int .u8 (b3 : Nat)
  | 32, v, _ => v = .int .i64 (b3 : Nat)
  | 33, v, _ => v = .int .i64 (z3 : Nat)
  | 34, v, w => ∃ g, v = .slice (some ⟨g, 0, none⟩) 1 1 ∧ w.cell? ⟨g, 0, none⟩ = some (.int .i64 (z3 : Nat))
  | _, _, _ => True
theorem blkG_stays (sv : Value) (B o c k q0 q1 q2 q3 b0 b1 b2 b3 y0 y1 y2 z1 z2 z3 : Nat) : ∀ i v w w', blkG sv B o c k q0 q1 q2 q3 b0 b1 b2 b3 y0 y1 y2 z1 z2 z3 i v w → Below w.heap.size w w' → blkG sv B o c k q0 q1 q2 q3 b0 b1 b2 b3 y0 y1 y2 z1 z2 z3 i v w'
  | 0, _, _, _, h, _ => h
  | 1, _, _, _, h, _ => h
  | 2, _, _, _, h, _ => h
  | 3, _, _, _, h, _ => h
  | 4, _, _, _, h, _ => h
  | 5, _, _, _, h, _ => h
  | 6, _, _, _, h, _ => h
  | 7, _, _, _, h, _ => h
  | 8, _, _, _, h, _ => h
  | 9, _, _, _, h, _ => h
  | 10, _, _, _, h, _ => h
  | 11, _, _, _, h, _ => h
  | 12, _, _, _, h, _ => h
  | 13, _, _, _, h, _ => h
  | 14, _, _, _, h, _ => h
  | 15, _, _, _, h, _ => h
  | 16, _, _, _, h, _ => h
  | 17, _, _, _, h, _ => h
  | 18, _, _, _, h, _ => h
  | 19, _, _, _, h, _ => h
  | 20, _, _, _, h, _ => h
  | 21, _, _, _, h, _ => h
  | 22, _, _, _, h, _ => h
  | 23, _, _, _, h, _ => h
  | 24, _, _, _, h, _ => h
  | 25, _, _, _, h, _ => h
  | 26, _, _, _, h, _ => h
  | 27, _, _, _, h, _ => h
  | 28, _, _, _, h, _ => h
  | 29, _, _, _, h, _ => h
  | 30, _, _, _, h, _ => h
  | 31, _, _, _, h, _ => h
  | 32, _, _, _, h, _ => h
  | 33, _, _, _, h, _ => h
  | 34, v, w, w', h_, hb => by
    obtain ⟨g, h1, h2⟩ := h_; exact ⟨g, h1, (hb.cell (p := ⟨g, 0, none⟩) (block_lt h2)).trans h2⟩
  | _ + 35, _, _, _, _, _ => trivial
--END DEFS blk
set_option maxRecDepth 100000 in
set_option maxHeartbeats 3200000 in
theorem block_any (A : Option Addr) (c : Nat) (b : Nat → Nat) (w : World) (hA : SlB w A 64 b) :
    Calls Tryd.prog 38 #[.slice A 64 c] w fun e w' => ∃ v, e = .returned v ∧ OwnI w' w.heap.size v 64 (wn b 48) ∧ Below w.heap.size w w' := by
  have HY := Lib.hid (show ∀ j, j < 64 → b j < 256 from fun j hj => hA.byte hj)
  obtain ⟨B, o, rfl, hB, hc⟩ := hA (by decide)
  have HCL := Lib.hid (show ∀ j, j < 64 → w.cell? ⟨B, o + j, none⟩ = some (.int .u8 (b j : Nat)) from fun j hj => (hc j hj).2)
  have HBL := Lib.hid hB
  clear hc hB hA
  go_enter Tryd.func38, Tryd.ntmps38
  go_wp2_with fail
  go_loopw [3, 4] (fun v t wr => ∃ k : Nat, k ≤ 64 ∧ t = .int .i64 k ∧ OwnI wr w.heap.size v k (wn b 48) ∧ Below w.heap.size w wr) (fun _ t _ => 64 - (intOf t).toNat)
  case atStart => exact ⟨0, Nat.zero_le _, rfl, OwnI.nil _ _ _, Below.refl _ _⟩
  case round =>
    obtain ⟨k, hk, rfl, h1, h2⟩ := hrel
    have H1 := Lib.hid h1
    have H2 := Lib.hid h2
    clear h1 h2
    by_cases hlt : k < 64
    · have hki : (k : Int) < 64 := by omega
      have hsz := H2.out.size
      by_cases h16 : k < 16
      · have hk16 : (k : Int) < 16 := by omega
        obtain ⟨q0, hq0⟩ : ∃ q, q = 4 * k := ⟨_, rfl⟩
        obtain ⟨q1, hq1⟩ : ∃ q, q = q0 + 1 := ⟨_, rfl⟩
        obtain ⟨q2, hq2⟩ : ∃ q, q = q0 + 2 := ⟨_, rfl⟩
        obtain ⟨q3, hq3⟩ : ∃ q, q = q0 + 3 := ⟨_, rfl⟩
        have a0 : (4 : Int) * (k : Nat) = (q0 : Nat) ∧ True := ⟨by omega, trivial⟩
        have a1 : (q0 : Int) + 1 = (q1 : Nat) ∧ True := ⟨by omega, trivial⟩
        have a2 : (q0 : Int) + 2 = (q2 : Nat) ∧ True := ⟨by omega, trivial⟩
        have a3 : (q0 : Int) + 3 = (q3 : Nat) ∧ True := ⟨by omega, trivial⟩
        have m0 : q0 < 64 := by omega
        have m1 : q1 < 64 := by omega
        have m2 : q2 < 64 := by omega
        have m3 : q3 < 64 := by omega
        have cell : ∀ j, j < 64 → wr.cell? ⟨B, o + j, none⟩ = some (.int .u8 (b j : Nat)) := fun j hj => (H2.out.cell (p := ⟨B, o + j, none⟩) HBL.out).trans (HCL.out j hj)
        have c0 := cell q0 (by omega)
        have c1 := cell q1 (by omega)
        have c2 := cell q2 (by omega)
        have c3 := cell q3 (by omega)
        have l0 := HY.out q0 (by omega)
        have l1 := HY.out q1 (by omega)
        have l2 := HY.out q2 (by omega)
        have l3 := HY.out q3 (by omega)
        have CE := Lib.hid (show ∀ w', Below wr.drew.heap.size wr.drew w' → w'.cell? ⟨B, o + q0, none⟩ = some (.int .u8 (b q0 : Nat)) ∧ w'.cell? ⟨B, o + q1, none⟩ = some (.int .u8 (b q1 : Nat)) ∧ w'.cell? ⟨B, o + q2, none⟩ = some (.int .u8 (b q2 : Nat)) ∧ w'.cell? ⟨B, o + q3, none⟩ = some (.int .u8 (b q3 : Nat)) from fun w' hb =>
          ⟨(hb.cell (p := ⟨B, o + q0, none⟩) (Nat.lt_of_lt_of_le HBL.out hsz)).trans c0, (hb.cell (p := ⟨B, o + q1, none⟩) (Nat.lt_of_lt_of_le HBL.out hsz)).trans c1, (hb.cell (p := ⟨B, o + q2, none⟩) (Nat.lt_of_lt_of_le HBL.out hsz)).trans c2, (hb.cell (p := ⟨B, o + q3, none⟩) (Nat.lt_of_lt_of_le HBL.out hsz)).trans c3⟩)
        have HV := Lib.hid (show wn b 48 k = b q0 * 16777216 + b q1 * 65536 + b q2 * 256 + b q3 by rw [wn_first b k h16, hq1, hq2, hq3, hq0]; rfl)
        clear hq0 hq1 hq2 hq3 cell c0 c1 c2 c3
        generalize b q0 = b0 at *
        generalize b q1 = b1 at *
        generalize b q2 = b2 at *
        generalize b q3 = b3 at *
        obtain ⟨y0, hy0⟩ : ∃ y, y = b0 * 16777216 := ⟨_, rfl⟩
        obtain ⟨y1, hy1⟩ : ∃ y, y = b1 * 65536 := ⟨_, rfl⟩
        obtain ⟨y2, hy2⟩ : ∃ y, y = b2 * 256 := ⟨_, rfl⟩
        obtain ⟨z1, hz1⟩ : ∃ z, z = y0 + y1 := ⟨_, rfl⟩
        obtain ⟨z2, hz2⟩ : ∃ z, z = z1 + y2 := ⟨_, rfl⟩
        obtain ⟨z3, hz3⟩ : ∃ z, z = z2 + b3 := ⟨_, rfl⟩
        have d0 : (b0 : Int) * 16777216 = (y0 : Nat) ∧ True := ⟨by omega, trivial⟩
        have d1 : (b1 : Int) * 65536 = (y1 : Nat) ∧ True := ⟨by omega, trivial⟩
        have d2 : (b2 : Int) * 256 = (y2 : Nat) ∧ True := ⟨by omega, trivial⟩
        have d3 : (y0 : Int) + (y1 : Nat) = (z1 : Nat) ∧ True := ⟨by omega, trivial⟩
        have d4 : (z1 : Int) + (y2 : Nat) = (z2 : Nat) ∧ True := ⟨by omega, trivial⟩
        have d5 : (z2 : Int) + (b3 : Nat) = (z3 : Nat) ∧ True := ⟨by omega, trivial⟩
        have lz : y0 < 4294967296 ∧ y1 < 4294967296 ∧ y2 < 4294967296 ∧ z1 < 4294967296 ∧ z2 < 4294967296 ∧ z3 < 4294967296 := by omega
        have HV2 := Lib.hid (show z3 = wn b 48 k by rw [HV.out]; omega)
        clear hy0 hy1 hy2 hz1 hz2 hz3 HV
        go_wp2_with fail
        refine ord.wp_region_ordT 35 [[], [], [], [2], [1, 3], [4], [5], [6], [], [], [9], [10], [8, 11], [12], [13], [14], [7, 15], [], [], [18], [19], [17, 20], [21], [22], [23], [16, 24], [], [], [27], [28], [26, 29], [30], [31], [25, 32], [33]] [(0, 15), (1, 16), (2, 17), (3, 18), (4, 19), (5, 20), (6, 21), (7, 22), (8, 23), (9, 24), (10, 25), (11, 26), (12, 27), (13, 28), (14, 29), (15, 30), (16, 31), (17, 32), (18, 33), (19, 34), (20, 35), (21, 36), (22, 37), (23, 38), (24, 39), (25, 40), (26, 41), (27, 42), (28, 43), (29, 44), (30, 45), (31, 46), (32, 47), (33, 48), (34, 49)] (blkG u3 B o c k q0 q1 q2 q3 b0 b1 b2 b3 y0 y1 y2 z1 z2 z3) (by kernel_rfl) (by kernel_rfl) (by kernel_rfl) (blkG_stays _ _ _ _ _ _ _ _ _ _ _ _ _ _ _ _ _ _ _) ((ord.steps_cons ?_ (ord.steps_cons ?_ (ord.steps_cons ?_ (ord.steps_cons ?_ (ord.steps_cons ?_ (ord.steps_cons ?_ (ord.steps_cons ?_ (ord.steps_cons ?_ (ord.steps_cons ?_ (ord.steps_cons ?_ (ord.steps_cons ?_ (ord.steps_cons ?_ (ord.steps_cons ?_ (ord.steps_cons ?_ (ord.steps_cons ?_ (ord.steps_cons ?_ (ord.steps_cons ?_ (ord.steps_cons ?_ (ord.steps_cons ?_ (ord.steps_cons ?_ (ord.steps_cons ?_ (ord.steps_cons ?_ (ord.steps_cons ?_ (ord.steps_cons ?_ (ord.steps_cons ?_ (ord.steps_cons ?_ (ord.steps_cons ?_ (ord.steps_cons ?_ (ord.steps_cons ?_ (ord.steps_cons ?_ (ord.steps_cons ?_ (ord.steps_cons ?_ (ord.steps_cons ?_ (ord.steps_cons ?_ (ord.steps_cons ?_ ord.steps_nil)))))))))))))))))))))))))))))))))))) ?_
        --STEPS blk
        · intro o ho x w hb hG
          obtain rfl := Option.some.inj ho
          clear ho
          refine Or.inl ⟨ord.want0 rfl, ?_⟩
          exact ord.makes_move rfl ⟨Below.refl _ _, rfl⟩
        · intro o ho x w hb hG
          obtain rfl := Option.some.inj ho
          clear ho
          refine Or.inl ⟨ord.want0 rfl, ?_⟩
          exact ord.makes_move rfl ⟨Below.refl _ _, rfl⟩
        · intro o ho x w hb hG
          obtain rfl := Option.some.inj ho
          clear ho
          refine Or.inl ⟨ord.want0 rfl, ?_⟩
          exact ord.makes_move rfl ⟨Below.refl _ _, rfl⟩
        · intro o ho x w hb hG
          obtain rfl := Option.some.inj ho
          clear ho
          have h17 : x 2 = .int .i64 (k : Nat) := hG (2, 17) (List.mem_of_getElem? (i := 2) rfl) rfl
          refine Or.inl ⟨ord.want0 rfl, ?_⟩
          exact ord.makes_bin rfl rfl h17 (by exact run_mulI _ _ 4 k _ a0.1 (by omega) w) ⟨Below.refl _ _, rfl⟩
        · intro o ho x w hb hG
          obtain rfl := Option.some.inj ho
          clear ho
          have h16 : x 1 = .slice (some ⟨B, o, none⟩) 64 c := hG (1, 16) (List.mem_of_getElem? (i := 1) rfl) rfl
          have h18 : x 3 = .int .i64 (q0 : Nat) := hG (3, 18) (List.mem_of_getElem? (i := 3) rfl) rfl
          refine Or.inl ⟨ord.want0 rfl, ?_⟩
          exact ord.makes_indexAddr rfl h16 h18 (by exact run_idx8 B o 64 c q0 m0 w) ⟨Below.refl _ _, rfl⟩
        · intro o ho x w hb hG
          obtain rfl := Option.some.inj ho
          clear ho
          have h19 : x 4 = .pointer (some ⟨B, o + q0, none⟩) := hG (4, 19) (List.mem_of_getElem? (i := 4) rfl) rfl
          refine Or.inl ⟨ord.want0 rfl, ?_⟩
          exact ord.makes_load rfl h19 (by exact run_load8 _ b0 w (CE.out w hb).1) ⟨Below.refl _ _, rfl⟩
        · intro o ho x w hb hG
          obtain rfl := Option.some.inj ho
          clear ho
          have h20 : x 5 = .int .u8 (b0 : Nat) := hG (5, 20) (List.mem_of_getElem? (i := 5) rfl) rfl
          refine Or.inl ⟨ord.want0 rfl, ?_⟩
          exact ord.makes_conv rfl h20 (by exact run_conv8 b0 l0 w) ⟨Below.refl _ _, rfl⟩
        · intro o ho x w hb hG
          obtain rfl := Option.some.inj ho
          clear ho
          have h21 : x 6 = .int .i64 (b0 : Nat) := hG (6, 21) (List.mem_of_getElem? (i := 6) rfl) rfl
          refine Or.inl ⟨ord.want0 rfl, ?_⟩
          exact ord.makes_bin rfl h21 rfl (by exact run_mulI _ _ b0 16777216 _ d0.1 (by omega) w) ⟨Below.refl _ _, rfl⟩
        · intro o ho x w hb hG
          obtain rfl := Option.some.inj ho
          clear ho
          refine Or.inl ⟨ord.want0 rfl, ?_⟩
          exact ord.makes_move rfl ⟨Below.refl _ _, rfl⟩
        · intro o ho x w hb hG
          obtain rfl := Option.some.inj ho
          clear ho
          refine Or.inl ⟨ord.want0 rfl, ?_⟩
          exact ord.makes_move rfl ⟨Below.refl _ _, rfl⟩
        · intro o ho x w hb hG
          obtain rfl := Option.some.inj ho
          clear ho
          have h24 : x 9 = .int .i64 (k : Nat) := hG (9, 24) (List.mem_of_getElem? (i := 9) rfl) rfl
          refine Or.inl ⟨ord.want0 rfl, ?_⟩
          exact ord.makes_bin rfl rfl h24 (by exact run_mulI _ _ 4 k q0 a0.1 (by omega) w) ⟨Below.refl _ _, rfl⟩
        · intro o ho x w hb hG
          obtain rfl := Option.some.inj ho
          clear ho
          have h25 : x 10 = .int .i64 (q0 : Nat) := hG (10, 25) (List.mem_of_getElem? (i := 10) rfl) rfl
          refine Or.inl ⟨ord.want0 rfl, ?_⟩
          exact ord.makes_bin rfl h25 rfl (by exact run_addI _ _ q0 1 q1 a1.1 (by omega) w) ⟨Below.refl _ _, rfl⟩
        · intro o ho x w hb hG
          obtain rfl := Option.some.inj ho
          clear ho
          have h23 : x 8 = .slice (some ⟨B, o, none⟩) 64 c := hG (8, 23) (List.mem_of_getElem? (i := 8) rfl) rfl
          have h26 : x 11 = .int .i64 (q1 : Nat) := hG (11, 26) (List.mem_of_getElem? (i := 11) rfl) rfl
          refine Or.inl ⟨ord.want0 rfl, ?_⟩
          exact ord.makes_indexAddr rfl h23 h26 (by exact run_idx8 B o 64 c q1 m1 w) ⟨Below.refl _ _, rfl⟩
        · intro o ho x w hb hG
          obtain rfl := Option.some.inj ho
          clear ho
          have h27 : x 12 = .pointer (some ⟨B, o + q1, none⟩) := hG (12, 27) (List.mem_of_getElem? (i := 12) rfl) rfl
          refine Or.inl ⟨ord.want0 rfl, ?_⟩
          exact ord.makes_load rfl h27 (by exact run_load8 _ b1 w (CE.out w hb).2.1) ⟨Below.refl _ _, rfl⟩
        · intro o ho x w hb hG
          obtain rfl := Option.some.inj ho
          clear ho
          have h28 : x 13 = .int .u8 (b1 : Nat) := hG (13, 28) (List.mem_of_getElem? (i := 13) rfl) rfl
          refine Or.inl ⟨ord.want0 rfl, ?_⟩
          exact ord.makes_conv rfl h28 (by exact run_conv8 b1 l1 w) ⟨Below.refl _ _, rfl⟩
        · intro o ho x w hb hG
          obtain rfl := Option.some.inj ho
          clear ho
          have h29 : x 14 = .int .i64 (b1 : Nat) := hG (14, 29) (List.mem_of_getElem? (i := 14) rfl) rfl
          refine Or.inl ⟨ord.want0 rfl, ?_⟩
          exact ord.makes_bin rfl h29 rfl (by exact run_mulI _ _ b1 65536 _ d1.1 (by omega) w) ⟨Below.refl _ _, rfl⟩
        · intro o ho x w hb hG
          obtain rfl := Option.some.inj ho
          clear ho
          have h22 : x 7 = .int .i64 (y0 : Nat) := hG (7, 22) (List.mem_of_getElem? (i := 7) rfl) rfl
          have h30 : x 15 = .int .i64 (y1 : Nat) := hG (15, 30) (List.mem_of_getElem? (i := 15) rfl) rfl
          refine Or.inl ⟨ord.want0 rfl, ?_⟩
          exact ord.makes_bin rfl h22 h30 (by exact run_addI _ _ y0 y1 z1 d3.1 (by omega) w) ⟨Below.refl _ _, rfl⟩
        · intro o ho x w hb hG
          obtain rfl := Option.some.inj ho
          clear ho
          refine Or.inl ⟨ord.want0 rfl, ?_⟩
          exact ord.makes_move rfl ⟨Below.refl _ _, rfl⟩
        · intro o ho x w hb hG
          obtain rfl := Option.some.inj ho
          clear ho
          refine Or.inl ⟨ord.want0 rfl, ?_⟩
          exact ord.makes_move rfl ⟨Below.refl _ _, rfl⟩
        · intro o ho x w hb hG
          obtain rfl := Option.some.inj ho
          clear ho
          have h33 : x 18 = .int .i64 (k : Nat) := hG (18, 33) (List.mem_of_getElem? (i := 18) rfl) rfl
          refine Or.inl ⟨ord.want0 rfl, ?_⟩
          exact ord.makes_bin rfl rfl h33 (by exact run_mulI _ _ 4 k q0 a0.1 (by omega) w) ⟨Below.refl _ _, rfl⟩
        · intro o ho x w hb hG
          obtain rfl := Option.some.inj ho
          clear ho
          have h34 : x 19 = .int .i64 (q0 : Nat) := hG (19, 34) (List.mem_of_getElem? (i := 19) rfl) rfl
          refine Or.inl ⟨ord.want0 rfl, ?_⟩
          exact ord.makes_bin rfl h34 rfl (by exact run_addI _ _ q0 2 q2 a2.1 (by omega) w) ⟨Below.refl _ _, rfl⟩
        · intro o ho x w hb hG
          obtain rfl := Option.some.inj ho
          clear ho
          have h32 : x 17 = .slice (some ⟨B, o, none⟩) 64 c := hG (17, 32) (List.mem_of_getElem? (i := 17) rfl) rfl
          have h35 : x 20 = .int .i64 (q2 : Nat) := hG (20, 35) (List.mem_of_getElem? (i := 20) rfl) rfl
          refine Or.inl ⟨ord.want0 rfl, ?_⟩
          exact ord.makes_indexAddr rfl h32 h35 (by exact run_idx8 B o 64 c q2 m2 w) ⟨Below.refl _ _, rfl⟩
        · intro o ho x w hb hG
          obtain rfl := Option.some.inj ho
          clear ho
          have h36 : x 21 = .pointer (some ⟨B, o + q2, none⟩) := hG (21, 36) (List.mem_of_getElem? (i := 21) rfl) rfl
          refine Or.inl ⟨ord.want0 rfl, ?_⟩
          exact ord.makes_load rfl h36 (by exact run_load8 _ b2 w (CE.out w hb).2.2.1) ⟨Below.refl _ _, rfl⟩
        · intro o ho x w hb hG
          obtain rfl := Option.some.inj ho
          clear ho
          have h37 : x 22 = .int .u8 (b2 : Nat) := hG (22, 37) (List.mem_of_getElem? (i := 22) rfl) rfl
          refine Or.inl ⟨ord.want0 rfl, ?_⟩
          exact ord.makes_conv rfl h37 (by exact run_conv8 b2 l2 w) ⟨Below.refl _ _, rfl⟩
        · intro o ho x w hb hG
          obtain rfl := Option.some.inj ho
          clear ho
          have h38 : x 23 = .int .i64 (b2 : Nat) := hG (23, 38) (List.mem_of_getElem? (i := 23) rfl) rfl
          refine Or.inl ⟨ord.want0 rfl, ?_⟩
          exact ord.makes_bin rfl h38 rfl (by exact run_mulI _ _ b2 256 _ d2.1 (by omega) w) ⟨Below.refl _ _, rfl⟩
        · intro o ho x w hb hG
          obtain rfl := Option.some.inj ho
          clear ho
          have h31 : x 16 = .int .i64 (z1 : Nat) := hG (16, 31) (List.mem_of_getElem? (i := 16) rfl) rfl
          have h39 : x 24 = .int .i64 (y2 : Nat) := hG (24, 39) (List.mem_of_getElem? (i := 24) rfl) rfl
          refine Or.inl ⟨ord.want0 rfl, ?_⟩
          exact ord.makes_bin rfl h31 h39 (by exact run_addI _ _ z1 y2 z2 d4.1 (by omega) w) ⟨Below.refl _ _, rfl⟩
        · intro o ho x w hb hG
          obtain rfl := Option.some.inj ho
          clear ho
          refine Or.inl ⟨ord.want0 rfl, ?_⟩
          exact ord.makes_move rfl ⟨Below.refl _ _, rfl⟩
        · intro o ho x w hb hG
          obtain rfl := Option.some.inj ho
          clear ho
          refine Or.inl ⟨ord.want0 rfl, ?_⟩
          exact ord.makes_move rfl ⟨Below.refl _ _, rfl⟩
        · intro o ho x w hb hG
          obtain rfl := Option.some.inj ho
          clear ho
          have h42 : x 27 = .int .i64 (k : Nat) := hG (27, 42) (List.mem_of_getElem? (i := 27) rfl) rfl
          refine Or.inl ⟨ord.want0 rfl, ?_⟩
          exact ord.makes_bin rfl rfl h42 (by exact run_mulI _ _ 4 k q0 a0.1 (by omega) w) ⟨Below.refl _ _, rfl⟩
        · intro o ho x w hb hG
          obtain rfl := Option.some.inj ho
          clear ho
          have h43 : x 28 = .int .i64 (q0 : Nat) := hG (28, 43) (List.mem_of_getElem? (i := 28) rfl) rfl
          refine Or.inl ⟨ord.want0 rfl, ?_⟩
          exact ord.makes_bin rfl h43 rfl (by exact run_addI _ _ q0 3 q3 a3.1 (by omega) w) ⟨Below.refl _ _, rfl⟩
        · intro o ho x w hb hG
          obtain rfl := Option.some.inj ho
          clear ho
          have h41 : x 26 = .slice (some ⟨B, o, none⟩) 64 c := hG (26, 41) (List.mem_of_getElem? (i := 26) rfl) rfl
          have h44 : x 29 = .int .i64 (q3 : Nat) := hG (29, 44) (List.mem_of_getElem? (i := 29) rfl) rfl
          refine Or.inl ⟨ord.want0 rfl, ?_⟩
          exact ord.makes_indexAddr rfl h41 h44 (by exact run_idx8 B o 64 c q3 m3 w) ⟨Below.refl _ _, rfl⟩
        · intro o ho x w hb hG
          obtain rfl := Option.some.inj ho
          clear ho
          have h45 : x 30 = .pointer (some ⟨B, o + q3, none⟩) := hG (30, 45) (List.mem_of_getElem? (i := 30) rfl) rfl
          refine Or.inl ⟨ord.want0 rfl, ?_⟩
          exact ord.makes_load rfl h45 (by exact run_load8 _ b3 w (CE.out w hb).2.2.2) ⟨Below.refl _ _, rfl⟩
        · intro o ho x w hb hG
          obtain rfl := Option.some.inj ho
          clear ho
          have h46 : x 31 = .int .u8 (b3 : Nat) := hG (31, 46) (List.mem_of_getElem? (i := 31) rfl) rfl
          refine Or.inl ⟨ord.want0 rfl, ?_⟩
          exact ord.makes_conv rfl h46 (by exact run_conv8 b3 l3 w) ⟨Below.refl _ _, rfl⟩
        · intro o ho x w hb hG
          obtain rfl := Option.some.inj ho
          clear ho
          have h40 : x 25 = .int .i64 (z2 : Nat) := hG (25, 40) (List.mem_of_getElem? (i := 25) rfl) rfl
          have h47 : x 32 = .int .i64 (b3 : Nat) := hG (32, 47) (List.mem_of_getElem? (i := 32) rfl) rfl
          refine Or.inl ⟨ord.want0 rfl, ?_⟩
          exact ord.makes_bin rfl h40 h47 (by exact run_addI _ _ z2 b3 z3 d5.1 (by omega) w) ⟨Below.refl _ _, rfl⟩
        · intro o ho x w hb hG
          obtain rfl := Option.some.inj ho
          clear ho
          have h48 : x 33 = .int .i64 (z3 : Nat) := hG (33, 48) (List.mem_of_getElem? (i := 33) rfl) rfl
          refine Or.inl ⟨ord.want0 rfl, ?_⟩
          exact ord.makes_build1 rfl h48 (run_int1 w z3) ⟨(Below.refl _ _).alloc (Nat.le_refl _) _, _, rfl, (World.cell?_alloc_at _ _ _ _ rfl).trans rfl⟩
        --END STEPS blk
        · intro x w5 hb hG
          have e0 : x 0 = u3 := hG (0, 15) (List.mem_of_getElem? (i := 0) rfl)
          obtain ⟨g, e34, hc34⟩ : ∃ g, x 34 = .slice (some ⟨g, 0, none⟩) 1 1 ∧ w5.cell? ⟨g, 0, none⟩ = some (.int .i64 (z3 : Nat)) := hG (34, 49) (List.mem_of_getElem? (i := 34) rfl)
          clear hG
          simp only [ord.puts, ord.put', List.set_cons_zero, List.set_cons_succ, if_true]
          rw [e0, e34]
          simp only [List.drop_succ_cons, List.drop_zero]
          have hsz5 : w.heap.size ≤ w5.heap.size := Nat.le_trans hsz hb.size
          have HO := Lib.hid (H1.out.keep hb)
          have HB5 := Lib.hid (H2.out.trans (hb.mono hsz))
          have HC5 := Lib.hid hc34
          clear hb hc34
          go_wp2_with (refine wpList_app1I rfl (.tmp 15) (.tmp 49) rfl w.heap.size _ k _ rfl HO.out g z3 rfl HC5.out (by omega) hsz5 HV2.out ?_; intro v' w' h1 h2; have HO6 := Lib.hid h1; have HB6 := Lib.hid (HB5.out.trans h2); clear h1 h2)
          go_roundw
          case rel => exact ⟨k + 1, by omega, by go_num, HO6.out, HB6.out⟩
          case measure => simp [intOf]; omega
      · have hk16 : (16 : Int) ≤ k := by omega
        have h16n : 16 ≤ k := by omega
        obtain ⟨A3, c3, rfl, hc3, hc3m, hrow, hnil⟩ := H1.out.slice
        obtain ⟨g3, rfl, hg3, hrow⟩ := hrow (by omega)
        have HR := Lib.hid hrow
        have c2 : wr.cell? ⟨g3, k - 2, none⟩ = some (.int .i64 (wn b 48 (k - 2) : Nat)) := hrow.cell (by omega) (Nat.zero_add _).symm
        have c15 : wr.cell? ⟨g3, k - 15, none⟩ = some (.int .i64 (wn b 48 (k - 15) : Nat)) := hrow.cell (by omega) (Nat.zero_add _).symm
        have l2 := wn_lt HY.out 48 (k - 2)
        have l15 := wn_lt HY.out 48 (k - 15)
        have HV := Lib.hid (wn_next b k h16n hlt)
        obtain ⟨x2, hx2⟩ : ∃ x, wn b 48 (k - 2) = x := ⟨_, rfl⟩
        obtain ⟨x15, hx15⟩ : ∃ x, wn b 48 (k - 15) = x := ⟨_, rfl⟩
        rw [hx2] at c2 l2 HV
        rw [hx15] at c15 l15 HV
        clear hrow hx2 hx15
        go_wp2_with fail
        refine (rright_any 7 x15 _ l15 (by decide) (by decide)).mono ?_
        rintro e wa ⟨rfl, na, rfl⟩
        go_wp2_with fail
        refine (rright_any 18 x15 _ l15 (by decide) (by decide)).mono ?_
        rintro e wb ⟨rfl, nb, rfl⟩
        have HOa := Lib.hid ((H1.out.drewN na).drewN nb)
        have HBa := Lib.hid (drawn (drawn H2.out na) nb)
        have HRa := Lib.hid ((HR.out.drewN na).drewN nb)
        have c2 : ((wr.drewN na).drewN nb).cell? ⟨g3, k - 2, none⟩ = some (.int .i64 (x2 : Nat)) := c2
        clear H1 H2 HR c15
        generalize (wr.drewN na).drewN nb = wb at *
        have a7 := rr_lt (n := 7) l15
        have a18 := rr_lt (n := 18) l15
        have hxa := i64_xor_nat (rr 7 x15) (rr 18 x15) (by omega) (by omega)
        have hxb : bits BinOp.xor .i64 ((rr 7 x15 ^^^ rr 18 x15 : Nat) : Int) ((x15 : Int) / 8) = ((ls0 x15 : Nat) : Int) := i64_xor_nat _ (x15 / 8) (by have := xor32 a7 a18; omega) (by omega)
        have hl0 := ls0_lt l15
        generalize rr 7 x15 ^^^ rr 18 x15 = b1 at *
        generalize rr 7 x15 = b2 at *
        generalize rr 18 x15 = b3 at *
        generalize ls0 x15 = s0 at *
        go_wp2_with fail
        refine (rright_any 17 x2 _ l2 (by decide) (by decide)).mono ?_
        rintro e wc ⟨rfl, na, rfl⟩
        go_wp2_with fail
        refine (rright_any 19 x2 _ l2 (by decide) (by decide)).mono ?_
        rintro e wd ⟨rfl, nb, rfl⟩
        have HOb := Lib.hid ((HOa.out.drewN na).drewN nb)
        have HBb := Lib.hid (drawn (drawn HBa.out na) nb)
        have HRb := Lib.hid ((HRa.out.drewN na).drewN nb)
        clear HOa HBa HRa c2
        generalize (wb.drewN na).drewN nb = wd at *
        have a17 := rr_lt (n := 17) l2
        have a19 := rr_lt (n := 19) l2
        have hxc := i64_xor_nat (rr 17 x2) (rr 19 x2) (by omega) (by omega)
        have hxd : bits BinOp.xor .i64 ((rr 17 x2 ^^^ rr 19 x2 : Nat) : Int) ((x2 : Int) / 1024) = ((ls1 x2 : Nat) : Int) := i64_xor_nat _ (x2 / 1024) (by have := xor32 a17 a19; omega) (by omega)
        have hl1 := ls1_lt l2
        generalize rr 17 x2 ^^^ rr 19 x2 = b4 at *
        generalize rr 17 x2 = b5 at *
        generalize rr 19 x2 = b6 at *
        generalize ls1 x2 = s1 at *
        have c16 : wd.cell? ⟨g3, k - 16, none⟩ = some (.int .i64 (wn b 48 (k - 16) : Nat)) := HRb.out.cell (by omega) (Nat.zero_add _).symm
        have c7 : wd.cell? ⟨g3, k - 7, none⟩ = some (.int .i64 (wn b 48 (k - 7) : Nat)) := HRb.out.cell (by omega) (Nat.zero_add _).symm
        have l16 := wn_lt HY.out 48 (k - 16)
        have l7 := wn_lt HY.out 48 (k - 7)
        obtain ⟨x16, hx16⟩ : ∃ x, wn b 48 (k - 16) = x := ⟨_, rfl⟩
        obtain ⟨x7, hx7⟩ : ∃ x, wn b 48 (k - 7) = x := ⟨_, rfl⟩
        obtain ⟨i16, hi16⟩ : ∃ i, k - 16 = i := ⟨_, rfl⟩
        obtain ⟨i7, hi7⟩ : ∃ i, k - 7 = i := ⟨_, rfl⟩
        have j16 : (k : Int) - 16 = i16 := by omega
        have j7 : (k : Int) - 7 = i7 := by omega
        have j16w : IntKind.i64.wrap (i16 : Int) = i16 := IntWalk.i64_in _ (by omega)
        have j7w : IntKind.i64.wrap (i7 : Int) = i7 := IntWalk.i64_in _ (by omega)
        have j16k : (i16 : Int) < k := by omega
        have j7k : (i7 : Int) < k := by omega
        rw [hx16] at c16 l16 HV
        rw [hi16] at c16
        rw [hx7] at c7 l7 HV
        rw [hi7] at c7
        obtain ⟨z, hz⟩ : ∃ z, (x16 + s0 + x7 + s1) % 4294967296 = z := ⟨_, rfl⟩
        rw [hz] at HV
        clear hx16 hx7 hi16 hi7
        obtain ⟨v1, hv1⟩ : ∃ v, v = x16 + s0 := ⟨_, rfl⟩
        obtain ⟨v2, hv2⟩ : ∃ v, v = v1 + x7 := ⟨_, rfl⟩
        obtain ⟨v3, hv3⟩ : ∃ v, v = v2 + s1 := ⟨_, rfl⟩
        have e1 : (x16 : Int) + s0 = v1 := by omega
        have e2 : (v1 : Int) + x7 = v2 := by omega
        have e3 : (v2 : Int) + s1 = v3 := by omega
        have f1 : IntKind.i64.wrap (v1 : Int) = v1 := IntWalk.i64_in _ (by omega)
        have f2 : IntKind.i64.wrap (v2 : Int) = v2 := IntWalk.i64_in _ (by omega)
        have f3 : IntKind.i64.wrap (v3 : Int) = v3 := IntWalk.i64_in _ (by omega)
        have e4 : (v3 : Int).tmod 4294967296 = z := by rw [Int.tmod_eq_emod_of_nonneg (by omega)]; omega
        have hsz5 := HBb.out.size
        have HZ := Lib.hid HV.out.symm
        clear hz hv1 hv2 hv3 HV hsz
        have hk64 : k ≤ 1000000000000 := by omega
        have hcell : ((wd.alloc (.cells #[.int .i64 z] 3)).drew).cell? ⟨wd.heap.size, 0, none⟩ = some (.int .i64 z) := World.cell?_alloc_at _ _ _ _ rfl
        have hsz2 : w.heap.size ≤ ((wd.alloc (.cells #[.int .i64 z] 3)).drew).heap.size := by show _ ≤ (wd.heap.push _).size; simp; omega
        go_wp2_with fail
        go_region_law (refine step_app1I rfl (.tmp 77) (.tmp 94) rfl w.heap.size _ k _ rfl ((HOb.out.alloc _).drew) wd.heap.size z rfl hcell hk64 hsz2 HZ.out ?_; intro v' w' hown' hb')
        all_goals
          have HO6 := Lib.hid hown'
          have HB6 := Lib.hid (((HBb.out.alloc HBb.out.size _).drew).trans hb')
          clear hown' hb' hcell hsz2
          go_wp2_with fail
          go_roundw
          case rel => exact ⟨k + 1, by omega, by go_num, HO6.out, HB6.out⟩
          case measure => simp [intOf]; omega
    · obtain rfl : k = 64 := by omega
      go_wp2_with fail
      go_ret
      exact ⟨_, rfl, H1.out, H2.out⟩
end Go.Proofs.YtogcfaijphpgfaaDoor
