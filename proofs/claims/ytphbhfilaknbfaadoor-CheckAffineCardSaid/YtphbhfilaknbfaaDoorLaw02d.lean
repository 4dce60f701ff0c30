/- CheckAffine: the walk. -/
import Derived.Test.YtphbhfilaknbfaaDoorLaw02c
namespace Go.Proofs.YtphbhfilaknbfaaDoor
open Go.RowKit

theorem run_min4 (a b c d : Nat) (w : World) : (Builtin.min_ #[3, 3, 3, 3] 3 #[.int .i64 (a : Int), .int .i64 (b : Int), .int .i64 (c : Int), .int .i64 (d : Int)]).run Tryd.prog w = .ok (.int .i64 ((Nat.min (Nat.min (Nat.min a b) c) d : Nat) : Int)) w := by
  simp [Builtin.min_, Builtin.min2]
  simp only [Nat.min_def]
  repeat' split
  all_goals omega
theorem one_parts {w : World} {A : Option Addr} {n c : Nat} {f : Nat → Nat} (hA : SlB w A n f) (t : TypeId) : Parts (w.alloc (.cells #[.slice A n c] t)) w.heap.size 1 (fun _ => A) (fun _ => n) (fun _ => c) (fun _ => f) :=
  ⟨fun j hj => by
    obtain rfl : j = 0 := by omega
    exact (World.cell?_alloc_at _ _ _ _ rfl).trans rfl, fun _ _ => hA.keep ((Below.refl _ _).alloc (Nat.le_refl _) _)⟩
/-- three rows, by exclusive or -/
def xor3 (f g h : Nat → Nat) (j : Nat) : Nat := f j ^^^ g j ^^^ h j
--DEFS ord7
def affG (A B C A0 A1 B1 C1 : Option Addr) (na ca nb_ cb nc cc k c0 q1 q2 q3 : Nat) (f g h : Nat → Nat) : Nat → Value → World → Prop
  | 0, v, _ => v = .bool true
  | 1, v, _ => v = .bool true
  | 2, v, _ => v = .slice A0 k c0
  | 3, v, w => ∃ b, v = .slice (some ⟨b, 0, none⟩) 1 1 ∧ Parts w b 1 (fun _ => A0) (fun _ => k) (fun _ => c0) (fun _ => xor3 f g h)
  | 4, v, _ => v = .int .i64 (q1 ^^^ q2 ^^^ q3 : Nat)
  | 5, v, _ => v = .slice A na ca
  | 6, v, _ => v = .int .i64 (k : Nat)
  | 7, v, _ => v = .slice A1 k ca
  | 8, v, w => ∃ b, v = .slice (some ⟨b, 0, none⟩) 1 1 ∧ Parts w b 1 (fun _ => A1) (fun _ => k) (fun _ => ca) (fun _ => f)
  | 9, v, _ => v = .int .i64 (q1 : Nat)
  | 10, v, _ => v = .slice B nb_ cb
  | 11, v, _ => v = .int .i64 (k : Nat)
  | 12, v, _ => v = .slice B1 k cb
  | 13, v, w => ∃ b, v = .slice (some ⟨b, 0, none⟩) 1 1 ∧ Parts w b 1 (fun _ => B1) (fun _ => k) (fun _ => cb) (fun _ => g)
  | 14, v, _ => v = .int .i64 (q2 : Nat)
  | 15, v, _ => v = .int .i64 (q1 ^^^ q2 : Nat)
  | 16, v, _ => v = .slice C nc cc
  | 17, v, _ => v = .int .i64 (k : Nat)
  | 18, v, _ => v = .slice C1 k cc
  | 19, v, w => ∃ b, v = .slice (some ⟨b, 0, none⟩) 1 1 ∧ Parts w b 1 (fun _ => C1) (fun _ => k) (fun _ => cc) (fun _ => h)
  | 20, v, _ => v = .int .i64 (q3 : Nat)
  | 21, v, _ => v = .int .i64 (q1 ^^^ q2 ^^^ q3 : Nat)
  | 22, v, _ => v = .bool true
  | 23, v, _ => v = .bool true
  | 24, v, _ => v = .bool true
  | _, _, _ => True
theorem affG_stays (A B C A0 A1 B1 C1 : Option Addr) (na ca nb_ cb nc cc k c0 q1 q2 q3 : Nat) (f g h : Nat → Nat) : ∀ i v w w', affG A B C A0 A1 B1 C1 na ca nb_ cb nc cc k c0 q1 q2 q3 f g h i v w → Below w.heap.size w w' → affG A B C A0 A1 B1 C1 na ca nb_ cb nc cc k c0 q1 q2 q3 f g h i v w'
  | 0, _, _, _, h, _ => h
  | 1, _, _, _, h, _ => h
  | 2, _, _, _, h, _ => h
  | 3, v, w, w', h_, hb => by
    obtain ⟨b, h1, h2⟩ := h_; exact ⟨b, h1, h2.keep hb (by omega)⟩
  | 4, _, _, _, h, _ => h
  | 5, _, _, _, h, _ => h
  | 6, _, _, _, h, _ => h
  | 7, _, _, _, h, _ => h
  | 8, v, w, w', h_, hb => by
    obtain ⟨b, h1, h2⟩ := h_; exact ⟨b, h1, h2.keep hb (by omega)⟩
  | 9, _, _, _, h, _ => h
  | 10, _, _, _, h, _ => h
  | 11, _, _, _, h, _ => h
  | 12, _, _, _, h, _ => h
  | 13, v, w, w', h_, hb => by
    obtain ⟨b, h1, h2⟩ := h_; exact ⟨b, h1, h2.keep hb (by omega)⟩
  | 14, _, _, _, h, _ => h
  | 15, _, _, _, h, _ => h
  | 16, _, _, _, h, _ => h
  | 17, _, _, _, h, _ => h
  | 18, _, _, _, h, _ => h
  | 19, v, w, w', h_, hb => by
    obtain ⟨b, h1, h2⟩ := h_; exact ⟨b, h1, h2.keep hb (by omega)⟩
  | 20, _, _, _, h, _ => h
  | 21, _, _, _, h, _ => h
  | 22, _, _, _, h, _ => h
  | 23, _, _, _, h, _ => h
  | 24, _, _, _, h, _ => h
  | _ + 25, _, _, _, _, _ => trivial
--END DEFS ord7
theorem i64_xor (a b : Nat) (ha : a < 4294967296) (hb : b < 4294967296) : bits BinOp.xor .i64 (a : Int) (b : Int) = ((a ^^^ b : Nat) : Int) := by
  have hx : a ^^^ b < 2 ^ 32 := Nat.xor_lt_two_pow (by omega) (by omega)
  show IntKind.i64.wrap ((BitVec.ofInt 64 (a : Int) ^^^ BitVec.ofInt 64 (b : Int)).toNat : Int) = _
  rw [BitVec.toNat_xor, ofInt_u64 a (by omega), ofInt_u64 b (by omega)]
  exact IntWalk.i64_in _ (by omega)
set_option maxRecDepth 100000 in
set_option maxHeartbeats 3200000 in
theorem affine_any (A B C : Option Addr) (na ca nb_ cb nc cc : Nat) (f g h : Nat → Nat) (w : World) (ha : na ≤ 140737488351232) (hb_ : nb_ ≤ 140737488351232) (hc_ : nc ≤ 140737488351232) (hac : na ≤ ca) (hbc : nb_ ≤ cb) (hcc : nc ≤ cc) (hA : SlB w A na f) (hB : SlB w B nb_ g) (hC : SlB w C nc h) (ht : Tab w) :
    Calls Tryd.prog 7 #[.slice A na ca, .slice B nb_ cb, .slice C nc cc] w fun e w' => e = .returned (.bool true) ∧ Below w.heap.size w w' := by
  have HA := Lib.hid hA
  have HB := Lib.hid hB
  have HC := Lib.hid hC
  have HT := Lib.hid ht
  clear hA hB hC ht
  have hmin : (Builtin.min_ #[3, 3, 3, 3] 3 #[.int .i64 (na : Int), .int .i64 (nb_ : Int), .int .i64 (nc : Int), .int .i64 4096]) = (Builtin.min_ #[3, 3, 3, 3] 3 #[.int .i64 (na : Int), .int .i64 (nb_ : Int), .int .i64 (nc : Int), .int .i64 ((4096 : Nat) : Int)]) := rfl
  have hrmin := fun w => run_min4 na nb_ nc 4096 w
  rw [← hmin] at hrmin
  obtain ⟨m, hm⟩ : ∃ m, Nat.min (Nat.min (Nat.min na nb_) nc) 4096 = m := ⟨_, rfl⟩
  have hma : m ≤ na := by rw [← hm]; exact Nat.le_trans (Nat.min_le_left _ _) (Nat.le_trans (Nat.min_le_left _ _) (Nat.min_le_left _ _))
  have hmb : m ≤ nb_ := by rw [← hm]; exact Nat.le_trans (Nat.min_le_left _ _) (Nat.le_trans (Nat.min_le_left _ _) (Nat.min_le_right _ _))
  have hmc : m ≤ nc := by rw [← hm]; exact Nat.le_trans (Nat.min_le_left _ _) (Nat.min_le_right _ _)
  have hmd : m ≤ 4096 := by rw [← hm]; exact Nat.min_le_right _ _
  rw [hm] at hrmin
  clear hmin hm
  go_enter Tryd.func7, Tryd.ntmps7
  go_wp2_with fail
  refine (small_any _ HT.out).mono ?_
  rintro e w1 ⟨rfl, hb1⟩
  have HB1 := Lib.hid hb1
  clear hb1
  go_wp2_with fail
  go_loopw [9, 10] (fun o i wr => ∃ k A0 c0, k ≤ m ∧ i = .int .i64 (k : Nat) ∧ o = .slice A0 k c0 ∧ OwnB wr w.heap.size (.slice A0 k c0) k (xor3 f g h) ∧ Below w.heap.size w wr) (fun _ i _ => m - (intOf i).toNat)
  case atStart => exact ⟨0, none, 0, Nat.zero_le _, rfl, rfl, OwnB.nil _ _ _, HB1.out⟩
  case round =>
    obtain ⟨k, A0, c0, hk, rfl, rfl, ho, hb⟩ := hrel
    have HO := Lib.hid ho
    have HBr := Lib.hid hb
    clear ho hb
    by_cases hlt : k < m
    · obtain ⟨BA, oA, rfl, hBA, hcA⟩ := (HA.out.keep HBr.out) (by omega)
      obtain ⟨BB, oB, rfl, hBB, hcB⟩ := (HB.out.keep HBr.out) (by omega)
      obtain ⟨BC, oC, rfl, hBC, hcC⟩ := (HC.out.keep HBr.out) (by omega)
      obtain ⟨lA, cA⟩ := hcA k (by omega)
      obtain ⟨lB, cB⟩ := hcB k (by omega)
      obtain ⟨lC, cC⟩ := hcC k (by omega)
      have HF := Lib.hid (fun j (hj : j < k) => (show xor3 f g h j < 256 from Nat.xor_lt_two_pow (n := 8) (Nat.xor_lt_two_pow (n := 8) (hcA j (by omega)).1 (hcB j (by omega)).1) (hcC j (by omega)).1))
      clear hcA hcB hcC
      have HX := Lib.hid (show xor3 f g h k = f k ^^^ g k ^^^ h k from rfl)
      generalize f k = x at *
      generalize g k = y at *
      generalize h k = z at *
      have e1 : bits BinOp.xor .u8 (x : Int) (y : Int) = ((x ^^^ y : Nat) : Int) := u8_xor_nat x y lA lB
      have lXY : x ^^^ y < 256 := Nat.xor_lt_two_pow (n := 8) lA lB
      generalize x ^^^ y = xy at *
      have e2 : bits BinOp.xor .u8 (xy : Int) (z : Int) = ((xy ^^^ z : Nat) : Int) := u8_xor_nat xy z lXY lC
      have lv : xy ^^^ z < 256 := Nat.xor_lt_two_pow (n := 8) lXY lC
      generalize xy ^^^ z = v at *
      have i1 : (k : Int) < na := by omega
      have i2 : (k : Int) < nb_ := by omega
      have i3 : (k : Int) < nc := by omega
      go_wp2_with fail
      have HOd := Lib.hid (show OwnB (wr.alloc (.cells #[.int .u8 (v : Nat)] 5)).drew w.heap.size (.slice A0 k c0) k (xor3 f g h) from HO.out.alloc _)
      have HSd := Lib.hid (show SlB (wr.alloc (.cells #[.int .u8 (v : Nat)] 5)).drew (some ⟨wr.heap.size, 0, none⟩) 1 (fun _ => v) from one_slB wr _ v lv)
      have HBd := Lib.hid (HBr.out.alloc HBr.out.size (.cells #[.int .u8 (v : Nat)] 5)).drew
      go_region_law ((refine step_appO (.tmp 24) (.tmp 39) rfl rfl rfl w.heap.size _ k (xor3 f g h) rfl HOd.out _ 1 1 (fun _ => v) rfl HSd.out (fun h => by cases h) (by omega) HBd.out.size HF.out (fun _ _ => lv) ?_); intro A2 c2 w2 ho2 hs2 hc2 hb2; have HO2 := Lib.hid ho2; have HB2 := Lib.hid (HBd.out.trans hb2); clear ho2 hs2 hc2 hb2)
      all_goals
        go_wp2_with fail
        go_roundw
        case rel => exact ⟨k + 1, A2, c2, by omega, by go_num, rfl, HO2.out.congr (fun j hj => by
          unfold catB
          by_cases e : j < k
          · rw [if_pos e]
          · rw [if_neg e]
            obtain rfl : j = k := by omega
            exact HX.out.symm), HB2.out⟩
        case measure => simp [intOf]; omega
    · obtain rfl : k = m := by omega
      have HBd := Lib.hid HBr.out.drew
      have HAd := Lib.hid (show SlB wr.drew A na f from HA.out.keep HBd.out)
      have HBd' := Lib.hid (show SlB wr.drew B nb_ g from HB.out.keep HBd.out)
      have HCd := Lib.hid (show SlB wr.drew C nc h from HC.out.keep HBd.out)
      have HT2 := Lib.hid (show Tab wr.drew from HT.out.keep HBd.out)
      have lA := fun j (hj : j < k) => HA.out.byte (show j < na by omega)
      have lB := fun j (hj : j < k) => HB.out.byte (show j < nb_ by omega)
      have lC := fun j (hj : j < k) => HC.out.byte (show j < nc by omega)
      have H0 := Lib.hid (show SlB wr.drew A0 k (xor3 f g h) from by
        obtain ⟨A', c', e, hs⟩ := HO.out.slice (fun j hj => Nat.xor_lt_two_pow (n := 8) (Nat.xor_lt_two_pow (n := 8) (lA j hj) (lB j hj)) (lC j hj))
        cases e
        exact hs.keep ((Below.refl _ _).drew))
      have H1 := Lib.hid (HAd.out.loA ca hma)
      have H2 := Lib.hid (HBd'.out.loA cb hmb)
      have H3 := Lib.hid (HCd.out.loA cc hmc)
      have hka : k ≤ ca := by omega
      have hkb : k ≤ cb := by omega
      have hkc : k ≤ cc := by omega
      have Q0 := Lib.hid (show 4294967295 - regs 4294967295 (fun _ => k) (fun _ => xor3 f g h) 1 = crc k f ^^^ crc k g ^^^ crc k h from crc_three f g h k lA lB lC)
      have Q1 := Lib.hid (show 4294967295 - regs 4294967295 (fun _ => k) (fun _ => f) 1 = crc k f from rfl)
      have Q2 := Lib.hid (show 4294967295 - regs 4294967295 (fun _ => k) (fun _ => g) 1 = crc k g from rfl)
      have Q3 := Lib.hid (show 4294967295 - regs 4294967295 (fun _ => k) (fun _ => h) 1 = crc k h from rfl)
      have l1 := crc_lt k f
      have l2 := crc_lt k g
      have l3 := crc_lt k h
      clear lA lB lC
      generalize crc k f = q1 at *
      generalize crc k g = q2 at *
      generalize crc k h = q3 at *
      have x1 := i64_xor q1 q2 l1 l2
      have x2 := i64_xor (q1 ^^^ q2) q3 (Nat.xor_lt_two_pow (n := 32) l1 l2) l3
      clear l1 l2 l3
      go_wp2_with fail
      refine wp_region_any (by kernel_rfl) ?_
      change wpAny _ _ _ _ _ _ _ wr.drew
      refine ord.wpAny_ord [[], [0], [1], [2, 1], [3, 1], [1], [1], [5, 6, 1], [7, 1], [8, 1], [1], [1], [10, 11, 1], [12, 1], [13, 1], [9, 14, 1], [1], [1], [16, 17, 1], [18, 1], [19, 1], [15, 20, 1], [4, 21, 1], [1, 22], [23]] [(0, 41), (1, 42), (2, 43), (3, 44), (4, 45), (5, 46), (6, 47), (7, 48), (8, 49), (9, 50), (10, 51), (11, 52), (12, 53), (13, 54), (14, 55), (15, 56), (16, 57), (17, 58), (18, 59), (19, 60), (20, 61), (21, 62), (22, 63), (23, 64), (24, 6)] (affG A B C A0 (loA A ca) (loA B cb) (loA C cc) na ca nb_ cb nc cc k c0 q1 q2 q3 f g h) (by kernel_rfl) (by kernel_rfl) (affG_stays _ _ _ _ _ _ _ _ _ _ _ _ _ _ _ _ _ _ _ _ _) (ord.steps_cons ?_ (ord.steps_cons ?_ (ord.steps_cons ?_ (ord.steps_cons ?_ (ord.steps_cons ?_ (ord.steps_cons ?_ (ord.steps_cons ?_ (ord.steps_cons ?_ (ord.steps_cons ?_ (ord.steps_cons ?_ (ord.steps_cons ?_ (ord.steps_cons ?_ (ord.steps_cons ?_ (ord.steps_cons ?_ (ord.steps_cons ?_ (ord.steps_cons ?_ (ord.steps_cons ?_ (ord.steps_cons ?_ (ord.steps_cons ?_ (ord.steps_cons ?_ (ord.steps_cons ?_ (ord.steps_cons ?_ (ord.steps_cons ?_ (ord.steps_cons ?_ (ord.steps_cons ?_ ord.steps_nil))))))))))))))))))))))))) ?_
      --STEPS ord7
      · intro o ho x w hb hG
        obtain rfl := Option.some.inj ho
        clear ho
        refine Or.inl ⟨ord.want0 rfl, ?_⟩
        exact ord.makes_move rfl ⟨Below.refl _ _, rfl⟩
      · intro o ho x w hb hG
        obtain rfl := Option.some.inj ho
        clear ho
        have h41 : x 0 = .bool true := hG (0, 41) (List.mem_of_getElem? (i := 0) rfl) rfl
        refine Or.inl ⟨ord.want0 rfl, ?_⟩
        exact ord.makes_move rfl ⟨Below.refl _ _, h41⟩
      · intro o ho x w hb hG
        obtain rfl := Option.some.inj ho
        clear ho
        have h42 : x 1 = .bool true := hG (1, 42) (List.mem_of_getElem? (i := 1) rfl) rfl
        refine Or.inl ⟨ord.wantG rfl rfl h42, ?_⟩
        exact ord.makes_move rfl ⟨Below.refl _ _, rfl⟩
      · intro o ho x w hb hG
        obtain rfl := Option.some.inj ho
        clear ho
        have h43 : x 2 = .slice A0 k c0 := hG (2, 43) (List.mem_of_getElem? (i := 2) rfl) rfl
        have h42 : x 1 = .bool true := hG (1, 42) (List.mem_of_getElem? (i := 1) rfl) rfl
        refine Or.inl ⟨ord.wantG rfl rfl h42, ?_⟩
        exact ord.makes_build1 rfl h43 (run_parts1 w _ _ _) ⟨(Below.refl _ _).alloc (Nat.le_refl _) _, _, rfl, one_parts (H0.out.keep hb) _⟩
      · intro o ho x w hb hG
        obtain rfl := Option.some.inj ho
        clear ho
        have h44 : affG A B C A0 (loA A ca) (loA B cb) (loA C cc) na ca nb_ cb nc cc k c0 q1 q2 q3 f g h 3 (x 3) w := hG (3, 44) (List.mem_of_getElem? (i := 3) rfl) rfl
        have h42 : x 1 = .bool true := hG (1, 42) (List.mem_of_getElem? (i := 1) rfl) rfl
        refine Or.inl ⟨ord.wantG rfl rfl h42, ?_⟩
        obtain ⟨b, hg, hp⟩ := h44
        exact ord.makes_call1 Tryd.func11 (by kernel_rfl) (by kernel_rfl) rfl hg (sum_any b 1 1 _ _ _ _ w (by decide) (fun j _ => by omega) hp (HT2.out.keep hb)) (fun e w' h => ⟨_, h.1, by rw [← h.2]; exact Below.refl _ _, congrArg (fun z : Nat => Value.int .i64 (z : Int)) Q0.out⟩)
      · intro o ho x w hb hG
        obtain rfl := Option.some.inj ho
        clear ho
        have h42 : x 1 = .bool true := hG (1, 42) (List.mem_of_getElem? (i := 1) rfl) rfl
        refine Or.inl ⟨ord.wantG rfl rfl h42, ?_⟩
        exact ord.makes_move rfl ⟨Below.refl _ _, rfl⟩
      · intro o ho x w hb hG
        obtain rfl := Option.some.inj ho
        clear ho
        have h42 : x 1 = .bool true := hG (1, 42) (List.mem_of_getElem? (i := 1) rfl) rfl
        refine Or.inl ⟨ord.wantG rfl rfl h42, ?_⟩
        exact ord.makes_move rfl ⟨Below.refl _ _, rfl⟩
      · intro o ho x w hb hG
        obtain rfl := Option.some.inj ho
        clear ho
        have h46 : x 5 = .slice A na ca := hG (5, 46) (List.mem_of_getElem? (i := 5) rfl) rfl
        have h47 : x 6 = .int .i64 (k : Nat) := hG (6, 47) (List.mem_of_getElem? (i := 6) rfl) rfl
        have h42 : x 1 = .bool true := hG (1, 42) (List.mem_of_getElem? (i := 1) rfl) rfl
        refine Or.inl ⟨ord.wantG rfl rfl h42, ?_⟩
        exact ord.makes_slice rfl h46 (rfl) (congrArg some h47) (rfl) (by exact run_lo w A na ca k hka) ⟨Below.refl _ _, rfl⟩
      · intro o ho x w hb hG
        obtain rfl := Option.some.inj ho
        clear ho
        have h48 : x 7 = .slice (loA A ca) k ca := hG (7, 48) (List.mem_of_getElem? (i := 7) rfl) rfl
        have h42 : x 1 = .bool true := hG (1, 42) (List.mem_of_getElem? (i := 1) rfl) rfl
        refine Or.inl ⟨ord.wantG rfl rfl h42, ?_⟩
        exact ord.makes_build1 rfl h48 (run_parts1 w _ _ _) ⟨(Below.refl _ _).alloc (Nat.le_refl _) _, _, rfl, one_parts (H1.out.keep hb) _⟩
      · intro o ho x w hb hG
        obtain rfl := Option.some.inj ho
        clear ho
        have h49 : affG A B C A0 (loA A ca) (loA B cb) (loA C cc) na ca nb_ cb nc cc k c0 q1 q2 q3 f g h 8 (x 8) w := hG (8, 49) (List.mem_of_getElem? (i := 8) rfl) rfl
        have h42 : x 1 = .bool true := hG (1, 42) (List.mem_of_getElem? (i := 1) rfl) rfl
        refine Or.inl ⟨ord.wantG rfl rfl h42, ?_⟩
        obtain ⟨b, hg, hp⟩ := h49
        exact ord.makes_call1 Tryd.func11 (by kernel_rfl) (by kernel_rfl) rfl hg (sum_any b 1 1 _ _ _ _ w (by decide) (fun j _ => by omega) hp (HT2.out.keep hb)) (fun e w' h => ⟨_, h.1, by rw [← h.2]; exact Below.refl _ _, congrArg (fun z : Nat => Value.int .i64 (z : Int)) Q1.out⟩)
      · intro o ho x w hb hG
        obtain rfl := Option.some.inj ho
        clear ho
        have h42 : x 1 = .bool true := hG (1, 42) (List.mem_of_getElem? (i := 1) rfl) rfl
        refine Or.inl ⟨ord.wantG rfl rfl h42, ?_⟩
        exact ord.makes_move rfl ⟨Below.refl _ _, rfl⟩
      · intro o ho x w hb hG
        obtain rfl := Option.some.inj ho
        clear ho
        have h42 : x 1 = .bool true := hG (1, 42) (List.mem_of_getElem? (i := 1) rfl) rfl
        refine Or.inl ⟨ord.wantG rfl rfl h42, ?_⟩
        exact ord.makes_move rfl ⟨Below.refl _ _, rfl⟩
      · intro o ho x w hb hG
        obtain rfl := Option.some.inj ho
        clear ho
        have h51 : x 10 = .slice B nb_ cb := hG (10, 51) (List.mem_of_getElem? (i := 10) rfl) rfl
        have h52 : x 11 = .int .i64 (k : Nat) := hG (11, 52) (List.mem_of_getElem? (i := 11) rfl) rfl
        have h42 : x 1 = .bool true := hG (1, 42) (List.mem_of_getElem? (i := 1) rfl) rfl
        refine Or.inl ⟨ord.wantG rfl rfl h42, ?_⟩
        exact ord.makes_slice rfl h51 (rfl) (congrArg some h52) (rfl) (by exact run_lo w B nb_ cb k hkb) ⟨Below.refl _ _, rfl⟩
      · intro o ho x w hb hG
        obtain rfl := Option.some.inj ho
        clear ho
        have h53 : x 12 = .slice (loA B cb) k cb := hG (12, 53) (List.mem_of_getElem? (i := 12) rfl) rfl
        have h42 : x 1 = .bool true := hG (1, 42) (List.mem_of_getElem? (i := 1) rfl) rfl
        refine Or.inl ⟨ord.wantG rfl rfl h42, ?_⟩
        exact ord.makes_build1 rfl h53 (run_parts1 w _ _ _) ⟨(Below.refl _ _).alloc (Nat.le_refl _) _, _, rfl, one_parts (H2.out.keep hb) _⟩
      · intro o ho x w hb hG
        obtain rfl := Option.some.inj ho
        clear ho
        have h54 : affG A B C A0 (loA A ca) (loA B cb) (loA C cc) na ca nb_ cb nc cc k c0 q1 q2 q3 f g h 13 (x 13) w := hG (13, 54) (List.mem_of_getElem? (i := 13) rfl) rfl
        have h42 : x 1 = .bool true := hG (1, 42) (List.mem_of_getElem? (i := 1) rfl) rfl
        refine Or.inl ⟨ord.wantG rfl rfl h42, ?_⟩
        obtain ⟨b, hg, hp⟩ := h54
        exact ord.makes_call1 Tryd.func11 (by kernel_rfl) (by kernel_rfl) rfl hg (sum_any b 1 1 _ _ _ _ w (by decide) (fun j _ => by omega) hp (HT2.out.keep hb)) (fun e w' h => ⟨_, h.1, by rw [← h.2]; exact Below.refl _ _, congrArg (fun z : Nat => Value.int .i64 (z : Int)) Q2.out⟩)
      · intro o ho x w hb hG
        obtain rfl := Option.some.inj ho
        clear ho
        have h50 : x 9 = .int .i64 (q1 : Nat) := hG (9, 50) (List.mem_of_getElem? (i := 9) rfl) rfl
        have h55 : x 14 = .int .i64 (q2 : Nat) := hG (14, 55) (List.mem_of_getElem? (i := 14) rfl) rfl
        have h42 : x 1 = .bool true := hG (1, 42) (List.mem_of_getElem? (i := 1) rfl) rfl
        refine Or.inl ⟨ord.wantG rfl rfl h42, ?_⟩
        exact ord.makes_bin rfl h50 h55 (by go_simp) ⟨Below.refl _ _, rfl⟩
      · intro o ho x w hb hG
        obtain rfl := Option.some.inj ho
        clear ho
        have h42 : x 1 = .bool true := hG (1, 42) (List.mem_of_getElem? (i := 1) rfl) rfl
        refine Or.inl ⟨ord.wantG rfl rfl h42, ?_⟩
        exact ord.makes_move rfl ⟨Below.refl _ _, rfl⟩
      · intro o ho x w hb hG
        obtain rfl := Option.some.inj ho
        clear ho
        have h42 : x 1 = .bool true := hG (1, 42) (List.mem_of_getElem? (i := 1) rfl) rfl
        refine Or.inl ⟨ord.wantG rfl rfl h42, ?_⟩
        exact ord.makes_move rfl ⟨Below.refl _ _, rfl⟩
      · intro o ho x w hb hG
        obtain rfl := Option.some.inj ho
        clear ho
        have h57 : x 16 = .slice C nc cc := hG (16, 57) (List.mem_of_getElem? (i := 16) rfl) rfl
        have h58 : x 17 = .int .i64 (k : Nat) := hG (17, 58) (List.mem_of_getElem? (i := 17) rfl) rfl
        have h42 : x 1 = .bool true := hG (1, 42) (List.mem_of_getElem? (i := 1) rfl) rfl
        refine Or.inl ⟨ord.wantG rfl rfl h42, ?_⟩
        exact ord.makes_slice rfl h57 (rfl) (congrArg some h58) (rfl) (by exact run_lo w C nc cc k hkc) ⟨Below.refl _ _, rfl⟩
      · intro o ho x w hb hG
        obtain rfl := Option.some.inj ho
        clear ho
        have h59 : x 18 = .slice (loA C cc) k cc := hG (18, 59) (List.mem_of_getElem? (i := 18) rfl) rfl
        have h42 : x 1 = .bool true := hG (1, 42) (List.mem_of_getElem? (i := 1) rfl) rfl
        refine Or.inl ⟨ord.wantG rfl rfl h42, ?_⟩
        exact ord.makes_build1 rfl h59 (run_parts1 w _ _ _) ⟨(Below.refl _ _).alloc (Nat.le_refl _) _, _, rfl, one_parts (H3.out.keep hb) _⟩
      · intro o ho x w hb hG
        obtain rfl := Option.some.inj ho
        clear ho
        have h60 : affG A B C A0 (loA A ca) (loA B cb) (loA C cc) na ca nb_ cb nc cc k c0 q1 q2 q3 f g h 19 (x 19) w := hG (19, 60) (List.mem_of_getElem? (i := 19) rfl) rfl
        have h42 : x 1 = .bool true := hG (1, 42) (List.mem_of_getElem? (i := 1) rfl) rfl
        refine Or.inl ⟨ord.wantG rfl rfl h42, ?_⟩
        obtain ⟨b, hg, hp⟩ := h60
        exact ord.makes_call1 Tryd.func11 (by kernel_rfl) (by kernel_rfl) rfl hg (sum_any b 1 1 _ _ _ _ w (by decide) (fun j _ => by omega) hp (HT2.out.keep hb)) (fun e w' h => ⟨_, h.1, by rw [← h.2]; exact Below.refl _ _, congrArg (fun z : Nat => Value.int .i64 (z : Int)) Q3.out⟩)
      · intro o ho x w hb hG
        obtain rfl := Option.some.inj ho
        clear ho
        have h56 : x 15 = .int .i64 (q1 ^^^ q2 : Nat) := hG (15, 56) (List.mem_of_getElem? (i := 15) rfl) rfl
        have h61 : x 20 = .int .i64 (q3 : Nat) := hG (20, 61) (List.mem_of_getElem? (i := 20) rfl) rfl
        have h42 : x 1 = .bool true := hG (1, 42) (List.mem_of_getElem? (i := 1) rfl) rfl
        refine Or.inl ⟨ord.wantG rfl rfl h42, ?_⟩
        exact ord.makes_bin rfl h56 h61 (by go_simp) ⟨Below.refl _ _, rfl⟩
      · intro o ho x w hb hG
        obtain rfl := Option.some.inj ho
        clear ho
        have h45 : x 4 = .int .i64 (q1 ^^^ q2 ^^^ q3 : Nat) := hG (4, 45) (List.mem_of_getElem? (i := 4) rfl) rfl
        have h62 : x 21 = .int .i64 (q1 ^^^ q2 ^^^ q3 : Nat) := hG (21, 62) (List.mem_of_getElem? (i := 21) rfl) rfl
        have h42 : x 1 = .bool true := hG (1, 42) (List.mem_of_getElem? (i := 1) rfl) rfl
        refine Or.inl ⟨ord.wantG rfl rfl h42, ?_⟩
        exact ord.makes_bin rfl h45 h62 (by go_simp) ⟨Below.refl _ _, rfl⟩
      · intro o ho x w hb hG
        obtain rfl := Option.some.inj ho
        clear ho
        have h42 : x 1 = .bool true := hG (1, 42) (List.mem_of_getElem? (i := 1) rfl) rfl
        have h63 : x 22 = .bool true := hG (22, 63) (List.mem_of_getElem? (i := 22) rfl) rfl
        refine Or.inl ⟨ord.want0 rfl, ?_⟩
        exact ord.makes_pick rfl h42 ⟨Below.refl _ _, h63⟩
      · intro o ho x w hb hG
        obtain rfl := Option.some.inj ho
        clear ho
        have h64 : x 23 = .bool true := hG (23, 64) (List.mem_of_getElem? (i := 23) rfl) rfl
        refine Or.inl ⟨ord.want0 rfl, ?_⟩
        exact ord.makes_assign rfl ⟨Below.refl _ _, h64⟩
      --END STEPS ord7
      · intro x w5 hb hG
        have e6 : x 24 = .bool true := hG (24, 6) (List.mem_of_getElem? (i := 24) rfl)
        clear hG
        simp only [ord.puts, ord.put', List.set_cons_zero, List.set_cons_succ, if_true]
        rw [e6]
        go_wp2_with fail
        go_ret
        exact ⟨rfl, HBd.out.trans (hb.mono HBd.out.size)⟩
end Go.Proofs.YtphbhfilaknbfaaDoor
