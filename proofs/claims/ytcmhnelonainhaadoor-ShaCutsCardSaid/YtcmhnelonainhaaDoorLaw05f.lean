/- Law ShaCuts: one digest however the bytes are cut (layer 5). -/
import Derived.Test.YtcmhnelonainhaaDoorLaw05e
namespace Go.Proofs.YtcmhnelonainhaaDoor
open Go.RowKit
--DEFS cua
def cuaG (A : Option Addr) (g n c p q : Nat) (f : Nat → Nat) : Nat → Value → World → Prop
  | 0, v, _ => v = .pointer (some ⟨g, 0, none⟩)
  | 1, v, _ => v = .slice A n c
  | 2, v, _ => v = .int .i64 (p : Nat)
  | 3, v, _ => v = .int .i64 (q : Nat)
  | 4, v, _ => v = .slice (hiA A c p) (q - p) (c - p)
  | 5, v, _ => v = .slice A n c
  | 6, v, _ => v = .int .i64 (q : Nat)
  | 7, v, _ => v = .slice (hiA A c q) (n - q) (c - q)
  | 8, v, w => ∃ gp, v = .slice (some ⟨gp, 0, none⟩) 2 2 ∧ g < gp ∧ Parts w gp 2 (t2 (hiA A c p) (hiA A c q)) (t2 (q - p) (n - q)) (t2 (c - p) (c - q)) (t2 (fun j => f (p + j)) (fun j => f (q + j)))
  | _, _, _ => True
theorem cuaG_stays (A : Option Addr) (g n c p q : Nat) (f : Nat → Nat) : ∀ i v w w', cuaG A g n c p q f i v w → Below w.heap.size w w' → cuaG A g n c p q f i v w'
  | 0, _, _, _, h, _ => h
  | 1, _, _, _, h, _ => h
  | 2, _, _, _, h, _ => h
  | 3, _, _, _, h, _ => h
  | 4, _, _, _, h, _ => h
  | 5, _, _, _, h, _ => h
  | 6, _, _, _, h, _ => h
  | 7, _, _, _, h, _ => h
  | 8, v, w, w', h_, hb => by
    obtain ⟨g1, h1, h2, h3⟩ := h_; exact ⟨g1, h1, h2, h3.keep hb⟩
  | _ + 9, _, _, _, _, _ => trivial
--END DEFS cua
--DEFS cub
def cubG (A : Option Addr) (g d n c p : Nat) (f : Nat → Nat) : Nat → Value → World → Prop
  | 0, v, _ => v = .slice (some ⟨d, 0, none⟩) 32 32
  | 1, v, _ => v = .int .i64 32
  | 2, v, _ => v = .bool true
  | 3, v, _ => v = .bool true
  | 4, v, _ => v = .pointer (some ⟨g, 0, none⟩)
  | 5, v, w => ∃ d', v = .slice (some ⟨d', 0, none⟩) 32 32 ∧ Arr w d' 0 32 (sha n f)
  | 6, v, _ => v = .string (strOf 32 (sha n f))
  | 7, v, _ => v = .slice (some ⟨d, 0, none⟩) 32 32
  | 8, v, _ => v = .string (strOf 32 (sha n f))
  | 9, v, _ => v = .bool true
  | 10, v, _ => v = .bool true
  | 11, v, _ => v = .bool true
  | 12, v, _ => v = .slice A n c
  | 13, v, _ => v = .int .i64 (p : Nat)
  | 14, v, _ => v = .slice (loA A c) p c
  | 15, v, _ => v = .slice A n c
  | 16, v, _ => v = .int .i64 (p : Nat)
  | 17, v, _ => v = .slice (hiA A c p) (n - p) (c - p)
  | 18, v, w => ∃ gp, v = .slice (some ⟨gp, 0, none⟩) 3 3 ∧ Parts w gp 3 (q3 (loA A c) none (hiA A c p)) (q3 p 0 (n - p)) (q3 c 0 (c - p)) (q3 f f (fun j => f (p + j)))
  | 19, v, w => ∃ d', v = .slice (some ⟨d', 0, none⟩) 32 32 ∧ Arr w d' 0 32 (sha n f)
  | 20, v, _ => v = .string (strOf 32 (sha n f))
  | 21, v, _ => v = .slice (some ⟨d, 0, none⟩) 32 32
  | 22, v, _ => v = .string (strOf 32 (sha n f))
  | 23, v, _ => v = .bool true
  | 24, v, _ => v = .bool true
  | 25, v, _ => v = .bool true
  | _, _, _ => True
theorem cubG_stays (A : Option Addr) (g d n c p : Nat) (f : Nat → Nat) : ∀ i v w w', cubG A g d n c p f i v w → Below w.heap.size w w' → cubG A g d n c p f i v w'
  | 0, _, _, _, h, _ => h
  | 1, _, _, _, h, _ => h
  | 2, _, _, _, h, _ => h
  | 3, _, _, _, h, _ => h
  | 4, _, _, _, h, _ => h
  | 5, v, w, w', h_, hb => by
    obtain ⟨d1, h1, h2⟩ := h_; exact ⟨d1, h1, h2.keep hb⟩
  | 6, _, _, _, h, _ => h
  | 7, _, _, _, h, _ => h
  | 8, _, _, _, h, _ => h
  | 9, _, _, _, h, _ => h
  | 10, _, _, _, h, _ => h
  | 11, _, _, _, h, _ => h
  | 12, _, _, _, h, _ => h
  | 13, _, _, _, h, _ => h
  | 14, _, _, _, h, _ => h
  | 15, _, _, _, h, _ => h
  | 16, _, _, _, h, _ => h
  | 17, _, _, _, h, _ => h
  | 18, v, w, w', h_, hb => by
    obtain ⟨d1, h1, h2⟩ := h_; exact ⟨d1, h1, h2.keep hb⟩
  | 19, v, w, w', h_, hb => by
    obtain ⟨d1, h1, h2⟩ := h_; exact ⟨d1, h1, h2.keep hb⟩
  | 20, _, _, _, h, _ => h
  | 21, _, _, _, h, _ => h
  | 22, _, _, _, h, _ => h
  | 23, _, _, _, h, _ => h
  | 24, _, _, _, h, _ => h
  | 25, _, _, _, h, _ => h
  | _ + 26, _, _, _, _, _ => trivial
--END DEFS cub
set_option maxRecDepth 100000 in
set_option maxHeartbeats 1600000 in
theorem cuts_any (A : Option Addr) (n c p q : Nat) (f : Nat → Nat) (w : World) (hn : n ≤ 65536) (hc : n ≤ c) (hpq : p ≤ q) (hqn : q ≤ n) (hA : SlB w A n f) (ht : GT w) :
    Calls Tryd.prog 6 #[.slice A n c, .int .i64 (p : Nat), .int .i64 (q : Nat)] w fun e w' => e = .returned (.bool true) ∧ Below w.heap.size w w' := by
  have hpn : p ≤ n := Nat.le_trans hpq hqn
  have hpc : p ≤ c := Nat.le_trans hpn hc
  have hqc : q ≤ c := Nat.le_trans hqn hc
  have HA := Lib.hid hA
  have HT := Lib.hid ht
  have HBY := Lib.hid (show By n f from fun j hj => hA.byte hj)
  clear hA ht
  have hd : decide (65536 < (n : Int)) = false := by simp; omega
  have hd2 : decide ((p : Int) < 0) = false := by simp
  have hd3 : decide (q < p) = false := by simp; omega
  have hd4 : decide (n < q) = false := by simp; omega
  go_enter Tryd.func6, Tryd.ntmps6
  go_wp2_with fail
  refine (small_any _ HT.out).mono ?_
  rintro e w1 ⟨rfl, hb1⟩
  have HB1 := Lib.hid hb1
  clear hb1
  go_wp2_with fail
  refine (new_any f w1 (HT.out.keep HB1.out)).mono ?_
  rintro e w2 ⟨rfl, h1, h2⟩
  have HM2 := Lib.hid h1
  have HB2 := Lib.hid (HB1.out.trans (h2.mono HB1.out.size))
  have HO := Lib.hid (show ∀ (B : Option Addr) (m : Nat) (f' : Nat → Nat), SlB w1 B m f' → Off B m w1.heap.size from fun B m f' h => h.off (Nat.le_refl _))
  have HG := Lib.hid (show 0 ≠ w1.heap.size ∧ 1 ≠ w1.heap.size from ⟨Nat.ne_of_lt (HT.out.keep HB1.out).ltk, Nat.ne_of_lt (HT.out.keep HB1.out).lth⟩)
  have HA1 := Lib.hid (HA.out.keep HB1.out)
  have HWG := Lib.hid (show w.heap.size ≤ w1.heap.size from HB1.out.size)
  clear h1 h2
  obtain ⟨g, hgE⟩ : ∃ g, w1.heap.size = g := ⟨_, rfl⟩
  rw [hgE] at HM2 HO HG HWG
  rw [hgE]
  clear hgE
  go_wp2_with fail
  refine (write1_any w2 g 0 A p c f f (by omega) hpc ((HA.out.keep HB2.out).low hpn) (fun j _ => by rw [Nat.zero_add]) HM2.out (fun j hj => HBY.out j (by omega)) (HT.out.keep HB2.out) HG.out (HO.out _ _ _ (HA1.out.low hpn))).mono ?_
  rintro e w3 ⟨rfl, h1, h2⟩
  have HM3 := Lib.hid h1
  have HB3 := Lib.hid (HB2.out.trans (h2.below HB2.out.size HWG.out))
  clear h1 h2
  go_wp2_with fail
  refine (hsum_any g (0 + p) f w3 (by omega) HM3.out (fun j hj => HBY.out j (by omega)) (HT.out.keep HB3.out)).mono ?_
  rintro e w4 ⟨d4, rfl, h0, _, h2⟩
  have HM4 := Lib.hid (HM3.out.keep h2)
  have HB4 := Lib.hid (HB3.out.trans (h2.mono HB3.out.size))
  clear h0 h2 HM2 HM3
  have HGL := Lib.hid HM4.out.lt
  have HM1 := Lib.hid (show ∀ w', Below w4.heap.size w4 w' → SlB w' (hiA A c p) (q - p) (fun j => f (p + j)) from fun w' hb => (HA.out.keep (HB4.out.trans (hb.mono HB4.out.size))).mid (by omega) hc)
  have HM2 := Lib.hid (show ∀ w', Below w4.heap.size w4 w' → SlB w' (hiA A c q) (n - q) (fun j => f (q + j)) from fun w' hb => (HA.out.keep (HB4.out.trans (hb.mono HB4.out.size))).mid (by omega) hc)
  have HO1 := Lib.hid (HO.out _ _ _ (HA1.out.mid (c := c) (l := p) (m := q - p) (by omega) hc))
  have HO2 := Lib.hid (HO.out _ _ _ (HA1.out.mid (c := c) (l := q) (m := n - q) (by omega) hc))
  go_wp2_with fail
  refine ord.wp_region_ordT 9 [[], [], [], [], [1, 2, 3], [], [], [5, 6], [4, 7]] [(0, 45), (1, 46), (2, 47), (3, 48), (4, 49), (5, 50), (6, 51), (7, 52), (8, 53)] (cuaG A g n c p q f) (by kernel_rfl) (by kernel_rfl) (by kernel_rfl) (cuaG_stays _ _ _ _ _ _ _) (ord.steps_cons ?_ (ord.steps_cons ?_ (ord.steps_cons ?_ (ord.steps_cons ?_ (ord.steps_cons ?_ (ord.steps_cons ?_ (ord.steps_cons ?_ (ord.steps_cons ?_ (ord.steps_cons ?_ ord.steps_nil))))))))) ?_
  --STEPS cua
  · intro o ho x w hb hG
    obtain rfl := Option.some.inj ho
    clear ho
    refine Or.inl ⟨ord.want0 rfl, ?_⟩
    exact ord.makes_move rfl ⟨Below.refl _ _, rfl⟩
  · intro o ho x w hb hG
    obtain rfl := Option.some.inj ho
    clear ho
    refine Or.inl ⟨ord.want0 rfl, ?_⟩
    exact ord.makes_move rfl ⟨Below.refl _ _, rfl⟩
  · intro o ho x w hb hG
    obtain rfl := Option.some.inj ho
    clear ho
    refine Or.inl ⟨ord.want0 rfl, ?_⟩
    exact ord.makes_move rfl ⟨Below.refl _ _, rfl⟩
  · intro o ho x w hb hG
    obtain rfl := Option.some.inj ho
    clear ho
    refine Or.inl ⟨ord.want0 rfl, ?_⟩
    exact ord.makes_move rfl ⟨Below.refl _ _, rfl⟩
  · intro o ho x w hb hG
    obtain rfl := Option.some.inj ho
    clear ho
    have h46 : x 1 = .slice A n c := hG (1, 46) (List.mem_of_getElem? (i := 1) rfl) rfl
    have h47 : x 2 = .int .i64 (p : Nat) := hG (2, 47) (List.mem_of_getElem? (i := 2) rfl) rfl
    have h48 : x 3 = .int .i64 (q : Nat) := hG (3, 48) (List.mem_of_getElem? (i := 3) rfl) rfl
    refine Or.inl ⟨ord.want0 rfl, ?_⟩
    exact ord.makes_slice rfl h46 (congrArg some h47) (congrArg some h48) (rfl) (by exact run_mid w A n c p q hpq hqc) ⟨Below.refl _ _, rfl⟩
  · intro o ho x w hb hG
    obtain rfl := Option.some.inj ho
    clear ho
    refine Or.inl ⟨ord.want0 rfl, ?_⟩
    exact ord.makes_move rfl ⟨Below.refl _ _, rfl⟩
  · intro o ho x w hb hG
    obtain rfl := Option.some.inj ho
    clear ho
    refine Or.inl ⟨ord.want0 rfl, ?_⟩
    exact ord.makes_move rfl ⟨Below.refl _ _, rfl⟩
  · intro o ho x w hb hG
    obtain rfl := Option.some.inj ho
    clear ho
    have h50 : x 5 = .slice A n c := hG (5, 50) (List.mem_of_getElem? (i := 5) rfl) rfl
    have h51 : x 6 = .int .i64 (q : Nat) := hG (6, 51) (List.mem_of_getElem? (i := 6) rfl) rfl
    refine Or.inl ⟨ord.want0 rfl, ?_⟩
    exact ord.makes_slice rfl h50 (congrArg some h51) (rfl) (rfl) (by exact run_hi w A n c q hqn) ⟨Below.refl _ _, rfl⟩
  · intro o ho x w hb hG
    obtain rfl := Option.some.inj ho
    clear ho
    have h49 : x 4 = .slice (hiA A c p) (q - p) (c - p) := hG (4, 49) (List.mem_of_getElem? (i := 4) rfl) rfl
    have h52 : x 7 = .slice (hiA A c q) (n - q) (c - q) := hG (7, 52) (List.mem_of_getElem? (i := 7) rfl) rfl
    refine Or.inl ⟨ord.want0 rfl, ?_⟩
    exact ord.makes_build2 rfl h49 h52 (run_parts2 w _ _ _ _ _ _) ⟨(Below.refl _ _).alloc (Nat.le_refl _) _, _, rfl, Nat.lt_of_lt_of_le HGL.out (of_drew hb).size, parts2 _ _ _ _ _ _ _ _ (HM1.out w (of_drew hb)) (HM2.out w (of_drew hb))⟩
  --END STEPS cua
  · intro x w5 hb hG
    have e0 : x 0 = .pointer (some ⟨g, 0, none⟩) := hG (0, 45) (List.mem_of_getElem? (i := 0) rfl)
    obtain ⟨gp, e8, hgp, hp⟩ : cuaG A g n c p q f 8 (x 8) w5 := hG (8, 53) (List.mem_of_getElem? (i := 8) rfl)
    clear hG
    simp only [ord.puts, ord.put', List.set_cons_zero, List.set_cons_succ, if_true]
    rw [e0, e8]
    simp only [List.drop_succ_cons, List.drop_zero]
    have HB5 := Lib.hid (HB4.out.trans (hb.mono HB4.out.size))
    have HM5 := Lib.hid (HM4.out.keep hb)
    have HP5 := Lib.hid hp
    have HGP := Lib.hid hgp
    clear hb hp hgp e0 e8 HM1 HM2 HM4
    go_wp2_with fail
    refine (write2_parts w5 g (0 + p) gp 2 _ _ _ _ _ _ _ _ f (by omega) (by omega) (by omega) HP5.out (fun j hj => by rw [Nat.zero_add]) (fun j hj => congrArg f (by omega)) HM5.out (fun j hj => HBY.out j (by omega)) (HT.out.keep HB5.out) HG.out (Nat.ne_of_gt HGP.out) HO1.out HO2.out).mono ?_
    rintro e w6 ⟨rfl, h1, h2⟩
    rw [show 0 + p + (q - p) + (n - q) = n by omega] at h1
    have HM6 := Lib.hid h1
    have HB6 := Lib.hid (HB5.out.trans (h2.below HB5.out.size HWG.out))
    clear h1 h2 HM5 HP5 HGP
    go_wp2_with fail
    refine (sum1_any w6 A n c f (by omega) hc (HA.out.keep HB6.out) (HT.out.keep HB6.out)).mono ?_
    rintro e w7 ⟨d, rfl, h0, h1, h2⟩
    have HD := Lib.hid h1
    have HM7 := Lib.hid (HM6.out.keep h2)
    have HB7 := Lib.hid (HB6.out.trans (h2.mono HB6.out.size))
    clear h0 h1 h2 HM6
    have HL1 := Lib.hid (show ∀ w', Below w7.heap.size w7 w' → SlB w' (loA A c) p f from fun w' hb => (HA.out.keep (HB7.out.trans (hb.mono HB7.out.size))).loA c hpn)
    have HL2 := Lib.hid (show ∀ w', Below w7.heap.size w7 w' → SlB w' (hiA A c p) (n - p) (fun j => f (p + j)) from fun w' hb => (HA.out.keep (HB7.out.trans (hb.mono HB7.out.size))).hiA hpn hc)
    have HCV := Lib.hid (show ∀ w', Below w7.heap.size w7 w' → (convert 22 9 (.slice (some ⟨d, 0, none⟩) 32 32)).run Tryd.prog w' = .ok (.string (strOf 32 (sha n f))) w' from fun w' hb => convSl (cap := 32) ((HD.out.keep hb).slB fun j _ => sha_lt _ _ j) (Nat.le_refl 32))
    have HSH := Lib.hid (show ∀ w', Below w7.heap.size w7 w' → Calls Tryd.prog 22 #[.pointer (some ⟨g, 0, none⟩)] w' (Dig w' n f) from fun w' hb => hsum_any g n f w' (by omega) (HM7.out.keep hb) HBY.out (HT.out.keep (HB7.out.trans (hb.mono HB7.out.size))))
    have HS3 := Lib.hid (show ∀ w', Below w7.heap.size w7 w' → ∀ gp, Parts w' gp 3 (q3 (loA A c) none (hiA A c p)) (q3 p 0 (n - p)) (q3 c 0 (c - p)) (q3 f f (fun j => f (p + j))) → Calls Tryd.prog 12 #[.slice (some ⟨gp, 0, none⟩) 3 3] w' (Dig w' n f) from fun w' hb gp hp =>
      (sum3_parts w' gp 3 _ _ _ _ _ _ _ _ _ _ _ _ f (by omega) hpc (Nat.le_refl _) (by omega) hp (fun j hj => HBY.out j (by omega)) (fun _ _ => rfl) (fun j hj => absurd hj (Nat.not_lt_zero j)) (fun j _ => rfl) (HT.out.keep (HB7.out.trans (hb.mono HB7.out.size)))).mono fun e w' h => h.as (by omega) fun _ _ => rfl)
    clear HM7 HD
    go_wp2_with fail
    refine wp_region_any (by kernel_rfl) ?_
    change wpAny _ _ _ _ _ _ _ w7.drew
    refine ord.wpAny_ord [[], [0], [1], [2], [3], [4, 3], [5, 3], [3], [7, 3], [6, 8, 3], [3, 9], [10], [11], [11], [12, 13, 11], [11], [11], [15, 16, 11], [14, 17, 11], [18, 11], [19, 11], [11], [21, 11], [20, 22, 11], [11, 23], [24]] [(0, 58), (1, 59), (2, 60), (3, 61), (4, 62), (5, 63), (6, 64), (7, 65), (8, 66), (9, 67), (10, 68), (11, 69), (12, 70), (13, 71), (14, 72), (15, 73), (16, 74), (17, 75), (18, 76), (19, 77), (20, 78), (21, 79), (22, 80), (23, 81), (24, 82), (25, 6)] (cubG A g d n c p f) (by kernel_rfl) (by kernel_rfl) (cubG_stays _ _ _ _ _ _ _) (ord.steps_cons ?_ (ord.steps_cons ?_ (ord.steps_cons ?_ (ord.steps_cons ?_ (ord.steps_cons ?_ (ord.steps_cons ?_ (ord.steps_cons ?_ (ord.steps_cons ?_ (ord.steps_cons ?_ (ord.steps_cons ?_ (ord.steps_cons ?_ (ord.steps_cons ?_ (ord.steps_cons ?_ (ord.steps_cons ?_ (ord.steps_cons ?_ (ord.steps_cons ?_ (ord.steps_cons ?_ (ord.steps_cons ?_ (ord.steps_cons ?_ (ord.steps_cons ?_ (ord.steps_cons ?_ (ord.steps_cons ?_ (ord.steps_cons ?_ (ord.steps_cons ?_ (ord.steps_cons ?_ (ord.steps_cons ?_ ord.steps_nil)))))))))))))))))))))))))) ?_
    --STEPS cub
    · intro o ho x w hb hG
      obtain rfl := Option.some.inj ho
      clear ho
      refine Or.inl ⟨ord.want0 rfl, ?_⟩
      exact ord.makes_move rfl ⟨Below.refl _ _, rfl⟩
    · intro o ho x w hb hG
      obtain rfl := Option.some.inj ho
      clear ho
      have h58 : x 0 = .slice (some ⟨d, 0, none⟩) 32 32 := hG (0, 58) (List.mem_of_getElem? (i := 0) rfl) rfl
      refine Or.inl ⟨ord.want0 rfl, ?_⟩
      exact ord.makes_len rfl rfl h58 (run_len8 _ _ _ _) ⟨Below.refl _ _, rfl⟩
    · intro o ho x w hb hG
      obtain rfl := Option.some.inj ho
      clear ho
      have h59 : x 1 = .int .i64 32 := hG (1, 59) (List.mem_of_getElem? (i := 1) rfl) rfl
      refine Or.inl ⟨ord.want0 rfl, ?_⟩
      exact ord.makes_bin rfl h59 rfl (by go_simp) ⟨Below.refl _ _, rfl⟩
    · intro o ho x w hb hG
      obtain rfl := Option.some.inj ho
      clear ho
      have h60 : x 2 = .bool true := hG (2, 60) (List.mem_of_getElem? (i := 2) rfl) rfl
      refine Or.inl ⟨ord.want0 rfl, ?_⟩
      exact ord.makes_move rfl ⟨Below.refl _ _, h60⟩
    · intro o ho x w hb hG
      obtain rfl := Option.some.inj ho
      clear ho
      have h61 : x 3 = .bool true := hG (3, 61) (List.mem_of_getElem? (i := 3) rfl) rfl
      refine Or.inl ⟨ord.wantG rfl rfl h61, ?_⟩
      exact ord.makes_move rfl ⟨Below.refl _ _, rfl⟩
    · intro o ho x w hb hG
      obtain rfl := Option.some.inj ho
      clear ho
      have h62 : x 4 = .pointer (some ⟨g, 0, none⟩) := hG (4, 62) (List.mem_of_getElem? (i := 4) rfl) rfl
      have h61 : x 3 = .bool true := hG (3, 61) (List.mem_of_getElem? (i := 3) rfl) rfl
      refine Or.inl ⟨ord.wantG rfl rfl h61, ?_⟩
      exact ord.makes_call1 Tryd.func22 (by kernel_rfl) (by kernel_rfl) rfl h62 (HSH.out w (of_drew hb)) (fun e w' h => by obtain ⟨d1, he, _, h2, h4⟩ := h; exact ⟨_, he, h4, d1, rfl, h2⟩)
    · intro o ho x w hb hG
      obtain rfl := Option.some.inj ho
      clear ho
      have h63 : cubG A g d n c p f 5 (x 5) w := hG (5, 63) (List.mem_of_getElem? (i := 5) rfl) rfl
      have h61 : x 3 = .bool true := hG (3, 61) (List.mem_of_getElem? (i := 3) rfl) rfl
      refine Or.inl ⟨ord.wantG rfl rfl h61, ?_⟩
      obtain ⟨d1, hv, hs⟩ := h63
      exact ord.makes_conv rfl hv (convSl (cap := 32) (hs.slB fun j _ => sha_lt _ _ j) (Nat.le_refl 32)) ⟨Below.refl _ _, rfl⟩
    · intro o ho x w hb hG
      obtain rfl := Option.some.inj ho
      clear ho
      have h61 : x 3 = .bool true := hG (3, 61) (List.mem_of_getElem? (i := 3) rfl) rfl
      refine Or.inl ⟨ord.wantG rfl rfl h61, ?_⟩
      exact ord.makes_move rfl ⟨Below.refl _ _, rfl⟩
    · intro o ho x w hb hG
      obtain rfl := Option.some.inj ho
      clear ho
      have h65 : x 7 = .slice (some ⟨d, 0, none⟩) 32 32 := hG (7, 65) (List.mem_of_getElem? (i := 7) rfl) rfl
      have h61 : x 3 = .bool true := hG (3, 61) (List.mem_of_getElem? (i := 3) rfl) rfl
      refine Or.inl ⟨ord.wantG rfl rfl h61, ?_⟩
      exact ord.makes_conv rfl h65 (HCV.out w (of_drew hb)) ⟨Below.refl _ _, rfl⟩
    · intro o ho x w hb hG
      obtain rfl := Option.some.inj ho
      clear ho
      have h64 : x 6 = .string (strOf 32 (sha n f)) := hG (6, 64) (List.mem_of_getElem? (i := 6) rfl) rfl
      have h66 : x 8 = .string (strOf 32 (sha n f)) := hG (8, 66) (List.mem_of_getElem? (i := 8) rfl) rfl
      have h61 : x 3 = .bool true := hG (3, 61) (List.mem_of_getElem? (i := 3) rfl) rfl
      refine Or.inl ⟨ord.wantG rfl rfl h61, ?_⟩
      exact ord.makes_bin rfl h64 h66 (by exact str_same2 _ _ _ _) ⟨Below.refl _ _, rfl⟩
    · intro o ho x w hb hG
      obtain rfl := Option.some.inj ho
      clear ho
      have h61 : x 3 = .bool true := hG (3, 61) (List.mem_of_getElem? (i := 3) rfl) rfl
      have h67 : x 9 = .bool true := hG (9, 67) (List.mem_of_getElem? (i := 9) rfl) rfl
      refine Or.inl ⟨ord.want0 rfl, ?_⟩
      exact ord.makes_pick rfl h61 ⟨Below.refl _ _, h67⟩
    · intro o ho x w hb hG
      obtain rfl := Option.some.inj ho
      clear ho
      have h68 : x 10 = .bool true := hG (10, 68) (List.mem_of_getElem? (i := 10) rfl) rfl
      refine Or.inl ⟨ord.want0 rfl, ?_⟩
      exact ord.makes_move rfl ⟨Below.refl _ _, h68⟩
    · intro o ho x w hb hG
      obtain rfl := Option.some.inj ho
      clear ho
      have h69 : x 11 = .bool true := hG (11, 69) (List.mem_of_getElem? (i := 11) rfl) rfl
      refine Or.inl ⟨ord.wantG rfl rfl h69, ?_⟩
      exact ord.makes_move rfl ⟨Below.refl _ _, rfl⟩
    · intro o ho x w hb hG
      obtain rfl := Option.some.inj ho
      clear ho
      have h69 : x 11 = .bool true := hG (11, 69) (List.mem_of_getElem? (i := 11) rfl) rfl
      refine Or.inl ⟨ord.wantG rfl rfl h69, ?_⟩
      exact ord.makes_move rfl ⟨Below.refl _ _, rfl⟩
    · intro o ho x w hb hG
      obtain rfl := Option.some.inj ho
      clear ho
      have h70 : x 12 = .slice A n c := hG (12, 70) (List.mem_of_getElem? (i := 12) rfl) rfl
      have h71 : x 13 = .int .i64 (p : Nat) := hG (13, 71) (List.mem_of_getElem? (i := 13) rfl) rfl
      have h69 : x 11 = .bool true := hG (11, 69) (List.mem_of_getElem? (i := 11) rfl) rfl
      refine Or.inl ⟨ord.wantG rfl rfl h69, ?_⟩
      exact ord.makes_slice rfl h70 (rfl) (congrArg some h71) (rfl) (by exact run_lo w A n c p hpc) ⟨Below.refl _ _, rfl⟩
    · intro o ho x w hb hG
      obtain rfl := Option.some.inj ho
      clear ho
      have h69 : x 11 = .bool true := hG (11, 69) (List.mem_of_getElem? (i := 11) rfl) rfl
      refine Or.inl ⟨ord.wantG rfl rfl h69, ?_⟩
      exact ord.makes_move rfl ⟨Below.refl _ _, rfl⟩
    · intro o ho x w hb hG
      obtain rfl := Option.some.inj ho
      clear ho
      have h69 : x 11 = .bool true := hG (11, 69) (List.mem_of_getElem? (i := 11) rfl) rfl
      refine Or.inl ⟨ord.wantG rfl rfl h69, ?_⟩
      exact ord.makes_move rfl ⟨Below.refl _ _, rfl⟩
    · intro o ho x w hb hG
      obtain rfl := Option.some.inj ho
      clear ho
      have h73 : x 15 = .slice A n c := hG (15, 73) (List.mem_of_getElem? (i := 15) rfl) rfl
      have h74 : x 16 = .int .i64 (p : Nat) := hG (16, 74) (List.mem_of_getElem? (i := 16) rfl) rfl
      have h69 : x 11 = .bool true := hG (11, 69) (List.mem_of_getElem? (i := 11) rfl) rfl
      refine Or.inl ⟨ord.wantG rfl rfl h69, ?_⟩
      exact ord.makes_slice rfl h73 (congrArg some h74) (rfl) (rfl) (by exact run_hi w A n c p hpn) ⟨Below.refl _ _, rfl⟩
    · intro o ho x w hb hG
      obtain rfl := Option.some.inj ho
      clear ho
      have h72 : x 14 = .slice (loA A c) p c := hG (14, 72) (List.mem_of_getElem? (i := 14) rfl) rfl
      have h75 : x 17 = .slice (hiA A c p) (n - p) (c - p) := hG (17, 75) (List.mem_of_getElem? (i := 17) rfl) rfl
      have h69 : x 11 = .bool true := hG (11, 69) (List.mem_of_getElem? (i := 11) rfl) rfl
      refine Or.inl ⟨ord.wantG rfl rfl h69, ?_⟩
      exact ord.makes_build3 rfl h72 rfl h75 (run_parts3 w _ _ _ _ _ _ _ _ _) ⟨(Below.refl _ _).alloc (Nat.le_refl _) _, _, rfl, parts3 _ _ _ _ _ _ _ _ _ _ _ _ (HL1.out w (of_drew hb)) (SlB.none0 _ _) (HL2.out w (of_drew hb))⟩
    · intro o ho x w hb hG
      obtain rfl := Option.some.inj ho
      clear ho
      have h76 : cubG A g d n c p f 18 (x 18) w := hG (18, 76) (List.mem_of_getElem? (i := 18) rfl) rfl
      have h69 : x 11 = .bool true := hG (11, 69) (List.mem_of_getElem? (i := 11) rfl) rfl
      refine Or.inl ⟨ord.wantG rfl rfl h69, ?_⟩
      obtain ⟨gp, hv, hp⟩ := h76
      exact ord.makes_call1 Tryd.func12 (by kernel_rfl) (by kernel_rfl) rfl hv (HS3.out w (of_drew hb) gp hp) (fun e w' h => by obtain ⟨d1, he, _, h2, h4⟩ := h; exact ⟨_, he, h4, d1, rfl, h2⟩)
    · intro o ho x w hb hG
      obtain rfl := Option.some.inj ho
      clear ho
      have h77 : cubG A g d n c p f 19 (x 19) w := hG (19, 77) (List.mem_of_getElem? (i := 19) rfl) rfl
      have h69 : x 11 = .bool true := hG (11, 69) (List.mem_of_getElem? (i := 11) rfl) rfl
      refine Or.inl ⟨ord.wantG rfl rfl h69, ?_⟩
      obtain ⟨d1, hv, hs⟩ := h77
      exact ord.makes_conv rfl hv (convSl (cap := 32) (hs.slB fun j _ => sha_lt _ _ j) (Nat.le_refl 32)) ⟨Below.refl _ _, rfl⟩
    · intro o ho x w hb hG
      obtain rfl := Option.some.inj ho
      clear ho
      have h69 : x 11 = .bool true := hG (11, 69) (List.mem_of_getElem? (i := 11) rfl) rfl
      refine Or.inl ⟨ord.wantG rfl rfl h69, ?_⟩
      exact ord.makes_move rfl ⟨Below.refl _ _, rfl⟩
    · intro o ho x w hb hG
      obtain rfl := Option.some.inj ho
      clear ho
      have h79 : x 21 = .slice (some ⟨d, 0, none⟩) 32 32 := hG (21, 79) (List.mem_of_getElem? (i := 21) rfl) rfl
      have h69 : x 11 = .bool true := hG (11, 69) (List.mem_of_getElem? (i := 11) rfl) rfl
      refine Or.inl ⟨ord.wantG rfl rfl h69, ?_⟩
      exact ord.makes_conv rfl h79 (HCV.out w (of_drew hb)) ⟨Below.refl _ _, rfl⟩
    · intro o ho x w hb hG
      obtain rfl := Option.some.inj ho
      clear ho
      have h78 : x 20 = .string (strOf 32 (sha n f)) := hG (20, 78) (List.mem_of_getElem? (i := 20) rfl) rfl
      have h80 : x 22 = .string (strOf 32 (sha n f)) := hG (22, 80) (List.mem_of_getElem? (i := 22) rfl) rfl
      have h69 : x 11 = .bool true := hG (11, 69) (List.mem_of_getElem? (i := 11) rfl) rfl
      refine Or.inl ⟨ord.wantG rfl rfl h69, ?_⟩
      exact ord.makes_bin rfl h78 h80 (by exact str_same2 _ _ _ _) ⟨Below.refl _ _, rfl⟩
    · intro o ho x w hb hG
      obtain rfl := Option.some.inj ho
      clear ho
      have h69 : x 11 = .bool true := hG (11, 69) (List.mem_of_getElem? (i := 11) rfl) rfl
      have h81 : x 23 = .bool true := hG (23, 81) (List.mem_of_getElem? (i := 23) rfl) rfl
      refine Or.inl ⟨ord.want0 rfl, ?_⟩
      exact ord.makes_pick rfl h69 ⟨Below.refl _ _, h81⟩
    · intro o ho x w hb hG
      obtain rfl := Option.some.inj ho
      clear ho
      have h82 : x 24 = .bool true := hG (24, 82) (List.mem_of_getElem? (i := 24) rfl) rfl
      refine Or.inl ⟨ord.want0 rfl, ?_⟩
      exact ord.makes_assign rfl ⟨Below.refl _ _, h82⟩
    --END STEPS cub
    · intro x w8 hb hG
      have e0 : x 25 = .bool true := hG (25, 6) (List.mem_of_getElem? (i := 25) rfl)
      clear hG
      simp only [ord.puts, ord.put', List.set_cons_zero, List.set_cons_succ, if_true]
      rw [e0]
      go_wp2_with fail
      go_ret
      exact ⟨rfl, HB7.out.drew.trans (hb.mono HB7.out.drew.size)⟩
theorem cuts_all (A : Option Addr) (n c : Nat) (a b : Int) (f : Nat → Nat) (w : World) (hc : n ≤ c) (hA : SlB w A n f) (ht : GT w) :
    Calls Tryd.prog 6 #[.slice A n c, .int .i64 a, .int .i64 b] w fun e w' => e = .returned (.bool true) ∧ Below w.heap.size w w' := by
  by_cases h1 : 65536 < n
  · have hd : decide (65536 < (n : Int)) = true := by simp; omega
    have HT := Lib.hid ht
    clear hA ht
    go_enter Tryd.func6, Tryd.ntmps6
    go_wp2_with fail
    refine (small_any _ HT.out).mono ?_
    rintro e w1 ⟨rfl, hb1⟩
    have HB1 := Lib.hid hb1
    clear hb1
    go_wp2_with fail
    go_ret
    exact ⟨rfl, HB1.out⟩
  · by_cases h2 : a < 0
    · have hd : decide (65536 < (n : Int)) = false := by simp; omega
      have hd2 : decide (a < 0) = true := by simp; omega
      have HT := Lib.hid ht
      clear hA ht
      go_enter Tryd.func6, Tryd.ntmps6
      go_wp2_with fail
      refine (small_any _ HT.out).mono ?_
      rintro e w1 ⟨rfl, hb1⟩
      have HB1 := Lib.hid hb1
      clear hb1
      go_wp2_with fail
      go_ret
      exact ⟨rfl, HB1.out⟩
    · by_cases h3 : b < a
      · have hd : decide (65536 < (n : Int)) = false := by simp; omega
        have hd2 : decide (a < 0) = false := by simp; omega
        have hd3 : decide (b < a) = true := by simp; omega
        have HT := Lib.hid ht
        clear hA ht
        go_enter Tryd.func6, Tryd.ntmps6
        go_wp2_with fail
        refine (small_any _ HT.out).mono ?_
        rintro e w1 ⟨rfl, hb1⟩
        have HB1 := Lib.hid hb1
        clear hb1
        go_wp2_with fail
        go_ret
        exact ⟨rfl, HB1.out⟩
      · by_cases h4 : (n : Int) < b
        · have hd : decide (65536 < (n : Int)) = false := by simp; omega
          have hd2 : decide (a < 0) = false := by simp; omega
          have hd3 : decide (b < a) = false := by simp; omega
          have hd4 : decide ((n : Int) < b) = true := by simp; omega
          have HT := Lib.hid ht
          clear hA ht
          go_enter Tryd.func6, Tryd.ntmps6
          go_wp2_with fail
          refine (small_any _ HT.out).mono ?_
          rintro e w1 ⟨rfl, hb1⟩
          have HB1 := Lib.hid hb1
          clear hb1
          go_wp2_with fail
          go_ret
          exact ⟨rfl, HB1.out⟩
        · obtain ⟨p, rfl⟩ : ∃ p : Nat, a = (p : Nat) := ⟨a.toNat, by omega⟩
          obtain ⟨q, rfl⟩ : ∃ q : Nat, b = (q : Nat) := ⟨b.toNat, by omega⟩
          exact cuts_any A n c p q f w (by omega) hc (by omega) (by omega) hA ht
end Go.Proofs.YtcmhnelonainhaaDoor
