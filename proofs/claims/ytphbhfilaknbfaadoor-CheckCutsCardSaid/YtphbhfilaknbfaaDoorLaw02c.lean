/- CheckCuts: the walk. -/
import Derived.Test.YtphbhfilaknbfaaDoorLaw02b
import Derived.Test.YtphbhfilaknbfaaDoorOrdOps
namespace Go.Proofs.YtphbhfilaknbfaaDoor
open Go.RowKit

theorem sum_one {w : World} {A : Option Addr} {n c : Nat} {f : Nat → Nat} (hA : SlB w A n f) (hn : n ≤ 281474976710656) (ht : Tab w) :
    Calls Tryd.prog 11 #[.slice (some ⟨w.heap.size, 0, none⟩) 1 1] (w.alloc (.cells #[.slice A n c] 22)) fun e w' => e = .returned (.int .i64 (crc n f : Nat)) ∧ Below w.heap.size w w' :=
  (sum_any w.heap.size 1 1 (fun _ => A) (fun _ => n) (fun _ => c) (fun _ => f) _ (by decide) (fun _ _ => hn) ⟨fun j hj => by
    obtain rfl : j = 0 := by omega
    exact (World.cell?_alloc_at _ _ _ _ rfl).trans rfl, fun _ _ => hA.keep ((Below.refl _ _).alloc (Nat.le_refl _) _)⟩ (ht.keep ((Below.refl _ _).alloc (Nat.le_refl _) _))).mono fun e w' ⟨he, hw⟩ => by
    subst hw
    exact ⟨he, (Below.refl _ _).alloc (Nat.le_refl _) _⟩
def midN (n j : Nat) : Nat := if j = 1 then n else 0
def midA (A : Option Addr) (j : Nat) : Option Addr := if j = 1 then A else none
theorem mid_parts {w : World} {A : Option Addr} {n c : Nat} {f : Nat → Nat} (hA : SlB w A n f) (t : TypeId) : Parts (w.alloc (.cells #[.slice none 0 0, .slice A n c, .slice none 0 0] t)) w.heap.size 3 (midA A) (midN n) (midN c) (fun _ => f) :=
  ⟨fun j hj => by
    rcases (show j = 0 ∨ j = 1 ∨ j = 2 by omega) with rfl | rfl | rfl <;> exact (World.cell?_alloc_at _ _ _ _ rfl).trans rfl, fun j hj => by
    rcases (show j = 0 ∨ j = 1 ∨ j = 2 by omega) with rfl | rfl | rfl
    · exact SlB.nil _ _
    · exact hA.keep ((Below.refl _ _).alloc (Nat.le_refl _) _)
    · exact SlB.nil _ _⟩
theorem crc_cut (k n : Nat) (f : Nat → Nat) (h : k ≤ n) : crc (k + (n - k)) (catB k f (fun j => f (k + j))) = crc n f := by
  rw [Nat.add_sub_cancel' h]
  exact crc_congr fun j _ => by
    unfold catB; split
    · rfl
    · show f (k + (j - k)) = f j
      rw [Nat.add_sub_cancel' (by omega)]
--DEFS ord8
def cutsG (A A1 A2 : Option Addr) (n c k q : Nat) (f : Nat → Nat) : Nat → Value → World → Prop
  | 0, v, _ => v = .bool true
  | 1, v, _ => v = .bool true
  | 2, v, _ => v = .slice A n c
  | 3, v, _ => v = .int .i64 (k : Nat)
  | 4, v, _ => v = .slice A1 k c
  | 5, v, _ => v = .slice A n c
  | 6, v, _ => v = .int .i64 (k : Nat)
  | 7, v, _ => v = .slice A2 (n - k) (c - k)
  | 8, v, w => ∃ g, v = .slice (some ⟨g, 0, none⟩) 2 2 ∧ Parts w g 2 (twoA A1 A2) (twoN k (n - k)) (twoN c (c - k)) (twoF f (fun j => f (k + j)))
  | 9, v, _ => v = .int .i64 (q : Nat)
  | 10, v, _ => v = .int .i64 (q : Nat)
  | 11, v, _ => v = .bool true
  | 12, v, _ => v = .bool true
  | 13, v, _ => v = .bool true
  | 14, v, _ => v = .slice A n c
  | 15, v, w => ∃ g, v = .slice (some ⟨g, 0, none⟩) 3 3 ∧ Parts w g 3 (midA A) (midN n) (midN c) (fun _ => f)
  | 16, v, _ => v = .int .i64 (q : Nat)
  | 17, v, _ => v = .int .i64 (q : Nat)
  | 18, v, _ => v = .bool true
  | 19, v, _ => v = .bool true
  | 20, v, _ => v = .bool true
  | 21, v, _ => v = .int .i64 (q : Nat)
  | 22, v, _ => v = .bool true
  | 23, v, _ => v = .bool true
  | 24, v, _ => v = .bool true
  | 25, v, _ => v = .int .i64 (q : Nat)
  | 26, v, _ => v = .bool true
  | 27, v, _ => v = .bool true
  | 28, v, _ => v = .bool true
  | _, _, _ => True
theorem cutsG_stays (A A1 A2 : Option Addr) (n c k q : Nat) (f : Nat → Nat) : ∀ i v w w', cutsG A A1 A2 n c k q f i v w → Below w.heap.size w w' → cutsG A A1 A2 n c k q f i v w'
  | 0, _, _, _, h, _ => h
  | 1, _, _, _, h, _ => h
  | 2, _, _, _, h, _ => h
  | 3, _, _, _, h, _ => h
  | 4, _, _, _, h, _ => h
  | 5, _, _, _, h, _ => h
  | 6, _, _, _, h, _ => h
  | 7, _, _, _, h, _ => h
  | 8, v, w, w', h, hb => by
    obtain ⟨g, h1, h2⟩ := h; exact ⟨g, h1, h2.keep hb (by omega)⟩
  | 9, _, _, _, h, _ => h
  | 10, _, _, _, h, _ => h
  | 11, _, _, _, h, _ => h
  | 12, _, _, _, h, _ => h
  | 13, _, _, _, h, _ => h
  | 14, _, _, _, h, _ => h
  | 15, v, w, w', h, hb => by
    obtain ⟨g, h1, h2⟩ := h; exact ⟨g, h1, h2.keep hb (by omega)⟩
  | 16, _, _, _, h, _ => h
  | 17, _, _, _, h, _ => h
  | 18, _, _, _, h, _ => h
  | 19, _, _, _, h, _ => h
  | 20, _, _, _, h, _ => h
  | 21, _, _, _, h, _ => h
  | 22, _, _, _, h, _ => h
  | 23, _, _, _, h, _ => h
  | 24, _, _, _, h, _ => h
  | 25, _, _, _, h, _ => h
  | 26, _, _, _, h, _ => h
  | 27, _, _, _, h, _ => h
  | 28, _, _, _, h, _ => h
  | _ + 29, _, _, _, _, _ => trivial
--END DEFS ord8
set_option maxRecDepth 100000 in
set_option maxHeartbeats 1600000 in
theorem cuts_any (A : Option Addr) (n c : Nat) (f : Nat → Nat) (t : Int) (w : World) (hn : n ≤ 140737488351232) (hnc : n ≤ c) (hA : SlB w A n f) (nA : A = none → n = 0 ∧ c = 0) (ht : Tab w) :
    Calls Tryd.prog 8 #[.slice A n c, .int .i64 t] w fun e w' => e = .returned (.bool true) ∧ Below w.heap.size w w' := by
  have HA := Lib.hid hA
  have HT := Lib.hid ht
  have HNA := Lib.hid nA
  clear hA ht nA
  rcases (show t < 0 ∨ (0 ≤ t ∧ (n : Int) < t) ∨ (0 ≤ t ∧ t ≤ n ∧ 65536 < n) ∨ (0 ≤ t ∧ t ≤ n ∧ n ≤ 65536) by omega) with h | ⟨h, h2⟩ | ⟨h, h2, h3⟩ | ⟨h, h2, h3⟩
  · have hd : decide (t < 0) = true := by simpa using h
    go_enter Tryd.func8, Tryd.ntmps8
    go_wp2_with fail
    refine (small_any _ HT.out).mono ?_
    rintro e w1 ⟨rfl, hb1⟩
    go_wp2_with fail
    go_ret
    exact ⟨rfl, hb1⟩
  · have hd : decide (t < 0) = false := by simp; omega
    have hd2 : decide ((n : Int) < t) = true := by simpa using h2
    go_enter Tryd.func8, Tryd.ntmps8
    go_wp2_with fail
    refine (small_any _ HT.out).mono ?_
    rintro e w1 ⟨rfl, hb1⟩
    go_wp2_with fail
    go_ret
    exact ⟨rfl, hb1⟩
  · have hd : decide (t < 0) = false := by simp; omega
    have hd2 : decide ((n : Int) < t) = false := by simp; omega
    have hd3 : decide ((65536 : Int) < n) = true := by simp; omega
    go_enter Tryd.func8, Tryd.ntmps8
    go_wp2_with fail
    refine (small_any _ HT.out).mono ?_
    rintro e w1 ⟨rfl, hb1⟩
    go_wp2_with fail
    go_ret
    exact ⟨rfl, hb1⟩
  · obtain ⟨k, rfl⟩ := Int.eq_ofNat_of_zero_le h
    have hd : decide ((k : Int) < 0) = false := by simp
    have hd2 : decide ((n : Int) < k) = false := by simp; omega
    have hd4 : decide (n < k) = false := by simp; omega
    have hd3 : decide ((65536 : Int) < n) = false := by simp; omega
    have hkn : k ≤ n := by omega
    have hkc : (k : Int) ≤ c := by omega
    have HK := Lib.hid (crc_cut k n f hkn)
    have HL := Lib.hid (crc_lt n f)
    go_enter Tryd.func8, Tryd.ntmps8
    go_wp2_with fail
    refine (small_any _ HT.out).mono ?_
    rintro e w1 ⟨rfl, hb1⟩
    have HB1 := Lib.hid hb1
    clear hb1
    go_wp2_with fail
    refine (sum_one (w := w1) (HA.out.keep HB1.out) (by omega) (HT.out.keep HB1.out)).mono ?_
    rintro e w2 ⟨rfl, hb2⟩
    have HB2 := Lib.hid (HB1.out.trans (hb2.mono HB1.out.size))
    clear hb2
    go_wp2_with fail
    have HBd := Lib.hid HB2.out.drew
    have HA2 := Lib.hid (show SlB w2.drew A n f from HA.out.keep HBd.out)
    have HT2 := Lib.hid (show Tab w2.drew from HT.out.keep HBd.out)
    have H1 := Lib.hid (HA2.out.loA c hkn)
    have H2 := Lib.hid (HA2.out.hiA hkn hnc)
    have hkcN : k ≤ c := by omega
    have HQ := Lib.hid (show 4294967295 - regs 4294967295 (midN n) (fun _ => f) 3 = crc n f from rfl)
    have hq : ((crc n f : Nat) : Int) < 4294967296 := by have := HL.out; omega
    generalize crc n f = q at *
    refine wp_region_any (by kernel_rfl) ?_
    change wpAny _ _ _ _ _ _ _ w2.drew
    refine ord.wpAny_ord [[], [0], [1], [1], [2, 3, 1], [1], [1], [5, 6, 1], [4, 7, 1], [8, 1], [1], [9, 10, 1], [1, 11], [12], [13], [14, 13], [15, 13], [13], [16, 17, 13], [13, 18], [19], [20], [21, 20], [20, 22], [23], [24], [25, 24], [24, 26], [27]] [(0, 25), (1, 26), (2, 27), (3, 28), (4, 29), (5, 30), (6, 31), (7, 32), (8, 33), (9, 34), (10, 35), (11, 36), (12, 37), (13, 38), (14, 39), (15, 40), (16, 41), (17, 42), (18, 43), (19, 44), (20, 45), (21, 46), (22, 47), (23, 48), (24, 49), (25, 50), (26, 51), (27, 52), (28, 4)] (cutsG A (loA A c) (hiA A c k) n c k q f) (by kernel_rfl) (by kernel_rfl) (cutsG_stays _ _ _ _ _ _ _ _) (ord.steps_cons ?_ (ord.steps_cons ?_ (ord.steps_cons ?_ (ord.steps_cons ?_ (ord.steps_cons ?_ (ord.steps_cons ?_ (ord.steps_cons ?_ (ord.steps_cons ?_ (ord.steps_cons ?_ (ord.steps_cons ?_ (ord.steps_cons ?_ (ord.steps_cons ?_ (ord.steps_cons ?_ (ord.steps_cons ?_ (ord.steps_cons ?_ (ord.steps_cons ?_ (ord.steps_cons ?_ (ord.steps_cons ?_ (ord.steps_cons ?_ (ord.steps_cons ?_ (ord.steps_cons ?_ (ord.steps_cons ?_ (ord.steps_cons ?_ (ord.steps_cons ?_ (ord.steps_cons ?_ (ord.steps_cons ?_ (ord.steps_cons ?_ (ord.steps_cons ?_ (ord.steps_cons ?_ ord.steps_nil))))))))))))))))))))))))))))) ?_
    --STEPS ord8
    · intro o ho x w hb hG
      obtain rfl := Option.some.inj ho
      clear ho
      refine Or.inl ⟨ord.want0 rfl, ?_⟩
      exact ord.makes_move rfl ⟨Below.refl _ _, rfl⟩
    · intro o ho x w hb hG
      obtain rfl := Option.some.inj ho
      clear ho
      have h25 : x 0 = .bool true := hG (0, 25) (List.mem_of_getElem? (i := 0) rfl) rfl
      refine Or.inl ⟨ord.want0 rfl, ?_⟩
      exact ord.makes_move rfl ⟨Below.refl _ _, h25⟩
    · intro o ho x w hb hG
      obtain rfl := Option.some.inj ho
      clear ho
      have h26 : x 1 = .bool true := hG (1, 26) (List.mem_of_getElem? (i := 1) rfl) rfl
      refine Or.inl ⟨ord.wantG rfl rfl h26, ?_⟩
      exact ord.makes_move rfl ⟨Below.refl _ _, rfl⟩
    · intro o ho x w hb hG
      obtain rfl := Option.some.inj ho
      clear ho
      have h26 : x 1 = .bool true := hG (1, 26) (List.mem_of_getElem? (i := 1) rfl) rfl
      refine Or.inl ⟨ord.wantG rfl rfl h26, ?_⟩
      exact ord.makes_move rfl ⟨Below.refl _ _, rfl⟩
    · intro o ho x w hb hG
      obtain rfl := Option.some.inj ho
      clear ho
      have h27 : x 2 = .slice A n c := hG (2, 27) (List.mem_of_getElem? (i := 2) rfl) rfl
      have h28 : x 3 = .int .i64 (k : Nat) := hG (3, 28) (List.mem_of_getElem? (i := 3) rfl) rfl
      have h26 : x 1 = .bool true := hG (1, 26) (List.mem_of_getElem? (i := 1) rfl) rfl
      refine Or.inl ⟨ord.wantG rfl rfl h26, ?_⟩
      exact ord.makes_slice rfl h27 (rfl) (congrArg some h28) (rfl) (by exact run_lo w A n c k hkcN) ⟨Below.refl _ _, rfl⟩
    · intro o ho x w hb hG
      obtain rfl := Option.some.inj ho
      clear ho
      have h26 : x 1 = .bool true := hG (1, 26) (List.mem_of_getElem? (i := 1) rfl) rfl
      refine Or.inl ⟨ord.wantG rfl rfl h26, ?_⟩
      exact ord.makes_move rfl ⟨Below.refl _ _, rfl⟩
    · intro o ho x w hb hG
      obtain rfl := Option.some.inj ho
      clear ho
      have h26 : x 1 = .bool true := hG (1, 26) (List.mem_of_getElem? (i := 1) rfl) rfl
      refine Or.inl ⟨ord.wantG rfl rfl h26, ?_⟩
      exact ord.makes_move rfl ⟨Below.refl _ _, rfl⟩
    · intro o ho x w hb hG
      obtain rfl := Option.some.inj ho
      clear ho
      have h30 : x 5 = .slice A n c := hG (5, 30) (List.mem_of_getElem? (i := 5) rfl) rfl
      have h31 : x 6 = .int .i64 (k : Nat) := hG (6, 31) (List.mem_of_getElem? (i := 6) rfl) rfl
      have h26 : x 1 = .bool true := hG (1, 26) (List.mem_of_getElem? (i := 1) rfl) rfl
      refine Or.inl ⟨ord.wantG rfl rfl h26, ?_⟩
      exact ord.makes_slice rfl h30 (congrArg some h31) (rfl) (rfl) (by exact run_hi w A n c k hkn) ⟨Below.refl _ _, rfl⟩
    · intro o ho x w hb hG
      obtain rfl := Option.some.inj ho
      clear ho
      have h29 : x 4 = .slice (loA A c) k c := hG (4, 29) (List.mem_of_getElem? (i := 4) rfl) rfl
      have h32 : x 7 = .slice (hiA A c k) (n - k) (c - k) := hG (7, 32) (List.mem_of_getElem? (i := 7) rfl) rfl
      have h26 : x 1 = .bool true := hG (1, 26) (List.mem_of_getElem? (i := 1) rfl) rfl
      refine Or.inl ⟨ord.wantG rfl rfl h26, ?_⟩
      exact ord.makes_build2 rfl h29 h32 (run_parts2 w _ _ _ _ _ _) ⟨(Below.refl _ _).alloc (Nat.le_refl _) _, _, rfl, two_parts (H1.out.keep hb) (H2.out.keep hb) _⟩
    · intro o ho x w hb hG
      obtain rfl := Option.some.inj ho
      clear ho
      have h33 : cutsG A (loA A c) (hiA A c k) n c k q f 8 (x 8) w := hG (8, 33) (List.mem_of_getElem? (i := 8) rfl) rfl
      have h26 : x 1 = .bool true := hG (1, 26) (List.mem_of_getElem? (i := 1) rfl) rfl
      refine Or.inl ⟨ord.wantG rfl rfl h26, ?_⟩
      obtain ⟨g, hg, hp⟩ := h33
      exact ord.makes_call1 Tryd.func11 (by kernel_rfl) (by kernel_rfl) rfl hg (sum_any g 2 2 _ _ _ _ w (by decide) (fun j _ => by unfold twoN; split <;> omega) hp (HT2.out.keep hb)) (fun e w' h => ⟨_, h.1, by rw [← h.2]; exact Below.refl _ _, congrArg (fun z : Nat => Value.int .i64 (z : Int)) (by rw [two_crc, HK.out])⟩)
    · intro o ho x w hb hG
      obtain rfl := Option.some.inj ho
      clear ho
      have h26 : x 1 = .bool true := hG (1, 26) (List.mem_of_getElem? (i := 1) rfl) rfl
      refine Or.inl ⟨ord.wantG rfl rfl h26, ?_⟩
      exact ord.makes_move rfl ⟨Below.refl _ _, rfl⟩
    · intro o ho x w hb hG
      obtain rfl := Option.some.inj ho
      clear ho
      have h34 : x 9 = .int .i64 (q : Nat) := hG (9, 34) (List.mem_of_getElem? (i := 9) rfl) rfl
      have h35 : x 10 = .int .i64 (q : Nat) := hG (10, 35) (List.mem_of_getElem? (i := 10) rfl) rfl
      have h26 : x 1 = .bool true := hG (1, 26) (List.mem_of_getElem? (i := 1) rfl) rfl
      refine Or.inl ⟨ord.wantG rfl rfl h26, ?_⟩
      exact ord.makes_bin rfl h34 h35 (by go_simp) ⟨Below.refl _ _, rfl⟩
    · intro o ho x w hb hG
      obtain rfl := Option.some.inj ho
      clear ho
      have h26 : x 1 = .bool true := hG (1, 26) (List.mem_of_getElem? (i := 1) rfl) rfl
      have h36 : x 11 = .bool true := hG (11, 36) (List.mem_of_getElem? (i := 11) rfl) rfl
      refine Or.inl ⟨ord.want0 rfl, ?_⟩
      exact ord.makes_pick rfl h26 ⟨Below.refl _ _, h36⟩
    · intro o ho x w hb hG
      obtain rfl := Option.some.inj ho
      clear ho
      have h37 : x 12 = .bool true := hG (12, 37) (List.mem_of_getElem? (i := 12) rfl) rfl
      refine Or.inl ⟨ord.want0 rfl, ?_⟩
      exact ord.makes_move rfl ⟨Below.refl _ _, h37⟩
    · intro o ho x w hb hG
      obtain rfl := Option.some.inj ho
      clear ho
      have h38 : x 13 = .bool true := hG (13, 38) (List.mem_of_getElem? (i := 13) rfl) rfl
      refine Or.inl ⟨ord.wantG rfl rfl h38, ?_⟩
      exact ord.makes_move rfl ⟨Below.refl _ _, rfl⟩
    · intro o ho x w hb hG
      obtain rfl := Option.some.inj ho
      clear ho
      have h39 : x 14 = .slice A n c := hG (14, 39) (List.mem_of_getElem? (i := 14) rfl) rfl
      have h38 : x 13 = .bool true := hG (13, 38) (List.mem_of_getElem? (i := 13) rfl) rfl
      refine Or.inl ⟨ord.wantG rfl rfl h38, ?_⟩
      exact ord.makes_build3 rfl rfl h39 rfl (run_parts3 w _ _ _ _ _ _ _ _ _) ⟨(Below.refl _ _).alloc (Nat.le_refl _) _, _, rfl, mid_parts (HA2.out.keep hb) _⟩
    · intro o ho x w hb hG
      obtain rfl := Option.some.inj ho
      clear ho
      have h40 : cutsG A (loA A c) (hiA A c k) n c k q f 15 (x 15) w := hG (15, 40) (List.mem_of_getElem? (i := 15) rfl) rfl
      have h38 : x 13 = .bool true := hG (13, 38) (List.mem_of_getElem? (i := 13) rfl) rfl
      refine Or.inl ⟨ord.wantG rfl rfl h38, ?_⟩
      obtain ⟨g, hg, hp⟩ := h40
      exact ord.makes_call1 Tryd.func11 (by kernel_rfl) (by kernel_rfl) rfl hg (sum_any g 3 3 _ _ _ _ w (by decide) (fun j _ => by unfold midN; split <;> omega) hp (HT2.out.keep hb)) (fun e w' h => ⟨_, h.1, by rw [← h.2]; exact Below.refl _ _, congrArg (fun z : Nat => Value.int .i64 (z : Int)) HQ.out⟩)
    · intro o ho x w hb hG
      obtain rfl := Option.some.inj ho
      clear ho
      have h38 : x 13 = .bool true := hG (13, 38) (List.mem_of_getElem? (i := 13) rfl) rfl
      refine Or.inl ⟨ord.wantG rfl rfl h38, ?_⟩
      exact ord.makes_move rfl ⟨Below.refl _ _, rfl⟩
    · intro o ho x w hb hG
      obtain rfl := Option.some.inj ho
      clear ho
      have h41 : x 16 = .int .i64 (q : Nat) := hG (16, 41) (List.mem_of_getElem? (i := 16) rfl) rfl
      have h42 : x 17 = .int .i64 (q : Nat) := hG (17, 42) (List.mem_of_getElem? (i := 17) rfl) rfl
      have h38 : x 13 = .bool true := hG (13, 38) (List.mem_of_getElem? (i := 13) rfl) rfl
      refine Or.inl ⟨ord.wantG rfl rfl h38, ?_⟩
      exact ord.makes_bin rfl h41 h42 (by go_simp) ⟨Below.refl _ _, rfl⟩
    · intro o ho x w hb hG
      obtain rfl := Option.some.inj ho
      clear ho
      have h38 : x 13 = .bool true := hG (13, 38) (List.mem_of_getElem? (i := 13) rfl) rfl
      have h43 : x 18 = .bool true := hG (18, 43) (List.mem_of_getElem? (i := 18) rfl) rfl
      refine Or.inl ⟨ord.want0 rfl, ?_⟩
      exact ord.makes_pick rfl h38 ⟨Below.refl _ _, h43⟩
    · intro o ho x w hb hG
      obtain rfl := Option.some.inj ho
      clear ho
      have h44 : x 19 = .bool true := hG (19, 44) (List.mem_of_getElem? (i := 19) rfl) rfl
      refine Or.inl ⟨ord.want0 rfl, ?_⟩
      exact ord.makes_move rfl ⟨Below.refl _ _, h44⟩
    · intro o ho x w hb hG
      obtain rfl := Option.some.inj ho
      clear ho
      have h45 : x 20 = .bool true := hG (20, 45) (List.mem_of_getElem? (i := 20) rfl) rfl
      refine Or.inl ⟨ord.wantG rfl rfl h45, ?_⟩
      exact ord.makes_move rfl ⟨Below.refl _ _, rfl⟩
    · intro o ho x w hb hG
      obtain rfl := Option.some.inj ho
      clear ho
      have h46 : x 21 = .int .i64 (q : Nat) := hG (21, 46) (List.mem_of_getElem? (i := 21) rfl) rfl
      have h45 : x 20 = .bool true := hG (20, 45) (List.mem_of_getElem? (i := 20) rfl) rfl
      refine Or.inl ⟨ord.wantG rfl rfl h45, ?_⟩
      exact ord.makes_bin rfl h46 rfl (by go_simp) ⟨Below.refl _ _, rfl⟩
    · intro o ho x w hb hG
      obtain rfl := Option.some.inj ho
      clear ho
      have h45 : x 20 = .bool true := hG (20, 45) (List.mem_of_getElem? (i := 20) rfl) rfl
      have h47 : x 22 = .bool true := hG (22, 47) (List.mem_of_getElem? (i := 22) rfl) rfl
      refine Or.inl ⟨ord.want0 rfl, ?_⟩
      exact ord.makes_pick rfl h45 ⟨Below.refl _ _, h47⟩
    · intro o ho x w hb hG
      obtain rfl := Option.some.inj ho
      clear ho
      have h48 : x 23 = .bool true := hG (23, 48) (List.mem_of_getElem? (i := 23) rfl) rfl
      refine Or.inl ⟨ord.want0 rfl, ?_⟩
      exact ord.makes_move rfl ⟨Below.refl _ _, h48⟩
    · intro o ho x w hb hG
      obtain rfl := Option.some.inj ho
      clear ho
      have h49 : x 24 = .bool true := hG (24, 49) (List.mem_of_getElem? (i := 24) rfl) rfl
      refine Or.inl ⟨ord.wantG rfl rfl h49, ?_⟩
      exact ord.makes_move rfl ⟨Below.refl _ _, rfl⟩
    · intro o ho x w hb hG
      obtain rfl := Option.some.inj ho
      clear ho
      have h50 : x 25 = .int .i64 (q : Nat) := hG (25, 50) (List.mem_of_getElem? (i := 25) rfl) rfl
      have h49 : x 24 = .bool true := hG (24, 49) (List.mem_of_getElem? (i := 24) rfl) rfl
      refine Or.inl ⟨ord.wantG rfl rfl h49, ?_⟩
      exact ord.makes_bin rfl h50 rfl (by go_simp) ⟨Below.refl _ _, rfl⟩
    · intro o ho x w hb hG
      obtain rfl := Option.some.inj ho
      clear ho
      have h49 : x 24 = .bool true := hG (24, 49) (List.mem_of_getElem? (i := 24) rfl) rfl
      have h51 : x 26 = .bool true := hG (26, 51) (List.mem_of_getElem? (i := 26) rfl) rfl
      refine Or.inl ⟨ord.want0 rfl, ?_⟩
      exact ord.makes_pick rfl h49 ⟨Below.refl _ _, h51⟩
    · intro o ho x w hb hG
      obtain rfl := Option.some.inj ho
      clear ho
      have h52 : x 27 = .bool true := hG (27, 52) (List.mem_of_getElem? (i := 27) rfl) rfl
      refine Or.inl ⟨ord.want0 rfl, ?_⟩
      exact ord.makes_assign rfl ⟨Below.refl _ _, h52⟩
    --END STEPS ord8
    · intro x w5 hb hG
      have e4 : x 28 = .bool true := hG (28, 4) (List.mem_of_getElem? (i := 28) rfl)
      clear hG
      simp only [ord.puts, ord.put', List.set_cons_zero, List.set_cons_succ, if_true]
      rw [e4]
      go_wp2_with fail
      go_ret
      exact ⟨rfl, HBd.out.trans (hb.mono HBd.out.size)⟩
end Go.Proofs.YtphbhfilaknbfaaDoor
