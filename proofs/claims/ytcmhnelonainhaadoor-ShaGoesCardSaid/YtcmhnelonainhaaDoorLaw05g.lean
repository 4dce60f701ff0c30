/- Law ShaGoes: a digest that goes on, piece by piece (layer 5). -/
import Derived.Test.YtcmhnelonainhaaDoorRows5
namespace Go.Proofs.YtcmhnelonainhaaDoor
open Go.RowKit
--DEFS goa
def goaG (A5 : Option Addr) (d M c5 : Nat) (C2 : Nat → Nat) : Nat → Value → World → Prop
  | 0, v, _ => v = .slice (some ⟨d, 0, none⟩) 32 32
  | 1, v, _ => v = .string (strOf 32 (sha M C2))
  | 2, v, _ => v = .slice A5 M c5
  | 3, v, w => ∃ A' c', v = .slice A' 32 c' ∧ SlB w A' 32 (sha M C2)
  | 4, v, _ => v = .string (strOf 32 (sha M C2))
  | 5, v, _ => v = .bool true
  | 6, v, _ => v = .bool true
  | _, _, _ => True
theorem goaG_stays (A5 : Option Addr) (d M c5 : Nat) (C2 : Nat → Nat) : ∀ i v w w', goaG A5 d M c5 C2 i v w → Below w.heap.size w w' → goaG A5 d M c5 C2 i v w'
  | 0, _, _, _, h, _ => h
  | 1, _, _, _, h, _ => h
  | 2, _, _, _, h, _ => h
  | 3, v, w, w', h_, hb => by
    obtain ⟨A1, c1, h1, h2⟩ := h_; exact ⟨A1, c1, h1, h2.keep hb⟩
  | 4, _, _, _, h, _ => h
  | 5, _, _, _, h, _ => h
  | 6, _, _, _, h, _ => h
  | _ + 7, _, _, _, _, _ => trivial
--END DEFS goa
--DEFS gob
def gobG (A5 : Option Addr) (g N c5 : Nat) (C : Nat → Nat) : Nat → Value → World → Prop
  | 0, v, _ => v = .pointer (some ⟨g, 0, none⟩)
  | 1, v, w => ∃ d', v = .slice (some ⟨d', 0, none⟩) 32 32 ∧ Arr w d' 0 32 (sha N C)
  | 2, v, _ => v = .string (strOf 32 (sha N C))
  | 3, v, _ => v = .slice A5 N c5
  | 4, v, w => ∃ A' c', v = .slice A' 32 c' ∧ SlB w A' 32 (sha N C)
  | 5, v, _ => v = .string (strOf 32 (sha N C))
  | 6, v, _ => v = .bool true
  | 7, v, _ => v = .bool true
  | _, _, _ => True
theorem gobG_stays (A5 : Option Addr) (g N c5 : Nat) (C : Nat → Nat) : ∀ i v w w', gobG A5 g N c5 C i v w → Below w.heap.size w w' → gobG A5 g N c5 C i v w'
  | 0, _, _, _, h, _ => h
  | 1, v, w, w', h_, hb => by
    obtain ⟨d1, h1, h2⟩ := h_; exact ⟨d1, h1, h2.keep hb⟩
  | 2, _, _, _, h, _ => h
  | 3, _, _, _, h, _ => h
  | 4, v, w, w', h_, hb => by
    obtain ⟨A1, c1, h1, h2⟩ := h_; exact ⟨A1, c1, h1, h2.keep hb⟩
  | 5, _, _, _, h, _ => h
  | 6, _, _, _, h, _ => h
  | 7, _, _, _, h, _ => h
  | _ + 8, _, _, _, _, _ => trivial
--END DEFS gob
set_option maxRecDepth 100000 in
set_option maxHeartbeats 3200000 in
theorem goes_any (AB : Option Addr) (nb cb : Nat) (w : World) (hnb : nb ≤ 140737488351232) (hAB : RowsIn w AB nb) (ht : GT w) :
    Calls Tryd.prog 5 #[.slice AB nb cb] w fun e w' => e = .returned (.bool true) ∧ Below w.heap.size w w' := by
  have HAB := Lib.hid hAB
  have HT := Lib.hid ht
  clear hAB ht
  go_enter Tryd.func5, Tryd.ntmps5
  go_wp2_with fail
  refine (small_any _ HT.out).mono ?_
  rintro e w1 ⟨rfl, hb1⟩
  have HB1 := Lib.hid hb1
  clear hb1
  go_wp2_with fail
  refine (new_any (fun _ => 0) w1 (HT.out.keep HB1.out)).mono ?_
  rintro e w2 ⟨rfl, h1, h2⟩
  have HM2 := Lib.hid h1
  have HB2 := Lib.hid (HB1.out.trans (h2.mono HB1.out.size))
  have HG := Lib.hid (show 0 ≠ w1.heap.size ∧ 1 ≠ w1.heap.size from ⟨Nat.ne_of_lt (HT.out.keep HB1.out).ltk, Nat.ne_of_lt (HT.out.keep HB1.out).lth⟩)
  have HWG := Lib.hid (show w.heap.size ≤ w1.heap.size from HB1.out.size)
  clear h1 h2
  obtain ⟨g, hgE⟩ : ∃ g, w1.heap.size = g := ⟨_, rfl⟩
  rw [hgE] at HM2 HG HWG
  rw [hgE]
  clear hgE
  have HGL := Lib.hid HM2.out.lt
  go_wp2_with fail
  go_loopw [5, 6] (fun v5 v6 wr => ∃ (k N : Nat) (C : Nat → Nat), k ≤ nb ∧ k ≤ 12 ∧ N ≤ 4096 * k ∧ v6 = .int .i64 (k : Nat) ∧ OwnB wr w2.heap.size v5 N C ∧ HM wr g N C ∧ By N C ∧ w2.heap.size ≤ wr.heap.size ∧ Below w.heap.size w wr) (fun _ v6 _ => 12 - (intOf v6).toNat)
  case atStart => exact ⟨0, 0, fun _ => 0, Nat.zero_le _, Nat.zero_le _, Nat.zero_le _, rfl, OwnB.nil _ _ _, HM2.out, fun j hj => absurd hj (Nat.not_lt_zero j), Nat.le_refl _, HB2.out⟩
  case round =>
    obtain ⟨k, N, C, hkn, hk12, hN, rfl, ho, hm, hy, hs, hb⟩ := hrel
    have HOr := Lib.hid ho
    have HMr := Lib.hid hm
    have HYr := Lib.hid hy
    have HSr := Lib.hid hs
    have HBr := Lib.hid hb
    clear ho hm hy hs hb
    rcases (show (k < nb ∧ k < 12) ∨ k = nb ∨ (k < nb ∧ k = 12) by omega) with ⟨h1, h2⟩ | h1 | ⟨h1, h2⟩
    · have hd1 := h1
      obtain ⟨B, o, rfl, hB, hrows⟩ := HAB.out (by omega)
      obtain ⟨R, l, cr, f, hcell, hsl, hlc, hnil⟩ := hrows k h1
      have HBL := Lib.hid hB
      have HCE := Lib.hid hcell
      have HSL := Lib.hid hsl
      have HNL := Lib.hid hnil
      have HYf := Lib.hid (show By l f from fun j hj => hsl.byte hj)
      clear hrows hcell hsl hB hnil
      have hki : (k : Int) < (nb : Nat) := by omega
      have hk12 : (k : Int) < 12 := by omega
      have hk0 : (0 : Int) ≤ (k : Nat) := by omega
      have hc1 := (HBr.out.cell (p := ⟨B, o + k, none⟩) HBL.out).trans HCE.out
      by_cases hbig : 4096 < l
      · have hdl : decide ((4096 : Int) < (l : Nat)) = true := by simp; omega
        go_wp2_with fail
        go_ret
        exact ⟨rfl, HBr.out⟩
      · have hdl : decide ((4096 : Int) < (l : Nat)) = false := by simp; omega
        go_wp2_with fail
        refine (lent_any R l cr f wr (by omega) (HSL.out.keep HBr.out)).mono ?_
        rintro e w3 ⟨gL, rfl, hgL, hrow, hb3⟩
        have HR3 := Lib.hid hrow
        have HGE := Lib.hid hgL
        have HLG := Lib.hid (show gL ≠ g by have := HSr.out; have := HGL.out; omega)
        have HC3 := Lib.hid (Chg.of_below (K := g) hb3)
        have HM3 := Lib.hid (HMr.out.keep hb3)
        have HB3 := Lib.hid (HBr.out.trans (hb3.mono HBr.out.size))
        clear hrow hgL hb3 hc1
        go_wp2_with fail
        refine (write1_any w3 g N (some ⟨gL, 0, none⟩) l (l + 1) f (catB N C f) (by omega) (Nat.le_succ l) (SlB.of_rowX ((RowX.of_rowIs HR3.out).less (Nat.le_succ l)) (fun j hj => ⟨HYf.out j hj, by rw [if_pos hj]⟩)) (fun j _ => by unfold catB; rw [if_neg (by omega), Nat.add_sub_cancel_left])
          (HM3.out.congr fun j hj => by unfold catB; rw [if_pos hj]) (catB_lt HYr.out HYf.out) (HT.out.keep HB3.out) HG.out (fun _ B' o' h => by cases h; exact HLG.out)).mono ?_
        rintro e w4 ⟨rfl, h1, h2⟩
        have HR4 := Lib.hid (HR3.out.of_block (h2.block gL HR3.out.lt HLG.out))
        have HM4 := Lib.hid h1
        have HC4 := Lib.hid (HC3.out.trans h2)
        have HB4 := Lib.hid (HB3.out.trans (h2.below HB3.out.size HWG.out))
        clear h1 h2 HM3 HR3
        have hc1 := (HB4.out.cell (p := ⟨B, o + k, none⟩) HBL.out).trans HCE.out
        go_wp2_with fail
        refine (kept_any gL R l cr f _ (by omega) (HSL.out.keep HB4.out) HR4.out).mono ?_
        rintro e w5 ⟨rfl, rfl⟩
        clear hc1
        go_wp2_with fail
        refine (owned_one w4 gL l (l + 1) _ (RowX.of_rowIs HR4.out).arr (by omega)).mono ?_
        rintro e w5 ⟨rfl, h1⟩
        have HM5 := Lib.hid (HM4.out.chg h1 HLG.out.symm)
        have HC5 := Lib.hid (HC4.out.thenNew h1 HGE.out)
        have HB5 := Lib.hid (HBr.out.trans (HC5.out.below HBr.out.size HWG.out))
        have HO5 := Lib.hid (HOr.out.chg HC5.out HGL.out)
        have HS5 := Lib.hid (Nat.le_trans HSr.out HC5.out.size)
        clear h1 HM4 HR4
        have hc1 := (HB5.out.cell (p := ⟨B, o + k, none⟩) HBL.out).trans HCE.out
        go_wp2_with (at_builtin; go_must (refine wpList_appO rfl (.tmp 53) (.tmp 57) rfl w2.heap.size _ N C rfl HO5.out R l cr f rfl (HSL.out.keep HB5.out) HNL.out (by omega) HS5.out HYr.out HYf.out ?_); intro A5 c5 w6 h1 h2 h3 h4; have HO6 := Lib.hid h1; have HA6 := Lib.hid h2; have HN6 := Lib.hid h3; have HB6a := Lib.hid h4; clear h1 h2 h3 h4)
        have HB6 := Lib.hid (HB5.out.trans (HB6a.out.mono HB2.out.size))
        have HM6 := Lib.hid (HM5.out.of_block (HB6a.out.block g HGL.out))
        have HS6 := Lib.hid (Nat.le_trans HS5.out HB6a.out.size)
        have HY6 := Lib.hid (catB_lt HYr.out HYf.out)
        have hM := show N + l ≤ 4096 * (k + 1) by omega
        clear HM5 HO5 HB6a hc1
        generalize catB N C f = C2 at *
        generalize N + l = M at *
        refine (hsum_any g M C2 w6 (by omega) HM6.out HY6.out (HT.out.keep HB6.out)).mono ?_
        rintro e w7 ⟨d, rfl, h0, h1, h2⟩
        have HDS := Lib.hid h0
        have HD7 := Lib.hid h1
        have HB7a := Lib.hid h2
        have HB7 := Lib.hid (HB6.out.trans (h2.mono HB6.out.size))
        clear h0 h1 h2
        have HCV := Lib.hid (show ∀ w', Below w7.heap.size w7 w' → (convert 22 9 (.slice (some ⟨d, 0, none⟩) 32 32)).run Tryd.prog w' = .ok (.string (strOf 32 (sha M C2))) w' from fun w' hb => convSl (cap := 32) ((HD7.out.keep hb).slB fun j _ => sha_lt _ _ j) (Nat.le_refl 32))
        have HRS := Lib.hid (show ∀ w', Below w7.heap.size w7 w' → Calls Tryd.prog 14 #[.slice A5 M c5] w' (fun e w'' => ∃ A' c', e = .returned (.slice A' 32 c') ∧ SlB w'' A' 32 (sha M C2) ∧ Below w'.heap.size w' w'') from fun w' hb => rsum_any A5 M c5 C2 w' (by omega) ((HA6.out.keep HB7a.out).keep hb) HN6.out.2.2)
        go_wp2_with fail
        refine wp_region_any (by kernel_rfl) ?_
        change wpAny _ _ _ _ _ _ _ w7.drew
        refine ord.wpAny_ord [[], [0], [], [2], [3], [1, 4], [5]] [(0, 61), (1, 62), (2, 63), (3, 64), (4, 65), (5, 66), (6, 10)] (goaG A5 d M c5 C2) (by kernel_rfl) (by kernel_rfl) (goaG_stays _ _ _ _ _) (ord.steps_cons ?_ (ord.steps_cons ?_ (ord.steps_cons ?_ (ord.steps_cons ?_ (ord.steps_cons ?_ (ord.steps_cons ?_ (ord.steps_cons ?_ ord.steps_nil))))))) ?_
        --STEPS goa
        · intro o ho x w hb hG
          obtain rfl := Option.some.inj ho
          clear ho
          refine Or.inl ⟨ord.want0 rfl, ?_⟩
          exact ord.makes_move rfl ⟨Below.refl _ _, rfl⟩
        · intro o ho x w hb hG
          obtain rfl := Option.some.inj ho
          clear ho
          have h61 : x 0 = .slice (some ⟨d, 0, none⟩) 32 32 := hG (0, 61) (List.mem_of_getElem? (i := 0) rfl) rfl
          refine Or.inl ⟨ord.want0 rfl, ?_⟩
          exact ord.makes_conv rfl h61 (HCV.out w (of_drew hb)) ⟨Below.refl _ _, rfl⟩
        · intro o ho x w hb hG
          obtain rfl := Option.some.inj ho
          clear ho
          refine Or.inl ⟨ord.want0 rfl, ?_⟩
          exact ord.makes_move rfl ⟨Below.refl _ _, rfl⟩
        · intro o ho x w hb hG
          obtain rfl := Option.some.inj ho
          clear ho
          have h63 : x 2 = .slice A5 M c5 := hG (2, 63) (List.mem_of_getElem? (i := 2) rfl) rfl
          refine Or.inl ⟨ord.want0 rfl, ?_⟩
          exact ord.makes_call1 Tryd.func14 (by kernel_rfl) (by kernel_rfl) rfl h63 (HRS.out w (of_drew hb)) (fun e w' h => by obtain ⟨A2, c2, he, h2, h4⟩ := h; exact ⟨_, he, h4, A2, c2, rfl, h2⟩)
        · intro o ho x w hb hG
          obtain rfl := Option.some.inj ho
          clear ho
          have h64 : goaG A5 d M c5 C2 3 (x 3) w := hG (3, 64) (List.mem_of_getElem? (i := 3) rfl) rfl
          refine Or.inl ⟨ord.want0 rfl, ?_⟩
          obtain ⟨A1, c1, hv, hs⟩ := h64
          exact ord.makes_conv rfl hv (convSl hs (Nat.le_refl 32)) ⟨Below.refl _ _, rfl⟩
        · intro o ho x w hb hG
          obtain rfl := Option.some.inj ho
          clear ho
          have h62 : x 1 = .string (strOf 32 (sha M C2)) := hG (1, 62) (List.mem_of_getElem? (i := 1) rfl) rfl
          have h65 : x 4 = .string (strOf 32 (sha M C2)) := hG (4, 65) (List.mem_of_getElem? (i := 4) rfl) rfl
          refine Or.inl ⟨ord.want0 rfl, ?_⟩
          exact ord.makes_bin rfl h62 h65 (by exact str_same2 _ _ _ _) ⟨Below.refl _ _, rfl⟩
        · intro o ho x w hb hG
          obtain rfl := Option.some.inj ho
          clear ho
          have h66 : x 5 = .bool true := hG (5, 66) (List.mem_of_getElem? (i := 5) rfl) rfl
          refine Or.inl ⟨ord.want0 rfl, ?_⟩
          exact ord.makes_assign rfl ⟨Below.refl _ _, h66⟩
        --END STEPS goa
        · intro x w8 hb hG
          have e6 : x 6 = .bool true := hG (6, 10) (List.mem_of_getElem? (i := 6) rfl)
          clear hG
          have HB8a := Lib.hid (of_drew hb)
          clear hb
          simp only [ord.puts, ord.put', List.set_cons_zero, List.set_cons_succ, if_true]
          rw [e6]
          have HD8 := Lib.hid (HD7.out.keep HB8a.out)
          have HS8 := Lib.hid (Nat.le_trans HB7a.out.size HB8a.out.size)
          go_wp2_with fail
          refine (owned_one w8 d 32 32 _ HD8.out (by decide)).mono ?_
          rintro e w9 ⟨rfl, h1⟩
          have HB9 := Lib.hid (show Below w6.heap.size w6 w9 from (HB7a.out.trans (HB8a.out.mono HB7a.out.size)).trans (h1.below HS8.out HDS.out))
          clear h1 HCV HRS HD7 HD8 HB8a HS8
          go_wp2_with fail
          refine (count_any g M C2 w9 (HM6.out.keep HB9.out)).mono ?_
          rintro e w10 ⟨rfl, rfl⟩
          go_wp2_with fail
          go_roundw
          case rel => exact ⟨k + 1, M, C2, by omega, by omega, hM, by go_num, HO6.out.keep HB9.out, HM6.out.keep HB9.out, HY6.out, Nat.le_trans HS6.out HB9.out.size, HB6.out.trans (HB9.out.mono HB6.out.size)⟩
          case measure => simp [intOf]; omega
    · have hki : ¬ (k : Int) < (nb : Nat) := by omega
      have hki2 : decide ((k : Int) < (nb : Nat)) = false := decide_eq_false hki
      obtain ⟨A5, c5, rfl, _, _, hn5⟩ := OwnB.cap_le HOr.out
      have HSH := Lib.hid (show ∀ w', Below wr.heap.size wr w' → Calls Tryd.prog 22 #[.pointer (some ⟨g, 0, none⟩)] w' (Dig w' N C) from fun w' hb => hsum_any g N C w' (by omega) (HMr.out.keep hb) HYr.out (HT.out.keep (HBr.out.trans (hb.mono HBr.out.size))))
      have HRS := Lib.hid (show ∀ w', Below wr.heap.size wr w' → Calls Tryd.prog 14 #[.slice A5 N c5] w' (fun e w'' => ∃ A' c', e = .returned (.slice A' 32 c') ∧ SlB w'' A' 32 (sha N C) ∧ Below w'.heap.size w' w'') from fun w' hb => by
        obtain ⟨A6, c6, h1, h2⟩ := OwnB.slice HOr.out HYr.out
        cases h1
        exact rsum_any A5 N c5 C w' (by omega) (h2.keep hb) hn5)
      go_wp2_with fail
      refine wp_region_any (by kernel_rfl) ?_
      change wpAny _ _ _ _ _ _ _ wr.drew
      refine ord.wpAny_ord [[], [0], [1], [], [3], [4], [2, 5], [6]] [(0, 83), (1, 84), (2, 85), (3, 86), (4, 87), (5, 88), (6, 89), (7, 2)] (gobG A5 g N c5 C) (by kernel_rfl) (by kernel_rfl) (gobG_stays _ _ _ _ _) (ord.steps_cons ?_ (ord.steps_cons ?_ (ord.steps_cons ?_ (ord.steps_cons ?_ (ord.steps_cons ?_ (ord.steps_cons ?_ (ord.steps_cons ?_ (ord.steps_cons ?_ ord.steps_nil)))))))) ?_
      --STEPS gob
      · intro o ho x w hb hG
        obtain rfl := Option.some.inj ho
        clear ho
        refine Or.inl ⟨ord.want0 rfl, ?_⟩
        exact ord.makes_move rfl ⟨Below.refl _ _, rfl⟩
      · intro o ho x w hb hG
        obtain rfl := Option.some.inj ho
        clear ho
        have h83 : x 0 = .pointer (some ⟨g, 0, none⟩) := hG (0, 83) (List.mem_of_getElem? (i := 0) rfl) rfl
        refine Or.inl ⟨ord.want0 rfl, ?_⟩
        exact ord.makes_call1 Tryd.func22 (by kernel_rfl) (by kernel_rfl) rfl h83 (HSH.out w (of_drew hb)) (fun e w' h => by obtain ⟨d1, he, _, h2, h4⟩ := h; exact ⟨_, he, h4, d1, rfl, h2⟩)
      · intro o ho x w hb hG
        obtain rfl := Option.some.inj ho
        clear ho
        have h84 : gobG A5 g N c5 C 1 (x 1) w := hG (1, 84) (List.mem_of_getElem? (i := 1) rfl) rfl
        refine Or.inl ⟨ord.want0 rfl, ?_⟩
        obtain ⟨d1, hv, hs⟩ := h84
        exact ord.makes_conv rfl hv (convSl (cap := 32) (hs.slB fun j _ => sha_lt _ _ j) (Nat.le_refl 32)) ⟨Below.refl _ _, rfl⟩
      · intro o ho x w hb hG
        obtain rfl := Option.some.inj ho
        clear ho
        refine Or.inl ⟨ord.want0 rfl, ?_⟩
        exact ord.makes_move rfl ⟨Below.refl _ _, rfl⟩
      · intro o ho x w hb hG
        obtain rfl := Option.some.inj ho
        clear ho
        have h86 : x 3 = .slice A5 N c5 := hG (3, 86) (List.mem_of_getElem? (i := 3) rfl) rfl
        refine Or.inl ⟨ord.want0 rfl, ?_⟩
        exact ord.makes_call1 Tryd.func14 (by kernel_rfl) (by kernel_rfl) rfl h86 (HRS.out w (of_drew hb)) (fun e w' h => by obtain ⟨A2, c2, he, h2, h4⟩ := h; exact ⟨_, he, h4, A2, c2, rfl, h2⟩)
      · intro o ho x w hb hG
        obtain rfl := Option.some.inj ho
        clear ho
        have h87 : gobG A5 g N c5 C 4 (x 4) w := hG (4, 87) (List.mem_of_getElem? (i := 4) rfl) rfl
        refine Or.inl ⟨ord.want0 rfl, ?_⟩
        obtain ⟨A1, c1, hv, hs⟩ := h87
        exact ord.makes_conv rfl hv (convSl hs (Nat.le_refl 32)) ⟨Below.refl _ _, rfl⟩
      · intro o ho x w hb hG
        obtain rfl := Option.some.inj ho
        clear ho
        have h85 : x 2 = .string (strOf 32 (sha N C)) := hG (2, 85) (List.mem_of_getElem? (i := 2) rfl) rfl
        have h88 : x 5 = .string (strOf 32 (sha N C)) := hG (5, 88) (List.mem_of_getElem? (i := 5) rfl) rfl
        refine Or.inl ⟨ord.want0 rfl, ?_⟩
        exact ord.makes_bin rfl h85 h88 (by exact str_same2 _ _ _ _) ⟨Below.refl _ _, rfl⟩
      · intro o ho x w hb hG
        obtain rfl := Option.some.inj ho
        clear ho
        have h89 : x 6 = .bool true := hG (6, 89) (List.mem_of_getElem? (i := 6) rfl) rfl
        refine Or.inl ⟨ord.want0 rfl, ?_⟩
        exact ord.makes_assign rfl ⟨Below.refl _ _, h89⟩
      --END STEPS gob
      · intro x w8 hb hG
        have e7 : x 7 = .bool true := hG (7, 2) (List.mem_of_getElem? (i := 7) rfl)
        clear hG
        simp only [ord.puts, ord.put', List.set_cons_zero, List.set_cons_succ, if_true]
        rw [e7]
        go_wp2_with fail
        go_ret
        exact ⟨rfl, HBr.out.trans ((of_drew hb).mono HBr.out.size)⟩
    · subst h2
      have hki : (12 : Int) < (nb : Nat) := by omega
      obtain ⟨A5, c5, rfl, _, _, hn5⟩ := OwnB.cap_le HOr.out
      have HSH := Lib.hid (show ∀ w', Below wr.heap.size wr w' → Calls Tryd.prog 22 #[.pointer (some ⟨g, 0, none⟩)] w' (Dig w' N C) from fun w' hb => hsum_any g N C w' (by omega) (HMr.out.keep hb) HYr.out (HT.out.keep (HBr.out.trans (hb.mono HBr.out.size))))
      have HRS := Lib.hid (show ∀ w', Below wr.heap.size wr w' → Calls Tryd.prog 14 #[.slice A5 N c5] w' (fun e w'' => ∃ A' c', e = .returned (.slice A' 32 c') ∧ SlB w'' A' 32 (sha N C) ∧ Below w'.heap.size w' w'') from fun w' hb => by
        obtain ⟨A6, c6, h1, h2⟩ := OwnB.slice HOr.out HYr.out
        cases h1
        exact rsum_any A5 N c5 C w' (by omega) (h2.keep hb) hn5)
      go_wp2_with fail
      refine wp_region_any (by kernel_rfl) ?_
      change wpAny _ _ _ _ _ _ _ wr.drew
      refine ord.wpAny_ord [[], [0], [1], [], [3], [4], [2, 5], [6]] [(0, 83), (1, 84), (2, 85), (3, 86), (4, 87), (5, 88), (6, 89), (7, 2)] (gobG A5 g N c5 C) (by kernel_rfl) (by kernel_rfl) (gobG_stays _ _ _ _ _) (ord.steps_cons ?_ (ord.steps_cons ?_ (ord.steps_cons ?_ (ord.steps_cons ?_ (ord.steps_cons ?_ (ord.steps_cons ?_ (ord.steps_cons ?_ (ord.steps_cons ?_ ord.steps_nil)))))))) ?_
      --STEPS gob
      · intro o ho x w hb hG
        obtain rfl := Option.some.inj ho
        clear ho
        refine Or.inl ⟨ord.want0 rfl, ?_⟩
        exact ord.makes_move rfl ⟨Below.refl _ _, rfl⟩
      · intro o ho x w hb hG
        obtain rfl := Option.some.inj ho
        clear ho
        have h83 : x 0 = .pointer (some ⟨g, 0, none⟩) := hG (0, 83) (List.mem_of_getElem? (i := 0) rfl) rfl
        refine Or.inl ⟨ord.want0 rfl, ?_⟩
        exact ord.makes_call1 Tryd.func22 (by kernel_rfl) (by kernel_rfl) rfl h83 (HSH.out w (of_drew hb)) (fun e w' h => by obtain ⟨d1, he, _, h2, h4⟩ := h; exact ⟨_, he, h4, d1, rfl, h2⟩)
      · intro o ho x w hb hG
        obtain rfl := Option.some.inj ho
        clear ho
        have h84 : gobG A5 g N c5 C 1 (x 1) w := hG (1, 84) (List.mem_of_getElem? (i := 1) rfl) rfl
        refine Or.inl ⟨ord.want0 rfl, ?_⟩
        obtain ⟨d1, hv, hs⟩ := h84
        exact ord.makes_conv rfl hv (convSl (cap := 32) (hs.slB fun j _ => sha_lt _ _ j) (Nat.le_refl 32)) ⟨Below.refl _ _, rfl⟩
      · intro o ho x w hb hG
        obtain rfl := Option.some.inj ho
        clear ho
        refine Or.inl ⟨ord.want0 rfl, ?_⟩
        exact ord.makes_move rfl ⟨Below.refl _ _, rfl⟩
      · intro o ho x w hb hG
        obtain rfl := Option.some.inj ho
        clear ho
        have h86 : x 3 = .slice A5 N c5 := hG (3, 86) (List.mem_of_getElem? (i := 3) rfl) rfl
        refine Or.inl ⟨ord.want0 rfl, ?_⟩
        exact ord.makes_call1 Tryd.func14 (by kernel_rfl) (by kernel_rfl) rfl h86 (HRS.out w (of_drew hb)) (fun e w' h => by obtain ⟨A2, c2, he, h2, h4⟩ := h; exact ⟨_, he, h4, A2, c2, rfl, h2⟩)
      · intro o ho x w hb hG
        obtain rfl := Option.some.inj ho
        clear ho
        have h87 : gobG A5 g N c5 C 4 (x 4) w := hG (4, 87) (List.mem_of_getElem? (i := 4) rfl) rfl
        refine Or.inl ⟨ord.want0 rfl, ?_⟩
        obtain ⟨A1, c1, hv, hs⟩ := h87
        exact ord.makes_conv rfl hv (convSl hs (Nat.le_refl 32)) ⟨Below.refl _ _, rfl⟩
      · intro o ho x w hb hG
        obtain rfl := Option.some.inj ho
        clear ho
        have h85 : x 2 = .string (strOf 32 (sha N C)) := hG (2, 85) (List.mem_of_getElem? (i := 2) rfl) rfl
        have h88 : x 5 = .string (strOf 32 (sha N C)) := hG (5, 88) (List.mem_of_getElem? (i := 5) rfl) rfl
        refine Or.inl ⟨ord.want0 rfl, ?_⟩
        exact ord.makes_bin rfl h85 h88 (by exact str_same2 _ _ _ _) ⟨Below.refl _ _, rfl⟩
      · intro o ho x w hb hG
        obtain rfl := Option.some.inj ho
        clear ho
        have h89 : x 6 = .bool true := hG (6, 89) (List.mem_of_getElem? (i := 6) rfl) rfl
        refine Or.inl ⟨ord.want0 rfl, ?_⟩
        exact ord.makes_assign rfl ⟨Below.refl _ _, h89⟩
      --END STEPS gob
      · intro x w8 hb hG
        have e7 : x 7 = .bool true := hG (7, 2) (List.mem_of_getElem? (i := 7) rfl)
        clear hG
        simp only [ord.puts, ord.put', List.set_cons_zero, List.set_cons_succ, if_true]
        rw [e7]
        go_wp2_with fail
        go_ret
        exact ⟨rfl, HBr.out.trans ((of_drew hb).mono HBr.out.size)⟩
end Go.Proofs.YtcmhnelonainhaaDoor
