/- 7 texts in one, in their order. -/
import Derived.Test.YthmlcmlpmolmoaaGreatDoorPk11
import Derived.SliceStrings
/- Law VaultShaped (layer 14). -/
namespace Go.Proofs.YthmlcmlpmolmoaaGreatDoor
set_option maxRecDepth 100000
open Go.RowKit
set_option maxHeartbeats 6400000 in
theorem shaped14_any (hN : NewOk) (hB : NewBad) (t i k : Int) (s : ByteArray) (w : World) (hs : s.size ≤ maxLen) (ht : Tabs w) :
    Calls Tryz.prog 7 #[.int .i64 t, .string s, .int .i64 i, .int .i64 k] w fun e w' => e = .returned (.bool true) ∧ Below w.heap.size w w' := by
  have HS := Lib.hid (small14_any hN w ht)
  have HT := Lib.hid ht
  have HZ := Lib.hid hs
  have hmk : ∀ W : World, (Instr.makeSlice 22 (.int .i64 20) (.int .i64 20)).run Tryz.prog W = .ok (.slice (some ⟨W.heap.size, 0, none⟩) 20 20) (W.alloc (.cells (madeCells #[.int .u8 0] 20) 5)) := fun W => mk8 20 (by decide) W
  have HNN := Lib.hid hN
  have HNB := Lib.hid hB
  have HCUT := Lib.hid (fun W (hW : PT W) => cut11_any s W hs hW)
  have HIS := Lib.hid (fun W (hW : PT W) => isc_any s W hs hW)
  clear ht hs hN hB
  go_enter Tryz.func7, Tryz.ntmps7
  go_wp2_with fail
  refine HS.out.mono ?_
  rintro e w1 ⟨rfl, hb1⟩
  have HB1 := Lib.hid hb1
  clear hb1
  go_wp2_with fail
  have HM := Lib.hid (madeN 20 w1)
  have HB2 := Lib.hid (HB1.out.trans ((alloc_below w1 (.cells (madeCells #[.int .u8 0] 20) 5)).mono HB1.out.size))
  generalize hA2 : (some ⟨w1.heap.size, 0, none⟩ : Option Addr) = A2 at *
  have hA2n : A2 = none → 20 = 0 ∧ 20 = 0 := fun h => by rw [← hA2] at h; cases h
  generalize w1.alloc (.cells (madeCells #[.int .u8 0] 20) 5) = w2 at *
  cases hok : vok 20 t 1 with
  | false =>
    refine (HNB.out A2 20 20 _ t 1 w2 hok (by decide) HM.out hA2n (HT.out.keep HB2.out)).mono ?_
    rintro e w3 ⟨rfl, hb3⟩
    have HB3 := Lib.hid (HB2.out.trans (hb3.mono HB2.out.size))
    clear hb3 hmk hA2n hA2 hok
    go_wp2_with fail
    refine (HCUT.out w3 (HT.out.keep HB3.out).pt).mono ?_
    rintro e w4 ⟨rfl, hb4⟩
    have HB4 := Lib.hid (HB3.out.trans (hb4.mono HB3.out.size))
    clear hb4
    go_wp2_with fail
    go_ret
    exact ⟨rfl, HB4.out⟩
  | true =>
    refine (HNN.out A2 20 20 _ t 1 w w2 hok HM.out hA2n HT.out HB2.out).mono ?_
    rintro e w3 ⟨G, S, VA, rfl, hkit, hv, _, _⟩
    have HK := Lib.hid hkit
    have HV := Lib.hid hv
    have HB3 := Lib.hid (hkit.bel _ _ hv)
    clear hkit hv hmk hA2n hA2 hok HNN HNB
    generalize vK 20 (fun _ => 0) t = K at *
    go_wp2_with fail
    refine (HCUT.out w3 (HT.out.keep HB3.out).pt).mono ?_
    rintro e w4 ⟨rfl, hb4⟩
    have HB4 := Lib.hid (HB3.out.trans (hb4.mono HB3.out.size))
    have HV4 := Lib.hid (HK.out.below HV.out hb4)
    clear hb4 HV HCUT
    cases hz : shp s with
    | false =>
      rw [show cutE s = 10 from if_neg (by rw [hz]; decide)]
      clear hz
      generalize pB s = b1 at *
      generalize pM s = b2 at *
      generalize pL s = b3 at *
      go_wp2_with fail
      go_ret
      exact ⟨rfl, HB4.out⟩
    | true =>
      rw [show cutE s = 0 from if_pos hz]
      cases h1 : isV s with
      | false =>
        rw [h1] at HIS
        clear hz h1
        generalize pB s = b1 at *
        generalize pM s = b2 at *
        generalize pL s = b3 at *
        go_wp2_with fail
        refine (HIS.out w4 (HT.out.keep HB4.out).pt).mono ?_
        rintro e w5 ⟨rfl, hb5⟩
        have HB5 := Lib.hid (HB4.out.trans (hb5.mono HB4.out.size))
        clear hb5
        go_wp2_with fail
        go_ret
        exact ⟨rfl, HB5.out⟩
      | true =>
        rw [h1] at HIS
        have HSW := Lib.hid (fun x y (hxy : x ≤ y) (hy : y < (pM s).size) (he : (y - x) % 2 = 0) => swp_card h1 hxy hy he)
        have HV1 := Lib.hid h1
        have hmz := pM_size hz
        have hsz := (shp_parts hz).2
        have HBZ := Lib.hid (pB_size hz)
        have HLZ := Lib.hid (pL_size hz)
        have HSZ := Lib.hid hsz
        have hm6 : 6 ≤ (pM s).size ∧ (pM s).size ≤ 9 := by omega
        have HMZ := Lib.hid hm6
        clear hz h1 hmz hsz
        generalize pB s = b1 at *
        generalize pM s = b2 at *
        generalize pL s = b3 at *
        go_wp2_with fail
        refine (HIS.out w4 (HT.out.keep HB4.out).pt).mono ?_
        rintro e w5 ⟨rfl, hb5⟩
        have HB5 := Lib.hid (HB4.out.trans (hb5.mono HB4.out.size))
        have HV5 := Lib.hid (HK.out.below HV4.out hb5)
        clear hb5 HV4
        obtain ⟨cap, w6, hcv, hb6, hlt6, hrow⟩ := bytesOf b2 w5
        have HB6 := Lib.hid (HB5.out.trans (hb6.mono HB5.out.size))
        have HV6 := Lib.hid (HK.out.below HV5.out hb6)
        have HV5' := HV5
        have HB56 := Lib.hid hb6
        have HR6 := Lib.hid hrow
        clear hb6 hlt6 hrow HV5
        obtain ⟨blk, hblk⟩ : ∃ blk, w5.heap.size = blk := ⟨_, rfl⟩
        have HBL := Lib.hid hblk
        rw [hblk] at hcv HR6
        clear hblk
        obtain ⟨m, hm⟩ : ∃ m, b2.size = m := ⟨_, rfl⟩
        rw [hm] at hm6 HR6 hcv HMZ HSW
        obtain ⟨i1, hi1⟩ : ∃ i1 : Nat, i % 1024 = (i1 : Int) := ⟨(i % 1024).toNat, by omega⟩
        have hbi : bits BinOp.and .i64 i 1023 = (i1 : Nat) := by rw [← hi1]; exact i64_mask 10 1023 (by decide) rfl i
        obtain ⟨k1, hk1⟩ : ∃ k1 : Nat, k % 4 = (k1 : Int) := ⟨(k % 4).toNat, by omega⟩
        have hbk : bits BinOp.and .i64 k 3 = (k1 : Nat) := by rw [← hk1]; exact i64_mask 2 3 (by decide) rfl k
        obtain ⟨x, hx⟩ : ∃ x, x = i1 % m := ⟨_, rfl⟩
        have hxm : x < m := by rw [hx]; exact Nat.mod_lt _ (by omega)
        have hx1 : (i1 : Int).tmod (m : Nat) = (x : Nat) := by rw [Int.tmod_eq_emod_of_nonneg (by omega), hx]; simp
        have hx2 : (i1 : Int) % (m : Nat) = (x : Nat) := by rw [hx]; simp
        obtain ⟨k2, hk2⟩ : ∃ k2, k2 = 2 * k1 := ⟨_, rfl⟩
        have hk3 : (2 : Int) * (k1 : Nat) = (k2 : Nat) := by omega
        obtain ⟨y, hy⟩ : ∃ y, y = x + k2 := ⟨_, rfl⟩
        have hy1 : (x : Int) + (k2 : Nat) = (y : Nat) := by omega
        have hm0 : ¬ (m : Int) = 0 := by omega
        have hi0 : (i1 : Int) < 1024 := by omega
        have hk0 : (k1 : Int) < 4 := by omega
        have hk20 : (k2 : Int) < 8 := by omega
        have hx9 : (x : Int) < 9 := by omega
        have hmi : (m : Int) ≤ 9 := by omega
        have HXY := Lib.hid (show x ≤ y ∧ (y - x) % 2 = 0 by omega)
        clear hi1 hk1 hx hk2 hy
        by_cases hym : m ≤ y
        · have d1 : decide ((m : Int) ≤ (y : Nat)) = true := decide_eq_true (by omega)
          go_wp2_with fail
          go_ret
          exact ⟨rfl, HB6.out⟩
        · have d1 : decide ((m : Int) ≤ (y : Nat)) = false := decide_eq_false (by omega)
          have hyl : y < m := by omega
          have hyi : (y : Int) < (m : Nat) := by omega
          have hxi : (x : Int) < (m : Nat) := by omega
          have HXM := Lib.hid (show x < m ∧ y < m from ⟨hxm, hyl⟩)
          obtain ⟨cx, hcx⟩ : ∃ cx, by_ b2 x = cx := ⟨_, rfl⟩
          obtain ⟨cy, hcy⟩ : ∃ cy, by_ b2 y = cy := ⟨_, rfl⟩
          have g1 := HR6.out.cell hxm
          have g2 := HR6.out.cell hyl
          have f1 := HR6.out.frozen hxm
          rw [hcx] at g1
          rw [hcy] at g2
          have HR7 := Lib.hid (HR6.out.set x (.int .u8 (cy : Nat)))
          have g3 := HR7.out.cell hyl
          have f3 := HR7.out.frozen hyl
          have hg3 : (if y = x then Value.int .u8 (cy : Nat) else Value.int .u8 (by_ b2 y : Nat)) = .int .u8 (cy : Nat) := by rw [hcy]; split <;> rfl
          rw [hg3] at g3
          have HR8 := Lib.hid (HR7.out.set y (.int .u8 (cx : Nat)))
          have HF8 := Lib.hid (convRowX (cap := cap) HR8.out (swp (by_ b2) x y) (Nat.le_refl _) (fun j _ => by
            unfold swp
            by_cases e1 : j = y
            · rw [if_pos e1, if_pos e1, hcx]
            · rw [if_neg e1, if_neg e1]
              by_cases e2 : j = x
              · rw [if_pos e2, if_pos e2, hcy]
              · rw [if_neg e2, if_neg e2]))
          have HV8 := Lib.hid (HK.out.below HV5'.out ((HB56.out.setCell (p := ⟨blk, x, none⟩) (by rw [HBL.out]; exact Nat.le_refl _) (.int .u8 (cy : Nat))).setCell (p := ⟨blk, y, none⟩) (by rw [HBL.out]; exact Nat.le_refl _) (.int .u8 (cx : Nat))))
          have hsw := HF8.out
          have HTX := Lib.hid (HSW.out x y HXY.out.1 hyl HXY.out.2)
          have hz6 := HBZ.out
          have hz4 := HLZ.out
          have hzs : (strOf m (swp (by_ b2) x y)).size = m := strOf_size _ _
          clear hcx hcy hg3 hxm hyl hym
          generalize strOf m (swp (by_ b2) x y) = st at *
          go_wp2_with fail
          generalize (w6.setCell ⟨blk, x, none⟩ (.int .u8 (cy : Nat))).setCell ⟨blk, y, none⟩ (.int .u8 (cx : Nat)) = w8 at *
          have HTZ := Lib.hid (show (b1 ++ st ++ b3).size ≤ maxLen from by rw [app_size, app_size]; unfold maxLen; omega)
          have HIT := Lib.hid (fun W (hW : PT W) => isc_any (b1 ++ st ++ b3) W HTZ.out hW)
          rw [HTX.out] at HIT
          have hxy : ((vtV K 1 s).toList == (vtV K 1 (b1 ++ st ++ b3)).toList) = (s.toList == (b1 ++ st ++ b3).toList) := by
            rw [str_dec, str_dec]
            exact decide_eq_decide.2 ⟨fun h => vt_inj HV1.out HTX.out (by decide) (by decide) h, fun h => by rw [h]⟩
          have HE1 := Lib.hid (vtE_ok HV1.out)
          have HE2 := Lib.hid (vtE_ok HTX.out)
          clear hsw g1 g2 g3 f1 f3 hz6 hz4 hzs HTX HV1
          refine (HK.out.token w8 1 s HV8.out HZ.out).mono ?_
          rintro e w9 ⟨rfl, hv9, _⟩
          have HV9 := Lib.hid hv9
          rw [HE1.out]
          clear hv9
          go_wp2_with fail
          refine (HK.out.token w9 1 (b1 ++ st ++ b3) HV9.out HTZ.out).mono ?_
          rintro e w10 ⟨rfl, hv10, _⟩
          have HV10 := Lib.hid hv10
          have HB10 := Lib.hid (HK.out.bel _ _ hv10)
          rw [HE2.out]
          clear hv10
          generalize vtV K 1 s = x1 at *
          generalize vtV K 1 (b1 ++ st ++ b3) = x2 at *
          generalize b1 ++ st ++ b3 = tt at *
          go_wp2_with fail
          refine (HIT.out w10 (HT.out.keep HB10.out).pt).mono ?_
          rintro e w11 ⟨rfl, hb11⟩
          have HB11 := Lib.hid (HB10.out.trans (hb11.mono HB10.out.size))
          clear hb11
          go_wp2_with fail
          go_ret
          exact ⟨rfl, HB11.out⟩
end Go.Proofs.YthmlcmlpmolmoaaGreatDoor
/- Texts of numbers, digit by digit from behind. -/
namespace Go.Proofs.YthmlcmlpmolmoaaGreatDoor
set_option maxRecDepth 100000
open Go.RowKit
theorem run_bs3 (a b c : ByteArray) (w : World) : (Instr.buildSlice 36 3 #[(0, .string a), (1, .string b), (2, .string c)]).run Tryz.prog w = .ok (.slice (some ⟨w.heap.size, 0, none⟩) 3 3) (w.alloc (.cells #[.string a, .string b, .string c] 9)) := by go_simp
theorem sls3b {w : World} {B : Nat} {a b c : ByteArray} (h : w.heap[B]? = some (.cells #[.string a, .string b, .string c] 9 (0, 0))) : SlS w (some ⟨B, 0, none⟩) 3 (lab3 a b c) := fun _ =>
  ⟨B, 0, rfl, (Array.getElem?_eq_some_iff.1 h).1, fun j hj => by
    rcases (show j = 0 ∨ j = 1 ∨ j = 2 by omega) with rfl | rfl | rfl
    · exact (Lib.cell_of_heap h 0).trans rfl
    · exact (Lib.cell_of_heap h 1).trans rfl
    · exact (Lib.cell_of_heap h 2).trans rfl⟩
/-- a number's text, that of nought being empty -/
def ntx (m : Nat) : ByteArray := if m = 0 then ByteArray.empty else itoaB (m : Int)
theorem ntx_step : ∀ m : Nat, m < 256 → 0 < m → ntx (m / 10) ++ ⟨#[chr (48 + m % 10)]⟩ = ntx m := by decide +kernel
theorem app_assoc (a b c : ByteArray) : a ++ b ++ c = a ++ (b ++ c) := by
  apply ba_ext
  rw [app_list, app_list, app_list, app_list, List.append_assoc]
theorem app_none (a : ByteArray) : a ++ { data := #[] } = a := by
  apply ba_ext
  rw [app_list]
  exact List.append_nil _
theorem app_none' (a : ByteArray) : ByteArray.empty ++ a = a := by
  apply ba_ext
  rw [app_list]
  exact List.nil_append _
theorem ntx_size {m a : Nat} {st : ByteArray} (h : ntx m ++ st = ntx a) (ha : a < 256) : st.size ≤ 3 := by
  have h1 : (ntx a).size ≤ 3 := by
    unfold ntx
    split
    · decide
    · exact itoaB_small a ha
  have h2 := congrArg ByteArray.size h
  rw [ByteArray.size_append] at h2
  omega
end Go.Proofs.YthmlcmlpmolmoaaGreatDoor
/- The whole's laws of layer 14: a number's digits; the small case. -/
namespace Go.Proofs.YthmlcmlpmolmoaaGreatDoor
set_option maxRecDepth 100000
open Go.RowKit
set_option maxHeartbeats 1600000 in
theorem number14_any (a : Nat) (ha : a < 256) (w : World) :
    Calls Tryz.prog 32 #[.int .i64 (a : Int)] w fun e w' => e = .returned (.string (ntx a)) ∧ Below w.heap.size w w' := by
  have HAB := Lib.hid ha
  clear ha
  go_enter Tryz.func32, Tryz.ntmps32
  go_wp2_with fail
  go_loopw [0, 3] (fun i x wr => ∃ (m : Nat) (st : ByteArray), i = .int .i64 m ∧ x = .string st ∧ m ≤ a ∧ ntx m ++ st = ntx a ∧ Below w.heap.size w wr) (fun i _ _ => (intOf i).toNat)
  case atStart => exact ⟨a, _, rfl, rfl, Nat.le_refl _, app_none _, Below.refl _ _⟩
  case round =>
    obtain ⟨m, st, rfl, rfl, hma, htx, hbw⟩ := hrel
    have HBW := Lib.hid hbw
    have HTX := Lib.hid htx
    have hsz : st.size ≤ 3 := ntx_size htx HAB.out
    clear hbw htx
    by_cases h0 : 0 < m
    · obtain ⟨r, hr⟩ : ∃ r, r = m % 10 := ⟨_, rfl⟩
      obtain ⟨q, hq⟩ : ∃ q, q = m / 10 := ⟨_, rfl⟩
      obtain ⟨d, hd⟩ : ∃ d, d = 48 + r := ⟨_, rfl⟩
      have HST := Lib.hid (show ntx q ++ (⟨#[chr d]⟩ ++ st) = ntx a by
        rw [← app_assoc, hd, hr, hq, ntx_step m (by have := HAB.out; omega) h0]
        exact HTX.out)
      have HQL := Lib.hid (show q < m ∧ q ≤ a by omega)
      have hq2 : (m : Int).tdiv 10 = (q : Nat) := by rw [Int.tdiv_eq_ediv_of_nonneg (by omega)]; omega
      have hr2 : (m : Int).tmod 10 = (r : Nat) := by rw [Int.tmod_eq_emod_of_nonneg (by omega)]; omega
      have hq3 : (m : Int) / 10 = (q : Nat) := by omega
      have hr3 : (m : Int) % 10 = (r : Nat) := by omega
      have hd2 : (48 : Int) + (r : Nat) = (d : Nat) := by omega
      have hdl : (d : Int) < 256 := by omega
      have hd0 : (0 : Int) ≤ (d : Nat) := by omega
      have hq0 : (q : Int) ≤ 255 := by have := HAB.out; omega
      have hr0 : (r : Int) ≤ 9 := by omega
      have hm0 : (0 : Int) < (m : Nat) := by omega
      have hm1 : (m : Int) ≤ 255 := by have := HAB.out; omega
      have hcv := fun W => conv1 (d : Int) W
      simp only [Int.toNat_natCast] at hcv
      clear hr hq hd h0
      go_wp2_with fail
      go_roundw
      case rel => exact ⟨q, _, by go_num, rfl, HQL.out.2, HST.out, HBW.out.alloc HBW.out.size _⟩
      case measure => simp [intOf]; have := HQL.out.1; omega
    · obtain rfl : m = 0 := by omega
      have e0 : st = ntx a := by
        have := HTX.out
        rwa [show ntx 0 = ByteArray.empty from rfl, app_none'] at this
      subst e0
      clear HTX h0
      go_wp2_with fail
      go_ret
      exact ⟨rfl, HBW.out⟩
set_option maxHeartbeats 1600000 in
theorem tells14_any (hN : NewOk) (w : World) (ht : Tabs w) : Calls Tryz.prog 30 #[] w fun e w' => e = .returned (.bool true) ∧ Below w.heap.size w w' := by
  have HT := Lib.hid ht
  have hmk : ∀ W : World, (Instr.makeSlice 22 (.int .i64 16) (.int .i64 16)).run Tryz.prog W = .ok (.slice (some ⟨W.heap.size, 0, none⟩) 16 16) (W.alloc (.cells (madeCells #[.int .u8 0] 16) 5)) := fun W => mk8 16 (by decide) W
  clear ht
  go_enter Tryz.func30, Tryz.ntmps30
  go_wp2_with fail
  have HS := Lib.hid (madeN 16 w)
  have HB := Lib.hid (alloc_below w (.cells (madeCells #[.int .u8 0] 16) 5))
  generalize w.alloc (.cells (madeCells #[.int .u8 0] 16) 5) = w1 at *
  refine (hN _ 16 16 _ 1 1 w w1 rfl HS.out (fun h => by cases h) HT.out HB.out).mono ?_
  rintro e w2 ⟨G, S, VA, rfl, hk, hv, _, _⟩
  have HK := Lib.hid hk
  have HV := Lib.hid hv
  clear hmk hk hv
  go_wp2_with fail
  refine (HK.out.token w2 1 cS1 HV.out (by decide)).mono ?_
  rintro e w3 ⟨rfl, hv3, _⟩
  have HV3 := Lib.hid hv3
  have hsz : (vtV (vK 16 (fun _ => 0) 1) 1 cS1).size = 18 := by rw [vt_size cs1_ok]; decide +kernel
  have HBK := Lib.hid (vb_vt (K := vK 16 (fun _ => 0) 1) (V := 1) (W := 1) cs1_ok (by decide) (by decide) (by decide))
  have hne : ((vtV (vK 16 (fun _ => 0) 1) 1 cS1).toList == cS1.toList) = false := str_neq fun h => by
    rw [h] at hsz
    exact absurd hsz (by decide)
  rw [show cS1.toList = [52, 49, 49, 49, 49, 49, 49, 49, 49, 49, 49, 49, 49, 49, 49, 49] by decide +kernel] at hne
  rw [vtE_ok cs1_ok]
  clear hv3
  generalize hK : vK 16 (fun _ => 0) 1 = K at *
  generalize hT : vtV K 1 cS1 = tk at *
  clear hT hK
  go_wp2_with fail
  refine (HK.out.back w3 1 tk HV3.out (by rw [hsz]; decide)).mono ?_
  rintro e w5 ⟨rfl, hv5, _⟩
  have HB5 := Lib.hid (HK.out.bel _ _ hv5)
  rw [HBK.out.1, HBK.out.2]
  clear hv5
  go_wp2_with fail
  go_ret
  exact ⟨rfl, HB5.out⟩
end Go.Proofs.YthmlcmlpmolmoaaGreatDoor
/- Rows of five labels. -/
namespace Go.Proofs.YthmlcmlpmolmoaaGreatDoor
set_option maxRecDepth 100000
open Go.RowKit
def lab5 (a b c d e : ByteArray) (j : Nat) : ByteArray := if j = 0 then a else if j = 1 then b else if j = 2 then c else if j = 3 then d else e
theorem lab5_key (n : Nat) (key : Nat → Nat) (t : Nat) (s : ByteArray) (v : Nat) : fkF n key (lab5 bTenant (itoaB t) s bVersion (itoaB v)) 5 = keyF n key t s v := by
  unfold keyF ownF
  simp only [fkF, fkN, lab5, lab2, lab3, if_true, if_neg (show ¬ (1 : Nat) = 0 by decide), if_neg (show ¬ (2 : Nat) = 0 by decide), if_neg (show ¬ (3 : Nat) = 0 by decide), if_neg (show ¬ (4 : Nat) = 0 by decide), if_neg (show ¬ (2 : Nat) = 1 by decide), if_neg (show ¬ (3 : Nat) = 1 by decide), if_neg (show ¬ (4 : Nat) = 1 by decide), if_neg (show ¬ (3 : Nat) = 2 by decide), if_neg (show ¬ (4 : Nat) = 2 by decide), if_neg (show ¬ (4 : Nat) = 3 by decide)]
theorem lab5_size {a b c d e : ByteArray} {K : Nat} (ha : a.size ≤ K) (hb : b.size ≤ K) (hc : c.size ≤ K) (hd : d.size ≤ K) (he : e.size ≤ K) (j : Nat) : (lab5 a b c d e j).size ≤ K := by
  unfold lab5
  split
  · exact ha
  · split
    · exact hb
    · split
      · exact hc
      · split
        · exact hd
        · exact he
/-- the labels that lie in a row of five -/
theorem sls5 (w : World) (a b c d e : ByteArray) : SlS (w.alloc (.cells #[.string a, .string b, .string c, .string d, .string e] 9)) (some ⟨w.heap.size, 0, none⟩) 5 (lab5 a b c d e) := fun _ =>
  ⟨w.heap.size, 0, rfl, by simp, fun j hj => by
    rcases (show j = 0 ∨ j = 1 ∨ j = 2 ∨ j = 3 ∨ j = 4 by omega) with rfl | rfl | rfl | rfl | rfl
    · exact (World.cell?_alloc_at _ _ _ _ rfl).trans rfl
    · exact (World.cell?_alloc_at _ _ _ _ rfl).trans rfl
    · exact (World.cell?_alloc_at _ _ _ _ rfl).trans rfl
    · exact (World.cell?_alloc_at _ _ _ _ rfl).trans rfl
    · exact (World.cell?_alloc_at _ _ _ _ rfl).trans rfl⟩
end Go.Proofs.YthmlcmlpmolmoaaGreatDoor
/- Law TopTokens (layer 14). -/
namespace Go.Proofs.YthmlcmlpmolmoaaGreatDoor
set_option maxRecDepth 100000
open Go.RowKit
set_option maxHeartbeats 1600000 in
theorem tokens14_bad (hN : NewOk) (hB : NewBad) (A : Option Addr) (n c : Nat) (key : Nat → Nat) (t V : Int) (s : ByteArray) (w : World) (hk : vok n t V = false) (hl : n ≤ 140737488351232) (hA : SlB w A n key) (hnil : A = none → n = 0 ∧ c = 0) (ht : Tabs w) :
    Calls Tryz.prog 8 #[.slice A n c, .int .i64 t, .int .i64 V, .string s] w fun e w' => e = .returned (.bool true) ∧ Below w.heap.size w w' := by
  have HS := Lib.hid (tells14_any hN w ht)
  have HB := Lib.hid (show ∀ W, Below w.heap.size w W → Calls Tryz.prog 12 #[.slice A n c, .int .i64 t, .int .i64 V] W fun e w' => e = .returned (.tuple #[.pointer none, .int .i64 1]) ∧ Below W.heap.size W w' from fun W h => hB A n c key t V W hk hl (hA.keep h) hnil (ht.keep h))
  clear hA hnil ht hk hl hN hB
  go_enter Tryz.func8, Tryz.ntmps8
  go_wp2_with fail
  refine HS.out.mono ?_
  rintro e w1 ⟨rfl, hb1⟩
  have HB1 := Lib.hid hb1
  clear hb1
  go_wp2_with fail
  refine (HB.out w1 HB1.out).mono ?_
  rintro e w2 ⟨rfl, hb2⟩
  have HB2 := Lib.hid (HB1.out.trans (hb2.mono HB1.out.size))
  clear hb2
  go_wp2_with fail
  go_ret
  exact ⟨rfl, HB2.out⟩
set_option maxHeartbeats 6400000 in
theorem tokens14_good (hN : NewOk) (A : Option Addr) (n c : Nat) (key : Nat → Nat) (t V : Int) (s : ByteArray) (w : World) (hk : vok n t V = true) (hs : s.size ≤ maxLen) (hA : SlB w A n key) (hnil : A = none → n = 0 ∧ c = 0) (ht : Tabs w) :
    Calls Tryz.prog 8 #[.slice A n c, .int .i64 t, .int .i64 V, .string s] w fun e w' => e = .returned (.bool true) ∧ Below w.heap.size w w' := by
  have HS := Lib.hid (tells14_any hN w ht)
  have HN := Lib.hid (show ∀ W, Below w.heap.size w W → _ from fun W h => hN A n c key t V w W hk (hA.keep h) hnil ht h)
  have HT := Lib.hid ht
  have HZ := Lib.hid hs
  have ⟨⟨n1, n2⟩, ⟨t1, t2⟩, v1, v2⟩ := of_decide_eq_true hk
  obtain ⟨a, rfl⟩ : ∃ a : Nat, t = (a : Int) := ⟨t.toNat, by omega⟩
  obtain ⟨v, rfl⟩ : ∃ v : Nat, V = (v : Int) := ⟨V.toNat, by omega⟩
  have ha : 0 < a ∧ a < 256 := by omega
  have hv0 : 0 < v ∧ v < 256 := by omega
  have HNA := Lib.hid (fun W => number14_any a ha.2 W)
  have HNV := Lib.hid (fun W => number14_any v hv0.2 W)
  have hea : ntx a = itoaB (a : Int) := if_neg (by omega)
  have hev : ntx v = itoaB (v : Int) := if_neg (by omega)
  rw [hea] at HNA
  rw [hev] at HNV
  have HFO := Lib.hid (show ∀ W B, Below w.heap.size w W → SlS W B 5 (lab5 bTenant (itoaB (a : Int)) (nmS 1) bVersion (itoaB (v : Int))) → Calls Tryz.prog 31 #[.slice A n c, .slice B 5 5] W (FoldP W 32 (vK n key (a : Int) (v : Int))) from fun W B h hls => by
    have e : vK n key (a : Int) (v : Int) = fkF n key (lab5 bTenant (itoaB (a : Int)) (nmS 1) bVersion (itoaB (v : Int))) 5 := by rw [lab5_key]; rfl
    rw [e]
    exact fold_any A n c key B 5 5 _ W (by omega) (hA.keep h) hnil (by decide) hls (fun j _ => Nat.le_trans (lab5_size (K := 7) (by decide) (Nat.le_trans (itoaB_small a ha.2) (by decide)) (by decide) (by decide) (Nat.le_trans (itoaB_small v hv0.2) (by decide)) j) (by decide)) (ht.keep h).gt)
  have HKF := Lib.hid (show ∀ j, vK n key (a : Int) (v : Int) j < 256 from fun j => keyF_lt _ _ _ _ _ j)
  have hnv := itoaB_small v hv0.2
  have HNV2 := Lib.hid (show (itoaB (v : Int)).size ≤ 3 from hnv)
  clear hA hnil ht hk hN hs n1 n2 t1 t2 v1 v2 ha hv0 hea hev hnv
  go_enter Tryz.func8, Tryz.ntmps8
  go_wp2_with fail
  refine HS.out.mono ?_
  rintro e w1 ⟨rfl, hb1⟩
  have HB1 := Lib.hid hb1
  clear hb1
  go_wp2_with fail
  refine (HN.out w1 HB1.out).mono ?_
  rintro e w2 ⟨G, S, VA, rfl, hkit, hv, _, _⟩
  have HK := Lib.hid hkit
  have HV := Lib.hid hv
  clear hkit hv HN HS
  have HVX := Lib.hid (show vtV (vK n key (a : Int)) (v : Int) s = if isV s = true then tkS (vEn (vK n key (a : Int) (v : Int)) s) (v : Int) else { data := #[] } from rfl)
  generalize hKv : vK n key (a : Int) (v : Int) = F at *
  clear hKv
  generalize vK n key (a : Int) = K at *
  go_wp2_with fail
  refine (HK.out.token w2 (v : Int) s HV.out HZ.out).mono ?_
  rintro e w3 ⟨rfl, hv3, _⟩
  have HB3 := Lib.hid (HK.out.bel _ _ hv3)
  clear hv3
  rw [HVX.out]
  cases h1 : isV s with
  | false =>
    rw [vtE_no h1, if_neg (by decide)]
    have HIS := Lib.hid (fun W (hW : PT W) => isc_any s W HZ.out hW)
    rw [h1] at HIS
    clear h1
    go_wp2_with fail
    refine (HIS.out w3 (HT.out.keep HB3.out).pt).mono ?_
    rintro e w5 ⟨rfl, hb5⟩
    have HB5 := Lib.hid (HB3.out.trans (hb5.mono HB3.out.size))
    clear hb5
    go_wp2_with fail
    go_ret
    exact ⟨rfl, HB5.out⟩
  | true =>
    rw [vtE_ok h1, if_pos rfl]
    have hz := isV_shp h1
    have HCUT := Lib.hid (fun W (hW : PT W) => cut11_any s W HZ.out hW)
    rw [show cutE s = 0 from if_pos hz] at HCUT
    have HKT := Lib.hid (show Kt 8 F (pB s ++ pL s).size (by_ (pB s ++ pL s)) from ⟨Or.inr rfl, fun j _ => HKF.out j, by rw [app_size, pB_size hz, pL_size hz]; decide, fun j _ => by_lt _ j⟩)
    have HX1 := Lib.hid (show tkS (vEn F s) (v : Int) = pB s ++ encS 8 F (pB s ++ pL s).size (by_ (pB s ++ pL s)) (pM s) ++ pL s ++ { data := #[46] } ++ itoaB (v : Int) from rfl)
    have HHE := Lib.hid (mid_hE hz)
    have hm9 : (encS 8 F (pB s ++ pL s).size (by_ (pB s ++ pL s)) (pM s)).size ≤ 9 := by
      have e := enc_fine (n := 8) (key := F) (t := (pB s ++ pL s).size) (T := by_ (pB s ++ pL s)) (mid_hE hz)
      have := pM_le s
      omega
    have hb6 := pB_le s
    have hl4 := pL_le s
    have hmm := pM_le s
    have hnv := HNV2.out
    have hzz : (pB s ++ pL s).size ≤ 10 := by rw [app_size]; omega
    have HENC := Lib.hid (fun c g W (h : Cu w c g 8 F (pB s ++ pL s).size (by_ (pB s ++ pL s)) W) => encU HKT.out (pM s) (Nat.le_trans (pM_le s) (by unfold maxLen; decide)) h)
    have HNEW := Lib.hid (fun A2 W cap c2 (A3 : Option Addr) (hA2 : SlB W A2 32 F) (h3 : SlB W A3 (pB s ++ pL s).size (by_ (pB s ++ pL s))) (hn : A3 = none → (pB s ++ pL s).size = 0 ∧ c2 = 0) (hb : Below w.heap.size w W) => newU (w0 := w) 8 32 cap F (pB s ++ pL s).size c2 (by_ (pB s ++ pL s)) A2 A3 HKT.out rfl hA2 h3 hn hb (HT.out.keep hb).pws)
    have HCV := Lib.hid (fun W => bytesOf' (pB s ++ pL s) W)
    rw [HHE.out] at HENC
    rw [HX1.out]
    clear h1 hz HVX HX1 HKT HHE
    generalize encS 8 F (pB s ++ pL s).size (by_ (pB s ++ pL s)) (pM s) = mm at *
    generalize htw : pB s ++ pL s = tw at *
    have HTW := Lib.hid htw
    clear htw
    generalize pB s = b1 at *
    generalize pL s = b3 at *
    generalize pM s = b2 at *
    generalize itoaB (a : Int) = ta at *
    generalize itoaB (v : Int) = tv at *
    go_wp2_with fail
    refine (HCUT.out w3 (HT.out.keep HB3.out).pt).mono ?_
    rintro e w4 ⟨rfl, hb4⟩
    have HB4 := Lib.hid (HB3.out.trans (hb4.mono HB3.out.size))
    clear hb4
    go_wp2_with fail
    refine (HNA.out w4).mono ?_
    rintro e w5 ⟨rfl, hb5⟩
    have HB5 := Lib.hid (HB4.out.trans (hb5.mono HB4.out.size))
    clear hb5
    go_wp2_with fail
    refine (HNV.out w5).mono ?_
    rintro e w6 ⟨rfl, hb6'⟩
    have HB6 := Lib.hid (HB5.out.trans (hb6'.mono HB5.out.size))
    clear hb6'
    go_wp2_with fail
    have hsls := sls5 w6 bTenant ta (nmS 1) bVersion tv
    have HB7 := Lib.hid (HB6.out.trans ((alloc_below w6 (.cells #[.string bTenant, .string ta, .string (nmS 1), .string bVersion, .string tv] 9)).mono HB6.out.size))
    rw [show nmS 1 = { data := #[116, 111, 107, 101, 110] } from rfl] at hsls HB7 HFO
    generalize hA7 : (some ⟨w6.heap.size, 0, none⟩ : Option Addr) = A7 at *
    generalize w6.alloc (.cells #[.string bTenant, .string ta, .string { data := #[116, 111, 107, 101, 110] }, .string bVersion, .string tv] 9) = w7 at *
    refine (HFO.out w7 A7 HB7.out hsls).mono ?_
    rintro e w8 ⟨⟨x8, A8, c8, g8, rfl, hm8⟩, hb8⟩
    obtain rfl := hm8.val
    have HB8 := Lib.hid (HB7.out.trans (hb8.mono HB7.out.size))
    have HM8 := Lib.hid hm8
    clear hm8 hb8 hsls hA7
    obtain ⟨cap9, w9, hcv, hb9, _, hrow9⟩ := HCV.out w8
    rw [← HTW.out] at hcv
    have HB9 := Lib.hid (HB8.out.trans (hb9.mono HB8.out.size))
    have HM9 := Lib.hid ((HM8.out.keep hb9).row)
    have HR9 := Lib.hid hrow9
    have hsz2 : ¬ 9223372036854775807 < b1.size + b3.size := by omega
    clear hb9 hrow9
    go_wp2_with fail
    rw [show b1.size + b3.size = tw.size by rw [← HTW.out, app_size]]
    refine (HNEW.out A8 w9 c8 cap9 _ HM9.out HR9.out (fun h => by cases h) HB9.out).mono ?_
    rintro e w10 ⟨cc, g, rfl, hcu⟩
    have HCU := Lib.hid hcu
    clear hcu
    go_wp2_with fail
    refine (HENC.out cc g w10 HCU.out).mono ?_
    rintro e w11 ⟨rfl, hcu⟩
    have HB11 := Lib.hid hcu.below
    clear hcu
    go_wp2_with fail
    refine (HNV.out w11).mono ?_
    rintro e w12 ⟨rfl, hb12⟩
    have HB12 := Lib.hid (HB11.out.trans (hb12.mono HB11.out.size))
    clear hb12
    go_wp2_with fail
    go_ret
    exact ⟨rfl, HB12.out⟩
theorem tokens14_any (hN : NewOk) (hB : NewBad) (A : Option Addr) (n c : Nat) (key : Nat → Nat) (t V : Int) (s : ByteArray) (w : World) (hl : n ≤ 140737488351232) (hs : s.size ≤ maxLen) (hA : SlB w A n key) (hnil : A = none → n = 0 ∧ c = 0) (ht : Tabs w) :
    Calls Tryz.prog 8 #[.slice A n c, .int .i64 t, .int .i64 V, .string s] w fun e w' => e = .returned (.bool true) ∧ Below w.heap.size w w' := by
  cases hk : vok n t V with
  | false => exact tokens14_bad hN hB A n c key t V s w hk hl hA hnil ht
  | true => exact tokens14_good hN A n c key t V s w hk hs hA hnil ht
end Go.Proofs.YthmlcmlpmolmoaaGreatDoor
/- A []string parameter, opened. -/
namespace Go.Proofs.YthmlcmlpmolmoaaGreatDoor
set_option maxRecDepth 100000
open Go.RowKit
open Go.ChangeShapes Go.WideShapes Go.ChangeAt in
theorem open_strs {H : Type} {enc : TypeId × Value → H} {W : World} {base : Nat} {v : Value} {d : DataW H} {p : List MemPlace}
    (hval : Value.okWide Tryz.prog W .any base 36 v) (h : DataW.Trod enc Tryz.prog W 0 (fun _ => true) true 36 v d p) :
    ∃ A n c s, v = .slice A n c ∧ SlS W A n s ∧ (n ≤ c ∧ (A = none → n = 0 ∧ c = 0) ∧ ∃ els sp, (d = .slice els sp ∧ els.length + sp.length = c) ∨ (d = .nil ∧ c = 0)) := by
  obtain ⟨a0, len, cap, rfl⟩ := okWide_slice Tryz.underlying36 hval
  obtain ⟨fuel, hf⟩ := h
  rcases Go.ChangeShapes.open_strings Tryz.underlying36 Tryz.underlying9 (show Tryz.prog.cellsOf 9 = 1 by kernel_rfl) hf with ⟨hcs, hx⟩ | ⟨a, len', cap', ss, hcs, _, hl, hm, hz, hx, hcell, _⟩
  · simp only [Value.cells] at hcs
    injection hcs with hcs
    injection hcs with h1 h2 h3
    subst h1 h2 h3
    injection hx with hd _
    exact ⟨none, 0, 0, fun _ => ByteArray.empty, rfl, fun h => absurd h (Nat.lt_irrefl 0), Nat.le_refl _, fun _ => ⟨rfl, rfl⟩, [], [], Or.inr ⟨hd, rfl⟩⟩
  · simp only [Value.cells] at hcs
    injection hcs with hcs
    injection hcs with h1 h2 h3
    subst h1 h2 h3
    injection hx with hd _
    have hz' : ss.length = cap := by simpa using hz
    refine ⟨some a, len, cap, fun j => ss.getD j ByteArray.empty, rfl, fun hn => ?_, hl, (fun h => by cases h), strs (ss.take len), strs (ss.drop len), Or.inl ⟨hd, by simp [strs]; omega⟩⟩
    obtain ⟨b, off, spot⟩ := a
    have hspot : spot = none := by simpa [Addr.add] using World.cell?_spot (hcell 0 (by omega))
    subst hspot
    refine ⟨b, off, rfl, block_lt (hcell 0 (by omega)), fun j hj => ?_⟩
    have := hcell j (by omega)
    by_cases h0 : j = 0
    · subst h0; simpa [Addr.add] using this
    · simpa [Addr.add, h0] using this
open Go.ChangeShapes Go.WideShapes Go.ChangeAt in
theorem open_strm {H : Type} {enc : TypeId × Value → H} {W : World} {base : Nat} {v : Value} {d : DataW H} {p : List MemPlace}
    (hval : Value.okWide Tryz.prog W .any base 36 v) (h : DataW.Trod enc Tryz.prog W 0 (fun _ => true) true 36 v d p) :
    ∃ A n c s, v = .slice A n c ∧ SlS W A n s ∧ (∀ j, (s j).size ≤ maxLen) ∧ (n ≤ c ∧ (A = none → n = 0 ∧ c = 0) ∧ ∃ els sp, (d = .slice els sp ∧ els.length + sp.length = c) ∨ (d = .nil ∧ c = 0)) := by
  obtain ⟨a0, len, cap, rfl⟩ := okWide_slice Tryz.underlying36 hval
  obtain ⟨fuel, hf⟩ := h
  rcases Go.ChangeShapes.open_strings Tryz.underlying36 Tryz.underlying9 (show Tryz.prog.cellsOf 9 = 1 by kernel_rfl) hf with ⟨hcs, hx⟩ | ⟨a, len', cap', ss, hcs, _, hl, hm, hz, hx, hcell, hsz⟩
  · simp only [Value.cells] at hcs
    injection hcs with hcs
    injection hcs with h1 h2 h3
    subst h1 h2 h3
    injection hx with hd _
    exact ⟨none, 0, 0, fun _ => ByteArray.empty, rfl, fun h => absurd h (Nat.lt_irrefl 0), fun _ => (by decide : ByteArray.empty.size ≤ maxLen), Nat.le_refl _, fun _ => ⟨rfl, rfl⟩, [], [], Or.inr ⟨hd, rfl⟩⟩
  · simp only [Value.cells] at hcs
    injection hcs with hcs
    injection hcs with h1 h2 h3
    subst h1 h2 h3
    injection hx with hd _
    have hz' : ss.length = cap := by simpa using hz
    refine ⟨some a, len, cap, fun j => ss.getD j ByteArray.empty, rfl, fun hn => ?_, fun j => ?_, hl, (fun h => by cases h), strs (ss.take len), strs (ss.drop len), Or.inl ⟨hd, by simp [strs]; omega⟩⟩
    rotate_left
    · show (ss.getD j ByteArray.empty).size ≤ maxLen
      rw [List.getD_eq_getElem?_getD]
      cases hj : ss[j]? with
      | none => exact (by decide : ByteArray.empty.size ≤ maxLen)
      | some y => exact hsz y (List.mem_of_getElem? hj)
    obtain ⟨b, off, spot⟩ := a
    have hspot : spot = none := by simpa [Addr.add] using World.cell?_spot (hcell 0 (by omega))
    subst hspot
    refine ⟨b, off, rfl, block_lt (hcell 0 (by omega)), fun j hj => ?_⟩
    have := hcell j (by omega)
    by_cases h0 : j = 0
    · subst h0; simpa [Addr.add] using this
    · simpa [Addr.add, h0] using this
open Go.ChangeShapes Go.WideShapes Go.ChangeAt in
theorem strs_len {H : Type} {ts : List TypeId} {ds : List (DataW H)} (h : (DataW.weightsEach Tryz.prog ts ds).all (· ≤ reachBytes) = true) {j : Nat} {d : DataW H} (ht : ts[j]? = some 36) (hd : ds[j]? = some d)
    {n c : Nat} {X : Prop} (z : n ≤ c ∧ X ∧ ∃ els sp, (d = .slice els sp ∧ els.length + sp.length = c) ∨ (d = .nil ∧ c = 0)) : n ≤ 140737488351232 := by
  obtain ⟨h1, _, els, sp, h2⟩ := z
  rcases h2 with ⟨rfl, h2⟩ | ⟨_, h2⟩
  · have h3 := sized_slice h ht hd Tryz.underlying36
    rw [show Tryz.prog.bytesOf 9 = 16 by kernel_rfl] at h3
    have : reachBytes = 140737488351232 := rfl
    omega
  · omega
end Go.Proofs.YthmlcmlpmolmoaaGreatDoor
/- Law TopApart (layer 14). -/
namespace Go.Proofs.YthmlcmlpmolmoaaGreatDoor
set_option maxRecDepth 100000
open Go.RowKit
/-- two vaults, apart -/
def Both (VA VA' : World → Int → (Nat → Prop) → Prop) (w : World) (V V' : Int) : Prop := ∃ O O', VA w V O ∧ VA' w V' O' ∧ ∀ k, O k → ¬ O' k
section
variable {u w : World} {G G' a b a1 : Nat} {K K' : Int → Nat → Nat} {VA VA' : Nat → World → Int → (Nat → Prop) → Prop} {V V' V1 : Int} {f : FuncId} {args : Array Value} {r : Value}
theorem Both.left (hK : VKitS u G K VA) (hK' : VKitS u G' K' VA') (h : Both (VA a) (VA' b) w V V') (hc : ∀ O, VA a w V O → Calls Tryz.prog f args w fun e w' => e = .returned r ∧ VStep (VA a1) w O w' V1) :
    Calls Tryz.prog f args w fun e w' => e = .returned r ∧ Both (VA a1) (VA' b) w' V1 V' := by
  obtain ⟨O, O', h1, h2, h3⟩ := h
  refine (hc O h1).mono ?_
  rintro e w' ⟨he, O1, k1, k2, k3⟩
  exact ⟨he, O1, O', k1, hK'.keep _ _ _ _ _ h2 k2 fun k hk => ⟨(hK.own _ _ _ h1 k hk).1, h3 k hk⟩, fun k hk hk' => by
    rcases k3 k hk with h4 | h4
    · exact h3 k h4 hk'
    · have := (hK'.own _ _ _ h2 k hk').2; omega⟩
theorem Both.right (hK : VKitS u G K VA) (hK' : VKitS u G' K' VA') (h : Both (VA a) (VA' b) w V V') (hc : ∀ O, VA' b w V' O → Calls Tryz.prog f args w fun e w' => e = .returned r ∧ VStep (VA' a1) w O w' V1) :
    Calls Tryz.prog f args w fun e w' => e = .returned r ∧ Both (VA a) (VA' a1) w' V V1 := by
  obtain ⟨O, O', h1, h2, h3⟩ := h
  refine (hc O' h2).mono ?_
  rintro e w' ⟨he, O1, k1, k2, k3⟩
  exact ⟨he, O, O1, hK.keep _ _ _ _ _ h1 k2 fun k hk => ⟨(hK'.own _ _ _ h2 k hk).1, fun h => h3 k h hk⟩, k1, fun k hk hk' => by
    rcases k3 k hk' with h4 | h4
    · exact h3 k hk h4
    · have := (hK.own _ _ _ h1 k hk).2; omega⟩
theorem Both.below {w' : World} (hK : VKitS u G K VA) (hK' : VKitS u G' K' VA') (h : Both (VA a) (VA' b) w V V') (hb : Below w.heap.size w w') : Both (VA a) (VA' b) w' V V' := by
  obtain ⟨O, O', h1, h2, h3⟩ := h
  exact ⟨O, O', hK.below h1 hb, hK'.below h2 hb, h3⟩
theorem Both.bel (hK : VKitS u G K VA) (h : Both (VA a) (VA' b) w V V') : Below u.heap.size u w := by
  obtain ⟨O, O', h1, _, _⟩ := h
  exact hK.bel _ _ _ h1
end
set_option maxHeartbeats 1600000 in
theorem tapart14_bad (hN : NewOk) (hB : NewBad) (A AL : Option Addr) (n c L cL : Nat) (key : Nat → Nat) (t : Int) (s : ByteArray) (w : World) (hk : vok n t 1 = false) (hl : n ≤ 140737488351232) (hA : SlB w A n key) (hnil : A = none → n = 0 ∧ c = 0) (ht : Tabs w) :
    Calls Tryz.prog 9 #[.slice A n c, .int .i64 t, .slice AL L cL, .string s] w fun e w' => e = .returned (.bool true) ∧ Below w.heap.size w w' := by
  have hk3 : vok n t 3 = false := by
    unfold vok at hk ⊢
    have := of_decide_eq_false hk
    exact decide_eq_false (by omega)
  have HS := Lib.hid (tells14_any hN w ht)
  have HB := Lib.hid (show ∀ W, Below w.heap.size w W → Calls Tryz.prog 12 #[.slice A n c, .int .i64 t, .int .i64 1] W fun e w' => e = .returned (.tuple #[.pointer none, .int .i64 1]) ∧ Below W.heap.size W w' from fun W h => hB A n c key t 1 W hk hl (hA.keep h) hnil (ht.keep h))
  have HB3 := Lib.hid (show ∀ W, Below w.heap.size w W → Calls Tryz.prog 12 #[.slice A n c, .int .i64 t, .int .i64 3] W fun e w' => e = .returned (.tuple #[.pointer none, .int .i64 1]) ∧ Below W.heap.size W w' from fun W h => hB A n c key t 3 W hk3 hl (hA.keep h) hnil (ht.keep h))
  have HKN := Lib.hid (show ∀ W, Below w.heap.size w W → Calls Tryz.prog 35 #[.slice A n c] W fun e w' => ∃ p x, e = .returned (.tuple #[.pointer p, .int .i64 x]) ∧ Below W.heap.size W w' from fun W h => by
    by_cases hn : 16 ≤ n ∧ n ≤ 64
    · refine (knew_good A n c key w W hn (hA.keep h) hnil ht.gt ht.p10 h).mono ?_
      rintro e w' ⟨G, M, cc, rfl, _, _, _, hb⟩
      exact ⟨_, _, rfl, hb⟩
    · refine (knew_bad A n c W hn).mono ?_
      rintro e w' ⟨rfl, rfl⟩
      exact ⟨_, _, rfl, Below.refl _ _⟩)
  clear hA hnil ht hk hk3 hl hN hB
  go_enter Tryz.func9, Tryz.ntmps9
  go_wp2_with fail
  refine HS.out.mono ?_
  rintro e w1 ⟨rfl, hb1⟩
  have HB1 := Lib.hid hb1
  clear hb1
  go_wp2_with fail
  refine (HB.out w1 HB1.out).mono ?_
  rintro e w2 ⟨rfl, hb2⟩
  have HB2 := Lib.hid (HB1.out.trans (hb2.mono HB1.out.size))
  clear hb2
  go_wp2_with fail
  refine (HB3.out w2 HB2.out).mono ?_
  rintro e w3 ⟨rfl, hb3⟩
  have HB3' := Lib.hid (HB2.out.trans (hb3.mono HB2.out.size))
  clear hb3
  go_wp2_with fail
  refine (HKN.out w3 HB3'.out).mono ?_
  rintro e w4 ⟨p, x, rfl, hb4⟩
  have HB4 := Lib.hid (HB3'.out.trans (hb4.mono HB3'.out.size))
  clear hb4
  go_wp2_with fail
  go_ret
  exact ⟨rfl, HB4.out⟩
set_option maxHeartbeats 6400000 in
theorem tapart14_good (hN : NewOkS) (A AL : Option Addr) (n c L cL : Nat) (key : Nat → Nat) (t : Int) (s : ByteArray) (T : Nat → ByteArray) (w : World) (hk : vok n t 1 = true) (hL : L ≤ 140737488351232) (hs : s.size ≤ maxLen) (hT : ∀ j, (T j).size ≤ maxLen) (hS : SlS w AL L T) (hA : SlB w A n key) (hnil : A = none → n = 0 ∧ c = 0) (ht : Tabs w) :
    Calls Tryz.prog 9 #[.slice A n c, .int .i64 t, .slice AL L cL, .string s] w fun e w' => e = .returned (.bool true) ∧ Below w.heap.size w w' := by
  have hk' := of_decide_eq_true hk
  have hk3 : vok n t 3 = true := decide_eq_true (by omega)
  have HS := Lib.hid (tells14_any hN.weak w ht)
  have HN := Lib.hid (show ∀ W, Below w.heap.size w W → _ from fun W h => hN A n c key t 1 w W hk (hA.keep h) hnil ht h)
  have HN3 := Lib.hid (show ∀ W, Below w.heap.size w W → _ from fun W h => hN A n c key t 3 w W hk3 (hA.keep h) hnil ht h)
  have HKN := Lib.hid (show ∀ W, Below w.heap.size w W → _ from fun W h => knew_good A n c key w W hk'.1 (hA.keep h) hnil ht.gt ht.p10 h)
  have HZ := Lib.hid hs
  have HTZ := Lib.hid hT
  have HSL := Lib.hid hS
  have HLL := Lib.hid hL
  clear hA hnil ht hk hk' hk3 hN hs hT hS
  go_enter Tryz.func9, Tryz.ntmps9
  go_wp2_with fail
  refine HS.out.mono ?_
  rintro e w1 ⟨rfl, hb1⟩
  have HB1 := Lib.hid hb1
  clear hb1
  go_wp2_with fail
  refine (HN.out w1 HB1.out).mono ?_
  rintro e w2 ⟨G, VA, O, rfl, hkit, hv, _, _⟩
  have HK := Lib.hid hkit
  have HV := Lib.hid hv
  have HB2 := Lib.hid (hkit.bel _ _ _ hv)
  clear hkit hv HN HS
  go_wp2_with fail
  refine (HN3.out w2 HB2.out).mono ?_
  rintro e w3 ⟨G', VA', O', rfl, hkit, hv, hnew, hb3⟩
  have HK' := Lib.hid hkit
  have HV3 := Lib.hid (show Both (VA 1000) (VA' 1000) w3 1 3 from ⟨O, O', HK.out.below HV.out hb3, hv, fun k h1 h2 => by
    have := (HK.out.own _ _ _ HV.out k h1).2
    have := hnew k h2
    omega⟩)
  clear hkit hv hnew hb3 HN3 HV
  generalize vK n key t = K at *
  have HB3 := Lib.hid (HV3.out.bel HK.out)
  go_wp2_with fail
  refine (HKN.out w3 HB3.out).mono ?_
  rintro e w4 ⟨Gk, Mk, ck, rfl, _, _, _, hb4⟩
  have HV4 := Lib.hid (HV3.out.below HK.out HK'.out hb4)
  clear hb4 HV3
  go_wp2_with fail
  refine (Both.right HK.out HK'.out HV4.out fun O h => HK'.out.token w4 3 O s h HZ.out).mono ?_
  rintro e w5 ⟨rfl, hv5⟩
  have HV5 := Lib.hid hv5
  clear hv5 HV4
  go_wp2_with fail
  go_loopw [18, 19, 20] (fun i x y wr => ∃ k : Nat, k ≤ L ∧ k ≤ 6 ∧ i = .int .i64 k ∧ Both (VA 1000) (VA' 1000) wr 1 3) (fun i _ _ _ => L - (intOf i).toNat)
  case atStart => exact ⟨0, Nat.zero_le _, Nat.zero_le _, rfl, HV5.out⟩
  case round =>
    obtain ⟨k, hk, hk6, rfl, hv⟩ := hrel
    have HA := Lib.hid hv
    clear hv HV5
    by_cases hlt : k < L ∧ k < 6
    · obtain ⟨hl1, hl2⟩ := hlt
      have hki : (k : Int) < L := by omega
      have hk6i : (k : Int) < 6 := by omega
      obtain ⟨B, o, rfl, hB, hc⟩ := HSL.out (by omega)
      have hcell := ((HA.out.bel HK.out).cell (p := ⟨B, o + k, none⟩) hB).trans (hc k hl1)
      have HTK := Lib.hid (HTZ.out k)
      clear hc
      generalize T k = tk at *
      go_wp2_with fail
      refine (Both.left HK.out HK'.out HA.out fun O h => HK.out.token wr 1 O tk h HTK.out).mono ?_
      rintro e w6 ⟨rfl, hv6⟩
      have HV6 := Lib.hid hv6
      clear hv6 HA hcell
      cases h1 : isV tk with
      | false =>
        rw [vtE_no h1]
        clear h1
        generalize vtV K 1 tk = x1 at *
        go_wp2_with fail
        go_roundw
        case rel => exact ⟨k + 1, by omega, by omega, by go_num, HV6.out⟩
        case measure => simp [intOf]; omega
      | true =>
        rw [vtE_ok h1]
        have HX := Lib.hid (Nat.le_trans (vt_le (K := K) (V := 1) tk (by decide) (by decide)) (show 41 ≤ maxLen by unfold maxLen; decide))
        clear h1
        generalize vtV K 1 tk = x1 at *
        go_wp2_with fail
        refine (Both.left HK.out HK'.out HV6.out fun O h => HK.out.renew w6 1 O x1 h HX.out).mono ?_
        rintro e w7 ⟨rfl, hv7⟩
        have HV7 := Lib.hid hv7
        clear hv7 HV6
        generalize vrV K 1 x1 = x2 at *
        generalize vbE K 1 x1 = e2 at *
        go_wp2_with fail
        refine (Both.right HK.out HK'.out HV7.out fun O h => HK'.out.back w7 3 O x1 h HX.out).mono ?_
        rintro e w8 ⟨rfl, hv8⟩
        have HV8 := Lib.hid hv8
        clear hv8 HV7
        generalize vbV K 3 x1 = x3 at *
        generalize vbE K 3 x1 = e3 at *
        go_wp2_with fail
        go_roundw
        case rel => exact ⟨k + 1, by omega, by omega, by go_num, HV8.out⟩
        case measure => simp [intOf]; omega
    · have hlt2 : ¬ k < L ∨ (k < L ∧ ¬ k < 6) := by omega
      clear hlt
      rcases hlt2 with hl1 | ⟨hl1, hl2⟩
      · have d1 : decide ((k : Int) < L) = false := decide_eq_false (by omega)
        go_wp2_with fail
        refine (Both.left HK.out HK'.out HA.out fun O h => HK.out.rotate wr 1 O h).mono ?_
        rintro e w6 ⟨rfl, hv6⟩
        have HV6 := Lib.hid (show Both (VA 999) (VA' 1000) w6 2 3 from hv6)
        clear hv6
        go_wp2_with fail
        refine (Both.left HK.out HK'.out HV6.out fun O h => HK.out.rotate w6 2 O h).mono ?_
        rintro e w7 ⟨rfl, hv7⟩
        have HV7 := Lib.hid (show Both (VA 998) (VA' 1000) w7 3 3 from hv7)
        clear hv7
        go_wp2_with fail
        refine (Both.left HK.out HK'.out HV7.out fun O h => HK.out.token w7 3 O s h HZ.out).mono ?_
        rintro e w8 ⟨rfl, hv8⟩
        have HV8 := Lib.hid hv8
        clear hv8
        generalize vtV K 3 s = x1 at *
        generalize vtE s = e1 at *
        go_wp2_with fail
        refine (Both.left HK.out HK'.out HV8.out fun O h => HK.out.version w8 3 O h).mono ?_
        rintro e w9 ⟨rfl, hv9⟩
        have HB9 := Lib.hid (hv9.bel HK.out)
        clear hv9
        go_wp2_with fail
        go_ret
        exact ⟨rfl, HB9.out⟩
      · have d1 : decide ((k : Int) < L) = true := decide_eq_true (by omega)
        have d2 : decide ((k : Int) < 6) = false := decide_eq_false (by omega)
        go_wp2_with fail
        refine (Both.left HK.out HK'.out HA.out fun O h => HK.out.rotate wr 1 O h).mono ?_
        rintro e w6 ⟨rfl, hv6⟩
        have HV6 := Lib.hid (show Both (VA 999) (VA' 1000) w6 2 3 from hv6)
        clear hv6
        go_wp2_with fail
        refine (Both.left HK.out HK'.out HV6.out fun O h => HK.out.rotate w6 2 O h).mono ?_
        rintro e w7 ⟨rfl, hv7⟩
        have HV7 := Lib.hid (show Both (VA 998) (VA' 1000) w7 3 3 from hv7)
        clear hv7
        go_wp2_with fail
        refine (Both.left HK.out HK'.out HV7.out fun O h => HK.out.token w7 3 O s h HZ.out).mono ?_
        rintro e w8 ⟨rfl, hv8⟩
        have HV8 := Lib.hid hv8
        clear hv8
        generalize vtV K 3 s = x1 at *
        generalize vtE s = e1 at *
        go_wp2_with fail
        refine (Both.left HK.out HK'.out HV8.out fun O h => HK.out.version w8 3 O h).mono ?_
        rintro e w9 ⟨rfl, hv9⟩
        have HB9 := Lib.hid (hv9.bel HK.out)
        clear hv9
        go_wp2_with fail
        go_ret
        exact ⟨rfl, HB9.out⟩
theorem tapart14_any (hN : NewOkS) (hB : NewBad) (A AL : Option Addr) (n c L cL : Nat) (key : Nat → Nat) (t : Int) (s : ByteArray) (T : Nat → ByteArray) (w : World) (hl : n ≤ 140737488351232) (hL : L ≤ 140737488351232) (hs : s.size ≤ maxLen) (hT : ∀ j, (T j).size ≤ maxLen) (hS : SlS w AL L T) (hA : SlB w A n key) (hnil : A = none → n = 0 ∧ c = 0) (ht : Tabs w) :
    Calls Tryz.prog 9 #[.slice A n c, .int .i64 t, .slice AL L cL, .string s] w fun e w' => e = .returned (.bool true) ∧ Below w.heap.size w w' := by
  cases hk : vok n t 1 with
  | false => exact tapart14_bad hN.weak hB A AL n c L cL key t s w hk hl hA hnil ht
  | true => exact tapart14_good hN A AL n c L cL key t s T w hk hL hs hT hS hA hnil ht
end Go.Proofs.YthmlcmlpmolmoaaGreatDoor
