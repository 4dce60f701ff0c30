/- PanHides. -/
import Derived.Test.YtgpgleojkldndaaDoorLaw11a
import Derived.Test.YtgpgleojkldndaaDoorRowX
namespace Go.Proofs.YtgpgleojkldndaaDoor
open Go.RowKit

theorem strOf_all (n : Nat) (b : Nat → Nat) (h : ∀ i, i < n → 48 ≤ b i ∧ b i ≤ 57) : (strOf n b).data.toList.all isDig = true := by
  rw [strOf_list, List.all_eq_true]
  intro x hx
  obtain ⟨i, hi, rfl⟩ := List.mem_map.1 hx
  have := h i (List.mem_range.1 hi)
  unfold isDig
  rw [chr_toNat _ (by omega)]
  simp; omega

theorem app_size (a b : ByteArray) : (a ++ b).size = a.size + b.size := ByteArray.size_append

theorem ext_left (a b : ByteArray) (k : Nat) (h : a.size = k) : (a ++ b).extract 0 k = a := by
  apply ba_ext
  rw [ext_list, app_list, List.drop_zero, Nat.sub_zero]
  exact List.take_left' (by rw [Array.length_toList]; exact h)

theorem ext_right (a b : ByteArray) (k n : Nat) (h : a.size = k) (hn : (a ++ b).size = n) : (a ++ b).extract k n = b := by
  apply ba_ext
  have h1 : a.data.toList.length = k := by rw [Array.length_toList]; exact h
  have h2 : b.data.toList.length = b.size := Array.length_toList
  rw [app_size] at hn
  rw [ext_list, app_list, List.drop_left' h1, List.take_of_length_le (by omega)]

/-- texts that differ in their middles alone have one mask -/
theorem mask_same {s M : ByteArray} (hz : shp s = true) (hM : M.size = (pM s).size) (hd : M.data.toList.all isDig = true) : maskS (pB s ++ M ++ pL s) = maskS s := by
  obtain ⟨hall, h1, h2⟩ := shp_parts hz
  have s1 := pB_size hz
  have s2 := pM_size hz
  have s3 := pL_size hz
  have hu : (pB s ++ M ++ pL s).size = s.size := by rw [app_size, app_size]; omega
  have hB : (pB s).data.toList.all isDig = true := by
    rw [pB_yes hz, ext_list]
    rw [List.all_eq_true] at hall ⊢
    exact fun x hx => hall x (List.mem_of_mem_drop (List.mem_of_mem_take hx))
  have hL : (pL s).data.toList.all isDig = true := by
    rw [pL_yes hz, ext_list]
    rw [List.all_eq_true] at hall ⊢
    exact fun x hx => hall x (List.mem_of_mem_drop (List.mem_of_mem_take hx))
  have hzu : shp (pB s ++ M ++ pL s) = true := shp_of (by rw [app_list, app_list, List.all_append, List.all_append, hB, hd, hL]; rfl) (by omega) (by omega)
  have e1 : pB (pB s ++ M ++ pL s) = pB s := by
    rw [pB_yes hzu, ByteArray.append_assoc]
    exact ext_left _ _ 6 s1
  have e3 : pL (pB s ++ M ++ pL s) = pL s := by
    rw [pL_yes hzu]
    exact ext_right _ _ _ _ (by rw [app_size, hu]; omega) rfl
  have e2 : (pM (pB s ++ M ++ pL s)).size = (pM s).size := by rw [pM_size hzu, hu, s2]
  unfold maskS
  rw [hzu, hz, if_pos rfl, if_pos rfl]
  unfold mk3
  rw [e1, e2, e3]

theorem mask_shape {s : ByteArray} (hz : shp s = true) : (maskS s).size = s.size ∧ (maskS s).extract 0 6 = pB s ∧ (maskS s).extract (s.size - 4) s.size = pL s ∧
    ∀ i, 6 ≤ i → i + 4 < s.size → (maskS s).data.toList[i]? = some 42 := by
  obtain ⟨hall, h1, h2⟩ := shp_parts hz
  have s1 := pB_size hz
  have s2 := pM_size hz
  have s3 := pL_size hz
  have e : maskS s = pB s ++ stars (pM s).size ++ pL s := by unfold maskS; rw [hz, if_pos rfl]; rfl
  have st := stars_size (pM s).size
  have hsz : (maskS s).size = s.size := by rw [e, app_size, app_size]; omega
  refine ⟨hsz, ?_, ?_, ?_⟩
  · rw [e, ByteArray.append_assoc]; exact ext_left _ _ 6 s1
  · rw [e]; exact ext_right _ _ _ _ (by rw [app_size]; omega) (by rw [← e]; exact hsz)
  · intro i h6 h4
    have hl1 : (pB s).data.toList.length = 6 := by rw [Array.length_toList]; exact s1
    rw [e, app_list, app_list, List.append_assoc, List.getElem?_append_right (by omega), hl1]
    have hl2 : (stars (pM s).size).data.toList = List.replicate (pM s).size 42 := rfl
    rw [hl2, List.getElem?_append_left (by rw [List.length_replicate]; omega), List.getElem?_replicate, if_pos (by omega)]

/-- the middle with its first k digits changed -/
def mxk (b : ByteArray) (bs : Nat → Nat) (k j : Nat) : Nat := if j < k then 48 + bs j % 10 else by_ b j

theorem mxk_step (b : ByteArray) (bs : Nat → Nat) (k r : Nat) (h : bs k % 10 = r) (j : Nat) :
    (if j = k then Value.int .u8 ((48 + r : Nat) : Int) else .int .u8 (mxk b bs k j : Nat)) = .int .u8 (mxk b bs (k + 1) j : Nat) := by
  unfold mxk
  by_cases e : j = k
  · subst e; rw [if_pos rfl, if_pos (by omega), h]
  · simp only [if_neg e, show (j < k + 1) = (j < k) from propext ⟨by omega, by omega⟩]

theorem mxk_dig {s : ByteArray} (hz : shp s = true) (bs : Nat → Nat) (k i : Nat) (hi : i < (pM s).size) : 48 ≤ mxk (pM s) bs k i ∧ mxk (pM s) bs k i ≤ 57 := by
  obtain ⟨hall, h1, h2⟩ := shp_parts hz
  unfold mxk
  split
  · omega
  · have hM : (pM s).data.toList.all isDig = true := by
      rw [pM_yes hz, ext_list]
      rw [List.all_eq_true] at hall ⊢
      exact fun x hx => hall x (List.mem_of_mem_drop (List.mem_of_mem_take hx))
    have := dig_at (pM s) i hi hM
    unfold by_
    rw [List.getD_eq_getElem?_getD, at_list _ i hi]
    exact this

set_option maxRecDepth 100000 in
set_option maxHeartbeats 6400000 in
theorem hides11_any (s : ByteArray) (A : Option Addr) (nb cb : Nat) (bs : Nat → Nat) (w : World) (hs : s.size ≤ maxLen) (hnb : nb ≤ 281474976710656) (hA : SlB w A nb bs) (hw : PT w) :
    Calls Tryd.prog 6 #[.string s, .slice A nb cb] w fun e w' => e = .returned (.bool true) ∧ Below w.heap.size w w' := by
  have HW := Lib.hid hw
  have HS := Lib.hid hs
  have HA := Lib.hid hA
  clear hw hA
  unfold maxLen at hs
  cases hz : shp s with
  | false =>
    have HC := Lib.hid (show cutE s = 10 by unfold cutE; rw [hz]; rfl)
    clear hz
    go_enter Tryd.func6, Tryd.ntmps6
    go_wp2_with fail
    refine (small11_any _ HW.out).mono ?_
    rintro e w1 ⟨rfl, hb1⟩
    have HB1 := Lib.hid hb1
    clear hb1
    go_wp2_with fail
    refine (cut11_any s _ HS.out (HW.out.keep HB1.out)).mono ?_
    rintro e w2 ⟨rfl, hb2⟩
    have HB2 := Lib.hid (HB1.out.trans (hb2.mono HB1.out.size))
    clear hb2
    rw [HC.out]
    go_wp2_with fail
    go_ret
    exact ⟨rfl, HB2.out⟩
  | true =>
    have HC := Lib.hid (show cutE s = 0 by unfold cutE; rw [hz]; rfl)
    have HWH := Lib.hid (whole_eq hz)
    have HMS := Lib.hid (show ∀ k, maskS (pB s ++ strOf (pM s).size (mxk (pM s) bs k) ++ pL s) = maskS s from fun k =>
      mask_same hz (strOf_size _ _) (strOf_all _ _ fun i hi => mxk_dig hz bs k i hi))
    obtain ⟨x1, x2, x3, x4⟩ := mask_shape hz
    obtain ⟨hall, h1, h2⟩ := shp_parts hz
    have hB : ((pB s).size : Int) = 6 := by rw [pB_size hz]; rfl
    have hL : ((pL s).size : Int) = 4 := by rw [pL_size hz]; rfl
    have hB2 := pB_le s
    have hL2 := pL_le s
    have hM2 := pM_le s
    clear hz hall
    go_enter Tryd.func6, Tryd.ntmps6
    go_wp2_with fail
    refine (small11_any _ HW.out).mono ?_
    rintro e w1 ⟨rfl, hb1⟩
    have HB1 := Lib.hid hb1
    clear hb1
    go_wp2_with fail
    refine (cut11_any s _ HS.out (HW.out.keep HB1.out)).mono ?_
    rintro e w2 ⟨rfl, hb2⟩
    have HB2 := Lib.hid (HB1.out.trans (hb2.mono HB1.out.size))
    clear hb2
    rw [HC.out]
    obtain ⟨X, hX⟩ : ∃ X, maskS s = X := ⟨_, rfl⟩
    have HX := Lib.hid hX
    rw [hX] at HMS x1 x2 x3 x4
    clear hX
    generalize pB s = a at *
    generalize pM s = b at *
    generalize pL s = c at *
    have HX2 := Lib.hid x2
    have HX3 := Lib.hid x3
    have HX4 := Lib.hid x4
    have hwh := HWH.out
    have hab : (a ++ b).size ≤ 20 := by rw [app_size]; omega
    obtain ⟨cap, W, hcv, hbW, hlt, hrow⟩ := bytesOf b w2
    have HB3 := Lib.hid (HB2.out.trans (hbW.mono HB2.out.size))
    have HG := Lib.hid (show w.heap.size ≤ w2.heap.size from HB2.out.size)
    obtain ⟨G, hG⟩ : ∃ G, w2.heap.size = G := ⟨_, rfl⟩
    rw [hG] at hcv hbW hlt hrow HG
    have HR := Lib.hid hrow
    clear hbW hrow x2 x3 x4
    have HB0 := Lib.hid (show SlB W A nb bs from HA.out.keep HB3.out)
    go_wp2_with fail
    clear hcv hwh hlt
    go_loopw [11] (fun i wr => ∃ k : Nat, k ≤ b.size ∧ i = .int .i64 k ∧ RowX wr G 5 b.size (fun j => .int .u8 (mxk b bs k j : Nat)) ∧ Below w.heap.size w wr) (fun i _ => b.size - (intOf i).toNat)
    case atStart => exact ⟨0, Nat.zero_le _, rfl, HR.out.congr fun i hi => by unfold mxk; rw [if_neg (by omega)], HB3.out⟩
    case round =>
      obtain ⟨k, hk, rfl, hrow, hbb⟩ := hrel
      have HRW := Lib.hid hrow
      have HB4 := Lib.hid hbb
      clear hrow hbb
      by_cases hgo : k < b.size ∧ k < nb
      · obtain ⟨hlt, hlt2⟩ := hgo
        obtain ⟨B, o, rfl, _, hcs⟩ := (HA.out.keep HB4.out) (Nat.lt_of_le_of_lt (Nat.zero_le k) hlt2)
        obtain ⟨hx, hc⟩ := hcs k hlt2
        obtain ⟨x, hxx⟩ : ∃ x, bs k = x := ⟨_, rfl⟩
        have HXX := Lib.hid hxx
        rw [hxx] at hx hc
        obtain ⟨r, hr, hr2⟩ : ∃ r : Nat, (x : Int).tmod 10 = r ∧ x % 10 = r := ⟨x % 10, by rw [Int.tmod_eq_emod_of_nonneg (by omega)]; omega, rfl⟩
        have hr9 : r ≤ 9 := by omega
        have HST := Lib.hid (fun j => mxk_step b bs k r (by rw [hxx]; exact hr2) j)
        have hc2 := HRW.out.cell hlt
        have hf2 := HRW.out.frozen hlt
        clear hcs hxx hr2
        go_wp2_with fail
        go_roundw
        case rel => exact ⟨k + 1, by omega, by go_num, (HRW.out.set k (.int .u8 (48 + (r : Int)))).congr fun j _ => by
            have := HST.out j
            rw [← this]; norm_cast, HB4.out.setCell HG.out _⟩
        case measure => simp [intOf]; omega
      · have HM := Lib.hid (HMS.out k)
        have hst := strOf_size b.size (mxk b bs k)
        obtain ⟨st, hse⟩ : ∃ st, strOf b.size (mxk b bs k) = st := ⟨_, rfl⟩
        rw [hse] at HM hst
        have HSE := Lib.hid hse
        have hz1 : (a ++ st).size ≤ 20 := by rw [app_size]; omega
        have HZU := Lib.hid (show (a ++ st ++ c).size ≤ maxLen by rw [app_size, app_size]; unfold maxLen; omega)
        have hst9 : st.size ≤ 9 := by omega
        obtain ⟨p, hp, hp2⟩ : ∃ p : Nat, (X.size : Int) - 4 = p ∧ p + 4 = X.size := ⟨X.size - 4, by omega, by omega⟩
        have hps : p ≤ X.size := by omega
        have hp6 : 6 ≤ X.size := by omega
        have hp12 : 6 ≤ p := by omega
        have HP := Lib.hid (show X.extract p X.size = c by rw [← HX3.out, x1]; congr 1; omega)
        have HQ := Lib.hid (show ∀ i, 6 ≤ i → i < p → X.data.toList[i]? = some 42 from fun i h6 hi => HX4.out i h6 (by omega))
        have HX1 := Lib.hid x1
        clear hst hse hp2
        rcases (show ¬ k < b.size ∨ (k < b.size ∧ ¬ k < nb) by omega) with hno | ⟨hno1, hno2⟩
        all_goals
          clear hgo
          go_wp2_with fail
          refine (mask_any s _ HS.out (HW.out.keep HB4.out)).mono ?_
          rintro e w5 ⟨rfl, hb5⟩
          have hrow5 := HRW.out.keep hb5
          have hcv5 := convRowX hrow5 (mxk b bs k) (cap := cap) (Nat.le_refl _) (fun i hi => rfl)
          rw [HSE.out] at hcv5
          have HB5 := Lib.hid (HB4.out.trans (hb5.mono HB4.out.size))
          clear hb5 hrow5
          rw [HX.out]
          go_wp2_with fail
          refine (mask_any (a ++ st ++ c) _ HZU.out (HW.out.keep HB5.out)).mono ?_
          rintro e w6 ⟨rfl, hb6⟩
          have HB6 := Lib.hid (HB5.out.trans (hb6.mono HB5.out.size))
          clear hb6 hcv5
          rw [HM.out]
          go_wp2_with fail
          go_loop [13] (fun i => ∃ q : Nat, 6 ≤ q ∧ q ≤ p ∧ i = .int .i64 q) (fun i => p - (intOf i).toNat)
          case atStart => exact ⟨6, Nat.le_refl _, hp12, rfl⟩
          case round =>
            obtain ⟨q, hq6, hqp, rfl⟩ := hrel
            by_cases hlt : q < p
            · have hqx : q < X.size := by omega
              have e1 : X[q] = 42 := Option.some.inj ((at_list X q hqx).symm.trans (HQ.out q hq6 hlt))
              have e2 : ((X[q].toNat : Int) != 42) = false := by rw [e1]; rfl
              clear e1
              go_wp2_with fail
              go_round
              case rel => exact ⟨q + 1, by omega, by omega, by go_num⟩
              case measure => simp [intOf]; omega
            · obtain rfl : q = p := by omega
              have e1 := HX2.out
              have e2 := HP.out
              have hx19 : X.size ≤ 19 := by omega
              clear x1
              go_wp2_with fail
              go_ret
              exact ⟨rfl, HB6.out⟩
end Go.Proofs.YtgpgleojkldndaaDoor
