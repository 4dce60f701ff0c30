/- Law RouteApart (layer 15). Written by specs/mklaw15e.py. -/
import Derived.Test.YtcohkhjfncknpaaLaw15d
namespace Go.Proofs.Ytcohkhjfncknpaa
set_option maxRecDepth 100000
open Go.RowKit
/-- was it among the first k? -/
def hadB (L : List Rt) (p : ByteArray) (k : Nat) : Bool := (atR (L.take k) p).isSome
theorem atR_snoc (L : List Rt) (r : Rt) (p : ByteArray) : (atR (L ++ [r]) p).isSome = ((atR L p).isSome || decide (r.p = p)) := by
  induction L with
  | nil => show (if r.p = p then some r.t else none : Option Int).isSome = _; split <;> simp_all [atR]
  | cons q L ih =>
    show (if q.p = p then some q.t else atR (L ++ [r]) p).isSome = ((if q.p = p then some q.t else atR L p).isSome || _)
    split
    · rfl
    · exact ih
theorem hadB_next {L : List Rt} {p : ByteArray} {k : Nat} (h : k < L.length) : hadB L p (k + 1) = (hadB L p k || decide (L[k].p = p)) := by
  unfold hadB
  rw [List.take_add_one, List.getElem?_eq_getElem h]
  exact atR_snoc _ _ _
set_option maxHeartbeats 6400000 in
theorem apart15_any (hN : NewT) (A : Option Addr) (k0 c : Nat) (D M : Nat → Int) (T : Nat → ByteArray) (p : ByteArray) (n : Int) (s : ByteArray) (w : World) (hv : Ev w) (hk : k0 ≤ 140737488355328) (hT : ∀ j, j < k0 → (T j).size ≤ maxLen) (hact : ActsIn w A k0 D M T) (hp : p.size ≤ maxLen) (hs : s.size ≤ maxLen) :
    Calls Try.prog 5 #[.slice A k0 c, .string p, .int .i64 n, .string s] w fun e w' => e = .returned (.bool true) ∧ Below w.heap.size w w' := by
  have HS := Lib.hid (small15_any hN w hv)
  have HM := Lib.hid (fun w1 (hb : Below w.heap.size w w1) => made15_any hN A k0 c D M T w w1 hv hb hk hT (hact.keep hb (Nat.le_refl _)))
  have HP := Lib.hid hp
  have HQ := Lib.hid hs
  clear hN hv hT hact hp hs
  go_enter Try.func5, Try.ntmps5
  go_wp2_with fail
  refine HS.out.mono ?_
  rintro e w1 ⟨rfl, hb1⟩
  have HB1 := Lib.hid hb1
  clear hb1
  go_wp2_with fail
  refine (HM.out w1 HB1.out).mono ?_
  rintro e w2 ⟨G, TA, O, rfl, hkit, ha, ho, hb2⟩
  have HK := Lib.hid hkit
  have HA := Lib.hid ha
  have HB2 := Lib.hid (hkit.bel _ _ _ ha)
  clear hkit ha ho hb2
  go_wp2_with fail
  refine (HM.out w2 HB2.out).mono ?_
  rintro e w3 ⟨G', TA', O', rfl, hkit, ha, ho, hb3⟩
  have HK' := Lib.hid hkit
  have HV := Lib.hid (show BothT TA TA' w3 (mdL D M T (mdN k0)) (mdL D M T (mdN k0)) from ⟨O, O', HK.out.below HA.out hb3, ha, fun q h1 h2 => by
    have := (HK.out.own _ _ _ HA.out q h1).2
    have := ho q h2
    omega⟩)
  clear hkit ha ho hb3 HM HS HA
  generalize mdL D M T (mdN k0) = L at *
  have HOK := Lib.hid (HV.out.ok HK.out)
  go_wp2_with fail
  refine (HV.out.first HK.out HK'.out).mono ?_
  rintro e w4 ⟨v4, rfl, h4⟩
  generalize w3.heap.size = bs at *
  obtain ⟨A4, c4, rfl, _⟩ := h4.row.cap_le
  have HV4 := Lib.hid h4
  have HROW := Lib.hid (show ∀ w' {L1 L2 : List Rt}, BothW TA TA' w' L1 L2 bs (.slice A4 L.length c4) L → LiS rtE w' A4 L from fun w' L1 L2 h => by
    obtain ⟨A5, c5, e, hl⟩ := h.row.slice
    injection e with e1 _ _
    rw [e1]; exact hl)
  clear h4 HV
  go_wp2_with fail
  refine (HV4.out.left HK.out HK'.out fun O h => HK.out.find w4 L O s h HQ.out).mono ?_
  rintro e w5 ⟨rfl, h5⟩
  have HV5 := Lib.hid h5
  have hl24 : (L.length : Int) ≤ 24 := by have := HOK.out.few; omega
  obtain ⟨x1, hx1⟩ : ∃ x1, fdV L s = x1 := ⟨_, rfl⟩
  obtain ⟨y1, hy1⟩ : ∃ y1, fdI L s = y1 := ⟨_, rfl⟩
  rw [hx1, hy1]
  have HXY := Lib.hid (And.intro hx1 hy1)
  clear h5 HV4 hx1 hy1
  go_wp2_with fail
  go_loopw [15, 16] (fun hv i wr => ∃ k : Nat, k ≤ L.length ∧ i = .int .i64 k ∧ hv = .bool (hadB L p k) ∧ wr = w5) (fun _ i _ => L.length - (intOf i).toNat)
  case atStart => exact ⟨0, Nat.zero_le _, rfl, rfl, rfl⟩
  case round =>
    obtain ⟨k, hk, rfl, rfl, rfl⟩ := hrel
    by_cases hlt : k < L.length
    · obtain ⟨B, o, hAe, hBl, c1, c2⟩ := rt_at (HROW.out wr HV5.out) hlt
      have hk1 : (k : Int) < L.length := by omega
      have HNX := Lib.hid (hadB_next (p := p) hlt)
      subst hAe
      generalize L[k] = x at *
      clear c2
      cases hh : hadB L p k with
      | true =>
        rw [hh] at HNX
        clear hh
        go_wp2_with fail
        go_roundw
        case rel => exact ⟨k + 1, by omega, by go_num, by rw [HNX.out]; rfl, trivial⟩
        case measure => simp [intOf]; omega
      | false =>
        rw [hh] at HNX
        clear hh
        by_cases hx : x.p.toList = p.toList
        · have HNY := Lib.hid (show hadB L p (k + 1) = true by rw [HNX.out, decide_eq_true (toList_inj hx)]; rfl)
          have hq : (x.p.toList == p.toList) = true := by simpa using hx
          clear hx
          go_wp2_with fail
          go_roundw
          case rel => exact ⟨k + 1, by omega, by go_num, by rw [HNY.out], trivial⟩
          case measure => simp [intOf]; omega
        · have HNY := Lib.hid (show hadB L p (k + 1) = false by rw [HNX.out, decide_eq_false (fun e => hx (by rw [e]))]; rfl)
          have hq : (x.p.toList == p.toList) = false := by simpa using hx
          clear hx
          go_wp2_with fail
          go_roundw
          case rel => exact ⟨k + 1, by omega, by go_num, by rw [HNY.out], trivial⟩
          case measure => simp [intOf]; omega
    · obtain ⟨H, hH⟩ : ∃ H, hadB L p k = H := ⟨_, rfl⟩
      have HH := Lib.hid (show (atR L p).isSome = H by
        have e : k = L.length := by omega
        unfold hadB at hH
        rw [e, List.take_length] at hH
        exact hH)
      rw [hH]
      have hk1 : ¬ (k : Int) < L.length := by omega
      clear hH
      go_wp2_with fail
      refine (HV5.out.left HK.out HK'.out fun O h => HK.out.put wr L O p n h HP.out).mono ?_
      rintro e w6 ⟨rfl, h6⟩
      have HV6 := Lib.hid h6
      obtain ⟨E, hE⟩ : ∃ E, puE L p n = E := ⟨_, rfl⟩
      have HAP := Lib.hid (show E = 0 → H = false → drE (puN L p n) p = 0 ∧ dropR (puN L p n) p = L from fun e1 e2 => apart_drop HOK.out (hE.trans e1) (HH.out.trans e2))
      have HNO := Lib.hid (show E ≠ 0 → puN L p n = L from fun h => if_neg (by rw [hE]; exact h))
      have HFD := Lib.hid (fun (h : bgS s p = false) => apart_fnd (L := L) (t := n) h)
      rw [hE]
      generalize puN L p n = L1 at *
      clear h6 HV5 hE
      go_wp2_with fail
      refine (HV6.out.left HK.out HK'.out fun O h => HK.out.find w6 L1 O s h HQ.out).mono ?_
      rintro e w7 ⟨rfl, h7⟩
      have HV7 := Lib.hid h7
      clear h7 HV6
      rw [HXY.out.1, HXY.out.2] at HFD
      generalize fdV L1 s = x2 at *
      generalize fdI L1 s = y2 at *
      have HBG := Lib.hid (begins15_any s p w7)
      go_wp2_with fail
      refine HBG.out.mono ?_
      rintro e w8 ⟨rfl, hw8⟩
      have HV8 := Lib.hid (show BothW TA TA' w8 L1 L bs (.slice A4 L.length c4) L by rw [hw8]; exact HV7.out)
      clear hw8 HV7 HBG HXY
      cases hbg : bgS s p with
      | true =>
        clear HFD hbg
        by_cases he0 : E = 0
        · subst he0
          cases hd : H with
          | true =>
            subst hd
            go_wp2_with fail
            go_ret
            exact ⟨rfl, HV8.out.both.bel HK.out⟩
          | false =>
            subst hd
            obtain ⟨d1, d2⟩ := HAP.out rfl rfl
            have HD := Lib.hid (And.intro d1 d2)
            clear d1 d2
            go_wp2_with fail
            refine (HV8.out.left HK.out HK'.out fun O h => HK.out.drop w8 _ O p h HP.out).mono ?_
            rintro e w9 ⟨rfl, h9⟩
            rw [HD.out.1]
            rw [HD.out.2] at h9
            have HV9 := Lib.hid h9
            clear h9 HV8
            go_wp2_with fail
            refine (HV9.out.listl HK.out HK'.out).mono ?_
            rintro e w10 ⟨v10, rfl, ho10, hv10⟩
            obtain ⟨A10, c10, rfl, hl10⟩ := ho10.slice
            have HSA := Lib.hid (rsame15_any A10 c10 L A4 c4 L w10 hl10 (HROW.out w10 hv10) (by have := HOK.out.few; omega) (by have := HOK.out.few; omega))
            rw [decide_eq_true (rfl : L = L)] at HSA
            have HV10 := Lib.hid hv10
            clear ho10 hl10 hv10
            go_wp2_with fail
            refine HSA.out.mono ?_
            rintro e w10s ⟨rfl, hb10⟩
            have HV10s := Lib.hid (HV10.out.below HK.out HK'.out hb10)
            clear hb10 HSA HV10
            go_wp2_with fail
            refine (HV10s.out.listr HK.out HK'.out).mono ?_
            rintro e w11 ⟨v11, rfl, ho11, hv11⟩
            obtain ⟨A11, c11, rfl, hl11⟩ := ho11.slice
            have HSA := Lib.hid (rsame15_any A11 c11 L A4 c4 L w11 hl11 (HROW.out w11 hv11) (by have := HOK.out.few; omega) (by have := HOK.out.few; omega))
            rw [decide_eq_true (rfl : L = L)] at HSA
            have HV11 := Lib.hid hv11
            clear ho11 hl11 hv11
            go_wp2_with fail
            refine HSA.out.mono ?_
            rintro e w11s ⟨rfl, hb11⟩
            have HV11s := Lib.hid (HV11.out.below HK.out HK'.out hb11)
            clear hb11 HSA HV11
            go_wp2_with fail
            go_ret
            exact ⟨rfl, HV11s.out.both.bel HK.out⟩
        · have hq : (E == 0) = false := by simpa using he0
          have HN := Lib.hid (HNO.out he0)
          rw [HN.out] at HV8
          go_wp2_with fail
          refine (HV8.out.listl HK.out HK'.out).mono ?_
          rintro e w10 ⟨v10, rfl, ho10, hv10⟩
          obtain ⟨A10, c10, rfl, hl10⟩ := ho10.slice
          have HSA := Lib.hid (rsame15_any A10 c10 L A4 c4 L w10 hl10 (HROW.out w10 hv10) (by have := HOK.out.few; omega) (by have := HOK.out.few; omega))
          rw [decide_eq_true (rfl : L = L)] at HSA
          have HV10 := Lib.hid hv10
          clear ho10 hl10 hv10
          go_wp2_with fail
          refine HSA.out.mono ?_
          rintro e w10s ⟨rfl, hb10⟩
          have HV10s := Lib.hid (HV10.out.below HK.out HK'.out hb10)
          clear hb10 HSA HV10
          go_wp2_with fail
          go_ret
          exact ⟨rfl, HV10s.out.both.bel HK.out⟩
      | false =>
        obtain ⟨rfl, rfl⟩ := HFD.out hbg
        clear HFD hbg
        by_cases he0 : E = 0
        · subst he0
          cases hd : H with
          | true =>
            subst hd
            go_wp2_with fail
            go_ret
            exact ⟨rfl, HV8.out.both.bel HK.out⟩
          | false =>
            subst hd
            obtain ⟨d1, d2⟩ := HAP.out rfl rfl
            have HD := Lib.hid (And.intro d1 d2)
            clear d1 d2
            go_wp2_with fail
            refine (HV8.out.left HK.out HK'.out fun O h => HK.out.drop w8 _ O p h HP.out).mono ?_
            rintro e w9 ⟨rfl, h9⟩
            rw [HD.out.1]
            rw [HD.out.2] at h9
            have HV9 := Lib.hid h9
            clear h9 HV8
            go_wp2_with fail
            refine (HV9.out.listl HK.out HK'.out).mono ?_
            rintro e w10 ⟨v10, rfl, ho10, hv10⟩
            obtain ⟨A10, c10, rfl, hl10⟩ := ho10.slice
            have HSA := Lib.hid (rsame15_any A10 c10 L A4 c4 L w10 hl10 (HROW.out w10 hv10) (by have := HOK.out.few; omega) (by have := HOK.out.few; omega))
            rw [decide_eq_true (rfl : L = L)] at HSA
            have HV10 := Lib.hid hv10
            clear ho10 hl10 hv10
            go_wp2_with fail
            refine HSA.out.mono ?_
            rintro e w10s ⟨rfl, hb10⟩
            have HV10s := Lib.hid (HV10.out.below HK.out HK'.out hb10)
            clear hb10 HSA HV10
            go_wp2_with fail
            refine (HV10s.out.listr HK.out HK'.out).mono ?_
            rintro e w11 ⟨v11, rfl, ho11, hv11⟩
            obtain ⟨A11, c11, rfl, hl11⟩ := ho11.slice
            have HSA := Lib.hid (rsame15_any A11 c11 L A4 c4 L w11 hl11 (HROW.out w11 hv11) (by have := HOK.out.few; omega) (by have := HOK.out.few; omega))
            rw [decide_eq_true (rfl : L = L)] at HSA
            have HV11 := Lib.hid hv11
            clear ho11 hl11 hv11
            go_wp2_with fail
            refine HSA.out.mono ?_
            rintro e w11s ⟨rfl, hb11⟩
            have HV11s := Lib.hid (HV11.out.below HK.out HK'.out hb11)
            clear hb11 HSA HV11
            go_wp2_with fail
            go_ret
            exact ⟨rfl, HV11s.out.both.bel HK.out⟩
        · have hq : (E == 0) = false := by simpa using he0
          have HN := Lib.hid (HNO.out he0)
          rw [HN.out] at HV8
          go_wp2_with fail
          refine (HV8.out.listl HK.out HK'.out).mono ?_
          rintro e w10 ⟨v10, rfl, ho10, hv10⟩
          obtain ⟨A10, c10, rfl, hl10⟩ := ho10.slice
          have HSA := Lib.hid (rsame15_any A10 c10 L A4 c4 L w10 hl10 (HROW.out w10 hv10) (by have := HOK.out.few; omega) (by have := HOK.out.few; omega))
          rw [decide_eq_true (rfl : L = L)] at HSA
          have HV10 := Lib.hid hv10
          clear ho10 hl10 hv10
          go_wp2_with fail
          refine HSA.out.mono ?_
          rintro e w10s ⟨rfl, hb10⟩
          have HV10s := Lib.hid (HV10.out.below HK.out HK'.out hb10)
          clear hb10 HSA HV10
          go_wp2_with fail
          go_ret
          exact ⟨rfl, HV10s.out.both.bel HK.out⟩
end Go.Proofs.Ytcohkhjfncknpaa
