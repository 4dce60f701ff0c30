/- Law RouteOrders (layer 15): two tables, apart. -/
import Derived.Test.YtcohkhjfncknpaaLaw15b
import Derived.Test.YtcohkhjfncknpaaRef15S
namespace Go.Proofs.Ytcohkhjfncknpaa
set_option maxRecDepth 100000
open Go.RowKit
/-- two tables, apart -/
def BothT (TA TA' : World → List Rt → (Nat → Prop) → Prop) (w : World) (L L' : List Rt) : Prop := ∃ O O', TA w L O ∧ TA' w L' O' ∧ ∀ k, O k → ¬ O' k
/-- two tables, and a row that the second does not touch -/
def BothL (TA TA' : World → List Rt → (Nat → Prop) → Prop) (w : World) (L L' : List Rt) (b : Nat) (v : Value) (F : List Rt) : Prop := ∃ O O', TA w L O ∧ TA' w L' O' ∧ (∀ k, O k → ¬ O' k) ∧ OwL rtE 41 w b v F ∧ ∀ k, O' k → k < b
section
variable {u w w' : World} {G G' : Nat} {TA TA' : World → List Rt → (Nat → Prop) → Prop} {L L' L1 : List Rt} {f : FuncId} {args : Array Value} {r : Value}
theorem BothT.left (hK : TKit u G TA) (hK' : TKit u G' TA') (h : BothT TA TA' w L L') (hc : ∀ O, TA w L O → Calls Try.prog f args w fun e w' => e = .returned r ∧ TStep TA w O w' L1) : Calls Try.prog f args w fun e w' => e = .returned r ∧ BothT TA TA' w' L1 L' := by
  obtain ⟨O, O', h1, h2, h3⟩ := h
  refine (hc O h1).mono ?_
  rintro e w' ⟨he, O1, k1, k2, k3⟩
  exact ⟨he, O1, O', k1, hK'.keep _ _ _ _ _ h2 k2 fun k hk => ⟨(hK.own _ _ _ h1 k hk).1, h3 k hk⟩, fun k hk hk' => by
    rcases k3 k hk with h4 | h4
    · exact h3 k h4 hk'
    · have := (hK'.own _ _ _ h2 k hk').2; omega⟩
theorem BothT.right (hK : TKit u G TA) (hK' : TKit u G' TA') (h : BothT TA TA' w L L') (hc : ∀ O, TA' w L' O → Calls Try.prog f args w fun e w' => e = .returned r ∧ TStep TA' w O w' L1) : Calls Try.prog f args w fun e w' => e = .returned r ∧ BothT TA TA' w' L L1 := by
  obtain ⟨O, O', h1, h2, h3⟩ := h
  refine (hc O' h2).mono ?_
  rintro e w' ⟨he, O1, k1, k2, k3⟩
  exact ⟨he, O, O1, hK.keep _ _ _ _ _ h1 k2 fun k hk => ⟨(hK'.own _ _ _ h2 k hk).1, fun h => h3 k h hk⟩, k1, fun k hk hk' => by
    rcases k3 k hk' with h4 | h4
    · exact h3 k hk h4
    · have := (hK.own _ _ _ h1 k hk).2; omega⟩
theorem BothT.bel (hK : TKit u G TA) (h : BothT TA TA' w L L') : Below u.heap.size u w := by
  obtain ⟨O, O', h1, _, _⟩ := h
  exact hK.bel _ _ _ h1
theorem BothT.ok (hK : TKit u G TA) (h : BothT TA TA' w L L') : RtOk L := by
  obtain ⟨O, O', h1, _, _⟩ := h
  exact hK.ok _ _ _ h1
theorem BothT.listl (hK : TKit u G TA) (hK' : TKit u G' TA') (h : BothT TA TA' w L L') : Calls Try.prog 19 #[.pointer (some ⟨G, 0, none⟩)] w fun e w' => ∃ v, e = .returned v ∧ BothL TA TA' w' L L' w.heap.size v L := by
  obtain ⟨O, O', h1, h2, h3⟩ := h
  refine (hK.list w L O h1).mono ?_
  rintro e w' ⟨v, O1, he, ho, _, k1, k2, k3⟩
  exact ⟨v, he, O1, O', k1, hK'.keep _ _ _ _ _ h2 k2 fun k hk => ⟨(hK.own _ _ _ h1 k hk).1, h3 k hk⟩, fun k hk hk' => by
    rcases k3 k hk with h4 | h4
    · exact h3 k h4 hk'
    · have := (hK'.own _ _ _ h2 k hk').2; omega, ho, fun k hk => (hK'.own _ _ _ h2 k hk).2⟩
theorem BothL.listr {b : Nat} {v : Value} {F : List Rt} (hK : TKit u G TA) (hK' : TKit u G' TA') (h : BothL TA TA' w L L' b v F) : Calls Try.prog 19 #[.pointer (some ⟨G', 0, none⟩)] w fun e w' => ∃ v2, e = .returned v2 ∧ OwL rtE 41 w' b v F ∧ OwL rtE 41 w' w.heap.size v2 L' ∧ BothT TA TA' w' L L' := by
  obtain ⟨O, O', h1, h2, h3, h5, h6⟩ := h
  refine (hK'.list w L' O' h2).mono ?_
  rintro e w' ⟨v2, O1, he, ho, _, k1, k2, k3⟩
  exact ⟨v2, he, h5.chgS k2 h6, ho, O, O1, hK.keep _ _ _ _ _ h1 k2 fun k hk => ⟨(hK'.own _ _ _ h2 k hk).1, fun h => h3 k h hk⟩, k1, fun k hk hk' => by
    rcases k3 k hk' with h4 | h4
    · exact h3 k hk h4
    · have := (hK.own _ _ _ h1 k hk).2; omega⟩
theorem BothL.both {b : Nat} {v : Value} {F : List Rt} (h : BothL TA TA' w L L' b v F) : BothT TA TA' w L L' := by
  obtain ⟨O, O', h1, h2, h3, _, _⟩ := h
  exact ⟨O, O', h1, h2, h3⟩
end
theorem puE_small {L : List Rt} (h : L.length < 24) (p : ByteArray) (t : Int) : puE L p t = if puK p t = true then 0 else 1 := by
  unfold puE
  cases puK p t with
  | false => rfl
  | true =>
    rw [if_pos rfl, if_pos rfl]
    split
    · rfl
    · rw [if_neg (by omega)]
theorem puN_len {L : List Rt} (h : Rise L) (p : ByteArray) (t : Int) : (puN L p t).length ≤ L.length + 1 := by
  unfold puN
  split
  · rw [putR_length h]; split <;> omega
  · omega
/-- two prefixes, in either order -/
theorem orders_eq {L : List Rt} {p q : ByteArray} {n m : Int} (ok : RtOk L) (hl : L.length ≤ 22) (hne : p ≠ q) :
    puE L p n = puE (puN L q m) p n ∧ puE (puN L p n) q m = puE L q m ∧ puN (puN L p n) q m = puN (puN L q m) p n := by
  have l1 := puN_len ok.rise p n
  have l2 := puN_len ok.rise q m
  have e1 := puE_small (L := L) (by omega) p n
  have e2 := puE_small (L := puN L q m) (by omega) p n
  have e3 := puE_small (L := puN L p n) (by omega) q m
  have e4 := puE_small (L := L) (by omega) q m
  refine ⟨by rw [e1, e2], by rw [e3, e4], ?_⟩
  unfold puN at e2 e3 ⊢
  rw [e3, e2, e1, e4]
  cases puK p n <;> cases puK q m
  · rfl
  · rfl
  · rfl
  · simp only [if_true]
    refine rise_ext (putR_rise (putR_rise ok.rise _ _) _ _) (putR_rise (putR_rise ok.rise _ _) _ _) fun x => ?_
    rw [atR_put, atR_put, atR_put, atR_put]
    by_cases h1 : q = x
    · subst h1
      rw [if_pos rfl, if_neg hne, if_pos rfl]
    · rw [if_neg h1, if_neg h1]
set_option maxHeartbeats 3200000 in
theorem orders15_any (hN : NewT) (A : Option Addr) (k c : Nat) (D M : Nat → Int) (T : Nat → ByteArray) (p : ByteArray) (n : Int) (q : ByteArray) (m : Int) (w : World) (hv : Ev w) (hk : k ≤ 140737488355328) (hT : ∀ j, j < k → (T j).size ≤ maxLen) (hact : ActsIn w A k D M T) (hp : p.size ≤ maxLen) (hq : q.size ≤ maxLen) :
    Calls Try.prog 6 #[.slice A k c, .string p, .int .i64 n, .string q, .int .i64 m] w fun e w' => e = .returned (.bool true) ∧ Below w.heap.size w w' := by
  have HS := Lib.hid (small15_any hN w hv)
  have HM := Lib.hid (fun w1 (hb : Below w.heap.size w w1) => made15_any hN A k c D M T w w1 hv hb hk hT (hact.keep hb (Nat.le_refl _)))
  have HP := Lib.hid hp
  have HQ := Lib.hid hq
  clear hN hv hT hact hp hq
  go_enter Try.func6, Try.ntmps6
  go_wp2_with fail
  refine HS.out.mono ?_
  rintro e w1 ⟨rfl, hb1⟩
  have HB1 := Lib.hid hb1
  clear hb1
  go_wp2_with fail
  refine (HM.out w1 HB1.out).mono ?_
  rintro e w2 ⟨G, TA, O, rfl, hkit, ha, ho, hb2⟩
  have HK := Lib.hid hkit
  have HA := Lib.hid ha
  have HB2 := Lib.hid (hkit.bel _ _ _ ha)
  clear hkit ha ho hb2
  go_wp2_with fail
  refine (HM.out w2 HB2.out).mono ?_
  rintro e w3 ⟨G', TA', O', rfl, hkit, ha, ho, hb3⟩
  have HK' := Lib.hid hkit
  have HV := Lib.hid (show BothT TA TA' w3 (mdL D M T (mdN k)) (mdL D M T (mdN k)) from ⟨O, O', HK.out.below HA.out hb3, ha, fun q h1 h2 => by
    have := (HK.out.own _ _ _ HA.out q h1).2
    have := ho q h2
    omega⟩)
  clear hkit ha ho hb3 HM HS HA
  generalize mdL D M T (mdN k) = L at *
  by_cases hpq : p.toList = q.toList
  · have hq2 : (p.toList == q.toList) = true := by simpa using hpq
    clear hpq
    go_wp2_with fail
    go_ret
    exact ⟨rfl, HV.out.bel HK.out⟩
  · have hq2 : (p.toList == q.toList) = false := by simpa using hpq
    have HNE := Lib.hid (show p ≠ q from fun e => hpq (by rw [e]))
    clear hpq
    go_wp2_with fail
    refine (HV.out.listl HK.out HK'.out).mono ?_
    rintro e w4 ⟨v4, rfl, h4⟩
    have HV4 := Lib.hid h4.both
    obtain ⟨_, _, _, _, _, ho4, _⟩ := h4
    obtain ⟨A4, c4, rfl, _⟩ := ho4.cap_le
    have HOK := Lib.hid (HV4.out.ok HK.out)
    have hl24 : (L.length : Int) ≤ 24 := by have := HOK.out.few; omega
    clear ho4 HV
    by_cases hl : L.length ≤ 22
    · have hli : ¬ (22 : Int) < L.length := by omega
      obtain ⟨a, ha⟩ : ∃ a, puE L p n = a := ⟨_, rfl⟩
      obtain ⟨b, hb⟩ : ∃ b, puE (puN L p n) q m = b := ⟨_, rfl⟩
      obtain ⟨F, hF⟩ : ∃ F, puN (puN L p n) q m = F := ⟨_, rfl⟩
      have HE := Lib.hid (show puE L p n = a ∧ puE (puN L p n) q m = b ∧ puE L q m = b ∧ puE (puN L q m) p n = a ∧ puN (puN L p n) q m = F ∧ puN (puN L q m) p n = F from by
        obtain ⟨e1, e2, e3⟩ := orders_eq HOK.out hl HNE.out (n := n) (m := m)
        exact ⟨ha, hb, e2.symm.trans hb, e1.symm.trans ha, hF, e3.symm.trans hF⟩)
      clear ha hb hF
      go_wp2_with fail
      refine (HV4.out.left HK.out HK'.out fun O h => HK.out.put w4 L O p n h HP.out).mono ?_
      rintro e w5 ⟨rfl, h5⟩
      rw [HE.out.1]
      have HV5 := Lib.hid h5
      clear h5 HV4
      go_wp2_with fail
      refine (HV5.out.left HK.out HK'.out fun O h => HK.out.put w5 _ O q m h HQ.out).mono ?_
      rintro e w6 ⟨rfl, h6⟩
      rw [HE.out.2.1]
      rw [HE.out.2.2.2.2.1] at h6
      have HV6 := Lib.hid h6
      clear h6 HV5
      go_wp2_with fail
      refine (HV6.out.right HK.out HK'.out fun O h => HK'.out.put w6 _ O q m h HQ.out).mono ?_
      rintro e w7 ⟨rfl, h7⟩
      rw [HE.out.2.2.1]
      have HV7 := Lib.hid h7
      clear h7 HV6
      go_wp2_with fail
      refine (HV7.out.right HK.out HK'.out fun O h => HK'.out.put w7 _ O p n h HP.out).mono ?_
      rintro e w8 ⟨rfl, h8⟩
      rw [HE.out.2.2.2.1]
      rw [HE.out.2.2.2.2.2] at h8
      have HV8 := Lib.hid h8
      have HF := Lib.hid (h8.ok HK.out).few
      clear h8 HV7
      go_wp2_with fail
      refine (HV8.out.listl HK.out HK'.out).mono ?_
      rintro e w9 ⟨v9, rfl, h9⟩
      have HV9 := Lib.hid h9
      clear h9 HV8
      go_wp2_with fail
      refine (HV9.out.listr HK.out HK'.out).mono ?_
      rintro e w10 ⟨v10, rfl, ho9, ho10, hv10⟩
      obtain ⟨A9, c9, rfl, hl9⟩ := ho9.slice
      obtain ⟨A10, c10, rfl, hl10⟩ := ho10.slice
      have HB10 := Lib.hid (hv10.bel HK.out)
      have HSA := Lib.hid (rsame15_any A9 c9 F A10 c10 F w10 hl9 hl10 (by have := HF.out; omega) (by have := HF.out; omega))
      clear ho9 ho10 hv10 hl9 hl10 HV9
      rw [decide_eq_true (rfl : F = F)] at HSA
      go_wp2_with fail
      refine HSA.out.mono ?_
      rintro e w11 ⟨rfl, hb11⟩
      have HB11 := Lib.hid (HB10.out.trans (hb11.mono HB10.out.size))
      clear hb11
      go_wp2_with fail
      go_ret
      exact ⟨rfl, HB11.out⟩
    · have hli : (22 : Int) < L.length := by omega
      go_wp2_with fail
      go_ret
      exact ⟨rfl, HV4.out.bel HK.out⟩
end Go.Proofs.Ytcohkhjfncknpaa
