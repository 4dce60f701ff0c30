/- Law LedgerFull (layer 17). -/
import Derived.Test.YtlglkfgephilnaaActs17
namespace Go.Proofs.Ytlglkfgephilnaa
set_option maxRecDepth 100000
open Go.RowKit
abbrev kOwn : ByteArray := { data := #[97, 32, 107, 101, 121, 32, 111, 102, 32, 105, 116, 115, 32, 111, 119, 110] }
theorem KL.do {u w w0 : World} {G : Nat} {LA : World → List Po → (Nat → Prop) → Prop} {S : Nat → Prop} {L : List Po} (hK : LgKit u G LA) (h : KL LA S w0 w L) (x : Ap) (hk : x.k.size ≤ maxLen) (ht : x.t.size ≤ maxLen) :
    Calls Try.prog 24 #[.pointer (some ⟨G, 0, none⟩), apV x] w fun e w' => e = .returned (.tuple #[.int .i64 (dvV L x), .int .i64 (dvE L x)]) ∧ KL LA S w0 w' (dvN L x) :=
  KL.call h fun _ ho => do17_any hK ho x hk ht
/-- what Approve tells of an amount that may be and a key that may be -/
theorem ap_ways {L : List Po} {k : ByteArray} {a : Int} {t : ByteArray} (hp : pyK k a t = true) (hl : L.length < 24) :
    apE L k a t = 16 ∨ (apE L k a t = 19 ∧ 5000000000000 < totP L + a ∧ totP (apN L k a t) = totP L) ∨ (apE L k a t = 0 ∧ totP L + a ≤ 5000000000000 ∧ totP (apN L k a t) = totP L + a) := by
  unfold apN
  unfold apE
  rw [if_pos hp]
  by_cases h1 : (fndP L k).isSome = true
  · rw [if_pos h1]; exact Or.inl rfl
  rw [if_neg h1, if_neg (by omega)]
  by_cases h2 : 5000000000000 < totP L + a
  · rw [if_pos h2]
    refine Or.inr (Or.inl ⟨rfl, h2, ?_⟩)
    rw [if_neg (by decide)]
  · rw [if_neg h2]
    refine Or.inr (Or.inr ⟨rfl, by omega, ?_⟩)
    rw [if_pos rfl]
    exact ap_tot
set_option maxHeartbeats 6400000 in
theorem full17_any (hN : LgNew) (A : Option Addr) (cc : Nat) (X : List Ap) (a : Int) (w : World) (hX : ∀ x ∈ X, x.k.size ≤ maxLen ∧ x.t.size ≤ maxLen) (hact : LiS apEnc w A X) :
    Calls Try.prog 7 #[.slice A X.length cc, .int .i64 a] w fun e w' => e = .returned (.bool true) ∧ Below w.heap.size w w' := by
  have HS := Lib.hid (small17_any hN w)
  have HN := Lib.hid (fun w1 (hb : Below w.heap.size w w1) => hN w w1 hb)
  have HACT := Lib.hid hact
  have HX := Lib.hid hX
  clear hN hX hact
  go_enter Try.func7, Try.ntmps7
  go_wp2_with fail
  refine HS.out.mono ?_
  rintro e w1 ⟨rfl, hb1⟩
  have HB1 := Lib.hid hb1
  clear hb1
  go_wp2_with fail
  refine (HN.out w1 HB1.out).mono ?_
  rintro e w2 ⟨G, LA, O, rfl, hkit, ha, _, _⟩
  have HK := Lib.hid hkit
  have HP := Lib.hid (show KL LA (fun _ => False) w2 w2 [] from ⟨O, ha, fun k hk => absurd hk id⟩)
  clear hkit ha HN HS
  go_wp2_with fail
  go_loopw [7] (fun i wr => ∃ (k : Nat) (L : List Po), i = .int .i64 k ∧ k ≤ X.length ∧ k ≤ 60 ∧ KL LA (fun _ => False) w2 wr L) (fun i _ => X.length - (intOf i).toNat)
  case atStart => exact ⟨0, [], rfl, Nat.zero_le _, Nat.zero_le _, HP.out⟩
  case round =>
    obtain ⟨k, L, rfl, hk, hk60, hp⟩ := hrel
    have HPR := Lib.hid hp
    clear hp HP
    by_cases hlt : k < X.length ∧ k < 60
    · obtain ⟨hl1, hl2⟩ := hlt
      have hki : (k : Int) < X.length := by omega
      have hk2i : (k : Int) < 60 := by omega
      have hk3 : ¬ (k : Int) < 0 := by omega
      obtain ⟨B, o, rfl, hBl, a0, a1, a2, a3⟩ := ap_at (HACT.out.chgS (ChgS.of_below (S := fun _ => False) (HPR.out.bel HK.out)) (fun _ _ _ h => h)) hl1
      have HXC := Lib.hid (HX.out _ (List.getElem_mem hl1))
      generalize X[k] = x at *
      have HDO := Lib.hid (KL.do HK.out HPR.out x HXC.out.1 HXC.out.2)
      go_wp2_with fail
      refine HDO.out.mono ?_
      rintro e w3 ⟨rfl, h⟩
      have H3 := Lib.hid h
      clear h HDO HPR a0 a1 a2 a3
      go_wp2_with fail
      go_roundw
      case rel => exact ⟨k + 1, _, by go_num, by omega, by omega, H3.out⟩
      case measure => simp [intOf]; omega
    · have HBE := Lib.hid (HPR.out.bel HK.out)
      have HOK := Lib.hid (HPR.out.ok HK.out)
      have hend : ¬ (k : Int) < X.length ∨ (k : Int) < X.length ∧ ¬ (k : Int) < 60 := by omega
      rcases hend with hz1 | ⟨hz1, hz2⟩
      all_goals
        by_cases h1 : a < 0
        · go_wp2_with fail
          go_ret
          exact ⟨rfl, HBE.out⟩
        by_cases h2 : 999999999999 < a
        · go_wp2_with fail
          go_ret
          exact ⟨rfl, HBE.out⟩
        go_wp2_with fail
        refine (KL.list HK.out HPR.out).mono ?_
        rintro e w3 ⟨v, rfl, ho, hq, _⟩
        obtain ⟨A3, c3, rfl, _⟩ := ho.slice
        have H3 := Lib.hid hq
        have HB3 := Lib.hid (H3.out.bel HK.out)
        clear ho hq
        by_cases h3 : 24 ≤ L.length
        · have h3i : (24 : Int) ≤ L.length := by omega
          go_wp2_with fail
          go_ret
          exact ⟨rfl, HB3.out⟩
        have h3i : ¬ (24 : Int) ≤ L.length := by omega
        have HT := Lib.hid (fun O (h : LA w3 L O) => HK.out.total w3 L O h)
        have HW := Lib.hid (ap_ways (L := L) (k := kOwn) (a := a) (t := p0) (decide_eq_true ⟨by decide, by omega, by decide⟩) (by omega))
        have ht0 := totP_nn HOK.out.each
        have htB := HOK.out.tot
        go_wp2_with fail
        refine (KL.call H3.out HT.out).mono ?_
        rintro e w4 ⟨rfl, h⟩
        have H4 := Lib.hid h
        clear h HT
        have HA := Lib.hid (fun O (h : LA w4 L O) => HK.out.approve w4 L O kOwn a p0 h (by decide) (by decide))
        go_wp2_with fail
        refine (KL.call H4.out HA.out).mono ?_
        rintro e w5 ⟨rfl, h⟩
        have H5 := Lib.hid h
        have HB5 := Lib.hid (H5.out.bel HK.out)
        clear h HA
        have HT5 := Lib.hid (fun O (h : LA w5 (apN L kOwn a p0) O) => HK.out.total w5 _ O h)
        have hw : IntKind.i64.wrap (totP L + a) = totP L + a := by rw [IntKind.wrap_i64]; omega
        rcases HW.out with e1 | ⟨e1, e2, e3⟩ | ⟨e1, e2, e3⟩
        · rw [e1]
          go_wp2_with fail
          go_ret
          exact ⟨rfl, HB5.out⟩
        · rw [e1]
          rw [e3] at HT5
          have d1 : decide (totP L + a ≤ 5000000000000) = false := decide_eq_false (by omega)
          clear e1 e3
          generalize totP L = T at *
          go_wp2_with fail
          refine (KL.call H5.out HT5.out).mono ?_
          rintro e w6 ⟨rfl, h⟩
          have HB6 := Lib.hid (KL.bel HK.out h)
          clear h
          go_wp2_with fail
          go_ret
          exact ⟨rfl, HB6.out⟩
        · rw [e1]
          rw [e3] at HT5
          have d1 : decide (totP L + a ≤ 5000000000000) = true := decide_eq_true (by omega)
          clear e1 e3
          generalize totP L = T at *
          go_wp2_with fail
          refine (KL.call H5.out HT5.out).mono ?_
          rintro e w6 ⟨rfl, h⟩
          have HB6 := Lib.hid (KL.bel HK.out h)
          clear h
          go_wp2_with fail
          go_ret
          exact ⟨rfl, HB6.out⟩
end Go.Proofs.Ytlglkfgephilnaa
