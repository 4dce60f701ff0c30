/- Law LedgerAgain (layer 17). -/
import Derived.Test.YtlglkfgephilnaaLaw17a
import Derived.Test.YtlglkfgephilnaaRef17S
namespace Go.Proofs.Ytlglkfgephilnaa
set_option maxRecDepth 100000
open Go.RowKit
/-- two ledgers, and blocks S that are as they were in w0; all apart -/
def TwoL (LA LB : World → List Po → (Nat → Prop) → Prop) (S : Nat → Prop) (w0 w : World) (L M : List Po) : Prop :=
  ∃ O P, LA w L O ∧ LB w M P ∧ (∀ k, O k → ¬ P k) ∧ ∀ k, S k → ¬ O k ∧ ¬ P k ∧ k < w.heap.size ∧ w.heap[k]? = w0.heap[k]?
section
variable {u w w' w0 : World} {G G' : Nat} {LA LB : World → List Po → (Nat → Prop) → Prop} {S : Nat → Prop} {L M L1 : List Po} {f : FuncId} {args : Array Value} {r : Value}
theorem TwoL.swap (h : TwoL LA LB S w0 w L M) : TwoL LB LA S w0 w M L := by
  obtain ⟨O, P, h1, h2, h3, h4⟩ := h
  exact ⟨P, O, h2, h1, fun k hp ho => h3 k ho hp, fun k hk => ⟨(h4 k hk).2.1, (h4 k hk).1, (h4 k hk).2.2⟩⟩
theorem TwoL.bel (hK : LgKit u G LA) (h : TwoL LA LB S w0 w L M) : Below u.heap.size u w := by
  obtain ⟨O, P, h1, _⟩ := h
  exact hK.bel _ _ _ h1
theorem TwoL.ok (hK : LgKit u G LA) (h : TwoL LA LB S w0 w L M) : LgOk L := by
  obtain ⟨O, P, h1, _⟩ := h
  exact hK.ok _ _ _ h1
theorem TwoL.free (h : TwoL LA LB S w0 w L M) (w1 : World) : TwoL LA LB (fun _ => False) w1 w L M := by
  obtain ⟨O, P, h1, h2, h3, _⟩ := h
  exact ⟨O, P, h1, h2, h3, fun k hk => absurd hk id⟩
theorem TwoL.below (hK : LgKit u G LA) (hK' : LgKit u G' LB) (h : TwoL LA LB S w0 w L M) (hb : Below w.heap.size w w') : TwoL LA LB S w0 w' L M := by
  obtain ⟨O, P, h1, h2, h3, h4⟩ := h
  exact ⟨O, P, hK.below h1 hb, hK'.below h2 hb, h3, fun k hk => ⟨(h4 k hk).1, (h4 k hk).2.1, Nat.lt_of_lt_of_le (h4 k hk).2.2.1 hb.size, (hb.block k (h4 k hk).2.2.1).trans (h4 k hk).2.2.2⟩⟩
theorem TwoL.step {O P : Nat → Prop} (hK : LgKit u G LA) (hK' : LgKit u G' LB) (h1 : LB w M P) (h2 : LgStep LA w O w' L1) (h3 : ∀ k, O k → ¬ P k) (h0 : LA w L O) (h4 : ∀ k, S k → ¬ O k ∧ ¬ P k ∧ k < w.heap.size ∧ w.heap[k]? = w0.heap[k]?) : TwoL LA LB S w0 w' L1 M := by
  obtain ⟨O1, k1, k2, k3⟩ := h2
  refine ⟨O1, P, k1, hK'.keep _ _ _ _ _ h1 k2 (fun k hk => ⟨(hK.own _ _ _ h0 k hk).1, h3 k hk⟩), fun k hk hp => ?_, fun k hk => ⟨fun hx => ?_, (h4 k hk).2.1, Nat.lt_of_lt_of_le (h4 k hk).2.2.1 k2.size, (k2.block k (h4 k hk).2.2.1 (h4 k hk).1).trans (h4 k hk).2.2.2⟩⟩
  · rcases k3 k hk with h | h
    · exact h3 k h hp
    · have := (hK'.own _ _ _ h1 k hp).2; omega
  · rcases k3 k hx with h | h
    · exact (h4 k hk).1 h
    · have := (h4 k hk).2.2.1; omega
/-- a call of the first one -/
theorem TwoL.left (hK : LgKit u G LA) (hK' : LgKit u G' LB) (h : TwoL LA LB S w0 w L M) (hc : ∀ O, LA w L O → Calls Try.prog f args w fun e w' => e = .returned r ∧ LgStep LA w O w' L1) : Calls Try.prog f args w fun e w' => e = .returned r ∧ TwoL LA LB S w0 w' L1 M := by
  obtain ⟨O, P, h1, h2, h3, h4⟩ := h
  exact (hc O h1).mono fun e w' ⟨he, hs⟩ => ⟨he, TwoL.step hK hK' h2 hs h3 h1 h4⟩
theorem TwoL.right (hK : LgKit u G LA) (hK' : LgKit u G' LB) (h : TwoL LA LB S w0 w M L) (hc : ∀ O, LB w L O → Calls Try.prog f args w fun e w' => e = .returned r ∧ LgStep LB w O w' L1) : Calls Try.prog f args w fun e w' => e = .returned r ∧ TwoL LA LB S w0 w' M L1 :=
  (TwoL.left hK' hK h.swap hc).mono fun _ _ ⟨h1, h2⟩ => ⟨h1, h2.swap⟩
/-- the first one's list -/
theorem TwoL.list (hK : LgKit u G LA) (hK' : LgKit u G' LB) (h : TwoL LA LB S w0 w L M) : Calls Try.prog 25 #[.pointer (some ⟨G, 0, none⟩)] w fun e w' => ∃ v, e = .returned v ∧ OwL poE 31 w' w.heap.size v L ∧ TwoL LA LB S w0 w' L M ∧ TwoL LA LB (fun k => S k ∨ v.ownBlock = some k) w' w' L M := by
  obtain ⟨O, P, h1, h2, h3, h4⟩ := h
  refine (hK.list w L O h1).mono ?_
  rintro e w' ⟨v, O1, he, ho, hv, k1, k2, k3⟩
  have hs := TwoL.step (S := S) (w0 := w0) hK hK' h2 ⟨O1, k1, k2, k3⟩ h3 h1 h4
  refine ⟨v, he, ho, hs, O1, P, k1, hK'.keep _ _ _ _ _ h2 k2 (fun k hk => ⟨(hK.own _ _ _ h1 k hk).1, h3 k hk⟩), fun k hk hp => ?_, fun k hk => ?_⟩
  · rcases k3 k hk with h | h
    · exact h3 k h hp
    · have := (hK'.own _ _ _ h2 k hp).2; omega
  · rcases hk with hk | hk
    · refine ⟨fun hx => ?_, (h4 k hk).2.1, Nat.lt_of_lt_of_le (h4 k hk).2.2.1 k2.size, rfl⟩
      rcases k3 k hx with h | h
      · exact (h4 k hk).1 h
      · have := (h4 k hk).2.2.1; omega
    · have hl := ho.lt k hk
      exact ⟨hv k hk, fun hp => by have := (hK'.own _ _ _ h2 k hp).2; omega, hl.2, rfl⟩
theorem TwoL.list' (hK : LgKit u G LA) (hK' : LgKit u G' LB) (h : TwoL LA LB S w0 w L M) : Calls Try.prog 25 #[.pointer (some ⟨G', 0, none⟩)] w fun e w' => ∃ v, e = .returned v ∧ OwL poE 31 w' w.heap.size v M ∧ TwoL LA LB S w0 w' L M :=
  (TwoL.list hK' hK h.swap).mono fun _ _ ⟨v, h1, h2, h3, _⟩ => ⟨v, h1, h2, h3.swap⟩
theorem TwoL.row {v : Value} {b : Nat} {F : List Po} (h : TwoL LA LB S w0 w L M) (ho : OwL poE 31 w0 b v F) (hv : ∀ k, v.ownBlock = some k → S k) : OwL poE 31 w b v F := by
  obtain ⟨O, P, _, _, _, h4⟩ := h
  rcases ho with ⟨h1, h2 | ⟨g, cap, cur, e, hg, hh, r⟩⟩
  · exact ⟨h1, Or.inl h2⟩
  · exact ⟨h1, Or.inr ⟨g, cap, cur, e, hg, ((h4 g (hv g (by rw [e]; rfl))).2.2.2).trans hh, r⟩⟩
end
set_option maxHeartbeats 6400000 in
theorem again17_any (hN : LgNew) (hRs : LgRes) (A : Option Addr) (cc : Nat) (X : List Ap) (Az : Option Addr) (cz : Nat) (Y : List Ap) (w : World) (hX : ∀ x ∈ X, x.k.size ≤ maxLen ∧ x.t.size ≤ maxLen) (hact : LiS apEnc w A X) (hY : ∀ x ∈ Y, x.k.size ≤ maxLen ∧ x.t.size ≤ maxLen) (hmore : LiS apEnc w Az Y) :
    Calls Try.prog 5 #[.slice A X.length cc, .slice Az Y.length cz] w fun e w' => e = .returned (.bool true) ∧ Below w.heap.size w w' := by
  have HS := Lib.hid (small17_any hN w)
  have HN := Lib.hid (fun w1 (hb : Below w.heap.size w w1) => hN w w1 hb)
  have HRS := Lib.hid (fun w1 A c F (hb : Below w.heap.size w w1) h1 h2 => hRs.good w w1 A c F hb h1 h2)
  have HACT := Lib.hid hact
  have HX := Lib.hid hX
  have HMO := Lib.hid hmore
  have HY := Lib.hid hY
  clear hN hRs hX hact hY hmore
  go_enter Try.func5, Try.ntmps5
  go_wp2_with fail
  refine HS.out.mono ?_
  rintro e w1 ⟨rfl, hb1⟩
  have HB1 := Lib.hid hb1
  clear hb1
  go_wp2_with fail
  refine (HN.out w1 HB1.out).mono ?_
  rintro e w2 ⟨G, LA, O, rfl, hkit, ha, _, _⟩
  have HK := Lib.hid hkit
  have HP := Lib.hid (show KL LA (fun _ => False) w2 w2 [] from ⟨O, ha, fun k hk => absurd hk id⟩)
  clear hkit ha HN HS
  go_wp2_with fail
  go_loopw [7] (fun i wr => ∃ (k : Nat) (L : List Po), i = .int .i64 k ∧ k ≤ X.length ∧ k ≤ 100 ∧ KL LA (fun _ => False) w2 wr L) (fun i _ => X.length - (intOf i).toNat)
  case atStart => exact ⟨0, [], rfl, Nat.zero_le _, Nat.zero_le _, HP.out⟩
  case round =>
    obtain ⟨wr2, hwr2⟩ : ∃ W, W = wr := ⟨_, rfl⟩
    subst hwr2
    obtain ⟨k, L, rfl, hk, hk60, hp⟩ := hrel
    have HPR := Lib.hid hp
    clear hp HP
    by_cases hlt : k < X.length ∧ k < 100
    · obtain ⟨hl1, hl2⟩ := hlt
      have hki : (k : Int) < X.length := by omega
      have hk2i : (k : Int) < 100 := by omega
      have hk3 : ¬ (k : Int) < 0 := by omega
      obtain ⟨B, o, rfl, hBl, a0, a1, a2, a3⟩ := ap_at (HACT.out.chgS (ChgS.of_below (S := fun _ => False) (HPR.out.bel HK.out)) (fun _ _ _ h => h)) hl1
      have HXC := Lib.hid (HX.out _ (List.getElem_mem hl1))
      generalize X[k] = x at *
      have HDO := Lib.hid (KL.do HK.out HPR.out x HXC.out.1 HXC.out.2)
      go_wp2_with fail
      refine HDO.out.mono ?_
      rintro e w3 ⟨rfl, h⟩
      have H3 := Lib.hid h
      clear h HDO HPR a0 a1 a2 a3
      go_wp2_with fail
      go_roundw
      case rel => exact ⟨k + 1, _, by go_num, by omega, by omega, H3.out⟩
      case measure => simp [intOf]; omega
    · have hend : ¬ (k : Int) < X.length ∨ (k : Int) < X.length ∧ ¬ (k : Int) < 100 := by omega
      rcases hend with hz1 | ⟨hz1, hz2⟩
      all_goals
        go_wp2_with fail
        refine (KL.list HK.out HPR.out).mono ?_
        rintro e w3 ⟨v, rfl, ho, hq, _⟩
        obtain ⟨A3, c3, rfl, hl3⟩ := ho.slice
        have H3 := Lib.hid hq
        have HB3 := Lib.hid (hq.bel HK.out)
        have HR3 := Lib.hid (HRS.out w3 A3 c3 L HB3.out hl3 (hq.ok HK.out))
        clear ho hq hl3
        go_wp2_with fail
        refine HR3.out.mono ?_
        rintro e w4 ⟨G', LB, P, rfl, hkit, hb, hPn, hbw⟩
        have HK' := Lib.hid hkit
        have HT4 := Lib.hid (show TwoL LA LB (fun _ => False) w4 w4 L L from by
          obtain ⟨O', h1, _⟩ := H3.out
          exact ⟨O', P, HK.out.below h1 hbw, hb, fun k hk hp => by have := (HK.out.own _ _ _ h1 k hk).2; have := hPn k hp; omega, fun k hk => absurd hk id⟩)
        clear hkit hb hPn hbw HR3 H3
        go_wp2_with fail
        go_loopw [10] (fun i wr => ∃ (j : Nat) (M : List Po), i = .int .i64 j ∧ j ≤ Y.length ∧ j ≤ 100 ∧ TwoL LA LB (fun _ => False) w4 wr M M) (fun i _ => Y.length - (intOf i).toNat)
        case atStart => exact ⟨0, L, rfl, Nat.zero_le _, Nat.zero_le _, HT4.out⟩
        case round =>
          obtain ⟨wr3, hwr3⟩ : ∃ W, W = wr := ⟨_, rfl⟩
          subst hwr3
          obtain ⟨j, M, rfl, hj, hj100, hp⟩ := hrel
          have HU := Lib.hid hp
          clear hp HT4
          by_cases hlt : j < Y.length ∧ j < 100
          · obtain ⟨hj1, hj2⟩ := hlt
            have hji : (j : Int) < Y.length := by omega
            have hj2i : (j : Int) < 100 := by omega
            have hj3 : ¬ (j : Int) < 0 := by omega
            obtain ⟨B, o, rfl, hBl, a0, a1, a2, a3⟩ := ap_at (HMO.out.chgS (ChgS.of_below (S := fun _ => False) (HU.out.bel HK.out)) (fun _ _ _ h => h)) hj1
            have HRW := Lib.hid (show ∀ W, Below w.heap.size w W → W.cell? ⟨B, o + j * 4, none⟩ = some (.int .i64 Y[j].d) ∧ W.cell? ⟨B, o + j * 4 + 1, none⟩ = some (.string Y[j].k) ∧ W.cell? ⟨B, o + j * 4 + 2, none⟩ = some (.string Y[j].t) ∧ W.cell? ⟨B, o + j * 4 + 3, none⟩ = some (.int .i64 Y[j].a) from fun W hb => by
              obtain ⟨B', o', e, _, b⟩ := ap_at (HMO.out.chgS (ChgS.of_below (S := fun _ => False) hb) (fun _ _ _ h => h)) hj1
              injection e with e
              injection e with e1 e2 _
              rw [e1, e2]
              exact b)
            have HXC := Lib.hid (HY.out _ (List.getElem_mem hj1))
            generalize Y[j] = y at *
            have HD1 := Lib.hid (fun O (h : LA wr3 M O) => do17_any HK.out h y HXC.out.1 HXC.out.2)
            go_wp2_with fail
            refine (TwoL.left HK.out HK'.out HU.out HD1.out).mono ?_
            rintro e w5 ⟨rfl, h⟩
            have H5 := Lib.hid h
            have HD2 := Lib.hid (fun O (h : LB w5 M O) => do17_any HK'.out h y HXC.out.1 HXC.out.2)
            obtain ⟨b0, b1, b2, b3⟩ := HRW.out w5 (h.bel HK.out)
            clear h HD1 HU a0 a1 a2 a3
            go_wp2_with fail
            refine (TwoL.right HK.out HK'.out H5.out HD2.out).mono ?_
            rintro e w6 ⟨rfl, h⟩
            have H6 := Lib.hid h
            clear h HD2 H5 b0 b1 b2 b3 HRW
            generalize dvN M y = M1 at *
            generalize dvV M y = dv at *
            generalize dvE M y = de at *
            have q1 : (dv != dv) = false := by simp
            have q2 : (de != de) = false := by simp
            have q3 : (totP M1 != totP M1) = false := by simp
            have HT1 := Lib.hid (fun O (h : LA w6 M1 O) => HK.out.total w6 M1 O h)
            go_wp2_with fail
            refine (TwoL.left HK.out HK'.out H6.out HT1.out).mono ?_
            rintro e w7 ⟨rfl, h⟩
            have H7 := Lib.hid h
            have HT2 := Lib.hid (fun O (h : LB w7 M1 O) => HK'.out.total w7 M1 O h)
            clear h HT1 H6
            go_wp2_with fail
            refine (TwoL.right HK.out HK'.out H7.out HT2.out).mono ?_
            rintro e w8 ⟨rfl, h⟩
            have H8 := Lib.hid h
            clear h HT2 H7
            generalize totP M1 = T at *
            go_wp2_with fail
            refine (TwoL.list HK.out HK'.out H8.out).mono ?_
            rintro e w9 ⟨v9, rfl, ho9, _, hq⟩
            obtain ⟨A9, c9, rfl, _⟩ := ho9.slice
            have H9 := Lib.hid hq
            have HO9 := Lib.hid ho9
            clear hq ho9 H8
            go_wp2_with fail
            refine (TwoL.list' HK.out HK'.out H9.out).mono ?_
            rintro e w10 ⟨v10, rfl, ho10, hq⟩
            obtain ⟨A10, c10, rfl, hl10⟩ := ho10.slice
            have H10 := Lib.hid hq
            have hl9 : LiS poE w10 A9 M1 := by
              obtain ⟨_, _, e, h⟩ := (hq.row HO9.out (fun k hk => Or.inr hk)).slice
              injection e with e1 _ _
              rw [e1]; exact h
            have hm24 := (hq.ok HK.out).few
            have HSM := rsame17_any A9 c9 M1 A10 c10 M1 w10 hl9 hl10 (by omega) (by omega)
            simp only [decide_true] at HSM
            clear hq ho10 hl10 hl9 hm24
            go_wp2_with fail
            refine HSM.mono ?_
            rintro e w11 ⟨rfl, hb11⟩
            have H11 := Lib.hid ((H10.out.below HK.out HK'.out hb11).free w4)
            clear HSM hb11
            go_wp2_with fail
            go_roundw
            case rel => exact ⟨j + 1, M1, by go_num, by omega, by omega, H11.out⟩
            case measure => simp [intOf]; omega
          · have hend : ¬ (j : Int) < Y.length ∨ (j : Int) < Y.length ∧ ¬ (j : Int) < 100 := by omega
            have HT1 := Lib.hid (fun O (h : LA wr3 M O) => HK.out.total wr3 M O h)
            have q3 : (totP M == totP M) = true := by simp
            rcases hend with hy1 | ⟨hy1, hy2⟩
            all_goals
              go_wp2_with fail
              refine (TwoL.left HK.out HK'.out HU.out HT1.out).mono ?_
              rintro e w7 ⟨rfl, h⟩
              have H7 := Lib.hid h
              have HT2 := Lib.hid (fun O (h : LB w7 M O) => HK'.out.total w7 M O h)
              clear h HT1
              go_wp2_with fail
              refine (TwoL.right HK.out HK'.out H7.out HT2.out).mono ?_
              rintro e w8 ⟨rfl, h⟩
              have HB8 := Lib.hid (h.bel HK.out)
              clear h HT2 H7
              go_wp2_with fail
              go_ret
              exact ⟨rfl, HB8.out⟩
end Go.Proofs.Ytlglkfgephilnaa
