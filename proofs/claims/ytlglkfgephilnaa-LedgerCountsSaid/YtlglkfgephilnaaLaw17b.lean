/- Law LedgerCounts (layer 17). Written by specs/mklaw17b.py. -/
import Derived.Test.YtlglkfgephilnaaLaw17a
namespace Go.Proofs.Ytlglkfgephilnaa
set_option maxRecDepth 100000
open Go.RowKit
theorem mrk_len (L : List Po) (k : ByteArray) : (mrk L k).length = L.length := by unfold mrk; rw [List.length_map]
theorem rv_len (L : List Po) (k : ByteArray) : (rvN L k).length = L.length := by
  unfold rvN
  split
  · exact mrk_len L k
  · rfl
/-- how many posts there are behind an act -/
theorem cnt_ways {L : List Po} {x : Ap} (ok : LgOk L) :
    (x.d = 0 ∧ dvE L x = 0 ∧ (dvN L x).length = L.length + 1) ∨ (x.d = 0 ∧ dvE L x = 14 ∧ (dvN L x).length = L.length ∧ L.length = 24) ∨ (x.d = 0 ∧ dvE L x ≠ 0 ∧ dvE L x ≠ 14 ∧ (dvN L x).length = L.length) ∨
    (x.d = 3 ∧ (dvN L x).length = 0) ∨ (x.d ≠ 0 ∧ x.d ≠ 3 ∧ (dvN L x).length = L.length) := by
  by_cases h0 : x.d = 0
  · have e2 : dvE L x = apE L x.k x.a x.t := if_pos h0
    have e3 : dvN L x = apN L x.k x.a x.t := if_pos h0
    rw [e2, e3]
    unfold apN
    by_cases h1 : apE L x.k x.a x.t = 0
    · rw [if_pos h1, List.length_append]
      exact Or.inl ⟨h0, h1, rfl⟩
    · rw [if_neg h1]
      by_cases h2 : apE L x.k x.a x.t = 14
      · refine Or.inr (Or.inl ⟨h0, h2, rfl, ?_⟩)
        unfold apE at h2
        have hf := ok.few
        split at h2
        · split at h2
          · cases h2
          · split at h2
            · omega
            · split at h2 <;> cases h2
        · cases h2
      · exact Or.inr (Or.inr (Or.inl ⟨h0, h1, h2, rfl⟩))
  · by_cases h3 : x.d = 3
    · have e3 : dvN L x = [] := (if_neg h0).trans ((if_neg (by omega)).trans (if_pos h3))
      rw [e3]
      exact Or.inr (Or.inr (Or.inr (Or.inl ⟨h3, rfl⟩)))
    · refine Or.inr (Or.inr (Or.inr (Or.inr ⟨h0, h3, ?_⟩)))
      by_cases h1 : x.d = 1
      · have e3 : dvN L x = rvN L x.k := (if_neg h0).trans (if_pos h1)
        rw [e3]
        exact rv_len L x.k
      · have e3 : dvN L x = L := (if_neg h0).trans ((if_neg h1).trans (if_neg h3))
        rw [e3]
theorem ask_own {L : List Po} (ok : LgOk L) {j : Nat} (hj : j < L.length) : akP L L[j].k = L[j] ∧ akB L L[j].k = true := by
  have h := fndP_of ok.apart (List.getElem_mem hj)
  unfold akP akB
  rw [h]
  exact ⟨rfl, rfl⟩
set_option maxHeartbeats 6400000 in
theorem counts17_any (hN : LgNew) (A : Option Addr) (cc : Nat) (X : List Ap) (w : World) (hX : ∀ x ∈ X, x.k.size ≤ maxLen ∧ x.t.size ≤ maxLen) (hact : LiS apEnc w A X) :
    Calls Try.prog 6 #[.slice A X.length cc] w fun e w' => e = .returned (.bool true) ∧ Below w.heap.size w w' := by
  have HS := Lib.hid (small17_any hN w)
  have HN := Lib.hid (fun w1 (hb : Below w.heap.size w w1) => hN w w1 hb)
  have HACT := Lib.hid hact
  have HX := Lib.hid hX
  clear hN hX hact
  go_enter Try.func6, Try.ntmps6
  go_wp2_with fail
  refine HS.out.mono ?_
  rintro e w1 ⟨rfl, hb1⟩
  have HB1 := Lib.hid hb1
  clear hb1
  go_wp2_with fail
  refine (HN.out w1 HB1.out).mono ?_
  rintro e w2 ⟨G, LA, O, rfl, hkit, ha, _, _⟩
  have HK := Lib.hid hkit
  have HP := Lib.hid (show KL LA (fun _ => False) w2 w2 [] from ⟨O, ha, fun k hk => absurd hk id⟩)
  clear hkit ha HN HS
  go_wp2_with fail
  go_loopw [5, 6] (fun n i wr => ∃ (k : Nat) (L : List Po), n = .int .i64 ((L.length : Nat) : Int) ∧ i = .int .i64 k ∧ k ≤ X.length ∧ k ≤ 150 ∧ KL LA (fun _ => False) w2 wr L) (fun _ i _ => X.length - (intOf i).toNat)
  case atStart => exact ⟨0, [], rfl, rfl, Nat.zero_le _, Nat.zero_le _, HP.out⟩
  case round =>
    obtain ⟨wr2, hwr2⟩ : ∃ W, W = wr := ⟨_, rfl⟩
    subst hwr2
    obtain ⟨k, L, rfl, rfl, hk, hk150, hp⟩ := hrel
    have HPR := Lib.hid hp
    clear hp HP
    by_cases hlt : k < X.length ∧ k < 150
    · obtain ⟨hl1, hl2⟩ := hlt
      have hki : (k : Int) < X.length := by omega
      have hk2i : (k : Int) < 150 := by omega
      have hk3 : ¬ (k : Int) < 0 := by omega
      obtain ⟨B, o, rfl, hBl, a0, a1, a2, a3⟩ := ap_at (HACT.out.chgS (ChgS.of_below (S := fun _ => False) (HPR.out.bel HK.out)) (fun _ _ _ h => h)) hl1
      have HRW := Lib.hid (show ∀ W, Below w.heap.size w W → W.cell? ⟨B, o + k * 4, none⟩ = some (.int .i64 X[k].d) from fun W hb => by
        obtain ⟨B', o', e, _, b0, _⟩ := ap_at (HACT.out.chgS (ChgS.of_below (S := fun _ => False) hb) (fun _ _ _ h => h)) hl1
        injection e with e
        injection e with e1 e2 _
        rw [e1, e2]
        exact b0)
      have HXC := Lib.hid (HX.out _ (List.getElem_mem hl1))
      generalize X[k] = x at *
      have HDO := Lib.hid (KL.do HK.out HPR.out x HXC.out.1 HXC.out.2)
      have HOK := Lib.hid (HPR.out.ok HK.out)
      have HCW := Lib.hid (cnt_ways (x := x) HOK.out)
      have hl24 : (L.length : Int) ≤ 24 := by have := HOK.out.few; omega
      go_wp2_with fail
      refine HDO.out.mono ?_
      rintro e w3 ⟨rfl, h⟩
      have H3 := Lib.hid h
      have a4 := HRW.out w3 (h.bel HK.out)
      clear h HDO HPR a0 a1 a2 a3 HXC HOK
      obtain ⟨L1, hL1⟩ : ∃ L1, dvN L x = L1 := ⟨_, rfl⟩
      obtain ⟨E, hE⟩ : ∃ E, dvE L x = E := ⟨_, rfl⟩
      obtain ⟨Vv, hV⟩ : ∃ V, dvV L x = V := ⟨_, rfl⟩
      rw [hL1] at H3 HCW
      rw [hE] at HCW ⊢
      rw [hV]
      clear hL1 hE hV
      rcases HCW.out with ⟨q0, q1, q2⟩ | ⟨q0, q1, q2, q3⟩ | ⟨q0, q1, q2, q3⟩ | ⟨q0, q1⟩ | ⟨q0, q1, q2⟩
      · skip
        have qe : (E == 0) = true := by simpa using q1
        have qf : (((L1.length : Nat) : Int) != (L.length : Int) + 1) = false := by simp [q2]
        have qn : ((L.length : Int) + 1) = ((L1.length : Nat) : Int) := by omega
        have qm : (E == 14) = false := by rw [q1]; rfl
        have HQN := Lib.hid qn
        clear qn q2
        clear HCW
        have HRC := a4
        go_wp2_with fail
        refine (KL.list HK.out H3.out).mono ?_
        rintro e w4 ⟨v, rfl, ho, _, hq⟩
        obtain ⟨A4, c4, rfl, _⟩ := ho.slice
        have HO4 := Lib.hid ho
        have H4 := Lib.hid hq
        have HOK4 := Lib.hid (hq.ok HK.out)
        have a5 := HRW.out w4 (hq.bel HK.out)
        have hl24' : (L1.length : Int) ≤ 24 := by have := HOK4.out.few; omega
        have hg24 : ¬ (24 : Int) < (L.length : Int) + 1 := by first | omega | (have := HQN.out; omega)
        clear ho hq H3 HRC a4
        go_wp2_with fail
        go_loopw [10] (fun i wr3 => ∃ j : Nat, j ≤ L1.length ∧ i = .int .i64 j ∧ KL LA (fun k => False ∨ (Value.slice A4 L1.length c4).ownBlock = some k) w4 wr3 L1) (fun i _ => L1.length - (intOf i).toNat)
        case atStart => exact ⟨0, Nat.zero_le _, rfl, H4.out⟩
        case round =>
          obtain ⟨wr3, hwr3⟩ : ∃ W, W = wr := ⟨_, rfl⟩
          subst hwr3
          obtain ⟨j, hj, rfl, hp⟩ := hrel
          have HQ := Lib.hid hp
          clear hp H4
          by_cases hlt : j < L1.length
          · have hji : (j : Int) < L1.length := by omega
            have hj0 : ¬ (j : Int) < 0 := by omega
            have HROW := Lib.hid (show ∀ W, KL LA (fun k => False ∨ (Value.slice A4 L1.length c4).ownBlock = some k) w4 W L1 → OwL poE 31 W w3.heap.size (.slice A4 L1.length c4) L1 from fun W h => h.row HO4.out (fun k hk => Or.inr hk))
            have hAg : ∃ g, A4 = some ⟨g, 0, none⟩ := by
              obtain ⟨g, c', e, _, _, _⟩ := HO4.out.lies (by omega)
              injection e with e1 _ _
              exact ⟨g, e1⟩
            obtain ⟨g, rfl⟩ := hAg
            obtain ⟨_, ⟨d0, d1, d2, d3⟩, _⟩ := po_own (HROW.out _ HQ.out) hlt
            have HPO := Lib.hid (show ∀ W, KL LA (fun k => False ∨ (Value.slice (some ⟨g, 0, none⟩) L1.length c4).ownBlock = some k) w4 W L1 → _ from fun W h => (po_own (HROW.out W h) hlt).2.1)
            have HAK := Lib.hid (ask_own HOK4.out hlt)
            have HKS := Lib.hid (HOK4.out.each _ (List.getElem_mem hlt)).k40
            generalize L1[j] = y at *
            have HC := Lib.hid (fun O (h : LA wr3 L1 O) => HK.out.ask wr3 L1 O y.k h (Nat.le_trans HKS.out (by decide)))
            rw [HAK.out.1, HAK.out.2] at HC
            go_wp2_with fail
            refine (KL.call HQ.out HC.out).mono ?_
            rintro e w5 ⟨rfl, h⟩
            have hz := alloc_below w5 (.cells #[.string y.k, .int .i64 y.a, .int .i64 y.s, .string y.t] 31)
            have hu := po_cells (heap_alloc_new w5 (.cells #[.string y.k, .int .i64 y.a, .int .i64 y.s, .string y.t] 31))
            obtain ⟨u0, u1, u2, u3⟩ := hu
            have H6 := Lib.hid (KL.below HK.out h hz)
            obtain ⟨d0, d1, d2, d3⟩ := HPO.out _ H6.out
            have hne := fun w => run_neqPo y y w
            have hdd : decide (y ≠ y) = false := by simp
            rw [hdd] at hne
            clear h hz HC hdd
            go_wp2_with fail
            generalize w5.alloc (.cells #[.string y.k, .int .i64 y.a, .int .i64 y.s, .string y.t] 31) = w6 at *
            go_quiet (fail)
            have H7 := Lib.hid (KL.below HK.out H6.out (drawn (Below.refl _ w6) nq))
            clear hne u0 u1 u2 u3 d0 d1 d2 d3
            go_wp2_with fail
            go_roundw
            case rel => exact ⟨j + 1, by omega, by go_num, H7.out⟩
            case measure => simp [intOf]; omega
          · obtain rfl : j = L1.length := by omega
            have H8 := Lib.hid (show KL LA (fun _ => False) w2 wr3 L1 from HQ.out.free w2)
            go_wp2_with fail
            go_roundw
            case rel => exact ⟨k + 1, L1, by rw [HQN.out], by go_num, by omega, by omega, H8.out⟩
            case measure => simp [intOf]; omega
      · skip
        have qe : (E == 0) = false := by rw [q1]; rfl
        have qf : (((L1.length : Nat) : Int) != ((L.length : Nat) : Int)) = false := by simp [q2]
        have qm : (E == 14) = true := by rw [q1]; rfl
        have qo : (((L.length : Nat) : Int) != 24) = false := by rw [q3]; rfl
        have HQN := Lib.hid (show ((L.length : Nat) : Int) = ((L1.length : Nat) : Int) by rw [q2])
        clear q2 q3
        clear HCW
        have HRC := a4
        go_wp2_with fail
        refine (KL.list HK.out H3.out).mono ?_
        rintro e w4 ⟨v, rfl, ho, _, hq⟩
        obtain ⟨A4, c4, rfl, _⟩ := ho.slice
        have HO4 := Lib.hid ho
        have H4 := Lib.hid hq
        have HOK4 := Lib.hid (hq.ok HK.out)
        have a5 := HRW.out w4 (hq.bel HK.out)
        have hl24' : (L1.length : Int) ≤ 24 := by have := HOK4.out.few; omega
        have hg24 : ¬ (24 : Int) < ((L.length : Nat) : Int) := by first | omega | (have := HQN.out; omega)
        clear ho hq H3 HRC a4
        go_wp2_with fail
        go_loopw [10] (fun i wr3 => ∃ j : Nat, j ≤ L1.length ∧ i = .int .i64 j ∧ KL LA (fun k => False ∨ (Value.slice A4 L1.length c4).ownBlock = some k) w4 wr3 L1) (fun i _ => L1.length - (intOf i).toNat)
        case atStart => exact ⟨0, Nat.zero_le _, rfl, H4.out⟩
        case round =>
          obtain ⟨wr3, hwr3⟩ : ∃ W, W = wr := ⟨_, rfl⟩
          subst hwr3
          obtain ⟨j, hj, rfl, hp⟩ := hrel
          have HQ := Lib.hid hp
          clear hp H4
          by_cases hlt : j < L1.length
          · have hji : (j : Int) < L1.length := by omega
            have hj0 : ¬ (j : Int) < 0 := by omega
            have HROW := Lib.hid (show ∀ W, KL LA (fun k => False ∨ (Value.slice A4 L1.length c4).ownBlock = some k) w4 W L1 → OwL poE 31 W w3.heap.size (.slice A4 L1.length c4) L1 from fun W h => h.row HO4.out (fun k hk => Or.inr hk))
            have hAg : ∃ g, A4 = some ⟨g, 0, none⟩ := by
              obtain ⟨g, c', e, _, _, _⟩ := HO4.out.lies (by omega)
              injection e with e1 _ _
              exact ⟨g, e1⟩
            obtain ⟨g, rfl⟩ := hAg
            obtain ⟨_, ⟨d0, d1, d2, d3⟩, _⟩ := po_own (HROW.out _ HQ.out) hlt
            have HPO := Lib.hid (show ∀ W, KL LA (fun k => False ∨ (Value.slice (some ⟨g, 0, none⟩) L1.length c4).ownBlock = some k) w4 W L1 → _ from fun W h => (po_own (HROW.out W h) hlt).2.1)
            have HAK := Lib.hid (ask_own HOK4.out hlt)
            have HKS := Lib.hid (HOK4.out.each _ (List.getElem_mem hlt)).k40
            generalize L1[j] = y at *
            have HC := Lib.hid (fun O (h : LA wr3 L1 O) => HK.out.ask wr3 L1 O y.k h (Nat.le_trans HKS.out (by decide)))
            rw [HAK.out.1, HAK.out.2] at HC
            go_wp2_with fail
            refine (KL.call HQ.out HC.out).mono ?_
            rintro e w5 ⟨rfl, h⟩
            have hz := alloc_below w5 (.cells #[.string y.k, .int .i64 y.a, .int .i64 y.s, .string y.t] 31)
            have hu := po_cells (heap_alloc_new w5 (.cells #[.string y.k, .int .i64 y.a, .int .i64 y.s, .string y.t] 31))
            obtain ⟨u0, u1, u2, u3⟩ := hu
            have H6 := Lib.hid (KL.below HK.out h hz)
            obtain ⟨d0, d1, d2, d3⟩ := HPO.out _ H6.out
            have hne := fun w => run_neqPo y y w
            have hdd : decide (y ≠ y) = false := by simp
            rw [hdd] at hne
            clear h hz HC hdd
            go_wp2_with fail
            generalize w5.alloc (.cells #[.string y.k, .int .i64 y.a, .int .i64 y.s, .string y.t] 31) = w6 at *
            go_quiet (fail)
            have H7 := Lib.hid (KL.below HK.out H6.out (drawn (Below.refl _ w6) nq))
            clear hne u0 u1 u2 u3 d0 d1 d2 d3
            go_wp2_with fail
            go_roundw
            case rel => exact ⟨j + 1, by omega, by go_num, H7.out⟩
            case measure => simp [intOf]; omega
          · obtain rfl : j = L1.length := by omega
            have H8 := Lib.hid (show KL LA (fun _ => False) w2 wr3 L1 from HQ.out.free w2)
            go_wp2_with fail
            go_roundw
            case rel => exact ⟨k + 1, L1, by rw [HQN.out], by go_num, by omega, by omega, H8.out⟩
            case measure => simp [intOf]; omega
      · skip
        have qe : (E == 0) = false := by simpa using q1
        have qf : (((L1.length : Nat) : Int) != ((L.length : Nat) : Int)) = false := by simp [q3]
        have qm : (E == 14) = false := by simpa using q2
        have HQN := Lib.hid (show ((L.length : Nat) : Int) = ((L1.length : Nat) : Int) by rw [q3])
        clear q3
        clear HCW
        have HRC := a4
        go_wp2_with fail
        refine (KL.list HK.out H3.out).mono ?_
        rintro e w4 ⟨v, rfl, ho, _, hq⟩
        obtain ⟨A4, c4, rfl, _⟩ := ho.slice
        have HO4 := Lib.hid ho
        have H4 := Lib.hid hq
        have HOK4 := Lib.hid (hq.ok HK.out)
        have a5 := HRW.out w4 (hq.bel HK.out)
        have hl24' : (L1.length : Int) ≤ 24 := by have := HOK4.out.few; omega
        have hg24 : ¬ (24 : Int) < ((L.length : Nat) : Int) := by first | omega | (have := HQN.out; omega)
        clear ho hq H3 HRC a4
        go_wp2_with fail
        go_loopw [10] (fun i wr3 => ∃ j : Nat, j ≤ L1.length ∧ i = .int .i64 j ∧ KL LA (fun k => False ∨ (Value.slice A4 L1.length c4).ownBlock = some k) w4 wr3 L1) (fun i _ => L1.length - (intOf i).toNat)
        case atStart => exact ⟨0, Nat.zero_le _, rfl, H4.out⟩
        case round =>
          obtain ⟨wr3, hwr3⟩ : ∃ W, W = wr := ⟨_, rfl⟩
          subst hwr3
          obtain ⟨j, hj, rfl, hp⟩ := hrel
          have HQ := Lib.hid hp
          clear hp H4
          by_cases hlt : j < L1.length
          · have hji : (j : Int) < L1.length := by omega
            have hj0 : ¬ (j : Int) < 0 := by omega
            have HROW := Lib.hid (show ∀ W, KL LA (fun k => False ∨ (Value.slice A4 L1.length c4).ownBlock = some k) w4 W L1 → OwL poE 31 W w3.heap.size (.slice A4 L1.length c4) L1 from fun W h => h.row HO4.out (fun k hk => Or.inr hk))
            have hAg : ∃ g, A4 = some ⟨g, 0, none⟩ := by
              obtain ⟨g, c', e, _, _, _⟩ := HO4.out.lies (by omega)
              injection e with e1 _ _
              exact ⟨g, e1⟩
            obtain ⟨g, rfl⟩ := hAg
            obtain ⟨_, ⟨d0, d1, d2, d3⟩, _⟩ := po_own (HROW.out _ HQ.out) hlt
            have HPO := Lib.hid (show ∀ W, KL LA (fun k => False ∨ (Value.slice (some ⟨g, 0, none⟩) L1.length c4).ownBlock = some k) w4 W L1 → _ from fun W h => (po_own (HROW.out W h) hlt).2.1)
            have HAK := Lib.hid (ask_own HOK4.out hlt)
            have HKS := Lib.hid (HOK4.out.each _ (List.getElem_mem hlt)).k40
            generalize L1[j] = y at *
            have HC := Lib.hid (fun O (h : LA wr3 L1 O) => HK.out.ask wr3 L1 O y.k h (Nat.le_trans HKS.out (by decide)))
            rw [HAK.out.1, HAK.out.2] at HC
            go_wp2_with fail
            refine (KL.call HQ.out HC.out).mono ?_
            rintro e w5 ⟨rfl, h⟩
            have hz := alloc_below w5 (.cells #[.string y.k, .int .i64 y.a, .int .i64 y.s, .string y.t] 31)
            have hu := po_cells (heap_alloc_new w5 (.cells #[.string y.k, .int .i64 y.a, .int .i64 y.s, .string y.t] 31))
            obtain ⟨u0, u1, u2, u3⟩ := hu
            have H6 := Lib.hid (KL.below HK.out h hz)
            obtain ⟨d0, d1, d2, d3⟩ := HPO.out _ H6.out
            have hne := fun w => run_neqPo y y w
            have hdd : decide (y ≠ y) = false := by simp
            rw [hdd] at hne
            clear h hz HC hdd
            go_wp2_with fail
            generalize w5.alloc (.cells #[.string y.k, .int .i64 y.a, .int .i64 y.s, .string y.t] 31) = w6 at *
            go_quiet (fail)
            have H7 := Lib.hid (KL.below HK.out H6.out (drawn (Below.refl _ w6) nq))
            clear hne u0 u1 u2 u3 d0 d1 d2 d3
            go_wp2_with fail
            go_roundw
            case rel => exact ⟨j + 1, by omega, by go_num, H7.out⟩
            case measure => simp [intOf]; omega
          · obtain rfl : j = L1.length := by omega
            have H8 := Lib.hid (show KL LA (fun _ => False) w2 wr3 L1 from HQ.out.free w2)
            go_wp2_with fail
            go_roundw
            case rel => exact ⟨k + 1, L1, by rw [HQN.out], by go_num, by omega, by omega, H8.out⟩
            case measure => simp [intOf]; omega
      · skip
        have qf : (((L1.length : Nat) : Int) != 0) = false := by simp [q1]
        have HQN := Lib.hid (show (0 : Int) = ((L1.length : Nat) : Int) by rw [q1]; rfl)
        clear q1
        clear HCW
        have HRC := a4
        go_wp2_with fail
        refine (KL.list HK.out H3.out).mono ?_
        rintro e w4 ⟨v, rfl, ho, _, hq⟩
        obtain ⟨A4, c4, rfl, _⟩ := ho.slice
        have HO4 := Lib.hid ho
        have H4 := Lib.hid hq
        have HOK4 := Lib.hid (hq.ok HK.out)
        have a5 := HRW.out w4 (hq.bel HK.out)
        have hl24' : (L1.length : Int) ≤ 24 := by have := HOK4.out.few; omega
        have hg24 : ¬ (24 : Int) < (0 : Int) := by first | omega | (have := HQN.out; omega)
        clear ho hq H3 HRC a4
        go_wp2_with fail
        go_loopw [10] (fun i wr3 => ∃ j : Nat, j ≤ L1.length ∧ i = .int .i64 j ∧ KL LA (fun k => False ∨ (Value.slice A4 L1.length c4).ownBlock = some k) w4 wr3 L1) (fun i _ => L1.length - (intOf i).toNat)
        case atStart => exact ⟨0, Nat.zero_le _, rfl, H4.out⟩
        case round =>
          obtain ⟨wr3, hwr3⟩ : ∃ W, W = wr := ⟨_, rfl⟩
          subst hwr3
          obtain ⟨j, hj, rfl, hp⟩ := hrel
          have HQ := Lib.hid hp
          clear hp H4
          by_cases hlt : j < L1.length
          · have hji : (j : Int) < L1.length := by omega
            have hj0 : ¬ (j : Int) < 0 := by omega
            have HROW := Lib.hid (show ∀ W, KL LA (fun k => False ∨ (Value.slice A4 L1.length c4).ownBlock = some k) w4 W L1 → OwL poE 31 W w3.heap.size (.slice A4 L1.length c4) L1 from fun W h => h.row HO4.out (fun k hk => Or.inr hk))
            have hAg : ∃ g, A4 = some ⟨g, 0, none⟩ := by
              obtain ⟨g, c', e, _, _, _⟩ := HO4.out.lies (by omega)
              injection e with e1 _ _
              exact ⟨g, e1⟩
            obtain ⟨g, rfl⟩ := hAg
            obtain ⟨_, ⟨d0, d1, d2, d3⟩, _⟩ := po_own (HROW.out _ HQ.out) hlt
            have HPO := Lib.hid (show ∀ W, KL LA (fun k => False ∨ (Value.slice (some ⟨g, 0, none⟩) L1.length c4).ownBlock = some k) w4 W L1 → _ from fun W h => (po_own (HROW.out W h) hlt).2.1)
            have HAK := Lib.hid (ask_own HOK4.out hlt)
            have HKS := Lib.hid (HOK4.out.each _ (List.getElem_mem hlt)).k40
            generalize L1[j] = y at *
            have HC := Lib.hid (fun O (h : LA wr3 L1 O) => HK.out.ask wr3 L1 O y.k h (Nat.le_trans HKS.out (by decide)))
            rw [HAK.out.1, HAK.out.2] at HC
            go_wp2_with fail
            refine (KL.call HQ.out HC.out).mono ?_
            rintro e w5 ⟨rfl, h⟩
            have hz := alloc_below w5 (.cells #[.string y.k, .int .i64 y.a, .int .i64 y.s, .string y.t] 31)
            have hu := po_cells (heap_alloc_new w5 (.cells #[.string y.k, .int .i64 y.a, .int .i64 y.s, .string y.t] 31))
            obtain ⟨u0, u1, u2, u3⟩ := hu
            have H6 := Lib.hid (KL.below HK.out h hz)
            obtain ⟨d0, d1, d2, d3⟩ := HPO.out _ H6.out
            have hne := fun w => run_neqPo y y w
            have hdd : decide (y ≠ y) = false := by simp
            rw [hdd] at hne
            clear h hz HC hdd
            go_wp2_with fail
            generalize w5.alloc (.cells #[.string y.k, .int .i64 y.a, .int .i64 y.s, .string y.t] 31) = w6 at *
            go_quiet (fail)
            have H7 := Lib.hid (KL.below HK.out H6.out (drawn (Below.refl _ w6) nq))
            clear hne u0 u1 u2 u3 d0 d1 d2 d3
            go_wp2_with fail
            go_roundw
            case rel => exact ⟨j + 1, by omega, by go_num, H7.out⟩
            case measure => simp [intOf]; omega
          · obtain rfl : j = L1.length := by omega
            have H8 := Lib.hid (show KL LA (fun _ => False) w2 wr3 L1 from HQ.out.free w2)
            go_wp2_with fail
            go_roundw
            case rel => exact ⟨k + 1, L1, by rw [HQN.out], by go_num, by omega, by omega, H8.out⟩
            case measure => simp [intOf]; omega
      · skip
        have q3 : (x.d == 0) = false := by simpa using q0
        have q4 : (x.d == 3) = false := by simpa using q1
        have qf : (((L1.length : Nat) : Int) != ((L.length : Nat) : Int)) = false := by simp [q2]
        have HQN := Lib.hid (show ((L.length : Nat) : Int) = ((L1.length : Nat) : Int) by rw [q2])
        clear q2
        clear HCW
        have HRC := a4
        go_wp2_with fail
        refine (KL.list HK.out H3.out).mono ?_
        rintro e w4 ⟨v, rfl, ho, _, hq⟩
        obtain ⟨A4, c4, rfl, _⟩ := ho.slice
        have HO4 := Lib.hid ho
        have H4 := Lib.hid hq
        have HOK4 := Lib.hid (hq.ok HK.out)
        have a5 := HRW.out w4 (hq.bel HK.out)
        have hl24' : (L1.length : Int) ≤ 24 := by have := HOK4.out.few; omega
        have hg24 : ¬ (24 : Int) < ((L.length : Nat) : Int) := by first | omega | (have := HQN.out; omega)
        clear ho hq H3 HRC a4
        go_wp2_with fail
        go_loopw [10] (fun i wr3 => ∃ j : Nat, j ≤ L1.length ∧ i = .int .i64 j ∧ KL LA (fun k => False ∨ (Value.slice A4 L1.length c4).ownBlock = some k) w4 wr3 L1) (fun i _ => L1.length - (intOf i).toNat)
        case atStart => exact ⟨0, Nat.zero_le _, rfl, H4.out⟩
        case round =>
          obtain ⟨wr3, hwr3⟩ : ∃ W, W = wr := ⟨_, rfl⟩
          subst hwr3
          obtain ⟨j, hj, rfl, hp⟩ := hrel
          have HQ := Lib.hid hp
          clear hp H4
          by_cases hlt : j < L1.length
          · have hji : (j : Int) < L1.length := by omega
            have hj0 : ¬ (j : Int) < 0 := by omega
            have HROW := Lib.hid (show ∀ W, KL LA (fun k => False ∨ (Value.slice A4 L1.length c4).ownBlock = some k) w4 W L1 → OwL poE 31 W w3.heap.size (.slice A4 L1.length c4) L1 from fun W h => h.row HO4.out (fun k hk => Or.inr hk))
            have hAg : ∃ g, A4 = some ⟨g, 0, none⟩ := by
              obtain ⟨g, c', e, _, _, _⟩ := HO4.out.lies (by omega)
              injection e with e1 _ _
              exact ⟨g, e1⟩
            obtain ⟨g, rfl⟩ := hAg
            obtain ⟨_, ⟨d0, d1, d2, d3⟩, _⟩ := po_own (HROW.out _ HQ.out) hlt
            have HPO := Lib.hid (show ∀ W, KL LA (fun k => False ∨ (Value.slice (some ⟨g, 0, none⟩) L1.length c4).ownBlock = some k) w4 W L1 → _ from fun W h => (po_own (HROW.out W h) hlt).2.1)
            have HAK := Lib.hid (ask_own HOK4.out hlt)
            have HKS := Lib.hid (HOK4.out.each _ (List.getElem_mem hlt)).k40
            generalize L1[j] = y at *
            have HC := Lib.hid (fun O (h : LA wr3 L1 O) => HK.out.ask wr3 L1 O y.k h (Nat.le_trans HKS.out (by decide)))
            rw [HAK.out.1, HAK.out.2] at HC
            go_wp2_with fail
            refine (KL.call HQ.out HC.out).mono ?_
            rintro e w5 ⟨rfl, h⟩
            have hz := alloc_below w5 (.cells #[.string y.k, .int .i64 y.a, .int .i64 y.s, .string y.t] 31)
            have hu := po_cells (heap_alloc_new w5 (.cells #[.string y.k, .int .i64 y.a, .int .i64 y.s, .string y.t] 31))
            obtain ⟨u0, u1, u2, u3⟩ := hu
            have H6 := Lib.hid (KL.below HK.out h hz)
            obtain ⟨d0, d1, d2, d3⟩ := HPO.out _ H6.out
            have hne := fun w => run_neqPo y y w
            have hdd : decide (y ≠ y) = false := by simp
            rw [hdd] at hne
            clear h hz HC hdd
            go_wp2_with fail
            generalize w5.alloc (.cells #[.string y.k, .int .i64 y.a, .int .i64 y.s, .string y.t] 31) = w6 at *
            go_quiet (fail)
            have H7 := Lib.hid (KL.below HK.out H6.out (drawn (Below.refl _ w6) nq))
            clear hne u0 u1 u2 u3 d0 d1 d2 d3
            go_wp2_with fail
            go_roundw
            case rel => exact ⟨j + 1, by omega, by go_num, H7.out⟩
            case measure => simp [intOf]; omega
          · obtain rfl : j = L1.length := by omega
            have H8 := Lib.hid (show KL LA (fun _ => False) w2 wr3 L1 from HQ.out.free w2)
            go_wp2_with fail
            go_roundw
            case rel => exact ⟨k + 1, L1, by rw [HQN.out], by go_num, by omega, by omega, H8.out⟩
            case measure => simp [intOf]; omega
    · have HBE := Lib.hid (HPR.out.bel HK.out)
      have hend : ¬ (k : Int) < X.length ∨ (k : Int) < X.length ∧ ¬ (k : Int) < 150 := by omega
      rcases hend with hz1 | ⟨hz1, hz2⟩
      all_goals
        go_wp2_with fail
        go_ret
        exact ⟨rfl, HBE.out⟩
end Go.Proofs.Ytlglkfgephilnaa
