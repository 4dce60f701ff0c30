/- Contracts of package aes: mixing. -/
import Derived.Test.YtgfdnhpfdbaddaaAesD
namespace Go.Proofs.Ytgfdnhpfdbaddaa
open Go.RowKit

theorem mix_col (f : Nat → Nat) (q : Nat) : mixc f (4 * q) = mx (f (4 * q)) (f (4 * q + 1)) (f (4 * q + 2)) (f (4 * q + 3)) ∧ mixc f (4 * q + 1) = mx (f (4 * q + 1)) (f (4 * q + 2)) (f (4 * q + 3)) (f (4 * q)) ∧
    mixc f (4 * q + 2) = mx (f (4 * q + 2)) (f (4 * q + 3)) (f (4 * q)) (f (4 * q + 1)) ∧ mixc f (4 * q + 3) = mx (f (4 * q + 3)) (f (4 * q)) (f (4 * q + 1)) (f (4 * q + 2)) := by
  refine ⟨?_, ?_, ?_, ?_⟩
  · unfold mixc
    rw [show 4 * (4 * q / 4) + 4 * q % 4 = 4 * q by omega, show 4 * (4 * q / 4) + (4 * q + 1) % 4 = 4 * q + 1 by omega, show 4 * (4 * q / 4) + (4 * q + 2) % 4 = 4 * q + 2 by omega, show 4 * (4 * q / 4) + (4 * q + 3) % 4 = 4 * q + 3 by omega]
  · unfold mixc
    rw [show 4 * ((4 * q + 1) / 4) + (4 * q + 1) % 4 = 4 * q + 1 by omega, show 4 * ((4 * q + 1) / 4) + (4 * q + 1 + 1) % 4 = 4 * q + 2 by omega, show 4 * ((4 * q + 1) / 4) + (4 * q + 1 + 2) % 4 = 4 * q + 3 by omega, show 4 * ((4 * q + 1) / 4) + (4 * q + 1 + 3) % 4 = 4 * q by omega]
  · unfold mixc
    rw [show 4 * ((4 * q + 2) / 4) + (4 * q + 2) % 4 = 4 * q + 2 by omega, show 4 * ((4 * q + 2) / 4) + (4 * q + 2 + 1) % 4 = 4 * q + 3 by omega, show 4 * ((4 * q + 2) / 4) + (4 * q + 2 + 2) % 4 = 4 * q by omega, show 4 * ((4 * q + 2) / 4) + (4 * q + 2 + 3) % 4 = 4 * q + 1 by omega]
  · unfold mixc
    rw [show 4 * ((4 * q + 3) / 4) + (4 * q + 3) % 4 = 4 * q + 3 by omega, show 4 * ((4 * q + 3) / 4) + (4 * q + 3 + 1) % 4 = 4 * q by omega, show 4 * ((4 * q + 3) / 4) + (4 * q + 3 + 2) % 4 = 4 * q + 1 by omega, show 4 * ((4 * q + 3) / 4) + (4 * q + 3 + 3) % 4 = 4 * q + 2 by omega]

set_option maxRecDepth 100000 in
set_option maxHeartbeats 3200000 in
theorem mix_any (g s : Nat) (f : Nat → Nat) (w : World) (hD : Arr w g 756 256 dbl) (hs : Arr w s 0 16 f) (hf : By 16 f) (hne : g ≠ s) :
    Calls Try.prog 37 #[.pointer (some ⟨g, 0, none⟩), .pointer (some ⟨s, 0, none⟩)] w fun e w' => e = .returned (.tuple #[]) ∧ Arr w' s 0 16 (mixc f) ∧ Chg s w w' := by
  have HS := Lib.hid hs
  have HD := Lib.hid hD
  have HF := Lib.hid hf
  have HNE := Lib.hid hne
  clear hs hD hf hne
  go_enter Try.func37, Try.ntmps37
  go_wp2_with fail
  go_loopw [4] (fun v wr => ∃ q : Nat, q ≤ 4 ∧ v = .int .i64 ((4 * q : Nat) : Int) ∧ Arr wr s 0 16 (fun j => if j < 4 * q then mixc f j else f j) ∧ Chg s w wr) (fun v _ => 16 - (intOf v).toNat)
  case atStart => exact ⟨0, by decide, rfl, HS.out.congr fun j _ => (if_neg (Nat.not_lt_zero _)).symm, Chg.refl _ _⟩
  case round =>
    obtain ⟨q, hq, rfl, h1, h2⟩ := hrel
    have H1 := Lib.hid h1
    have H2 := Lib.hid h2
    have H3 := Lib.hid (HD.out.chg h2 HNE.out)
    clear h1 h2
    have HMC := Lib.hid (mix_col f q)
    obtain ⟨c, hc⟩ : ∃ c, 4 * q = c := ⟨_, rfl⟩
    rw [hc] at H1 HMC ⊢
    have HCQ := Lib.hid hc
    clear hc
    by_cases hlt : c < 16
    · have hc12 : c + 3 < 16 := by have := HCQ.out; omega
      have hsl := sl_arr 72 16 s 0 c (c + 4) Try.underlying72 (by omega) (by omega) (by omega) (c : Int) ((c : Int) + 4) rfl (by omega)
      rw [show c + 4 - c = 4 by omega, Nat.zero_add] at hsl
      have hpa := to_arr 92 4 5 Try.underlying92 (some ⟨s, c, none⟩) 4 (16 - c) (Nat.le_refl _)
      have hcl : ∀ i, i < 4 → wr.cell? ⟨s, c + i, none⟩ = some (.int .u8 (f (c + i) : Nat)) := fun i hi => by
        have := H1.out.cell (j := c + i) (k := c + i) (by omega) (Nat.zero_add _).symm
        rw [if_neg (by omega)] at this
        exact this
      have l0 : f (c) < 256 := HF.out _ (by omega)
      have hc0 : wr.cell? ⟨s, c, none⟩ = some (.int .u8 (f (c) : Nat)) := hcl 0 (by decide)
      have l1 : f (c + 1) < 256 := HF.out _ (by omega)
      have hc1 : wr.cell? ⟨s, c + 1, none⟩ = some (.int .u8 (f (c + 1) : Nat)) := hcl 1 (by decide)
      have l2 : f (c + 2) < 256 := HF.out _ (by omega)
      have hc2 : wr.cell? ⟨s, c + 2, none⟩ = some (.int .u8 (f (c + 2) : Nat)) := hcl 2 (by decide)
      have l3 : f (c + 3) < 256 := HF.out _ (by omega)
      have hc3 : wr.cell? ⟨s, c + 3, none⟩ = some (.int .u8 (f (c + 3) : Nat)) := hcl 3 (by decide)
      clear hcl
      generalize ha0 : f (c) = a0 at *
      generalize ha1 : f (c + 1) = a1 at *
      generalize ha2 : f (c + 2) = a2 at *
      generalize ha3 : f (c + 3) = a3 at *
      have HA := Lib.hid (show f c = a0 ∧ f (c + 1) = a1 ∧ f (c + 2) = a2 ∧ f (c + 3) = a3 from ⟨ha0, ha1, ha2, ha3⟩)
      clear ha0 ha1 ha2 ha3
      have p1 := x8 l0 l1
      have m1 := xor8 l0 l1
      have p2 := x8 m1 l2
      have m2 := xor8 m1 l2
      have p3 := x8 m2 l3
      have m3 := xor8 m2 l3
      have q1 := x8 l1 l2
      have n1 := xor8 l1 l2
      have q2 := x8 l2 l3
      have n2 := xor8 l2 l3
      have q3 := x8 l3 l0
      have n3 := xor8 l3 l0
      have d0 := dbl_lt m1
      have r0 := x8 m3 d0
      have u0 := xor8 m3 d0
      have v0 := x8 l0 u0
      have d1 := dbl_lt n1
      have r1 := x8 m3 d1
      have u1 := xor8 m3 d1
      have v1 := x8 l1 u1
      have d2 := dbl_lt n2
      have r2 := x8 m3 d2
      have u2 := xor8 m3 d2
      have v2 := x8 l2 u2
      have d3 := dbl_lt n3
      have r3 := x8 m3 d3
      have u3 := xor8 m3 d3
      have v3 := x8 l3 u3
      have HY0 := Lib.hid (show mixc f (c) = a0 ^^^ ((((a0 ^^^ a1) ^^^ a2) ^^^ a3) ^^^ dbl (a0 ^^^ a1)) by
        rw [HMC.out.1, ← mx_code a2 a3 l0 l1])
      have HY1 := Lib.hid (show mixc f (c + 1) = a1 ^^^ ((((a0 ^^^ a1) ^^^ a2) ^^^ a3) ^^^ dbl (a1 ^^^ a2)) by
        rw [HMC.out.2.1, ← mx_code a3 a0 l1 l2]
        congr 2
        ac_rfl)
      have HY2 := Lib.hid (show mixc f (c + 2) = a2 ^^^ ((((a0 ^^^ a1) ^^^ a2) ^^^ a3) ^^^ dbl (a2 ^^^ a3)) by
        rw [HMC.out.2.2.1, ← mx_code a0 a1 l2 l3]
        congr 2
        ac_rfl)
      have HY3 := Lib.hid (show mixc f (c + 3) = a3 ^^^ ((((a0 ^^^ a1) ^^^ a2) ^^^ a3) ^^^ dbl (a3 ^^^ a0)) by
        rw [HMC.out.2.2.2, ← mx_code a1 a2 l3 l0]
        congr 2
        ac_rfl)
      have HD0 := Lib.hid fun (W : World) (h : Arr W g 756 256 dbl) => h.cell (j := a0 ^^^ a1) m1 rfl
      have HD1 := Lib.hid fun (W : World) (h : Arr W g 756 256 dbl) => h.cell (j := a1 ^^^ a2) n1 rfl
      have HD2 := Lib.hid fun (W : World) (h : Arr W g 756 256 dbl) => h.cell (j := a2 ^^^ a3) n2 rfl
      have HD3 := Lib.hid fun (W : World) (h : Arr W g 756 256 dbl) => h.cell (j := a3 ^^^ a0) n3 rfl
      clear HMC
      generalize a0 ^^^ ((((a0 ^^^ a1) ^^^ a2) ^^^ a3) ^^^ dbl (a0 ^^^ a1)) = Y0 at *
      generalize ((((a0 ^^^ a1) ^^^ a2) ^^^ a3) ^^^ dbl (a0 ^^^ a1)) = E0 at *
      generalize dbl (a0 ^^^ a1) = D0 at *
      generalize a1 ^^^ ((((a0 ^^^ a1) ^^^ a2) ^^^ a3) ^^^ dbl (a1 ^^^ a2)) = Y1 at *
      generalize ((((a0 ^^^ a1) ^^^ a2) ^^^ a3) ^^^ dbl (a1 ^^^ a2)) = E1 at *
      generalize dbl (a1 ^^^ a2) = D1 at *
      generalize a2 ^^^ ((((a0 ^^^ a1) ^^^ a2) ^^^ a3) ^^^ dbl (a2 ^^^ a3)) = Y2 at *
      generalize ((((a0 ^^^ a1) ^^^ a2) ^^^ a3) ^^^ dbl (a2 ^^^ a3)) = E2 at *
      generalize dbl (a2 ^^^ a3) = D2 at *
      generalize a3 ^^^ ((((a0 ^^^ a1) ^^^ a2) ^^^ a3) ^^^ dbl (a3 ^^^ a0)) = Y3 at *
      generalize ((((a0 ^^^ a1) ^^^ a2) ^^^ a3) ^^^ dbl (a3 ^^^ a0)) = E3 at *
      generalize dbl (a3 ^^^ a0) = D3 at *
      generalize (((a0 ^^^ a1) ^^^ a2) ^^^ a3) = T at *
      generalize (a0 ^^^ a1) ^^^ a2 = T2 at *
      generalize a0 ^^^ a1 = X0 at *
      generalize a1 ^^^ a2 = X1 at *
      generalize a2 ^^^ a3 = X2 at *
      generalize a3 ^^^ a0 = X3 at *
      go_wp2_with fail
      go_quiet (fail)
      have H1q := Lib.hid (H1.out.drewN nq)
      have H2q := Lib.hid (H2.out.drewN nq)
      have H3q := Lib.hid (H3.out.drewN nq)
      generalize wr.drewN nq = W0 at *
      clear hc0 hc1 hc2 hc3 hsl hpa
      have hca := H1q.out.cell (j := c) (k := c) (by omega) (Nat.zero_add _).symm
      have hfa := H1q.out.frozen (j := c) (k := c) (by omega) (Nat.zero_add _).symm
      rw [if_neg (Nat.lt_irrefl _), HA.out.1] at hca
      have hda := HD0.out _ H3q.out
      have G1 := Lib.hid (((H1q.out.set (i := c) (k := c) (by omega) (Nat.zero_add _).symm Y0 rfl).congr fun j _ => upto_step f (mixc f) (c) _ HY0.out j).drew)
      have K1 := Lib.hid ((H2q.out.setCell (a := ⟨s, c, none⟩) (Or.inl rfl) (.int .u8 (Y0 : Nat))).drew)
      have M1 := Lib.hid ((H3q.out.setOther (a := ⟨s, c, none⟩) HNE.out (.int .u8 (Y0 : Nat))).drew)
      go_wp2_with fail
      go_region
      all_goals
        generalize (W0.setCell ⟨s, c, none⟩ (.int .u8 (Y0 : Nat))).drew = W1 at *
        clear hca hfa hda
        have hca := G1.out.cell (j := c + 1) (k := c + 1) (by omega) (Nat.zero_add _).symm
        have hfa := G1.out.frozen (j := c + 1) (k := c + 1) (by omega) (Nat.zero_add _).symm
        rw [if_neg (Nat.lt_irrefl _), HA.out.2.1] at hca
        have hda := HD1.out _ M1.out
        have G2 := Lib.hid (((G1.out.set (i := c + 1) (k := c + 1) (by omega) (Nat.zero_add _).symm Y1 rfl).congr fun j _ => upto_step f (mixc f) (c + 1) _ HY1.out j).drew)
        have K2 := Lib.hid ((K1.out.setCell (a := ⟨s, c + 1, none⟩) (Or.inl rfl) (.int .u8 (Y1 : Nat))).drew)
        have M2 := Lib.hid ((M1.out.setOther (a := ⟨s, c + 1, none⟩) HNE.out (.int .u8 (Y1 : Nat))).drew)
        go_wp2_with fail
        go_region
      all_goals
        generalize (W1.setCell ⟨s, c + 1, none⟩ (.int .u8 (Y1 : Nat))).drew = W2 at *
        clear hca hfa hda
        have hca := G2.out.cell (j := c + 2) (k := c + 2) (by omega) (Nat.zero_add _).symm
        have hfa := G2.out.frozen (j := c + 2) (k := c + 2) (by omega) (Nat.zero_add _).symm
        rw [if_neg (Nat.lt_irrefl _), HA.out.2.2.1] at hca
        have hda := HD2.out _ M2.out
        have G3 := Lib.hid (((G2.out.set (i := c + 2) (k := c + 2) (by omega) (Nat.zero_add _).symm Y2 rfl).congr fun j _ => upto_step f (mixc f) (c + 2) _ HY2.out j).drew)
        have K3 := Lib.hid ((K2.out.setCell (a := ⟨s, c + 2, none⟩) (Or.inl rfl) (.int .u8 (Y2 : Nat))).drew)
        have M3 := Lib.hid ((M2.out.setOther (a := ⟨s, c + 2, none⟩) HNE.out (.int .u8 (Y2 : Nat))).drew)
        go_wp2_with fail
        go_region
      all_goals
        generalize (W2.setCell ⟨s, c + 2, none⟩ (.int .u8 (Y2 : Nat))).drew = W3 at *
        clear hca hfa hda
        have hca := G3.out.cell (j := c + 3) (k := c + 3) (by omega) (Nat.zero_add _).symm
        have hfa := G3.out.frozen (j := c + 3) (k := c + 3) (by omega) (Nat.zero_add _).symm
        rw [if_neg (Nat.lt_irrefl _), HA.out.2.2.2] at hca
        have hda := HD3.out _ M3.out
        have G4 := Lib.hid (((G3.out.set (i := c + 3) (k := c + 3) (by omega) (Nat.zero_add _).symm Y3 rfl).congr fun j _ => upto_step f (mixc f) (c + 3) _ HY3.out j).drew)
        have K4 := Lib.hid ((K3.out.setCell (a := ⟨s, c + 3, none⟩) (Or.inl rfl) (.int .u8 (Y3 : Nat))).drew)
        have M4 := Lib.hid ((M3.out.setOther (a := ⟨s, c + 3, none⟩) HNE.out (.int .u8 (Y3 : Nat))).drew)
        go_wp2_with fail
        go_region
      all_goals
        generalize (W3.setCell ⟨s, c + 3, none⟩ (.int .u8 (Y3 : Nat))).drew = W4 at *
        clear hca hfa hda
        go_wp2_with fail
        go_roundw
        case rel => exact ⟨q + 1, by have := HCQ.out; omega, by have := HCQ.out; go_num, G4.out.congr fun j _ => by rw [show 4 * (q + 1) = c + 3 + 1 by have := HCQ.out; omega], K4.out⟩
        case measure => simp [intOf]; omega
    · have h16 : c = 16 := by have := HCQ.out; omega
      have HR := Lib.hid (H1.out.congr (f := mixc f) fun j hj => if_pos (by omega))
      clear h16
      go_wp2_with fail
      go_end0
      exact ⟨rfl, HR.out, H2.out⟩
end Go.Proofs.Ytgfdnhpfdbaddaa
