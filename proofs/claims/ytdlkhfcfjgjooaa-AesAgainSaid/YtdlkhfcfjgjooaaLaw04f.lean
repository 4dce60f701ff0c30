/- AesAgain. -/
import Derived.Test.YtdlkhfcfjgjooaaLaw04e
import Derived.Deep.Matrix
namespace Go.Proofs.Ytdlkhfcfjgjooaa
open Go.RowKit

/-- a row of rows of bytes that came in -/
def RowsIn (w : World) (AB : Option Addr) (nb : Nat) : Prop :=
  0 < nb → ∃ B o, AB = some ⟨B, o, none⟩ ∧ B < w.heap.size ∧ ∀ j, j < nb → ∃ (R : Option Addr) (l c : Nat) (f : Nat → Nat), w.cell? ⟨B, o + j, none⟩ = some (.slice R l c) ∧ SlB w R l f ∧ l ≤ 9223372036854775807
open Go.ChangeShapes Go.WideShapes Go.ChangeAt in
/-- a [][]byte parameter, opened -/
theorem open_rows {H : Type} {enc : TypeId × Value → H} {W : World} {base : Nat} {v : Value} {d : DataW H} {p : List MemPlace}
    (hval : Value.okWide Try.prog W .any base 31 v) (h : DataW.Trod enc Try.prog W 0 (fun _ => true) true 31 v d p) :
    ∃ A n c, v = .slice A n c ∧ RowsIn W A n ∧ (n ≤ c ∧ ∃ els sp, (d = .slice els sp ∧ els.length + sp.length = c) ∨ (d = .nil ∧ c = 0)) := by
  obtain ⟨a0, len, cap, rfl⟩ := okWide_slice Try.underlying31 hval
  obtain ⟨fuel, hf⟩ := h
  rcases Deep.open_int_rows Try.underlying31 Try.underlying22 Try.underlying5 (show Try.prog.cellsOf 22 = 1 by kernel_rfl) (show Try.prog.cellsOf 5 = 1 by kernel_rfl) hf with ⟨hcs, hx⟩ | ⟨a, len', cap', Ar, L, C, Z, hcs, _, hl, hm, hx, hr⟩
  · simp only [Value.cells] at hcs
    injection hcs with hcs
    injection hcs with h1 h2 h3
    subst h1 h2 h3
    injection hx with hd _
    exact ⟨none, 0, 0, rfl, fun h => absurd h (Nat.lt_irrefl 0), Nat.le_refl _, [], [], Or.inr ⟨hd, rfl⟩⟩
  · simp only [Value.cells] at hcs
    injection hcs with hcs
    injection hcs with h1 h2 h3
    subst h1 h2 h3
    injection hx with hd _
    refine ⟨some a, len, cap, rfl, fun hn => ?_, hl, _, _, Or.inl ⟨hd, by simp; omega⟩⟩
    obtain ⟨b, off, spot⟩ := a
    have hspot : spot = none := by simpa [Addr.add] using World.cell?_spot (hr 0 (by omega)).1
    subst hspot
    have hb0 := block_lt (hr 0 (by omega)).1
    refine ⟨b, off, rfl, hb0, fun j hj => ?_⟩
    obtain ⟨k1, k2, k3, k4, k5, k6, k7⟩ := hr j (by omega)
    have hml : maxLen = 9223372036854775807 := by decide
    have k1' : W.cell? ⟨b, off + j, none⟩ = some (.slice (Ar j) (L j) (C j)) := by
      by_cases h0 : j = 0
      · subst h0; simpa [Addr.add] using k1
      · simpa [Addr.add, h0] using k1
    refine ⟨Ar j, L j, C j, fun i => ((Z j).getD i 0).toNat, k1', fun hn2 => ?_, by omega⟩
    cases hA : Ar j with
    | none => have := k6 hA; omega
    | some a' =>
      obtain ⟨b2, off2, rfl, hc⟩ := ints_at (fun i hi => (k7 a' hA).2 i (by omega)) (by omega)
      refine ⟨b2, off2, rfl, block_lt (hc 0 (by omega)), fun i hi => ?_⟩
      have hr := range_u8 k5 i
      rw [← List.getD_eq_getElem?_getD] at hr
      refine ⟨by show ((Z j).getD i 0).toNat < 256; omega, ?_⟩
      show _ = some (Value.int .u8 (((Z j).getD i 0).toNat : Nat))
      rw [hc i (by omega), Int.toNat_of_nonneg hr.1]
open Go.ChangeShapes Go.WideShapes Go.ChangeAt in
theorem rows_len {H : Type} {ts : List TypeId} {ds : List (DataW H)} (h : (DataW.weightsEach Try.prog ts ds).all (· ≤ reachBytes) = true) {j : Nat} {d : DataW H} (ht : ts[j]? = some 31) (hd : ds[j]? = some d)
    {n c : Nat} (z : n ≤ c ∧ ∃ els sp, (d = .slice els sp ∧ els.length + sp.length = c) ∨ (d = .nil ∧ c = 0)) : n ≤ 140737488351232 := by
  obtain ⟨h1, els, sp, h2⟩ := z
  rcases h2 with ⟨rfl, h2⟩ | ⟨_, h2⟩
  · have h3 := sized_slice h ht hd Try.underlying31
    rw [show Try.prog.bytesOf 22 = 24 by kernel_rfl] at h3
    have : reachBytes = 140737488351232 := rfl
    omega
  · omega
theorem enc_shortB (g : Nat) (A : Option Addr) (len cap : Nat) (w : World) (hl : len ≠ 16) (hl2 : len ≤ 9223372036854775807) :
    Calls Try.prog 16 #[.pointer (some ⟨g, 0, none⟩), .slice A len cap] w fun e w' => e = .returned (.tuple #[.slice none 0 0, .int .i64 1]) ∧ w = w' := by
  have hb : ((len : Int) != 16) = true := by simp; omega
  go_enter Try.func16, Try.ntmps16
  go_wp2_with fail
  go_ret2
  exact ⟨rfl, rfl⟩
theorem dec_shortB (g : Nat) (A : Option Addr) (len cap : Nat) (w : World) (hl : len ≠ 16) (hl2 : len ≤ 9223372036854775807) :
    Calls Try.prog 17 #[.pointer (some ⟨g, 0, none⟩), .slice A len cap] w fun e w' => e = .returned (.tuple #[.slice none 0 0, .int .i64 1]) ∧ w = w' := by
  have hb : ((len : Int) != 16) = true := by simp; omega
  go_enter Try.func17, Try.ntmps17
  go_wp2_with fail
  go_ret2
  exact ⟨rfl, rfl⟩
/-- any block at all: the key goes on, nothing else changes -/
theorem enc_all (g n : Nat) (key b : Nat → Nat) (A : Option Addr) (l cap : Nat) (w : World) (hn : n = 4 ∨ n = 8) (hkey : By (4 * n) key) (hk : KeyAt w g n key) (hA : SlB w A l b) (hl : l ≤ 9223372036854775807) (hAg : l = 16 → ∀ B o, A = some ⟨B, o, none⟩ → B ≠ g) :
    Calls Try.prog 16 #[.pointer (some ⟨g, 0, none⟩), .slice A l cap] w fun e w' => ∃ v, e = .returned v ∧ KeyAt w' g n key ∧ Chg g w w' := by
  by_cases h : l = 16
  · subst h
    exact (enc_any g n key b A cap w hn hkey hk hA (hAg rfl)).mono fun e w' ⟨st, hb⟩ => ⟨_, hb.ret, Or.inr hb.key, hb.chg⟩
  · refine (enc_shortB g A l cap w h hl).mono fun e w' ⟨he, hw⟩ => ?_
    subst hw
    exact ⟨_, he, hk, Chg.refl _ _⟩
theorem dec_all (g n : Nat) (key b : Nat → Nat) (A : Option Addr) (l cap : Nat) (w : World) (hn : n = 4 ∨ n = 8) (hkey : By (4 * n) key) (hk : KeyAt w g n key) (hA : SlB w A l b) (hl : l ≤ 9223372036854775807) (hAg : l = 16 → ∀ B o, A = some ⟨B, o, none⟩ → B ≠ g) :
    Calls Try.prog 17 #[.pointer (some ⟨g, 0, none⟩), .slice A l cap] w fun e w' => ∃ v, e = .returned v ∧ KeyAt w' g n key ∧ Chg g w w' := by
  by_cases h : l = 16
  · subst h
    exact (dec_any g n key b A cap w hn hkey hk hA (hAg rfl)).mono fun e w' ⟨st, hb⟩ => ⟨_, hb.ret, Or.inr hb.key, hb.chg⟩
  · refine (dec_shortB g A l cap w h hl).mono fun e w' ⟨he, hw⟩ => ?_
    subst hw
    exact ⟨_, he, hk, Chg.refl _ _⟩
set_option maxRecDepth 100000 in
set_option maxHeartbeats 3200000 in
theorem again_key (A AB A2 : Option Addr) (len nb lb c cb c2 : Nat) (w : World) (h1 : len ≠ 16) (h2 : len ≠ 32) (h3 : len ≤ 140737488351232) : Calls Try.prog 7 #[.slice A len c, .slice AB nb cb, .slice A2 lb c2] w fun e w' => e = .returned (.bool true) ∧ Below w.heap.size w w' := by
  go_enter Try.func7, Try.ntmps7
  go_wp2_with fail
  refine (small_any _).mono ?_
  rintro e w1 ⟨rfl, h1⟩
  have H1 := Lib.hid h1
  clear h1
  go_wp2_with fail
  refine (new_short A len c w1 h1 h2 h3).mono ?_
  rintro e w2 ⟨rfl, rfl⟩
  go_wp2_with fail
  refine (new_short A len c w1 h1 h2 h3).mono ?_
  rintro e w2 ⟨rfl, rfl⟩
  go_wp2_with fail
  go_ret
  exact ⟨rfl, H1.out⟩
set_option maxRecDepth 100000 in
set_option maxHeartbeats 3200000 in
theorem again_short (A AB A2 : Option Addr) (len nb lb c cb c2 n : Nat) (key b : Nat → Nat) (w : World) (hn : n = 4 ∨ n = 8) (hl : 4 * n = len) (hnb : nb ≤ 140737488351232) (hA : SlB w A len key) (hAB : RowsIn w AB nb) (hA2 : SlB w A2 lb b) (hlb : lb ≠ 16) (hlb3 : lb ≤ 140737488351232) : Calls Try.prog 7 #[.slice A len c, .slice AB nb cb, .slice A2 lb c2] w fun e w' => e = .returned (.bool true) ∧ Below w.heap.size w w' := by
  have HN := Lib.hid hn
  have HL := Lib.hid hl
  have HA := Lib.hid hA
  have HAB := Lib.hid hAB
  have HA2 := Lib.hid hA2
  have HY := Lib.hid (show By (4 * n) key from fun j hj => HA.out.byte (by omega))
  have HYb := Lib.hid (show By lb b from fun j hj => HA2.out.byte hj)
  have HSB := Lib.hid (show By (16 * (n + 7)) (ks n key) from fun j _ => ks_by (by omega) HY.out j)
  clear hn hl hA hAB hA2
  go_enter Try.func7, Try.ntmps7
  go_wp2_with fail
  refine (small_any _).mono ?_
  rintro e w1 ⟨rfl, h1⟩
  have H1 := Lib.hid h1
  clear h1
  go_wp2_with fail
  refine (new_at A len n c key w1 HL.out HN.out (HA.out.keep H1.out)).mono ?_
  rintro e w2 ⟨g, rfl, h1, h2, h3⟩
  have HG := Lib.hid (Nat.le_trans H1.out.size h1)
  have HK2 := Lib.hid h2
  have HB2 := Lib.hid (H1.out.trans (h3.mono H1.out.size))
  clear h1 h2 h3
  go_wp2_with fail
  refine (new_at A len n c key w2 HL.out HN.out (HA.out.keep HB2.out)).mono ?_
  rintro e w3 ⟨g2, rfl, h1, h2, h3⟩
  have HG2 := Lib.hid (Nat.le_trans HB2.out.size h1)
  have HNE := Lib.hid (show g2 ≠ g by have := HK2.out.lt; omega)
  have HK3 := Lib.hid (HK2.out.keep h3)
  have HM3 := Lib.hid h2
  have HB3 := Lib.hid (HB2.out.trans (h3.mono HB2.out.size))
  clear h1 h2 h3
  go_wp2_with fail
  refine (enc_short g A2 lb c2 w3 hlb hlb3).mono ?_
  rintro e w4 ⟨rfl, rfl⟩
  have HK4 := HK3
  have HM4 := HM3
  have HB4 := HB3
  go_wp2_with fail
  go_loopw [14] (fun v wr => ∃ k : Nat, k ≤ nb ∧ k ≤ 8 ∧ v = .int .i64 (k : Nat) ∧ KeyAt wr g n key ∧ Chg g w3 wr) (fun v _ => 8 - (intOf v).toNat)
  case atStart => exact ⟨0, Nat.zero_le _, Nat.zero_le _, rfl, HK4.out, Chg.refl _ _⟩
  case round =>
    obtain ⟨k, hkn, hk8, rfl, hkr, hcr⟩ := hrel
    have HKr := Lib.hid hkr
    have HCr := Lib.hid hcr
    have HBr := Lib.hid (HB4.out.trans (hcr.below HB4.out.size HG.out))
    clear hkr hcr
    rcases (show (k < nb ∧ k < 8) ∨ k = nb ∨ (k < nb ∧ k = 8) by omega) with ⟨h1, h2⟩ | h1 | ⟨h1, h2⟩
    · have hd1 := h1
      obtain ⟨B, o, rfl, hB, hrows⟩ := HAB.out (by omega)
      obtain ⟨R, l, cr, f, hcell, hsl, hl63⟩ := hrows k h1
      have HBL := Lib.hid hB
      have HCE := Lib.hid hcell
      have HSL := Lib.hid hsl
      have HNR := Lib.hid (fun (e : l = 16) => by subst e; exact slb_ne hsl HG.out)
      clear hrows hcell hsl hB
      have hki : (k : Int) < (nb : Nat) := by omega
      have hk8 : (k : Int) < 8 := by omega
      have hk0 : (0 : Int) ≤ (k : Nat) := by omega
      have hc1 := (HBr.out.cell (p := ⟨B, o + k, none⟩) HBL.out).trans HCE.out
      go_wp2_with fail
      refine (enc_all g n key f R l cr wr HN.out HY.out HKr.out (HSL.out.keep HBr.out) hl63 HNR.out).mono ?_
      rintro e wa ⟨va, rfl, h3, h4⟩
      have HKa := Lib.hid h3
      have HCa := Lib.hid (HCr.out.trans h4)
      have HBa := Lib.hid (HBr.out.trans (h4.below HBr.out.size HG.out))
      clear h3 h4 hc1
      have hc1 := (HBa.out.cell (p := ⟨B, o + k, none⟩) HBL.out).trans HCE.out
      go_wp2_with fail
      refine (dec_all g n key f R l cr wa HN.out HY.out HKa.out (HSL.out.keep HBa.out) hl63 HNR.out).mono ?_
      rintro e wb ⟨vb, rfl, h3, h4⟩
      have HKb := Lib.hid h3
      have HCb := Lib.hid (HCa.out.trans h4)
      have HBb := Lib.hid (HBa.out.trans (h4.below HBa.out.size HG.out))
      clear h3 h4 hc1
      go_wp2_with fail
      refine (rounds_any g n key wb HN.out HY.out HKb.out).mono ?_
      rintro e wc ⟨L1, G1, rfl, _, h3, h4⟩
      have HKc := Lib.hid (show KeyAt wc g n key from Or.inr h3)
      have HCc := Lib.hid (HCb.out.trans h4)
      clear h3 h4
      go_wp2_with fail
      go_roundw
      case rel => exact ⟨k + 1, by omega, by omega, by go_num, HKc.out, HCc.out⟩
      case measure => simp [intOf]; omega
    · have hki : ¬ (k : Int) < (nb : Nat) := by omega
      have hki2 : decide ((k : Int) < (nb : Nat)) = false := decide_eq_false hki
      go_wp2_with fail
      refine (enc_short g A2 lb c2 wr hlb hlb3).mono ?_
      rintro e w5 ⟨rfl, rfl⟩
      go_wp2_with fail
      refine (enc_short g2 A2 lb c2 wr hlb hlb3).mono ?_
      rintro e w5 ⟨rfl, rfl⟩
      have hcn := run_convert_bytes_nil (P := Try.prog) wr 22 5 Try.underlying22 Try.underlying5 0 0 9 Try.underlying9
      go_wp2_with fail
      go_ret
      exact ⟨rfl, HBr.out⟩
    · subst h2
      have hki : (8 : Int) < (nb : Nat) := by omega
      go_wp2_with fail
      refine (enc_short g A2 lb c2 wr hlb hlb3).mono ?_
      rintro e w5 ⟨rfl, rfl⟩
      go_wp2_with fail
      refine (enc_short g2 A2 lb c2 wr hlb hlb3).mono ?_
      rintro e w5 ⟨rfl, rfl⟩
      have hcn := run_convert_bytes_nil (P := Try.prog) wr 22 5 Try.underlying22 Try.underlying5 0 0 9 Try.underlying9
      go_wp2_with fail
      go_ret
      exact ⟨rfl, HBr.out⟩
set_option maxRecDepth 100000 in
set_option maxHeartbeats 3200000 in
theorem again_full (A AB A2 : Option Addr) (len nb c cb c2 n : Nat) (key b : Nat → Nat) (w : World) (hn : n = 4 ∨ n = 8) (hl : 4 * n = len) (hnb : nb ≤ 140737488351232) (hA : SlB w A len key) (hAB : RowsIn w AB nb) (hA2 : SlB w A2 16 b) : Calls Try.prog 7 #[.slice A len c, .slice AB nb cb, .slice A2 16 c2] w fun e w' => e = .returned (.bool true) ∧ Below w.heap.size w w' := by
  have HN := Lib.hid hn
  have HL := Lib.hid hl
  have HA := Lib.hid hA
  have HAB := Lib.hid hAB
  have HA2 := Lib.hid hA2
  have HY := Lib.hid (show By (4 * n) key from fun j hj => HA.out.byte (by omega))
  have HYb := Lib.hid (show By 16 b from fun j hj => HA2.out.byte hj)
  have HSB := Lib.hid (show By (16 * (n + 7)) (ks n key) from fun j _ => ks_by (by omega) HY.out j)
  clear hn hl hA hAB hA2
  go_enter Try.func7, Try.ntmps7
  go_wp2_with fail
  refine (small_any _).mono ?_
  rintro e w1 ⟨rfl, h1⟩
  have H1 := Lib.hid h1
  clear h1
  go_wp2_with fail
  refine (new_at A len n c key w1 HL.out HN.out (HA.out.keep H1.out)).mono ?_
  rintro e w2 ⟨g, rfl, h1, h2, h3⟩
  have HG := Lib.hid (Nat.le_trans H1.out.size h1)
  have HK2 := Lib.hid h2
  have HB2 := Lib.hid (H1.out.trans (h3.mono H1.out.size))
  clear h1 h2 h3
  go_wp2_with fail
  refine (new_at A len n c key w2 HL.out HN.out (HA.out.keep HB2.out)).mono ?_
  rintro e w3 ⟨g2, rfl, h1, h2, h3⟩
  have HG2 := Lib.hid (Nat.le_trans HB2.out.size h1)
  have HNE := Lib.hid (show g2 ≠ g by have := HK2.out.lt; omega)
  have HK3 := Lib.hid (HK2.out.keep h3)
  have HM3 := Lib.hid h2
  have HB3 := Lib.hid (HB2.out.trans (h3.mono HB2.out.size))
  clear h1 h2 h3
  go_wp2_with fail
  refine (enc_any g n key b A2 c2 w3 HN.out HY.out HK3.out (HA2.out.keep HB3.out) (slb_ne HA2.out HG.out)).mono ?_
  rintro e w4 ⟨sx, hb⟩
  obtain ⟨rfl, h1, h2, h3, h4⟩ := hb
  have Hsx := Lib.hid h2
  have HNsx := Lib.hid (show sx ≠ g by have := HK3.out.lt; omega)
  have HNsx2 := Lib.hid (show sx ≠ g2 by have := HM3.out.lt; omega)
  have HK4 := Lib.hid (show KeyAt w4 g n key from Or.inr h3)
  have HM4 := Lib.hid (HM3.out.chg h4 HNE.out)
  have HB4 := Lib.hid (HB3.out.trans (h4.below HB3.out.size HG.out))
  clear h1 h2 h3 h4
  go_wp2_with fail
  go_loopw [14] (fun v wr => ∃ k : Nat, k ≤ nb ∧ k ≤ 8 ∧ v = .int .i64 (k : Nat) ∧ KeyAt wr g n key ∧ Chg g w4 wr) (fun v _ => 8 - (intOf v).toNat)
  case atStart => exact ⟨0, Nat.zero_le _, Nat.zero_le _, rfl, HK4.out, Chg.refl _ _⟩
  case round =>
    obtain ⟨k, hkn, hk8, rfl, hkr, hcr⟩ := hrel
    have HKr := Lib.hid hkr
    have HCr := Lib.hid hcr
    have HBr := Lib.hid (HB4.out.trans (hcr.below HB4.out.size HG.out))
    clear hkr hcr
    rcases (show (k < nb ∧ k < 8) ∨ k = nb ∨ (k < nb ∧ k = 8) by omega) with ⟨h1, h2⟩ | h1 | ⟨h1, h2⟩
    · have hd1 := h1
      obtain ⟨B, o, rfl, hB, hrows⟩ := HAB.out (by omega)
      obtain ⟨R, l, cr, f, hcell, hsl, hl63⟩ := hrows k h1
      have HBL := Lib.hid hB
      have HCE := Lib.hid hcell
      have HSL := Lib.hid hsl
      have HNR := Lib.hid (fun (e : l = 16) => by subst e; exact slb_ne hsl HG.out)
      clear hrows hcell hsl hB
      have hki : (k : Int) < (nb : Nat) := by omega
      have hk8 : (k : Int) < 8 := by omega
      have hk0 : (0 : Int) ≤ (k : Nat) := by omega
      have hc1 := (HBr.out.cell (p := ⟨B, o + k, none⟩) HBL.out).trans HCE.out
      go_wp2_with fail
      refine (enc_all g n key f R l cr wr HN.out HY.out HKr.out (HSL.out.keep HBr.out) hl63 HNR.out).mono ?_
      rintro e wa ⟨va, rfl, h3, h4⟩
      have HKa := Lib.hid h3
      have HCa := Lib.hid (HCr.out.trans h4)
      have HBa := Lib.hid (HBr.out.trans (h4.below HBr.out.size HG.out))
      clear h3 h4 hc1
      have hc1 := (HBa.out.cell (p := ⟨B, o + k, none⟩) HBL.out).trans HCE.out
      go_wp2_with fail
      refine (dec_all g n key f R l cr wa HN.out HY.out HKa.out (HSL.out.keep HBa.out) hl63 HNR.out).mono ?_
      rintro e wb ⟨vb, rfl, h3, h4⟩
      have HKb := Lib.hid h3
      have HCb := Lib.hid (HCa.out.trans h4)
      have HBb := Lib.hid (HBa.out.trans (h4.below HBa.out.size HG.out))
      clear h3 h4 hc1
      go_wp2_with fail
      refine (rounds_any g n key wb HN.out HY.out HKb.out).mono ?_
      rintro e wc ⟨L1, G1, rfl, _, h3, h4⟩
      have HKc := Lib.hid (show KeyAt wc g n key from Or.inr h3)
      have HCc := Lib.hid (HCb.out.trans h4)
      clear h3 h4
      go_wp2_with fail
      go_roundw
      case rel => exact ⟨k + 1, by omega, by omega, by go_num, HKc.out, HCc.out⟩
      case measure => simp [intOf]; omega
    · have hki : ¬ (k : Int) < (nb : Nat) := by omega
      have hki2 : decide ((k : Int) < (nb : Nat)) = false := decide_eq_false hki
      go_wp2_with fail
      refine (enc_any g n key b A2 c2 wr HN.out HY.out HKr.out (HA2.out.keep HBr.out) (slb_ne HA2.out HG.out)).mono ?_
      rintro e w5 ⟨sy, hb⟩
      obtain ⟨rfl, h1, h2, h3, h4⟩ := hb
      have Hsy := Lib.hid h2
      have HNsy := Lib.hid (show sy ≠ g2 by have := HM4.out.lt; have := HCr.out.size; omega)
      have HC5 := Lib.hid (HCr.out.trans h4)
      have HM5 := Lib.hid (HM4.out.chg HC5.out HNE.out)
      have HB5 := Lib.hid (HBr.out.trans (h4.below HBr.out.size HG.out))
      clear h1 h2 h3 h4
      go_wp2_with fail
      refine (enc_any g2 n key b A2 c2 w5 HN.out HY.out HM5.out (HA2.out.keep HB5.out) (slb_ne HA2.out HG2.out)).mono ?_
      rintro e w6 ⟨sz, hb⟩
      obtain ⟨rfl, h1, h2, h3, h4⟩ := hb
      have HEB := Lib.hid (enc_by HSB.out HYb.out)
      have hcx := convSl (cap := 16) (((Hsx.out.chg HC5.out HNsx.out).chg h4 HNsx2.out).slB HEB.out) (Nat.le_refl 16)
      have hcy := convSl (cap := 16) ((Hsy.out.chg h4 HNsy.out).slB HEB.out) (Nat.le_refl 16)
      have hcz := convSl (cap := 16) (h2.slB HEB.out) (Nat.le_refl 16)
      have HB6 := Lib.hid (HB5.out.trans (h4.below HB5.out.size HG2.out))
      clear h1 h2 h3 h4
      obtain ⟨X, hX⟩ : ∃ X, strOf 16 (enc n (ks n key) b) = X := ⟨_, rfl⟩
      rw [hX] at hcx hcy hcz
      clear hX
      go_wp2_with fail
      go_ret
      exact ⟨rfl, HB6.out⟩
    · subst h2
      have hki : (8 : Int) < (nb : Nat) := by omega
      go_wp2_with fail
      refine (enc_any g n key b A2 c2 wr HN.out HY.out HKr.out (HA2.out.keep HBr.out) (slb_ne HA2.out HG.out)).mono ?_
      rintro e w5 ⟨sy, hb⟩
      obtain ⟨rfl, h1, h2, h3, h4⟩ := hb
      have Hsy := Lib.hid h2
      have HNsy := Lib.hid (show sy ≠ g2 by have := HM4.out.lt; have := HCr.out.size; omega)
      have HC5 := Lib.hid (HCr.out.trans h4)
      have HM5 := Lib.hid (HM4.out.chg HC5.out HNE.out)
      have HB5 := Lib.hid (HBr.out.trans (h4.below HBr.out.size HG.out))
      clear h1 h2 h3 h4
      go_wp2_with fail
      refine (enc_any g2 n key b A2 c2 w5 HN.out HY.out HM5.out (HA2.out.keep HB5.out) (slb_ne HA2.out HG2.out)).mono ?_
      rintro e w6 ⟨sz, hb⟩
      obtain ⟨rfl, h1, h2, h3, h4⟩ := hb
      have HEB := Lib.hid (enc_by HSB.out HYb.out)
      have hcx := convSl (cap := 16) (((Hsx.out.chg HC5.out HNsx.out).chg h4 HNsx2.out).slB HEB.out) (Nat.le_refl 16)
      have hcy := convSl (cap := 16) ((Hsy.out.chg h4 HNsy.out).slB HEB.out) (Nat.le_refl 16)
      have hcz := convSl (cap := 16) (h2.slB HEB.out) (Nat.le_refl 16)
      have HB6 := Lib.hid (HB5.out.trans (h4.below HB5.out.size HG2.out))
      clear h1 h2 h3 h4
      obtain ⟨X, hX⟩ : ∃ X, strOf 16 (enc n (ks n key) b) = X := ⟨_, rfl⟩
      rw [hX] at hcx hcy hcz
      clear hX
      go_wp2_with fail
      go_ret
      exact ⟨rfl, HB6.out⟩
theorem again_any (A AB A2 : Option Addr) (len nb lb c cb c2 : Nat) (key b : Nat → Nat) (w : World) (h3 : len ≤ 140737488351232) (hnb : nb ≤ 140737488351232) (hlb3 : lb ≤ 140737488351232) (hA : SlB w A len key) (hAB : RowsIn w AB nb) (hA2 : SlB w A2 lb b) :
    Calls Try.prog 7 #[.slice A len c, .slice AB nb cb, .slice A2 lb c2] w fun e w' => e = .returned (.bool true) ∧ Below w.heap.size w w' := by
  by_cases hk : len ≠ 16 ∧ len ≠ 32
  · exact again_key A AB A2 len nb lb c cb c2 w hk.1 hk.2 h3
  · obtain ⟨n, hn, hl⟩ : ∃ n, (n = 4 ∨ n = 8) ∧ 4 * n = len := by
      by_cases h : len = 16
      · exact ⟨4, Or.inl rfl, by omega⟩
      · exact ⟨8, Or.inr rfl, by omega⟩
    by_cases ha : lb = 16
    · subst ha
      exact again_full A AB A2 len nb c cb c2 n key b w hn hl hnb hA hAB hA2
    · exact again_short A AB A2 len nb lb c cb c2 n key b w hn hl hnb hA hAB hA2 ha hlb3
end Go.Proofs.Ytdlkhfcfjgjooaa
