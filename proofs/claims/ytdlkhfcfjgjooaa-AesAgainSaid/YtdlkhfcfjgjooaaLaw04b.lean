/- AesBack. -/
import Derived.Test.YtdlkhfcfjgjooaaLaw04a
namespace Go.Proofs.Ytdlkhfcfjgjooaa
open Go.RowKit

theorem strOf_inj {n m : Nat} {f g : Nat → Nat} (hf : ∀ j, j < n → f j < 256) (hg : ∀ j, j < m → g j < 256) (h : strOf n f = strOf m g) : n = m ∧ ∀ j, j < n → f j = g j := by
  have hn : n = m := by rw [← strOf_size n f, ← strOf_size m g, h]
  subst hn
  refine ⟨rfl, fun j hj => ?_⟩
  rw [← strOf_at n f 0 j hj (hf j hj), h, strOf_at n g 0 j hj (hg j hj)]
theorem str_eq (s t : ByteArray) : (s.toList == t.toList) = decide (s = t) := by
  by_cases h : s = t
  · subst h; simp
  · have : s.toList ≠ t.toList := fun h2 => h (by
      rw [ByteArray.toList_eq, ByteArray.toList_eq] at h2
      exact ByteArray.ext (Array.ext' h2))
    rw [decide_eq_false h]
    simpa using this
theorem slb_ne {w : World} {A : Option Addr} {b : Nat → Nat} {g : Nat} (h : SlB w A 16 b) (hg : w.heap.size ≤ g) : ∀ B o, A = some ⟨B, o, none⟩ → B ≠ g := fun B o hA => by
  obtain ⟨B', o', h1, h2, _⟩ := h (by decide)
  rw [hA] at h1
  injection h1 with h1
  injection h1 with h1
  omega
theorem new_at (A : Option Addr) (len n cap : Nat) (key : Nat → Nat) (w : World) (hl : 4 * n = len) (hn : n = 4 ∨ n = 8) (hA : SlB w A len key) :
    Calls Try.prog 10 #[.slice A len cap] w fun e w' => ∃ g, e = .returned (.tuple #[.pointer (some ⟨g, 0, none⟩), .int .i64 0]) ∧ w.heap.size ≤ g ∧ KeyAt w' g n key ∧ Below w.heap.size w w' := by
  subst hl
  exact new_any A n cap key w hn hA

set_option maxRecDepth 100000 in
set_option maxHeartbeats 1600000 in
theorem back_key (A A2 A3 : Option Addr) (len la lb c c2 c3 : Nat) (w : World) (h1 : len ≠ 16) (h2 : len ≠ 32) (h3 : len ≤ 140737488351232) : Calls Try.prog 5 #[.slice A len c, .slice A2 la c2, .slice A3 lb c3] w fun e w' => e = .returned (.bool true) ∧ Below w.heap.size w w' := by
  have hk1 : ((len : Int) != 16) = true := by simp; omega
  have hk2 : ((len : Int) != 32) = true := by simp; omega
  go_enter Try.func5, Try.ntmps5
  go_wp2_with fail
  refine (small_any _).mono ?_
  rintro e w1 ⟨rfl, h1⟩
  have H1 := Lib.hid h1
  clear h1
  go_wp2_with fail
  refine (new_short A len c w1 h1 h2 h3).mono ?_
  rintro e w2 ⟨rfl, rfl⟩
  go_wp2_with fail
  go_ret
  exact ⟨rfl, H1.out⟩
set_option maxRecDepth 100000 in
set_option maxHeartbeats 1600000 in
theorem back_ss (A A2 A3 : Option Addr) (len la lb c c2 c3 n : Nat) (key a b : Nat → Nat) (w : World) (hn : n = 4 ∨ n = 8) (hl : 4 * n = len) (hA : SlB w A len key) (hA2 : SlB w A2 la a) (hA3 : SlB w A3 lb b) (hla : la ≠ 16) (hlb : lb ≠ 16) (hla3 : la ≤ 140737488351232) (hlb3 : lb ≤ 140737488351232) : Calls Try.prog 5 #[.slice A len c, .slice A2 la c2, .slice A3 lb c3] w fun e w' => e = .returned (.bool true) ∧ Below w.heap.size w w' := by
  have hla1 : decide ((la : Int) = 16) = false := by simp; omega
  have hla2 : ((la : Int) == 16) = false := by simp; omega
  have hlb1 : decide ((lb : Int) = 16) = false := by simp; omega
  have hlb2 : ((lb : Int) == 16) = false := by simp; omega
  have HN := Lib.hid hn
  have HL := Lib.hid hl
  have HA := Lib.hid hA
  have HA2 := Lib.hid hA2
  have HA3 := Lib.hid hA3
  have HY := Lib.hid (show By (4 * n) key from fun j hj => HA.out.byte (by omega))
  clear hn hl hA hA2 hA3
  go_enter Try.func5, Try.ntmps5
  go_wp2_with fail
  refine (small_any _).mono ?_
  rintro e w1 ⟨rfl, h1⟩
  have H1 := Lib.hid h1
  clear h1
  go_wp2_with fail
  refine (new_at A len n c key w1 HL.out HN.out (HA.out.keep H1.out)).mono ?_
  rintro e w2 ⟨g, rfl, h1, h2, h3⟩
  have HG := Lib.hid (Nat.le_trans H1.out.size h1)
  have HK2 := Lib.hid h2
  have HB2 := Lib.hid (H1.out.trans (h3.mono H1.out.size))
  clear h1 h2 h3
  go_wp2_with fail
  refine (enc_short g A2 la c2 w2 hla hla3).mono ?_
  rintro e w3 ⟨rfl, rfl⟩
  go_wp2_with fail
  refine (enc_short g A3 lb c3 w2 hlb hlb3).mono ?_
  rintro e w4 ⟨rfl, rfl⟩
  go_wp2_with fail
  go_ret
  exact ⟨rfl, HB2.out⟩
set_option maxRecDepth 100000 in
set_option maxHeartbeats 1600000 in
theorem back_sf (A A2 A3 : Option Addr) (len la c c2 c3 n : Nat) (key a b : Nat → Nat) (w : World) (hn : n = 4 ∨ n = 8) (hl : 4 * n = len) (hA : SlB w A len key) (hA2 : SlB w A2 la a) (hA3 : SlB w A3 16 b) (hla : la ≠ 16) (hla3 : la ≤ 140737488351232) : Calls Try.prog 5 #[.slice A len c, .slice A2 la c2, .slice A3 16 c3] w fun e w' => e = .returned (.bool true) ∧ Below w.heap.size w w' := by
  have hla1 : decide ((la : Int) = 16) = false := by simp; omega
  have hla2 : ((la : Int) == 16) = false := by simp; omega
  have HN := Lib.hid hn
  have HL := Lib.hid hl
  have HA := Lib.hid hA
  have HA2 := Lib.hid hA2
  have HA3 := Lib.hid hA3
  have HY := Lib.hid (show By (4 * n) key from fun j hj => HA.out.byte (by omega))
  clear hn hl hA hA2 hA3
  go_enter Try.func5, Try.ntmps5
  go_wp2_with fail
  refine (small_any _).mono ?_
  rintro e w1 ⟨rfl, h1⟩
  have H1 := Lib.hid h1
  clear h1
  go_wp2_with fail
  refine (new_at A len n c key w1 HL.out HN.out (HA.out.keep H1.out)).mono ?_
  rintro e w2 ⟨g, rfl, h1, h2, h3⟩
  have HG := Lib.hid (Nat.le_trans H1.out.size h1)
  have HK2 := Lib.hid h2
  have HB2 := Lib.hid (H1.out.trans (h3.mono H1.out.size))
  clear h1 h2 h3
  go_wp2_with fail
  refine (enc_short g A2 la c2 w2 hla hla3).mono ?_
  rintro e w3 ⟨rfl, rfl⟩
  go_wp2_with fail
  refine (enc_any g n key b A3 c3 w2 HN.out HY.out HK2.out (HA3.out.keep HB2.out) (slb_ne HA3.out HG.out)).mono ?_
  rintro e w3 ⟨sy, hb⟩
  obtain ⟨rfl, h1, h2, h3, h4⟩ := hb
  have Hsy := Lib.hid h2
  have HNsy := Lib.hid (show sy ≠ g by have := HK2.out.lt; omega)
  have HK3 := Lib.hid (show KeyAt w3 g n key from Or.inr h3)
  have HC3 := Lib.hid h4
  have HB3 := Lib.hid (HB2.out.trans (h4.below HB2.out.size HG.out))
  clear h1 h2 h3 h4
  go_wp2_with fail
  go_ret
  exact ⟨rfl, HB3.out⟩
set_option maxRecDepth 100000 in
set_option maxHeartbeats 1600000 in
theorem back_fs (A A2 A3 : Option Addr) (len lb c c2 c3 n : Nat) (key a b : Nat → Nat) (w : World) (hn : n = 4 ∨ n = 8) (hl : 4 * n = len) (hA : SlB w A len key) (hA2 : SlB w A2 16 a) (hA3 : SlB w A3 lb b) (hlb : lb ≠ 16) (hlb3 : lb ≤ 140737488351232) : Calls Try.prog 5 #[.slice A len c, .slice A2 16 c2, .slice A3 lb c3] w fun e w' => e = .returned (.bool true) ∧ Below w.heap.size w w' := by
  have hlb1 : decide ((lb : Int) = 16) = false := by simp; omega
  have hlb2 : ((lb : Int) == 16) = false := by simp; omega
  have HN := Lib.hid hn
  have HL := Lib.hid hl
  have HA := Lib.hid hA
  have HA2 := Lib.hid hA2
  have HA3 := Lib.hid hA3
  have HY := Lib.hid (show By (4 * n) key from fun j hj => HA.out.byte (by omega))
  clear hn hl hA hA2 hA3
  go_enter Try.func5, Try.ntmps5
  go_wp2_with fail
  refine (small_any _).mono ?_
  rintro e w1 ⟨rfl, h1⟩
  have H1 := Lib.hid h1
  clear h1
  go_wp2_with fail
  refine (new_at A len n c key w1 HL.out HN.out (HA.out.keep H1.out)).mono ?_
  rintro e w2 ⟨g, rfl, h1, h2, h3⟩
  have HG := Lib.hid (Nat.le_trans H1.out.size h1)
  have HK2 := Lib.hid h2
  have HB2 := Lib.hid (H1.out.trans (h3.mono H1.out.size))
  clear h1 h2 h3
  go_wp2_with fail
  refine (enc_any g n key a A2 c2 w2 HN.out HY.out HK2.out (HA2.out.keep HB2.out) (slb_ne HA2.out HG.out)).mono ?_
  rintro e w3 ⟨sx, hb⟩
  obtain ⟨rfl, h1, h2, h3, h4⟩ := hb
  have Hsx := Lib.hid h2
  have HNsx := Lib.hid (show sx ≠ g by have := HK2.out.lt; omega)
  have HK3 := Lib.hid (show KeyAt w3 g n key from Or.inr h3)
  have HC3 := Lib.hid h4
  have HB3 := Lib.hid (HB2.out.trans (h4.below HB2.out.size HG.out))
  clear h1 h2 h3 h4
  go_wp2_with fail
  refine (enc_short g A3 lb c3 w3 hlb hlb3).mono ?_
  rintro e w4 ⟨rfl, rfl⟩
  go_wp2_with fail
  go_ret
  exact ⟨rfl, HB3.out⟩
set_option maxRecDepth 100000 in
set_option maxHeartbeats 1600000 in
theorem back_ff (A A2 A3 : Option Addr) (len  c c2 c3 n : Nat) (key a b : Nat → Nat) (w : World) (hn : n = 4 ∨ n = 8) (hl : 4 * n = len) (hA : SlB w A len key) (hA2 : SlB w A2 16 a) (hA3 : SlB w A3 16 b) : Calls Try.prog 5 #[.slice A len c, .slice A2 16 c2, .slice A3 16 c3] w fun e w' => e = .returned (.bool true) ∧ Below w.heap.size w w' := by
  have HN := Lib.hid hn
  have HL := Lib.hid hl
  have HA := Lib.hid hA
  have HA2 := Lib.hid hA2
  have HA3 := Lib.hid hA3
  have HY := Lib.hid (show By (4 * n) key from fun j hj => HA.out.byte (by omega))
  have HYa := Lib.hid (show By 16 a from fun j hj => HA2.out.byte hj)
  have HYb := Lib.hid (show By 16 b from fun j hj => HA3.out.byte hj)
  have HSB := Lib.hid (show By (16 * (n + 7)) (ks n key) from fun j _ => ks_by (by omega) HY.out j)
  clear hn hl hA hA2 hA3
  go_enter Try.func5, Try.ntmps5
  go_wp2_with fail
  refine (small_any _).mono ?_
  rintro e w1 ⟨rfl, h1⟩
  have H1 := Lib.hid h1
  clear h1
  go_wp2_with fail
  refine (new_at A len n c key w1 HL.out HN.out (HA.out.keep H1.out)).mono ?_
  rintro e w2 ⟨g, rfl, h1, h2, h3⟩
  have HG := Lib.hid (Nat.le_trans H1.out.size h1)
  have HK2 := Lib.hid h2
  have HB2 := Lib.hid (H1.out.trans (h3.mono H1.out.size))
  clear h1 h2 h3
  go_wp2_with fail
  refine (enc_any g n key a A2 c2 w2 HN.out HY.out HK2.out (HA2.out.keep HB2.out) (slb_ne HA2.out HG.out)).mono ?_
  rintro e w3 ⟨sx, hb⟩
  obtain ⟨rfl, h1, h2, h3, h4⟩ := hb
  have Hsx := Lib.hid h2
  have HNsx := Lib.hid (show sx ≠ g by have := HK2.out.lt; omega)
  have HK3 := Lib.hid (show KeyAt w3 g n key from Or.inr h3)
  have HC3 := Lib.hid h4
  have HB3 := Lib.hid (HB2.out.trans (h4.below HB2.out.size HG.out))
  clear h1 h2 h3 h4
  go_wp2_with fail
  refine (enc_any g n key b A3 c3 w3 HN.out HY.out HK3.out (HA3.out.keep HB3.out) (slb_ne HA3.out HG.out)).mono ?_
  rintro e w4 ⟨sy, hb⟩
  obtain ⟨rfl, h1, h2, h3, h4⟩ := hb
  have Hsy := Lib.hid h2
  have HNsy := Lib.hid (show sy ≠ g by have := HK3.out.lt; omega)
  have HK4 := Lib.hid (show KeyAt w4 g n key from Or.inr h3)
  have HC4 := Lib.hid h4
  have HB4 := Lib.hid (HB3.out.trans (h4.below HB3.out.size HG.out))
  clear h1 h2 h3 h4
  go_wp2_with fail
  refine (dec_any g n key _ (some ⟨sx, 0, none⟩) 16 w4 HN.out HY.out HK4.out ((Hsx.out.chg HC4.out HNsx.out).slB (enc_by HSB.out HYa.out)) (fun B o hA => by have := HNsx.out; injection hA with hA; injection hA with hA; omega)).mono ?_
  rintro e w5 ⟨sp, hb⟩
  obtain ⟨rfl, h1, h2, h3, h4⟩ := hb
  have Hsp := Lib.hid h2
  have HNsp := Lib.hid (show sp ≠ g by have := HK4.out.lt; omega)
  have HK5 := Lib.hid (show KeyAt w5 g n key from Or.inr h3)
  have HC5 := Lib.hid h4
  have HB5 := Lib.hid (HB4.out.trans (h4.below HB4.out.size HG.out))
  clear h1 h2 h3 h4
  go_wp2_with fail
  refine (dec_any g n key a A2 c2 w5 HN.out HY.out HK5.out (HA2.out.keep HB5.out) (slb_ne HA2.out HG.out)).mono ?_
  rintro e w6 ⟨sd, hb⟩
  obtain ⟨rfl, h1, h2, h3, h4⟩ := hb
  have Hsd := Lib.hid h2
  have HNsd := Lib.hid (show sd ≠ g by have := HK5.out.lt; omega)
  have HK6 := Lib.hid (show KeyAt w6 g n key from Or.inr h3)
  have HC6 := Lib.hid h4
  have HB6 := Lib.hid (HB5.out.trans (h4.below HB5.out.size HG.out))
  clear h1 h2 h3 h4
  go_wp2_with fail
  refine (enc_any g n key _ (some ⟨sd, 0, none⟩) 16 w6 HN.out HY.out HK6.out (Hsd.out.slB (dec_by HSB.out HYa.out)) (fun B o hA => by have := HNsd.out; injection hA with hA; injection hA with hA; omega)).mono ?_
  rintro e w7 ⟨sc, hb⟩
  obtain ⟨rfl, h1, h2, h3, h4⟩ := hb
  have Hsc := Lib.hid h2
  have HNsc := Lib.hid (show sc ≠ g by have := HK6.out.lt; omega)
  have HK7 := Lib.hid (show KeyAt w7 g n key from Or.inr h3)
  have HC7 := Lib.hid h4
  have HB7 := Lib.hid (HB6.out.trans (h4.below HB6.out.size HG.out))
  clear h1 h2 h3 h4
  have HSx := Lib.hid ((Hsx.out.chg (((HC4.out.trans HC5.out).trans HC6.out).trans HC7.out) HNsx.out).slB (enc_by HSB.out HYa.out))
  have HSy := Lib.hid ((Hsy.out.chg ((HC5.out.trans HC6.out).trans HC7.out) HNsy.out).slB (enc_by HSB.out HYb.out))
  have HSp := Lib.hid (((Hsp.out.chg (HC6.out.trans HC7.out) HNsp.out).congr (f := a) fun j hj => (dec_enc HSB.out HYa.out) j hj).slB HYa.out)
  have HSc := Lib.hid ((Hsc.out.congr (f := a) fun j hj => (enc_dec HSB.out HYa.out) j hj).slB HYa.out)
  have HSa := Lib.hid (HA2.out.keep HB7.out)
  have HSb := Lib.hid (HA3.out.keep HB7.out)
  obtain ⟨X, hX⟩ : ∃ X, strOf 16 (enc n (ks n key) a) = X := ⟨_, rfl⟩
  obtain ⟨Y, hY⟩ : ∃ Y, strOf 16 (enc n (ks n key) b) = Y := ⟨_, rfl⟩
  obtain ⟨Z, hZ⟩ : ∃ Z, strOf 16 a = Z := ⟨_, rfl⟩
  obtain ⟨V, hV⟩ : ∃ V, strOf 16 b = V := ⟨_, rfl⟩
  have hiff : X = Y ↔ Z = V := by
    rw [← hX, ← hY, ← hZ, ← hV]
    constructor
    · intro h
      have h2 := enc_inj HSB.out HYa.out HYb.out (strOf_inj (enc_by HSB.out HYa.out) (enc_by HSB.out HYb.out) h).2
      exact strOf_congr 16 _ _ h2
    · intro h
      exact strOf_congr 16 _ _ (enc_congr (strOf_inj HYa.out HYb.out h).2)
  have hq : (X.toList == Y.toList) = (Z.toList == V.toList) := by rw [str_eq, str_eq]; exact decide_eq_decide.2 hiff
  obtain ⟨q, hq2⟩ : ∃ q, (Z.toList == V.toList) = q := ⟨_, rfl⟩
  rw [hq2] at hq
  have hcx := convSl (cap := 16) HSx.out (Nat.le_refl 16)
  have hcy := convSl (cap := 16) HSy.out (Nat.le_refl 16)
  have hcp := convSl (cap := 16) HSp.out (Nat.le_refl 16)
  have hcc := convSl (cap := 16) HSc.out (Nat.le_refl 16)
  have hca := convSl (cap := c2) HSa.out (Nat.le_refl 16)
  have hcb := convSl (cap := c3) HSb.out (Nat.le_refl 16)
  rw [hX] at hcx
  rw [hY] at hcy
  rw [hZ] at hcp hcc hca
  rw [hV] at hcb
  clear hX hY hZ hV hiff
  cases q
  · go_wp2_with fail
    go_ret
    exact ⟨rfl, HB7.out⟩
  · go_wp2_with fail
    go_ret
    exact ⟨rfl, HB7.out⟩
theorem back_any (A A2 A3 : Option Addr) (len la lb c c2 c3 : Nat) (key a b : Nat → Nat) (w : World) (h3 : len ≤ 140737488351232) (hla3 : la ≤ 140737488351232) (hlb3 : lb ≤ 140737488351232) (hA : SlB w A len key) (hA2 : SlB w A2 la a) (hA3 : SlB w A3 lb b) :
    Calls Try.prog 5 #[.slice A len c, .slice A2 la c2, .slice A3 lb c3] w fun e w' => e = .returned (.bool true) ∧ Below w.heap.size w w' := by
  by_cases hk : len ≠ 16 ∧ len ≠ 32
  · exact back_key A A2 A3 len la lb c c2 c3 w hk.1 hk.2 h3
  · obtain ⟨n, hn, hl⟩ : ∃ n, (n = 4 ∨ n = 8) ∧ 4 * n = len := by
      by_cases h : len = 16
      · exact ⟨4, Or.inl rfl, by omega⟩
      · exact ⟨8, Or.inr rfl, by omega⟩
    by_cases ha : la = 16
    · subst ha
      by_cases hb : lb = 16
      · subst hb
        exact back_ff A A2 A3 len c c2 c3 n key a b w hn hl hA hA2 hA3
      · exact back_fs A A2 A3 len lb c c2 c3 n key a b w hn hl hA hA2 hA3 hb hlb3
    · by_cases hb : lb = 16
      · subst hb
        exact back_sf A A2 A3 len la c c2 c3 n key a b w hn hl hA hA2 hA3 ha hla3
      · exact back_ss A A2 A3 len la lb c c2 c3 n key a b w hn hl hA hA2 hA3 ha hb hla3 hlb3
end Go.Proofs.Ytdlkhfcfjgjooaa
