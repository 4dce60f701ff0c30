/- AesBlocks. -/
import Derived.Test.YtdlkhfcfjgjooaaLaw04b
import Derived.Test.YtdlkhfcfjgjooaaOwnA
import Derived.Test.YtdlkhfcfjgjooaaLent
import Derived.Test.YtdlkhfcfjgjooaaRef04G
namespace Go.Proofs.Ytdlkhfcfjgjooaa
open Go.RowKit

theorem KeyAt.words {w : World} {g n : Nat} {key : Nat → Nat} (h : KeyAt w g n key) : w.cell? ⟨g, 0, none⟩ = some (.int .i64 (n : Nat)) := h.elim (fun h => KeyMem.words h) (fun h => KeyMem.words h)
theorem RKey.chg {w w' : World} {g n K : Nat} {z : Int} {key : Nat → Nat} (h : RKey w g n key) (hc : Chg K w w') (hK : w.cell? ⟨K, 0, none⟩ = some (.int .i64 z)) : RKey w' g n key := by
  have hg := h.lt
  obtain ⟨⟨L, cap, G, C, h1, h2, h3⟩, ⟨B, h4, h5⟩, ⟨U, h6, h7⟩⟩ := h
  have n1 : g ≠ K := fun e => by subst e; rw [hK] at h1; cases h1
  have n2 : L ≠ K := fun e => by subst e; have := (h3 0 (by omega)).1; rw [hK] at this; cases this
  have n3 : B ≠ K := fun e => by subst e; have := h5.cell (i := 0) (by decide); rw [hK] at this; cases this
  have n4 : U ≠ K := fun e => by subst e; have := h7.cell (i := 0) (by decide); rw [hK] at this; cases this
  have n5 : ∀ j, j < n + 7 → G j ≠ K := fun j hj e => by subst e; have := (h3 j hj).2.cell (i := 0) (by decide); rw [hK] at this; cases this
  exact ⟨⟨L, cap, G, C, (hc.cell hg n1).trans h1, Nat.lt_of_lt_of_le h2 hc.size, fun j hj => ⟨(hc.cell h2 n2).trans (h3 j hj).1, (h3 j hj).2.of_block (hc.block _ (h3 j hj).2.lt (n5 j hj))⟩⟩,
    ⟨B, (hc.cell hg n1).trans h4, (hc.block B h5.lt n3).trans h5⟩, ⟨U, (hc.cell hg n1).trans h6, (hc.block U h7.lt n4).trans h7⟩⟩
theorem rnew_at (A : Option Addr) (len n cap : Nat) (key : Nat → Nat) (w : World) (hl : 4 * n = len) (hn : n = 4 ∨ n = 8) (hc : len ≤ cap) (hA : SlB w A len key) :
    Calls Try.prog 13 #[.slice A len cap] w fun e w' => ∃ g, e = .returned (.tuple #[.pointer (some ⟨g, 0, none⟩), .int .i64 0]) ∧ w.heap.size ≤ g ∧ RKey w' g n key ∧ Below w.heap.size w w' := by
  subst hl
  exact rnew_any A n cap key w hn hc hA
theorem lent_slB {w : World} {g len : Nat} {b : Nat → Nat} (h : w.rowIs g 5 (len + 1) (fun j => .int .u8 (if j < len then b j else 77 : Nat))) (hb : By len b) : SlB w (some ⟨g, 0, none⟩) len b :=
  SlB.of_rowX ((RowX.of_rowIs h).less (Nat.le_succ len)) fun j hj => ⟨hb j hj, by rw [if_pos hj]⟩
theorem lent_arr {w : World} {g len : Nat} {b : Nat → Nat} (h : w.rowIs g 5 (len + 1) (fun j => .int .u8 (if j < len then b j else 77 : Nat))) : Arr w g 0 (len + 1) (fun j => if j < len then b j else 77) :=
  RowX.arr (RowX.of_rowIs h)
set_option maxRecDepth 100000 in
set_option maxHeartbeats 1600000 in
theorem blk_key (A A2 : Option Addr) (len lb c c2 : Nat) (w : World) (h1 : len ≠ 16) (h2 : len ≠ 32) (h3 : len ≤ 140737488351232) : Calls Try.prog 4 #[.slice A len c, .slice A2 lb c2] w fun e w' => e = .returned (.bool true) ∧ Below w.heap.size w w' := by
  go_enter Try.func4, Try.ntmps4
  go_wp2_with fail
  refine (small_any _).mono ?_
  rintro e w1 ⟨rfl, h1⟩
  have H1 := Lib.hid h1
  clear h1
  go_wp2_with fail
  refine (new_short A len c w1 h1 h2 h3).mono ?_
  rintro e w2 ⟨rfl, rfl⟩
  go_wp2_with fail
  refine (rnew_short A len c w1 h1 h2 h3).mono ?_
  rintro e w2 ⟨rfl, rfl⟩
  go_wp2_with fail
  go_ret
  exact ⟨rfl, H1.out⟩
set_option maxRecDepth 100000 in
set_option maxHeartbeats 1600000 in
theorem blk_short (A A2 : Option Addr) (len lb c c2 n : Nat) (key b : Nat → Nat) (w : World) (hn : n = 4 ∨ n = 8) (hl : 4 * n = len) (hc : len ≤ c) (hlb3 : lb ≤ 140737488351232) (hA : SlB w A len key) (hA2 : SlB w A2 lb b) (hnil : A2 = none → lb = 0 ∧ c2 = 0) (hlb : lb ≠ 16) : Calls Try.prog 4 #[.slice A len c, .slice A2 lb c2] w fun e w' => e = .returned (.bool true) ∧ Below w.heap.size w w' := by
  have hlb1 : decide ((lb : Int) = 16) = false := by simp; omega
  have hlb2 : ((lb : Int) == 16) = false := by simp; omega
  have HN := Lib.hid hn
  have HL := Lib.hid hl
  have HCC := Lib.hid hc
  have HA := Lib.hid hA
  have HA2 := Lib.hid hA2
  have HNIL := Lib.hid hnil
  have HY := Lib.hid (show By (4 * n) key from fun j hj => HA.out.byte (by omega))
  have HYb := Lib.hid (show By lb b from fun j hj => HA2.out.byte hj)
  clear hn hl hc hA hA2 hnil
  go_enter Try.func4, Try.ntmps4
  go_wp2_with fail
  refine (small_any _).mono ?_
  rintro e w1 ⟨rfl, h1⟩
  have H1 := Lib.hid h1
  clear h1
  go_wp2_with fail
  refine (new_at A len n c key w1 HL.out HN.out (HA.out.keep H1.out)).mono ?_
  rintro e w2 ⟨g, rfl, h1, h2, h3⟩
  have HG := Lib.hid (Nat.le_trans H1.out.size h1)
  have HK2 := Lib.hid h2
  have HB2 := Lib.hid (H1.out.trans (h3.mono H1.out.size))
  clear h1 h2 h3
  go_wp2_with fail
  refine (rnew_at A len n c key w2 HL.out HN.out HCC.out (HA.out.keep HB2.out)).mono ?_
  rintro e w3 ⟨gx, rfl, _, h2, h3⟩
  have HX3 := Lib.hid h2
  have HK3 := Lib.hid (HK2.out.keep h3)
  have HB3 := Lib.hid (HB2.out.trans (h3.mono HB2.out.size))
  clear h2 h3
  go_wp2_with fail
  refine (lent_any A2 lb c2 b w3 hlb3 (HA2.out.keep HB3.out)).mono ?_
  rintro e w4 ⟨gL, rfl, h1, h2, h3⟩
  have HGL := Lib.hid h1
  have HNL := Lib.hid (show gL ≠ g by have := HK3.out.lt; omega)
  have HL4 := Lib.hid h2
  have HX4 := Lib.hid (HX3.out.keep h3)
  have HK4 := Lib.hid (HK3.out.keep h3)
  have HB4 := Lib.hid (HB3.out.trans (h3.mono HB3.out.size))
  clear h1 h2 h3
  go_wp2_with fail
  refine (enc_short g (some ⟨gL, 0, none⟩) lb (lb + 1) w4 hlb hlb3).mono ?_
  rintro e w5 ⟨rfl, rfl⟩
  go_wp2_with fail
  refine (dec_short g (some ⟨gL, 0, none⟩) lb (lb + 1) w4 hlb hlb3).mono ?_
  rintro e w5 ⟨rfl, rfl⟩
  go_wp2_with fail
  refine (kept_any gL A2 lb c2 b w4 hlb3 (HA2.out.keep HB4.out) HL4.out).mono ?_
  rintro e w5 ⟨rfl, rfl⟩
  go_wp2_with fail
  refine (renc_short gx A2 lb c2 w4 hlb hlb3).mono ?_
  rintro e w5 ⟨rfl, rfl⟩
  go_wp2_with fail
  refine (rdec_short gx A2 lb c2 w4 hlb hlb3).mono ?_
  rintro e w5 ⟨rfl, rfl⟩
  have hcn := run_convert_bytes_nil (P := Try.prog) w4 22 5 Try.underlying22 Try.underlying5 0 0 9 Try.underlying9
  go_wp2_with fail
  refine (owned_three w4 none none (some ⟨gL, 0, none⟩) 0 0 lb 0 0 (lb + 1) 0 0 gL (fun _ => 0) (fun _ => 0) (fun j => if j < lb then b j else 77) w.heap.size (fun h => absurd h (by decide)) (fun h => absurd h (by decide))
    (fun _ => ⟨rfl, lent_arr HL4.out, Nat.le_trans HB3.out.size HGL.out⟩) (fun h => absurd h (by decide)) (fun h => absurd h (by decide)) (fun h => absurd h (by decide)) (by decide) (by decide) (by omega) HB4.out.size).mono ?_
  rintro e w6 ⟨rfl, hb⟩
  have HB6 := Lib.hid (HB4.out.trans hb)
  clear hb
  go_wp2_with fail
  go_ret
  exact ⟨rfl, HB6.out⟩
set_option maxRecDepth 100000 in
set_option maxHeartbeats 1600000 in
theorem blk_full (A A2 : Option Addr) (len c c2 n : Nat) (key b : Nat → Nat) (w : World) (hn : n = 4 ∨ n = 8) (hl : 4 * n = len) (hc : len ≤ c) (hA : SlB w A len key) (hA2 : SlB w A2 16 b) (hnil : A2 = none → 16 = 0 ∧ c2 = 0) : Calls Try.prog 4 #[.slice A len c, .slice A2 16 c2] w fun e w' => e = .returned (.bool true) ∧ Below w.heap.size w w' := by
  have HN := Lib.hid hn
  have HL := Lib.hid hl
  have HCC := Lib.hid hc
  have HA := Lib.hid hA
  have HA2 := Lib.hid hA2
  have HNIL := Lib.hid hnil
  have HY := Lib.hid (show By (4 * n) key from fun j hj => HA.out.byte (by omega))
  have HYb := Lib.hid (show By 16 b from fun j hj => HA2.out.byte hj)
  have HSB := Lib.hid (show By (16 * (n + 7)) (ks n key) from fun j _ => ks_by (by omega) HY.out j)
  clear hn hl hc hA hA2 hnil
  go_enter Try.func4, Try.ntmps4
  go_wp2_with fail
  refine (small_any _).mono ?_
  rintro e w1 ⟨rfl, h1⟩
  have H1 := Lib.hid h1
  clear h1
  go_wp2_with fail
  refine (new_at A len n c key w1 HL.out HN.out (HA.out.keep H1.out)).mono ?_
  rintro e w2 ⟨g, rfl, h1, h2, h3⟩
  have HG := Lib.hid (Nat.le_trans H1.out.size h1)
  have HK2 := Lib.hid h2
  have HB2 := Lib.hid (H1.out.trans (h3.mono H1.out.size))
  clear h1 h2 h3
  go_wp2_with fail
  refine (rnew_at A len n c key w2 HL.out HN.out HCC.out (HA.out.keep HB2.out)).mono ?_
  rintro e w3 ⟨gx, rfl, _, h2, h3⟩
  have HX3 := Lib.hid h2
  have HK3 := Lib.hid (HK2.out.keep h3)
  have HB3 := Lib.hid (HB2.out.trans (h3.mono HB2.out.size))
  clear h2 h3
  go_wp2_with fail
  refine (lent_any A2 16 c2 b w3 (by decide) (HA2.out.keep HB3.out)).mono ?_
  rintro e w4 ⟨gL, rfl, h1, h2, h3⟩
  have HGL := Lib.hid h1
  have HNL := Lib.hid (show gL ≠ g by have := HK3.out.lt; omega)
  have HL4 := Lib.hid h2
  have HX4 := Lib.hid (HX3.out.keep h3)
  have HK4 := Lib.hid (HK3.out.keep h3)
  have HB4 := Lib.hid (HB3.out.trans (h3.mono HB3.out.size))
  clear h1 h2 h3
  go_wp2_with fail
  refine (enc_any g n key b (some ⟨gL, 0, none⟩) (16 + 1) w4 HN.out HY.out HK4.out (lent_slB HL4.out HYb.out) (fun B o hA => by have := HNL.out; injection hA with hA; injection hA with hA; omega)).mono ?_
  rintro e w5 ⟨sc, hb⟩
  obtain ⟨rfl, h1, h2, h3, h4⟩ := hb
  have Hsc := Lib.hid h2
  have HZsc := Lib.hid h1
  have HNsc := Lib.hid (show sc ≠ g by have := HK4.out.lt; omega)
  have HX5 := Lib.hid (HX4.out.chg h4 HK4.out.words)
  have HK5 := Lib.hid (show KeyAt w5 g n key from Or.inr h3)
  have HL5 := Lib.hid (HL4.out.of_block (h4.block gL HL4.out.lt HNL.out))
  have HC5 := Lib.hid h4
  have HB5 := Lib.hid (HB4.out.trans (h4.below HB4.out.size HG.out))
  clear h1 h2 h3 h4
  go_wp2_with fail
  refine (dec_any g n key b (some ⟨gL, 0, none⟩) (16 + 1) w5 HN.out HY.out HK5.out (lent_slB HL5.out HYb.out) (fun B o hA => by have := HNL.out; injection hA with hA; injection hA with hA; omega)).mono ?_
  rintro e w6 ⟨sp, hb⟩
  obtain ⟨rfl, h1, h2, h3, h4⟩ := hb
  have Hsp := Lib.hid h2
  have HZsp := Lib.hid h1
  have HNsp := Lib.hid (show sp ≠ g by have := HK5.out.lt; omega)
  have HX6 := Lib.hid (HX5.out.chg h4 HK5.out.words)
  have HK6 := Lib.hid (show KeyAt w6 g n key from Or.inr h3)
  have HL6 := Lib.hid (HL5.out.of_block (h4.block gL HL5.out.lt HNL.out))
  have HC6 := Lib.hid h4
  have HB6 := Lib.hid (HB5.out.trans (h4.below HB5.out.size HG.out))
  clear h1 h2 h3 h4
  go_wp2_with fail
  refine (kept_any gL A2 16 c2 b w6 (by decide) (HA2.out.keep HB6.out) HL6.out).mono ?_
  rintro e w7 ⟨rfl, rfl⟩
  go_wp2_with fail
  refine (renc_any gx n key b A2 c2 w6 HN.out HY.out HX6.out (HA2.out.keep HB6.out)).mono ?_
  rintro e w7 ⟨sd, rfl, h1, h2, h3⟩
  have Hsd := Lib.hid h2
  have HX7 := Lib.hid (HX6.out.keep h3)
  have HL7 := Lib.hid (HL6.out.of_block (h3.block gL HL6.out.lt))
  have HD7 := Lib.hid h3
  have HB7 := Lib.hid (HB6.out.trans (h3.mono HB6.out.size))
  clear h1 h2 h3
  go_wp2_with fail
  refine (rdec_any gx n key b A2 c2 w7 HN.out HY.out HX7.out (HA2.out.keep HB7.out) HNIL.out).mono ?_
  rintro e w8 ⟨sq, rfl, h1, h2, h3⟩
  have Hsq := Lib.hid h2
  have HX8 := Lib.hid (HX7.out.keep h3)
  have HL8 := Lib.hid (HL7.out.of_block (h3.block gL HL7.out.lt))
  have HD8 := Lib.hid h3
  have HB8 := Lib.hid (HB7.out.trans (h3.mono HB7.out.size))
  clear h1 h2 h3
  have HA8 := Lib.hid (((Hsc.out.chg HC6.out HNsc.out).keep HD7.out).keep HD8.out)
  have HA9 := Lib.hid ((Hsp.out.keep HD7.out).keep HD8.out)
  have hce := convSl (cap := 16) (HA8.out.slB (enc_by HSB.out HYb.out)) (Nat.le_refl 16)
  have hcp := convSl (cap := 16) (HA9.out.slB (dec_by HSB.out HYb.out)) (Nat.le_refl 16)
  have hcd := convSl (cap := 16) ((Hsd.out.keep HD8.out).slB0 (Nat.le_refl 16) (enc_by HSB.out HYb.out)) (Nat.le_refl 16)
  have hcq := convSl (cap := 16) (Hsq.out.slB0 (Nat.le_refl 16) (dec_by HSB.out HYb.out)) (Nat.le_refl 16)
  obtain ⟨X, hX⟩ : ∃ X, strOf 16 (enc n (ks n key) b) = X := ⟨_, rfl⟩
  obtain ⟨Y, hY⟩ : ∃ Y, strOf 16 (dec n (ks n key) b) = Y := ⟨_, rfl⟩
  rw [hX] at hce hcd
  rw [hY] at hcp hcq
  clear hX hY
  go_wp2_with fail
  refine (owned_three w8 (some ⟨sc, 0, none⟩) (some ⟨sp, 0, none⟩) (some ⟨gL, 0, none⟩) 16 16 16 16 16 (16 + 1) sc sp gL _ _ (fun j => if j < 16 then b j else 77) w.heap.size
    (fun _ => ⟨rfl, HA8.out, Nat.le_trans HB4.out.size HZsc.out⟩) (fun _ => ⟨rfl, HA9.out, Nat.le_trans HB5.out.size HZsp.out⟩)
    (fun _ => ⟨rfl, lent_arr HL8.out, Nat.le_trans HB3.out.size HGL.out⟩) (fun _ _ => by have := Hsc.out.lt (by decide); have := HZsp.out; omega) (fun _ _ => by have := HL4.out.lt; have := HZsc.out; omega) (fun _ _ => by have := HL5.out.lt; have := HZsp.out; omega) (by decide) (by decide) (by decide) HB8.out.size).mono ?_
  rintro e w9 ⟨rfl, hb⟩
  have HB9 := Lib.hid (HB8.out.trans hb)
  clear hb
  go_wp2_with fail
  go_ret
  exact ⟨rfl, HB9.out⟩
theorem blk_any (A A2 : Option Addr) (len lb c c2 : Nat) (key b : Nat → Nat) (w : World) (h3 : len ≤ 140737488351232) (hlb3 : lb ≤ 140737488351232) (hc : len ≤ c) (hnil : A2 = none → lb = 0 ∧ c2 = 0) (hA : SlB w A len key) (hA2 : SlB w A2 lb b) :
    Calls Try.prog 4 #[.slice A len c, .slice A2 lb c2] w fun e w' => e = .returned (.bool true) ∧ Below w.heap.size w w' := by
  by_cases hk : len ≠ 16 ∧ len ≠ 32
  · exact blk_key A A2 len lb c c2 w hk.1 hk.2 h3
  · obtain ⟨n, hn, hl⟩ : ∃ n, (n = 4 ∨ n = 8) ∧ 4 * n = len := by
      by_cases h : len = 16
      · exact ⟨4, Or.inl rfl, by omega⟩
      · exact ⟨8, Or.inr rfl, by omega⟩
    by_cases ha : lb = 16
    · subst ha
      exact blk_full A A2 len c c2 n key b w hn hl hc hA hA2 hnil
    · exact blk_short A A2 len lb c c2 n key b w hn hl hc hlb3 hA hA2 hnil ha
end Go.Proofs.Ytdlkhfcfjgjooaa
