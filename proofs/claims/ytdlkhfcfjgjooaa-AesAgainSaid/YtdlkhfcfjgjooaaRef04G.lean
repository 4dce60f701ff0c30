/- Contracts of the reference's aes: decryption. -/
import Derived.Test.YtdlkhfcfjgjooaaRef04F
namespace Go.Proofs.Ytdlkhfcfjgjooaa
open Go.RowKit

set_option maxRecDepth 100000 in
set_option maxHeartbeats 1600000 in
theorem rdec_any (g n : Nat) (key b : Nat → Nat) (A : Option Addr) (cap : Nat) (w : World) (hn : n = 4 ∨ n = 8) (hkey : By (4 * n) key) (hk : RKey w g n key) (hA : SlB w A 16 b) (hnil : A = none → 16 = 0 ∧ cap = 0) :
    Calls Try.prog 19 #[.pointer (some ⟨g, 0, none⟩), .slice A 16 cap] w (RBlkP (dec n (ks n key) b) w) := by
  have HKB := Lib.hid fun j => rkey_bytes hn hkey j
  have HSK := Lib.hid (show By (16 * (n + 7)) (ks n key) from fun j _ => ks_by (by omega) hkey j)
  have HBB := Lib.hid (show By 16 b from fun j hj => hA.byte hj)
  obtain ⟨L, capL, B, U, G, C, hat⟩ := hk.at
  have HAT := Lib.hid hat
  have HN := Lib.hid hn
  have HA := Lib.hid (hA.keep ((Below.refl _ _).alloc (Nat.le_refl _) (.cells #[] 5)))
  have HNIL := Lib.hid hnil
  have T1 := Lib.hid (show OwnB (w.alloc (.cells #[] 5)) w.heap.size (.slice (some ⟨w.heap.size, 0, none⟩) 0 0) 0 (fun _ => 0) from OwnB.empty w _ _ (Nat.le_refl _))
  have T2 := Lib.hid (show w.heap.size ≤ (w.alloc (.cells #[] 5)).heap.size by simp)
  have hn8 : ((n : Nat) : Int) ≤ 8 := by omega
  have hn0 : (0 : Int) ≤ (n : Nat) := by omega
  clear hn hkey hk hA hat hnil
  go_enter Try.func19, Try.ntmps19
  go_wp2_with (at_builtin; go_must (refine wpList_appO rfl (.tmp 11) (.tmp 12) rfl w.heap.size _ 0 (fun _ => 0) rfl T1.out A 16 cap b rfl HA.out HNIL.out (by omega) T2.out (fun j hj => absurd hj (Nat.not_lt_zero _)) (fun j hj => HBB.out j hj) ?_); intro A2 c2' w2 ho2 hs2 _ hb2; rw [Nat.zero_add] at hs2 ⊢; have HS2 := Lib.hid (show SlB w2 A2 16 b from fun h => by obtain ⟨B', o', e', l', c'⟩ := hs2 h; exact ⟨B', o', e', l', fun j hj => by have := c' j hj; unfold catB at this; rw [if_neg (Nat.not_lt_zero _), Nat.sub_zero] at this; exact this⟩); have HB2 := Lib.hid (((Below.refl w.heap.size w).alloc (Nat.le_refl _) (.cells #[] 5)).trans hb2); obtain ⟨f0, _⟩ := HAT.out w2 HB2.out; clear ho2 hs2 hb2)
  go_loopw [6, 7] (fun v6 v7 wr => ∃ (q k c6 : Nat) (A6 : Option Addr), q + k = n + 6 ∧ v7 = .int .i64 (q : Nat) ∧ v6 = .slice A6 16 c6 ∧ SlB wr A6 16 (dst n (ks n key) b k) ∧ Below w.heap.size w wr) (fun _ v7 _ => (intOf v7).toNat)
  case atStart => exact ⟨n + 6, 0, c2', A2, rfl, by go_num, rfl, HS2.out, HB2.out⟩
  case round =>
    obtain ⟨q, k, c6, A6, hqk, rfl, rfl, h1, h2⟩ := hrel
    have H1 := Lib.hid h1
    have H2 := Lib.hid h2
    have HBY := Lib.hid (dst_by (n := n) HSK.out HBB.out k (by omega))
    obtain ⟨f0, _, f2, _, fU, f3⟩ := HAT.out wr h2
    clear h1 h2 fU
    have HQK := Lib.hid hqk
    by_cases hlt : 0 < q
    · have hqi : (0 : Int) < (q : Nat) := by omega
      have hqi7 : ((q : Nat) : Int) < (n : Int) + 7 := by omega
      have fq := (f3 q (by omega)).1
      have HGQ := Lib.hid ((f3 q (by omega)).2.slB (HKB.out q))
      have HAY := Lib.hid (addk_by (S := ks n key) (r := q) (fun i hi => HSK.out i (by omega)) HBY.out)
      have HE0 := Lib.hid (show n + 6 - k = q by omega)
      obtain ⟨p, hp⟩ : ∃ p, q = p + 1 := ⟨q - 1, by omega⟩
      have hqp : ((q : Nat) : Int) - 1 = (p : Nat) := by omega
      have HQP := Lib.hid hp
      have HBY1 := Lib.hid (dst_by (n := n) HSK.out HBB.out (k + 1) (by omega))
      clear hp
      clear f3 hqk
      by_cases hmx : q < n + 6
      · have hmi : ((q : Nat) : Int) < (n : Int) + 7 - 1 := by omega
        have hmi2 : ((q : Nat) : Int) < (n : Int) + 6 := by omega
        have HE := Lib.hid (show ∀ j, unbox (imixc (addk (ks n key) q (dst n (ks n key) b k)) ((j + 4 * 3 * (j % 4)) % 16)) = dst n (ks n key) b (k + 1) j from fun j => by
          show _ = subs unbox 12 (if 0 < k then _ else _) j
          rw [if_pos (by have := HQK.out; omega), HE0.out]; rfl)
        have HSB := Lib.hid (show By 16 (fun i => imixc (addk (ks n key) q (dst n (ks n key) b k)) ((i + 4 * 3 * (i % 4)) % 16)) from fun j _ => imixc_by HAY.out _ (Nat.mod_lt _ (by decide)))
        have HAI := Lib.hid (imixc_by HAY.out)
        go_wp2_with (first | (go_at_call 31; go_must (refine (rlay_any4 A6 (some ⟨G q, 0, none⟩) c6 (C q) (dst n (ks n key) b k) _ wr H1.out HGQ.out).mono ?_); rintro e w3 ⟨rfl, h1, h2⟩; have H3 := Lib.hid h1; have H4 := Lib.hid (H2.out.trans (h2.mono H2.out.size)); obtain ⟨a0, _, a2, _, aU, _⟩ := HAT.out w3 H4.out; clear h1 h2 aU) | (go_at_call 34; go_must (refine (rmix_any (some ⟨wr.heap.size, 0, none⟩) 16 4 w3.heap.size 0 _ (fac 14 11 13 9) _ ((H3.out.alloc _).slB0 (Nat.le_refl _) HAY.out) (by simp) (four_fac w3 _ 14 11 13 9 14 11 13 9 rfl rfl rfl rfl ⟨by decide, by decide, by decide, by decide⟩)).mono ?_); rintro e w4 ⟨rfl, h1, h2⟩; rw [size_alloc1] at h1; have H5 := Lib.hid (h1.congr (f := imixc (addk (ks n key) q (dst n (ks n key) b k))) fun j _ => psum_imix _ j); have H6 := Lib.hid ((H4.out.alloc H4.out.size _).trans (h2.mono (Nat.le_trans H4.out.size (by simp)))); clear h1 h2))
        have HD1 := Lib.hid (show SlB w4.drew (some ⟨w3.heap.size + 1, 0, none⟩) 16 (imixc (addk (ks n key) q (dst n (ks n key) b k))) from H5.out.drew.slB0 (Nat.le_refl _) HAI.out)
        have HD2 := Lib.hid (show Below w.heap.size w w4.drew from H6.out.drew)
        obtain ⟨_, _, d2, _, _, _⟩ := HAT.out w4 H6.out
        go_region_with (first | (go_at_call 32; go_must (refine (rshift_any (some ⟨w3.heap.size + 1, 0, none⟩) 16 3 3 (imixc (addk (ks n key) q (dst n (ks n key) b k))) w4.drew (Or.inr ⟨rfl, rfl⟩) HD1.out).mono ?_); rintro e w5 ⟨rfl, h1, h2⟩; have H7 := Lib.hid (show RowB w5 w4.heap.size 16 _ from h1); have H8 := Lib.hid (HD2.out.trans (h2.mono HD2.out.size)); obtain ⟨_, _, e2, _, eU, _⟩ := HAT.out w5 H8.out; have HU5 := Lib.hid (eU.slB0 (Nat.le_refl _) unbox_by); clear h1 h2 eU) | (go_at_call 33; go_must (refine (rswap_any (some ⟨w4.heap.size, 0, none⟩) (some ⟨U, 0, none⟩) 16 256 _ unbox w5 (H7.out.slB0 (Nat.le_refl _) HSB.out) HU5.out).mono ?_); rintro e w6 ⟨rfl, h1, h2⟩; have H9 := Lib.hid h1; have H10 := Lib.hid (H8.out.trans (h2.mono H8.out.size)); clear h1 h2))
        all_goals
          have HR := Lib.hid (show SlB w6 (some ⟨w5.heap.size, 0, none⟩) 16 (dst n (ks n key) b (k + 1)) from (H9.out.congr (f := dst n (ks n key) b (k + 1)) fun j _ => HE.out j).slB0 (Nat.le_refl _) HBY1.out)
          go_wp2_with fail
          go_roundw
          case rel => exact ⟨p, k + 1, 16, _, by have := HQK.out; have := HQP.out; omega, by go_num, rfl, HR.out, H10.out⟩
          case measure => have := HQP.out; simp [intOf]; omega
      · have hmi : ¬ ((q : Nat) : Int) < (n : Int) + 7 - 1 := by omega
        have hmi2 : ¬ ((q : Nat) : Int) < (n : Int) + 6 := by omega
        have HE := Lib.hid (show ∀ j, unbox (addk (ks n key) q (dst n (ks n key) b k) ((j + 4 * 3 * (j % 4)) % 16)) = dst n (ks n key) b (k + 1) j from fun j => by
          show _ = subs unbox 12 (if 0 < k then _ else _) j
          rw [if_neg (by have := HQK.out; omega), HE0.out]; rfl)
        have HSB := Lib.hid (show By 16 (fun i => addk (ks n key) q (dst n (ks n key) b k) ((i + 4 * 3 * (i % 4)) % 16)) from fun j _ => HAY.out _ (Nat.mod_lt _ (by decide)))
        go_wp2_with ((go_at_call 31; go_must (refine (rlay_any4 A6 (some ⟨G q, 0, none⟩) c6 (C q) (dst n (ks n key) b k) _ wr H1.out HGQ.out).mono ?_); rintro e w3 ⟨rfl, h1, h2⟩; have H3 := Lib.hid h1; have H4 := Lib.hid (H2.out.trans (h2.mono H2.out.size)); obtain ⟨a0, _, a2, _, aU, _⟩ := HAT.out w3 H4.out; clear h1 h2 aU))
        have H5 := Lib.hid (show RowB w3 wr.heap.size 16 (addk (ks n key) q (dst n (ks n key) b k)) from H3.out)
        have HD1 := Lib.hid (show SlB w3.drew (some ⟨wr.heap.size, 0, none⟩) 16 (addk (ks n key) q (dst n (ks n key) b k)) from H5.out.drew.slB0 (Nat.le_refl _) HAY.out)
        have HD2 := Lib.hid (show Below w.heap.size w w3.drew from H4.out.drew)
        obtain ⟨_, _, d2, _, _, _⟩ := HAT.out w3 H4.out
        go_region_with (first | (go_at_call 32; go_must (refine (rshift_any (some ⟨wr.heap.size, 0, none⟩) 16 3 3 (addk (ks n key) q (dst n (ks n key) b k)) w3.drew (Or.inr ⟨rfl, rfl⟩) HD1.out).mono ?_); rintro e w5 ⟨rfl, h1, h2⟩; have H7 := Lib.hid (show RowB w5 w3.heap.size 16 _ from h1); have H8 := Lib.hid (HD2.out.trans (h2.mono HD2.out.size)); obtain ⟨_, _, e2, _, eU, _⟩ := HAT.out w5 H8.out; have HU5 := Lib.hid (eU.slB0 (Nat.le_refl _) unbox_by); clear h1 h2 eU) | (go_at_call 33; go_must (refine (rswap_any (some ⟨w3.heap.size, 0, none⟩) (some ⟨U, 0, none⟩) 16 256 _ unbox w5 (H7.out.slB0 (Nat.le_refl _) HSB.out) HU5.out).mono ?_); rintro e w6 ⟨rfl, h1, h2⟩; have H9 := Lib.hid h1; have H10 := Lib.hid (H8.out.trans (h2.mono H8.out.size)); clear h1 h2))
        all_goals
          have HR := Lib.hid (show SlB w6 (some ⟨w5.heap.size, 0, none⟩) 16 (dst n (ks n key) b (k + 1)) from (H9.out.congr (f := dst n (ks n key) b (k + 1)) fun j _ => HE.out j).slB0 (Nat.le_refl _) HBY1.out)
          go_wp2_with fail
          go_roundw
          case rel => exact ⟨p, k + 1, 16, _, by have := HQK.out; have := HQP.out; omega, by go_num, rfl, HR.out, H10.out⟩
          case measure => have := HQP.out; simp [intOf]; omega
    · obtain rfl : q = 0 := by omega
      obtain rfl : k = n + 6 := by omega
      have f4 := (f3 0 (by omega)).1
      have HG0 := Lib.hid ((f3 0 (by omega)).2.slB (HKB.out 0))
      have hn7 : (0 : Int) < (n : Int) + 7 := by omega
      clear f3 hqk
      go_wp2_with (go_at_call 31; go_must (refine (rlay_any4 A6 (some ⟨G 0, 0, none⟩) c6 (C 0) (dst n (ks n key) b (n + 6)) _ wr H1.out HG0.out).mono ?_); rintro e w3 ⟨rfl, h1, h2⟩; have H3 := Lib.hid h1; have H4 := Lib.hid (H2.out.trans (h2.mono H2.out.size)); clear h1 h2)
      go_ret2
      exact ⟨wr.heap.size, rfl, H2.out.size, H3.out, H4.out⟩
end Go.Proofs.Ytdlkhfcfjgjooaa
