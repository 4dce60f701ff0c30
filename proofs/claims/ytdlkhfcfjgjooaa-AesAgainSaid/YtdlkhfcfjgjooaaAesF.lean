/- Contracts of package aes: blocks. -/
import Derived.Test.YtdlkhfcfjgjooaaAesE
namespace Go.Proofs.Ytdlkhfcfjgjooaa
open Go.RowKit

/-- p[:] of an array of bytes behind a pointer -/
theorem all_arr (t : TypeId) (n g o : Nat) (hu : Try.prog.underlying t = some (.array n 5)) (hn : 0 < n) (w : World) :
    (Instr.sliceAt t (.pointer (some ⟨g, o, none⟩)) none none none).run Try.prog w = .ok (.slice (some ⟨g, o, none⟩) n n) w := by
  have he : Try.prog.elem t = 5 := by simp [Program.elem, hu]
  have hl : Try.prog.arrayLen t = n := by simp [Program.arrayLen, hu]
  rw [run_sliceAt_array_all (ht := by rw [hl, he]; exact hu), he, sizeU8]
  show Result.ok (slicedAt ⟨g, o, none⟩ _ _ _ 1) w = _
  rw [hl]
  unfold slicedAt
  rw [if_neg (by omega), Go.WideShapes.add_plain, Nat.zero_mul, Nat.add_zero, Nat.sub_zero]
def mixn (f : Nat → Nat) : Nat → Nat → Nat
  | 0 => f
  | k + 1 => mixc (mixn f k)
theorem mixn_by {f : Nat → Nat} (hf : By 16 f) : ∀ k, By 16 (mixn f k)
  | 0 => hf
  | k + 1 => mixc_by (mixn_by hf k)
set_option maxHeartbeats 800000 in
theorem unmix_any (g s : Nat) (f : Nat → Nat) (w : World) (hD : Arr w g 756 256 dbl) (hs : Arr w s 0 16 f) (hf : By 16 f) (hne : g ≠ s) :
    Calls Try.prog 30 #[.pointer (some ⟨g, 0, none⟩), .pointer (some ⟨s, 0, none⟩)] w fun e w' => e = .returned (.tuple #[]) ∧ Arr w' s 0 16 (imixc f) ∧ Chg s w w' := by
  have HS := Lib.hid hs
  have HD := Lib.hid hD
  have HF := Lib.hid hf
  have HNE := Lib.hid hne
  clear hs hD hf hne
  go_enter Try.func30, Try.ntmps30
  go_wp2_with fail
  go_loopw [4] (fun v wr => ∃ q : Nat, q ≤ 3 ∧ v = .int .i64 q ∧ Arr wr s 0 16 (mixn f q) ∧ Chg s w wr) (fun v _ => 3 - (intOf v).toNat)
  case atStart => exact ⟨0, by decide, rfl, HS.out, Chg.refl _ _⟩
  case round =>
    obtain ⟨q, hq, rfl, h1, h2⟩ := hrel
    have H2 := Lib.hid h2
    have HM := Lib.hid (mix_any g s (mixn f q) wr (HD.out.chg h2 HNE.out) h1 (mixn_by HF.out q) HNE.out)
    have H1 := Lib.hid h1
    clear h1 h2
    by_cases hlt : q < 3
    · go_wp2_with ((go_at_call 29; refine HM.out.mono ?_; rintro e w' ⟨rfl, h1, h2⟩; have H3 := Lib.hid h1; have H4 := Lib.hid (H2.out.trans h2); clear h1 h2))
      go_roundw
      case rel => exact ⟨q + 1, by omega, by go_num, H3.out, H4.out⟩
      case measure => simp [intOf]; omega
    · have HR := Lib.hid (show Arr wr s 0 16 (imixc f) from H1.out.congr fun j hj => by
        obtain rfl : q = 3 := by omega
        exact mixc_three HF.out j hj)
      go_wp2_with fail
      go_end0
      exact ⟨rfl, HR.out, H2.out⟩

/-- what an encryption leaves: its result in new memory, the key ready -/
structure BlkP (g n : Nat) (key r : Nat → Nat) (w : World) (e : Ending) (w' : World) (st : Nat) : Prop where
  ret : e = .returned (.tuple #[.slice (some ⟨st, 0, none⟩) 16 16, .int .i64 0])
  new : w.heap.size ≤ st
  row : Arr w' st 0 16 r
  key : KeyReady w' g n key
  chg : Chg g w w'
theorem enc_short (g : Nat) (A : Option Addr) (len cap : Nat) (w : World) (hl : len ≠ 16) (hl2 : len ≤ 140737488351232) :
    Calls Try.prog 16 #[.pointer (some ⟨g, 0, none⟩), .slice A len cap] w fun e w' => e = .returned (.tuple #[.slice none 0 0, .int .i64 1]) ∧ w = w' := by
  have hb : ((len : Int) != 16) = true := by simp; omega
  go_enter Try.func16, Try.ntmps16
  go_wp2_with fail
  go_ret2
  exact ⟨rfl, rfl⟩
set_option maxRecDepth 100000 in
set_option maxHeartbeats 1600000 in
theorem enc_any (g n : Nat) (key b : Nat → Nat) (A : Option Addr) (cap : Nat) (w : World) (hn : n = 4 ∨ n = 8) (hkey : By (4 * n) key) (hk : KeyAt w g n key) (hA : SlB w A 16 b) (hAg : ∀ B o, A = some ⟨B, o, none⟩ → B ≠ g) :
    Calls Try.prog 16 #[.pointer (some ⟨g, 0, none⟩), .slice A 16 cap] w fun e w' => ∃ st, BlkP g n key (enc n (ks n key) b) w e w' st := by
  obtain ⟨B, o, rfl, hB, hbs⟩ := hA (by decide)
  have HO := Lib.hid (once_any g n key w hn hkey hk)
  have HBY := Lib.hid fun j (hj : j < 16) => (hbs j hj).1
  have HBG := Lib.hid (hAg B o rfl)
  have HBS := Lib.hid (show w.rangeAt B o (bytesL 16 b) from fun j v hv => by
    obtain ⟨hj, rfl⟩ := bytesL_get _ _ j v hv
    exact (hbs j hj).2)
  have HBL := Lib.hid hB
  have HN := Lib.hid hn
  have HY := Lib.hid hkey
  have HG := Lib.hid hk.lt
  have hmf : ∀ (fn : Fn) (first cap : Array Value) (w : World), (Instr.makeFunc fn first cap).run Try.prog w = .ok (.func fn first cap) w := fun _ _ _ _ => rfl
  have hpa := to_arr 65 16 5 Try.underlying65 (some ⟨B, o, none⟩) 16 cap (Nat.le_refl _)
  clear hA hAg hn hkey hk hbs hB
  go_enter Try.func16, Try.ntmps16
  have HGB := Lib.hid (show By 16 b from fun j hj => HBY.out j hj)
  go_wp2_with (first | (go_at_call 24; refine HO.out.mono ?_; rintro e w1 ⟨rfl, h1, h2⟩; have HK1 := Lib.hid h1; have HC1 := Lib.hid h2; have HR1 := Lib.hid (show w1.rangeAt B o (bytesL 16 b) from fun j v hv => (h2.cell HBL.out HBG.out).trans (HBS.out j v hv)); have HM1 := Lib.hid (made65 w1); have HK2 := Lib.hid (HK1.out.alloc (.cells z16 65)); have HC2 := Lib.hid (HC1.out.alloc (.cells z16 65)); clear h1 h2) | (refine wpList_loadR rfl 65 (.tmp 18) rfl B o 16 rfl _ HR1.out _ Try.underlying65 rfl size65 ?_) | (refine wpList_storeB rfl 65 (.tmp 6) (.tmp 19) rfl w1.heap.size 0 16 _ _ rfl rfl HM1.out size65 ?_; intro w2 h1 h2; have HS2 := Lib.hid h1; have HX2 := Lib.hid h2; clear h1 h2))
  have HSL := Lib.hid (show w.heap.size ≤ w1.heap.size from HC1.out.size)
  have HSG := Lib.hid (show g ≠ w1.heap.size from Nat.ne_of_lt HK1.out.lt)
  generalize hst : w1.heap.size = st at *
  have HK3 := Lib.hid (HK2.out.chg HX2.out HSG.out)
  have HC3 := Lib.hid (HC2.out.thenNew HX2.out HSL.out)
  have HSB := Lib.hid fun j (_ : j < 240) => ks_by (by have := HN.out; omega) HY.out j
  have HA1 := Lib.hid (add_any g st 0 (ks n key) b w2 (by decide) HK3.out.sch HS2.out (fun j hj => HSB.out j hj) HGB.out)
  clear HX2 HS2 HM1 HK2 HC2 HC1 HK1 HR1 hst
  go_wp2_with (go_at_call 27; refine HA1.out.mono ?_; rintro e w3 ⟨rfl, h1, h2⟩; have HS4 := Lib.hid h1; have HK4 := Lib.hid (HK3.out.chg h2 HSG.out); have HC4 := Lib.hid (HC3.out.thenNew h2 HSL.out); clear h1 h2)
  clear HA1 HK3 HC3
  go_loopw [7] (fun v wr => ∃ r : Nat, r ≤ n + 6 ∧ v = .int .i64 ((r + 1 : Nat) : Int) ∧ Arr wr st 0 16 (est n (ks n key) b r) ∧ KeyReady wr g n key ∧ Chg g w wr) (fun v _ => 30 - (intOf v).toNat)
  case atStart => exact ⟨0, by omega, rfl, HS4.out, HK4.out, HC4.out⟩
  case round =>
    obtain ⟨r, hr, rfl, h1, h2, h3⟩ := hrel
    have hn8 : n ≤ 8 := by have := HN.out; omega
    have hw := h2.words
    have hby := est_by (S := ks n key) (fun j hj => ks_by (by have := HN.out; omega) HY.out j) HGB.out r hr
    have H1 := Lib.hid h1
    have H2 := Lib.hid h2
    have H3 := Lib.hid h3
    have HBY2 := Lib.hid hby
    clear h1 h2 h3 hby
    obtain ⟨q, hq⟩ : ∃ q, r + 1 = q := ⟨_, rfl⟩
    rw [hq]
    by_cases hlt : r < n + 6
    · have hql : (q : Int) ≤ ((n + 6 : Nat) : Int) := by omega
      have HSU := Lib.hid (subst_any g 244 st 4 box (est n (ks n key) b r) wr (Or.inl rfl) H2.out.box H1.out HBY2.out)
      have HSY := Lib.hid (subs_by box_by 4 HBY2.out)
      have HQ := Lib.hid hq
      clear hq
      have HRK := Lib.hid (show By 240 (ks n key) from fun j hj => HSB.out j hj)
      by_cases hmx : q < n + 6
      · have hmi : decide ((q : Int) < (n : Int) + 6) = true := by rw [decide_eq_true_eq]; omega
        have HE := Lib.hid (show addk (ks n key) q (mixc (subs box 4 (est n (ks n key) b r))) = est n (ks n key) b q by rw [← HQ.out]; show _ = addk _ _ (if r + 1 < n + 6 then _ else _); rw [if_pos (by have := HQ.out; omega)])
        go_wp2_with (first | (go_at_call 26; (first | (with_reducible refine (last_any g n _ hn8 hw).mono ?_) | (with_reducible refine (last_any g n _ hn8 hw5).mono ?_)); rintro e w' ⟨rfl, rfl⟩) | (go_at_call 28; refine HSU.out.mono ?_; rintro e w4 ⟨rfl, h1⟩; have H4 := Lib.hid (H2.out.keep h1); have H5 := Lib.hid (H1.out.keep h1); have H6 := Lib.hid (H3.out.thenBelow h1); clear h1) | (refine wpList_storeB rfl 65 (.tmp 6) (.tmp 31) rfl st 0 16 _ _ rfl rfl H5.out size65 ?_; intro w5 h1 h2; have HS5 := Lib.hid h1; have HK5 := Lib.hid (H4.out.chg h2 HSG.out); have HC5 := Lib.hid (H6.out.thenNew h2 HSL.out); have hw5 := HK5.out.words; clear h1 h2) | (go_at_call 29; refine (mix_any g st _ _ HK5.out.dbl HS5.out HSY.out HSG.out).mono ?_; rintro e w6 ⟨rfl, h1, h2⟩; have HS6 := Lib.hid h1; have HK6 := Lib.hid (HK5.out.chg h2 HSG.out); have HC6 := Lib.hid (HC5.out.thenNew h2 HSL.out); have HSY6 := Lib.hid (mixc_by HSY.out); clear h1 h2) | (go_at_call 27; refine (add_any g st q (ks n key) _ _ (by have := HQ.out; omega) HK6.out.sch HS6.out HRK.out HSY6.out).mono ?_; rintro e w7 ⟨rfl, h1, h2⟩; have HS7 := Lib.hid h1; have HK7 := Lib.hid (HK6.out.chg h2 HSG.out); have HC7 := Lib.hid (HC6.out.thenNew h2 HSL.out); clear h1 h2))
        go_roundw
        case rel => exact ⟨q, by omega, by go_num, HE.out ▸ HS7.out, HK7.out, HC7.out⟩
        case measure => simp [intOf]; omega
      · have hmi : decide ((q : Int) < (n : Int) + 6) = false := by rw [decide_eq_false_iff_not]; omega
        have HE := Lib.hid (show addk (ks n key) q (subs box 4 (est n (ks n key) b r)) = est n (ks n key) b q by rw [← HQ.out]; show _ = addk _ _ (if r + 1 < n + 6 then _ else _); rw [if_neg (by have := HQ.out; omega)])
        go_wp2_with (first | (go_at_call 26; (first | (with_reducible refine (last_any g n _ hn8 hw).mono ?_) | (with_reducible refine (last_any g n _ hn8 hw5).mono ?_)); rintro e w' ⟨rfl, rfl⟩) | (go_at_call 28; refine HSU.out.mono ?_; rintro e w4 ⟨rfl, h1⟩; have H4 := Lib.hid (H2.out.keep h1); have H5 := Lib.hid (H1.out.keep h1); have H6 := Lib.hid (H3.out.thenBelow h1); clear h1) | (refine wpList_storeB rfl 65 (.tmp 6) (.tmp 31) rfl st 0 16 _ _ rfl rfl H5.out size65 ?_; intro w5 h1 h2; have HS5 := Lib.hid h1; have HK5 := Lib.hid (H4.out.chg h2 HSG.out); have HC5 := Lib.hid (H6.out.thenNew h2 HSL.out); have hw5 := HK5.out.words; clear h1 h2) | (go_at_call 27; refine (add_any g st q (ks n key) _ _ (by have := HQ.out; omega) HK5.out.sch HS5.out HRK.out HSY.out).mono ?_; rintro e w7 ⟨rfl, h1, h2⟩; have HS7 := Lib.hid h1; have HK7 := Lib.hid (HK5.out.chg h2 HSG.out); have HC7 := Lib.hid (HC5.out.thenNew h2 HSL.out); clear h1 h2))
        go_roundw
        case rel => exact ⟨q, by omega, by go_num, HE.out ▸ HS7.out, HK7.out, HC7.out⟩
        case measure => simp [intOf]; omega
    · have hql : ¬ (q : Int) ≤ ((n + 6 : Nat) : Int) := by omega
      have HE := Lib.hid (show Arr wr st 0 16 (enc n (ks n key) b) from by
        have h := H1.out
        obtain rfl : r = n + 6 := by omega
        exact h)
      clear hq H1 HBY2
      have hsa : ∀ W : World, (Instr.sliceAt 65 (.pointer (some ⟨st, 0, none⟩)) none none none).run Try.prog W = .ok (.slice (some ⟨st, 0, none⟩) 16 16) W := all_arr 65 16 st 0 Try.underlying65 (by decide)
      go_wp2_with (go_at_call 26; refine (last_any g n _ hn8 hw).mono ?_; rintro e w' ⟨rfl, rfl⟩)
      go_ret2
      exact ⟨st, rfl, HSL.out, HE.out, H2.out, H3.out⟩

theorem dec_short (g : Nat) (A : Option Addr) (len cap : Nat) (w : World) (hl : len ≠ 16) (hl2 : len ≤ 140737488351232) :
    Calls Try.prog 17 #[.pointer (some ⟨g, 0, none⟩), .slice A len cap] w fun e w' => e = .returned (.tuple #[.slice none 0 0, .int .i64 1]) ∧ w = w' := by
  have hb : ((len : Int) != 16) = true := by simp; omega
  go_enter Try.func17, Try.ntmps17
  go_wp2_with fail
  go_ret2
  exact ⟨rfl, rfl⟩
set_option maxRecDepth 100000 in
set_option maxHeartbeats 1600000 in
theorem dec_any (g n : Nat) (key b : Nat → Nat) (A : Option Addr) (cap : Nat) (w : World) (hn : n = 4 ∨ n = 8) (hkey : By (4 * n) key) (hk : KeyAt w g n key) (hA : SlB w A 16 b) (hAg : ∀ B o, A = some ⟨B, o, none⟩ → B ≠ g) :
    Calls Try.prog 17 #[.pointer (some ⟨g, 0, none⟩), .slice A 16 cap] w fun e w' => ∃ st, BlkP g n key (dec n (ks n key) b) w e w' st := by
  obtain ⟨B, o, rfl, hB, hbs⟩ := hA (by decide)
  have HO := Lib.hid (once_any g n key w hn hkey hk)
  have HBY := Lib.hid fun j (hj : j < 16) => (hbs j hj).1
  have HBG := Lib.hid (hAg B o rfl)
  have HBS := Lib.hid (show w.rangeAt B o (bytesL 16 b) from fun j v hv => by
    obtain ⟨hj, rfl⟩ := bytesL_get _ _ j v hv
    exact (hbs j hj).2)
  have HBL := Lib.hid hB
  have HN := Lib.hid hn
  have HY := Lib.hid hkey
  have HG := Lib.hid hk.lt
  have hmf : ∀ (fn : Fn) (first cap : Array Value) (w : World), (Instr.makeFunc fn first cap).run Try.prog w = .ok (.func fn first cap) w := fun _ _ _ _ => rfl
  have hpa := to_arr 65 16 5 Try.underlying65 (some ⟨B, o, none⟩) 16 cap (Nat.le_refl _)
  clear hA hAg hn hkey hk hbs hB
  go_enter Try.func17, Try.ntmps17
  have HGB := Lib.hid (show By 16 b from fun j hj => HBY.out j hj)
  go_wp2_with (first | (go_at_call 24; refine HO.out.mono ?_; rintro e w1 ⟨rfl, h1, h2⟩; have HK1 := Lib.hid h1; have HC1 := Lib.hid h2; have HR1 := Lib.hid (show w1.rangeAt B o (bytesL 16 b) from fun j v hv => (h2.cell HBL.out HBG.out).trans (HBS.out j v hv)); have HM1 := Lib.hid (made65 w1); have HK2 := Lib.hid (HK1.out.alloc (.cells z16 65)); have HC2 := Lib.hid (HC1.out.alloc (.cells z16 65)); clear h1 h2) | (refine wpList_loadR rfl 65 (.tmp 18) rfl B o 16 rfl _ HR1.out _ Try.underlying65 rfl size65 ?_) | (refine wpList_storeB rfl 65 (.tmp 6) (.tmp 19) rfl w1.heap.size 0 16 _ _ rfl rfl HM1.out size65 ?_; intro w2 h1 h2; have HS2 := Lib.hid h1; have HX2 := Lib.hid h2; clear h1 h2))
  have HSL := Lib.hid (show w.heap.size ≤ w1.heap.size from HC1.out.size)
  have HSG := Lib.hid (show g ≠ w1.heap.size from Nat.ne_of_lt HK1.out.lt)
  generalize hst : w1.heap.size = st at *
  have HK3 := Lib.hid (HK2.out.chg HX2.out HSG.out)
  have HC3 := Lib.hid (HC2.out.thenNew HX2.out HSL.out)
  have HSB := Lib.hid fun j (_ : j < 240) => ks_by (by have := HN.out; omega) HY.out j
  have hn8 : n ≤ 8 := by have := HN.out; omega
  have hw3 := HK3.out.words
  clear HX2 HM1 HK2 HC2 HC1 HK1 HR1 hst
  go_wp2_with (go_at_call 26; refine (last_any g n _ hn8 hw3).mono ?_; rintro e w' ⟨rfl, rfl⟩)
  go_loopw [7] (fun v wr => ∃ r k : Nat, r + k = n + 6 ∧ v = .int .i64 (r : Nat) ∧ Arr wr st 0 16 (dst n (ks n key) b k) ∧ KeyReady wr g n key ∧ Chg g w wr) (fun v _ => (intOf v).toNat)
  case atStart => exact ⟨n + 6, 0, rfl, rfl, HS2.out, HK3.out, HC3.out⟩
  case round =>
    obtain ⟨q, k, hqk, rfl, h1, h2, h3⟩ := hrel
    have hw := h2.words
    have hby := dst_by (n := n) (S := ks n key) (fun j hj => ks_by (by have := HN.out; omega) HY.out j) HGB.out k (by omega)
    have HRK := Lib.hid (show By 240 (ks n key) from fun j hj => HSB.out j hj)
    have H1 := Lib.hid h1
    have H2 := Lib.hid h2
    have H3 := Lib.hid h3
    have HBY2 := Lib.hid hby
    have HQ := Lib.hid hqk
    clear h1 h2 h3 hby
    by_cases hlt : 1 ≤ q
    · obtain ⟨p, hp⟩ : ∃ p, q = p + 1 := ⟨q - 1, by omega⟩
      have hqp : (q : Int) - 1 = (p : Nat) := by omega
      have HP := Lib.hid hp
      have HE0 := Lib.hid (show n + 6 - k = q by omega)
      have hql : q ≤ 14 := by omega
      clear hqk hp
      have HADD := Lib.hid (add_any g st q (ks n key) _ wr hql H2.out.sch H1.out HRK.out HBY2.out)
      have HAY := Lib.hid (addk_by (S := ks n key) (r := q) (fun i hi => HSB.out i (by omega)) HBY2.out)
      by_cases hmx : q < n + 6
      · have hmi : decide ((q : Int) < (n : Int) + 6) = true := by rw [decide_eq_true_eq]; omega
        have HE := Lib.hid (show subs unbox 12 (imixc (addk (ks n key) q (dst n (ks n key) b k))) = dst n (ks n key) b (k + 1) by show _ = subs unbox 12 (if 0 < k then _ else _); rw [if_pos (by have := HE0.out; omega), HE0.out])
        go_wp2_with (first | (go_at_call 27; refine HADD.out.mono ?_; rintro e w4 ⟨rfl, h1, h2⟩; have HS4 := Lib.hid h1; have HK4 := Lib.hid (H2.out.chg h2 HSG.out); have HC4 := Lib.hid (H3.out.thenNew h2 HSL.out); have hw4 := HK4.out.words; clear h1 h2) | (go_at_call 26; refine (last_any g n _ hn8 hw4).mono ?_; rintro e w' ⟨rfl, rfl⟩) | (go_at_call 30; refine (unmix_any g st _ _ HK4.out.dbl HS4.out HAY.out HSG.out).mono ?_; rintro e w6 ⟨rfl, h1, h2⟩; have HS6 := Lib.hid h1; have HK6 := Lib.hid (HK4.out.chg h2 HSG.out); have HC6 := Lib.hid (HC4.out.thenNew h2 HSL.out); have HSY6 := Lib.hid (imixc_by HAY.out); clear h1 h2) | (go_at_call 28; refine (subst_any g 500 st 12 unbox _ _ (Or.inr rfl) HK6.out.unbox HS6.out HSY6.out).mono ?_; rintro e w7 ⟨rfl, h1⟩; have H7 := Lib.hid (HK6.out.keep h1); have H8 := Lib.hid (HS6.out.keep h1); have H9 := Lib.hid (HC6.out.thenBelow h1); clear h1) | (refine wpList_storeB rfl 65 (.tmp 6) (.tmp 38) rfl st 0 16 _ _ rfl rfl H8.out size65 ?_; intro w8 h1 h2; have HS8 := Lib.hid h1; have HK8 := Lib.hid (H7.out.chg h2 HSG.out); have HC8 := Lib.hid (H9.out.thenNew h2 HSL.out); clear h1 h2))
        go_roundw
        case rel => exact ⟨p, k + 1, by have := HP.out; have := HQ.out; omega, rfl, HE.out ▸ HS8.out, HK8.out, HC8.out⟩
        case measure => have := HP.out; simp [intOf]; omega
      · have hmi : decide ((q : Int) < (n : Int) + 6) = false := by rw [decide_eq_false_iff_not]; omega
        have HE := Lib.hid (show subs unbox 12 (addk (ks n key) q (dst n (ks n key) b k)) = dst n (ks n key) b (k + 1) by show _ = subs unbox 12 (if 0 < k then _ else _); rw [if_neg (by have := HE0.out; omega), HE0.out])
        go_wp2_with (first | (go_at_call 27; refine HADD.out.mono ?_; rintro e w4 ⟨rfl, h1, h2⟩; have HS4 := Lib.hid h1; have HK4 := Lib.hid (H2.out.chg h2 HSG.out); have HC4 := Lib.hid (H3.out.thenNew h2 HSL.out); have hw4 := HK4.out.words; clear h1 h2) | (go_at_call 26; refine (last_any g n _ hn8 hw4).mono ?_; rintro e w' ⟨rfl, rfl⟩) | (go_at_call 28; refine (subst_any g 500 st 12 unbox _ _ (Or.inr rfl) HK4.out.unbox HS4.out HAY.out).mono ?_; rintro e w7 ⟨rfl, h1⟩; have H7 := Lib.hid (HK4.out.keep h1); have H8 := Lib.hid (HS4.out.keep h1); have H9 := Lib.hid (HC4.out.thenBelow h1); clear h1) | (refine wpList_storeB rfl 65 (.tmp 6) (.tmp 38) rfl st 0 16 _ _ rfl rfl H8.out size65 ?_; intro w8 h1 h2; have HS8 := Lib.hid h1; have HK8 := Lib.hid (H7.out.chg h2 HSG.out); have HC8 := Lib.hid (H9.out.thenNew h2 HSL.out); clear h1 h2))
        go_roundw
        case rel => exact ⟨p, k + 1, by have := HP.out; have := HQ.out; omega, rfl, HE.out ▸ HS8.out, HK8.out, HC8.out⟩
        case measure => have := HP.out; simp [intOf]; omega
    · obtain rfl : q = 0 := by omega
      obtain rfl : k = n + 6 := by omega
      have HADD := Lib.hid (add_any g st 0 (ks n key) _ wr (by decide) H2.out.sch H1.out HRK.out HBY2.out)
      have hsa : ∀ W : World, (Instr.sliceAt 65 (.pointer (some ⟨st, 0, none⟩)) none none none).run Try.prog W = .ok (.slice (some ⟨st, 0, none⟩) 16 16) W := all_arr 65 16 st 0 Try.underlying65 (by decide)
      clear hqk
      go_wp2_with (go_at_call 27; refine HADD.out.mono ?_; rintro e w4 ⟨rfl, h1, h2⟩; have HS4 := Lib.hid h1; have HK4 := Lib.hid (H2.out.chg h2 HSG.out); have HC4 := Lib.hid (H3.out.thenNew h2 HSL.out); clear h1 h2)
      go_ret2
      exact ⟨st, rfl, HSL.out, HS4.out, HK4.out, HC4.out⟩
end Go.Proofs.Ytdlkhfcfjgjooaa
