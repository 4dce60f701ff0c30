/- Contracts of package aes: a block is encrypted. -/
import Derived.Test.YtgfdnhpfdbaddaaAesE
namespace Go.Proofs.Ytgfdnhpfdbaddaa
open Go.RowKit

/-- what an encryption leaves: its result in new memory, the key ready -/
structure BlkP (g n : Nat) (key r : Nat → Nat) (w : World) (e : Ending) (w' : World) (st : Nat) : Prop where
  ret : e = .returned (.tuple #[.slice (some ⟨st, 0, none⟩) 16 16, .int .i64 0])
  new : w.heap.size ≤ st
  row : Arr w' st 0 16 r
  key : KeyReady w' g n key
  chg : Chg g w w'
theorem enc_short (g : Nat) (A : Option Addr) (len cap : Nat) (w : World) (hl : len ≠ 16) (_hl2 : len ≤ 140737488351232) :
    Calls Try.prog 24 #[.pointer (some ⟨g, 0, none⟩), .slice A len cap] w fun e w' => e = .returned (.tuple #[.slice none 0 0, .int .i64 1]) ∧ w = w' := by
  have hb : ((len : Int) != 16) = true := by simp; omega
  go_enter Try.func24, Try.ntmps24
  go_wp2_with fail
  go_ret2
  exact ⟨rfl, rfl⟩
set_option maxRecDepth 100000 in
set_option maxHeartbeats 1600000 in
theorem enc_any (g n : Nat) (key b : Nat → Nat) (A : Option Addr) (cap : Nat) (w : World) (hn : n = 4 ∨ n = 8) (hkey : By (4 * n) key) (hk : KeyAt w g n key) (hA : SlB w A 16 b) (hAg : ∀ B o, A = some ⟨B, o, none⟩ → B ≠ g) :
    Calls Try.prog 24 #[.pointer (some ⟨g, 0, none⟩), .slice A 16 cap] w fun e w' => ∃ st, BlkP g n key (enc n (ks n key) b) w e w' st := by
  obtain ⟨B, o, rfl, hB, hbs⟩ := hA (by decide)
  have HO := Lib.hid (once_any g n key w hn hkey hk)
  have HBY := Lib.hid fun j (hj : j < 16) => (hbs j hj).1
  have HBG := Lib.hid (hAg B o rfl)
  have HBS := Lib.hid (show w.rangeAt B o (bytesL 16 b) from fun j v hv => by
    obtain ⟨hj, rfl⟩ := bytesL_get _ _ j v hv
    exact (hbs j hj).2)
  have HBL := Lib.hid hB
  have HN := Lib.hid hn
  have HY := Lib.hid hkey
  have HG := Lib.hid hk.lt
  have hmf : ∀ (fn : Fn) (first cap : Array Value) (w : World), (Instr.makeFunc fn first cap).run Try.prog w = .ok (.func fn first cap) w := fun _ _ _ _ => rfl
  have hpa := to_arr 72 16 5 Try.underlying72 (some ⟨B, o, none⟩) 16 cap (Nat.le_refl _)
  clear hA hAg hn hkey hk hbs hB
  go_enter Try.func24, Try.ntmps24
  have HGB := Lib.hid (show By 16 b from fun j hj => HBY.out j hj)
  go_wp2_with (first | (go_at_call 32; refine HO.out.mono ?_; rintro e w1 ⟨rfl, h1, h2⟩; have HK1 := Lib.hid h1; have HC1 := Lib.hid h2; have HR1 := Lib.hid (show w1.rangeAt B o (bytesL 16 b) from fun j v hv => (h2.cell HBL.out HBG.out).trans (HBS.out j v hv)); have HM1 := Lib.hid (made65 w1); have HK2 := Lib.hid (HK1.out.alloc (.cells z16 72)); have HC2 := Lib.hid (HC1.out.alloc (.cells z16 72)); clear h1 h2) | (refine wpList_loadR rfl 72 (.tmp 18) rfl B o 16 rfl _ HR1.out _ Try.underlying72 rfl size65 ?_) | (refine wpList_storeB rfl 72 (.tmp 6) (.tmp 19) rfl w1.heap.size 0 16 _ _ rfl rfl HM1.out size65 ?_; intro w2 h1 h2; have HS2 := Lib.hid h1; have HX2 := Lib.hid h2; clear h1 h2))
  have HSL := Lib.hid (show w.heap.size ≤ w1.heap.size from HC1.out.size)
  have HSG := Lib.hid (show g ≠ w1.heap.size from Nat.ne_of_lt HK1.out.lt)
  generalize hst : w1.heap.size = st at *
  have HK3 := Lib.hid (HK2.out.chg HX2.out HSG.out)
  have HC3 := Lib.hid (HC2.out.thenNew HX2.out HSL.out)
  have HSB := Lib.hid fun j (_ : j < 240) => ks_by (by have := HN.out; omega) HY.out j
  have HA1 := Lib.hid (add_any g st 0 (ks n key) b w2 (by decide) HK3.out.sch HS2.out (fun j hj => HSB.out j hj) HGB.out)
  clear HX2 HS2 HM1 HK2 HC2 HC1 HK1 HR1 hst
  go_wp2_with (go_at_call 34; refine HA1.out.mono ?_; rintro e w3 ⟨rfl, h1, h2⟩; have HS4 := Lib.hid h1; have HK4 := Lib.hid (HK3.out.chg h2 HSG.out); have HC4 := Lib.hid (HC3.out.thenNew h2 HSL.out); clear h1 h2)
  clear HA1 HK3 HC3
  go_loopw [7] (fun v wr => ∃ r : Nat, r ≤ n + 6 ∧ v = .int .i64 ((r + 1 : Nat) : Int) ∧ Arr wr st 0 16 (est n (ks n key) b r) ∧ KeyReady wr g n key ∧ Chg g w wr) (fun v _ => 30 - (intOf v).toNat)
  case atStart => exact ⟨0, by omega, rfl, HS4.out, HK4.out, HC4.out⟩
  case round =>
    obtain ⟨r, hr, rfl, h1, h2, h3⟩ := hrel
    have hn8 : n ≤ 8 := by have := HN.out; omega
    have hw := h2.words
    have hby := est_by (S := ks n key) (fun j hj => ks_by (by have := HN.out; omega) HY.out j) HGB.out r hr
    have H1 := Lib.hid h1
    have H2 := Lib.hid h2
    have H3 := Lib.hid h3
    have HBY2 := Lib.hid hby
    clear h1 h2 h3 hby
    obtain ⟨q, hq⟩ : ∃ q, r + 1 = q := ⟨_, rfl⟩
    rw [hq]
    by_cases hlt : r < n + 6
    · have hql : (q : Int) ≤ ((n + 6 : Nat) : Int) := by omega
      have HSU := Lib.hid (subst_any g 244 st 4 box (est n (ks n key) b r) wr (Or.inl rfl) H2.out.box H1.out HBY2.out)
      have HSY := Lib.hid (subs_by box_by 4 HBY2.out)
      have HQ := Lib.hid hq
      clear hq
      have HRK := Lib.hid (show By 240 (ks n key) from fun j hj => HSB.out j hj)
      by_cases hmx : q < n + 6
      · have hmi : decide ((q : Int) < (n : Int) + 6) = true := by rw [decide_eq_true_eq]; omega
        have HE := Lib.hid (show addk (ks n key) q (mixc (subs box 4 (est n (ks n key) b r))) = est n (ks n key) b q by rw [← HQ.out]; show _ = addk _ _ (if r + 1 < n + 6 then _ else _); rw [if_pos (by have := HQ.out; omega)])
        go_wp2_with (first | (go_at_call 35; (first | (with_reducible refine (last_any g n _ hn8 hw).mono ?_) | (with_reducible refine (last_any g n _ hn8 hw5).mono ?_)); rintro e w' ⟨rfl, rfl⟩) | (go_at_call 36; refine HSU.out.mono ?_; rintro e w4 ⟨rfl, h1⟩; have H4 := Lib.hid (H2.out.keep h1); have H5 := Lib.hid (H1.out.keep h1); have H6 := Lib.hid (H3.out.thenBelow h1); clear h1) | (refine wpList_storeB rfl 72 (.tmp 6) (.tmp 31) rfl st 0 16 _ _ rfl rfl H5.out size65 ?_; intro w5 h1 h2; have HS5 := Lib.hid h1; have HK5 := Lib.hid (H4.out.chg h2 HSG.out); have HC5 := Lib.hid (H6.out.thenNew h2 HSL.out); have hw5 := HK5.out.words; clear h1 h2) | (go_at_call 37; refine (mix_any g st _ _ HK5.out.dbl HS5.out HSY.out HSG.out).mono ?_; rintro e w6 ⟨rfl, h1, h2⟩; have HS6 := Lib.hid h1; have HK6 := Lib.hid (HK5.out.chg h2 HSG.out); have HC6 := Lib.hid (HC5.out.thenNew h2 HSL.out); have HSY6 := Lib.hid (mixc_by HSY.out); clear h1 h2) | (go_at_call 34; refine (add_any g st q (ks n key) _ _ (by have := HQ.out; omega) HK6.out.sch HS6.out HRK.out HSY6.out).mono ?_; rintro e w7 ⟨rfl, h1, h2⟩; have HS7 := Lib.hid h1; have HK7 := Lib.hid (HK6.out.chg h2 HSG.out); have HC7 := Lib.hid (HC6.out.thenNew h2 HSL.out); clear h1 h2))
        go_roundw
        case rel => exact ⟨q, by omega, by go_num, HE.out ▸ HS7.out, HK7.out, HC7.out⟩
        case measure => simp [intOf]; omega
      · have hmi : decide ((q : Int) < (n : Int) + 6) = false := by rw [decide_eq_false_iff_not]; omega
        have HE := Lib.hid (show addk (ks n key) q (subs box 4 (est n (ks n key) b r)) = est n (ks n key) b q by rw [← HQ.out]; show _ = addk _ _ (if r + 1 < n + 6 then _ else _); rw [if_neg (by have := HQ.out; omega)])
        go_wp2_with (first | (go_at_call 35; (first | (with_reducible refine (last_any g n _ hn8 hw).mono ?_) | (with_reducible refine (last_any g n _ hn8 hw5).mono ?_)); rintro e w' ⟨rfl, rfl⟩) | (go_at_call 36; refine HSU.out.mono ?_; rintro e w4 ⟨rfl, h1⟩; have H4 := Lib.hid (H2.out.keep h1); have H5 := Lib.hid (H1.out.keep h1); have H6 := Lib.hid (H3.out.thenBelow h1); clear h1) | (refine wpList_storeB rfl 72 (.tmp 6) (.tmp 31) rfl st 0 16 _ _ rfl rfl H5.out size65 ?_; intro w5 h1 h2; have HS5 := Lib.hid h1; have HK5 := Lib.hid (H4.out.chg h2 HSG.out); have HC5 := Lib.hid (H6.out.thenNew h2 HSL.out); have hw5 := HK5.out.words; clear h1 h2) | (go_at_call 34; refine (add_any g st q (ks n key) _ _ (by have := HQ.out; omega) HK5.out.sch HS5.out HRK.out HSY.out).mono ?_; rintro e w7 ⟨rfl, h1, h2⟩; have HS7 := Lib.hid h1; have HK7 := Lib.hid (HK5.out.chg h2 HSG.out); have HC7 := Lib.hid (HC5.out.thenNew h2 HSL.out); clear h1 h2))
        go_roundw
        case rel => exact ⟨q, by omega, by go_num, HE.out ▸ HS7.out, HK7.out, HC7.out⟩
        case measure => simp [intOf]; omega
    · have hql : ¬ (q : Int) ≤ ((n + 6 : Nat) : Int) := by omega
      have HE := Lib.hid (show Arr wr st 0 16 (enc n (ks n key) b) from by
        have h := H1.out
        obtain rfl : r = n + 6 := by omega
        exact h)
      clear hq H1 HBY2
      have hsa : ∀ W : World, (Instr.sliceAt 72 (.pointer (some ⟨st, 0, none⟩)) none none none).run Try.prog W = .ok (.slice (some ⟨st, 0, none⟩) 16 16) W := all_arr 72 16 st 0 Try.underlying72 (by decide)
      go_wp2_with (go_at_call 35; refine (last_any g n _ hn8 hw).mono ?_; rintro e w' ⟨rfl, rfl⟩)
      go_ret2
      exact ⟨st, rfl, HSL.out, HE.out, H2.out, H3.out⟩

end Go.Proofs.Ytgfdnhpfdbaddaa
