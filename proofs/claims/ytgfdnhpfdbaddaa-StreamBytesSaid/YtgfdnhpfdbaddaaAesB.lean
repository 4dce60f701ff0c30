/- Contracts of package aes: one word more of the schedule. -/
import Derived.Test.YtgfdnhpfdbaddaaAesA
namespace Go.Proofs.Ytgfdnhpfdbaddaa
open Go.RowKit

theorem aggB4 (f : Nat → Nat) : aggB 4 f = .agg #[.int .u8 (f 0 : Nat), .int .u8 (f 1 : Nat), .int .u8 (f 2 : Nat), .int .u8 (f 3 : Nat)] := rfl
/-- the schedule with word i put in -/
def putW (n i : Nat) (S : Nat → Nat) (x : Nat) : Nat := if x / 4 = i then nxt n S i (x % 4) else S x
/-- behind j bytes of word i -/
def putWj (n i j : Nat) (S : Nat → Nat) (x : Nat) : Nat := if x / 4 = i ∧ x % 4 < j then nxt n S i (x % 4) else S x
theorem putWj_zero (n i : Nat) (S : Nat → Nat) (x : Nat) : S x = putWj n i 0 S x := by unfold putWj; rw [if_neg (by omega)]
theorem putWj_four (n i : Nat) (S : Nat → Nat) (x : Nat) : putWj n i 4 S x = putW n i S x := by
  unfold putWj putW
  by_cases h : x / 4 = i
  · rw [if_pos ⟨h, by omega⟩, if_pos h]
  · rw [if_neg (fun e => h e.1), if_neg h]
theorem putWj_step (n i j : Nat) (S : Nat → Nat) (hj : j < 4) (x : Nat) : (if x = 4 * i + j then nxt n S i j else putWj n i j S x) = putWj n i (j + 1) S x := by
  unfold putWj
  by_cases h : x = 4 * i + j
  · rw [if_pos h, if_pos (by omega), show x % 4 = j by omega]
  · rw [if_neg h]
    by_cases h2 : x / 4 = i ∧ x % 4 < j
    · rw [if_pos h2, if_pos (by omega)]
    · rw [if_neg h2, if_neg (by omega)]
theorem kt_by {n i j : Nat} {S : Nat → Nat} (hn : 0 < n) (hi : n ≤ i) (hj : j < 4) (h : By (4 * i) S) : kt n S i j < 256 := by
  unfold kt
  split
  · refine xor8 (box_lt (h _ (by omega))) ?_
    split
    · exact gpow_lt (by decide) _
    · decide
  · split
    · exact box_lt (h _ (by omega))
    · exact h _ (by omega)
set_option maxHeartbeats 1600000 in
theorem make_any (g n i : Nat) (m : Int) (S U D : Nat → Nat) (w : World) (hn : n = 4 ∨ n = 8) (hi : n ≤ i) (hi2 : i < 60) (hS : By 240 S) (hk : KeyMem w g n 0 m S box U D) :
    Calls Try.prog 46 #[.pointer (some ⟨g, 0, none⟩), .int .i64 (i : Nat)] w fun e w' => e = .returned (.tuple #[]) ∧ KeyMem w' g n 0 m (putW n i S) box U D ∧ Chg g w w' := by
  have HW1 := Lib.hid fun i1 (h : i = i1 + 1) => word_any g i1 S w (by omega) hk.sch
  have HK := Lib.hid hk
  have HS := Lib.hid hS
  have HG := Lib.hid hk.lt
  obtain ⟨i1, hi1⟩ : ∃ i1, i = i1 + 1 := ⟨i - 1, by omega⟩
  obtain ⟨i2, hi3⟩ : ∃ i2, i = i2 + n := ⟨i - n, by omega⟩
  have HI1 := Lib.hid hi1
  have HI2 := Lib.hid hi3
  have hs1 : (i : Int) - 1 = (i1 : Nat) := by omega
  have hs2 : (i : Int) - (n : Nat) = (i2 : Nat) := by omega
  have hn4 : (4 : Int) ≤ (n : Nat) := by omega
  have hn8 : ((n : Nat) : Int) ≤ 8 := by omega
  have hn0 : ¬ ((n : Nat) : Int) = 0 := by omega
  have hway : ((((i : Int) % (n : Nat) == 0) = false ∧ ((n : Int) == 8) = false ∧ ∀ j, kt n S i j = S (4 * i1 + j)) ∨ (((i : Int) % (n : Nat) == 0) = false ∧ ((n : Int) == 8) = true ∧ ((i : Int) % 8 == 4) = false ∧ ∀ j, kt n S i j = S (4 * i1 + j))) ∨
      (((i : Int) % (n : Nat) == 0) = false ∧ ((n : Int) == 8) = true ∧ ((i : Int) % 8 == 4) = true ∧ ∀ j, kt n S i j = box (S (4 * i1 + j))) ∨
      (((i : Int) % (n : Nat) == 0) = true ∧ ∀ j, kt n S i j = box (S (4 * i1 + (j + 1) % 4)) ^^^ (if j = 0 then gpow 2 (i / n - 1) else 0)) := by
    have e1 : i - 1 = i1 := by omega
    by_cases hm : i % n = 0
    · right; right
      refine ⟨by rw [beq_iff_eq]; omega, fun j => ?_⟩
      unfold kt
      rw [if_pos hm, e1]
    · have hm' : ((i : Int) % (n : Nat) == 0) = false := by rw [beq_eq_false_iff_ne]; omega
      by_cases h8 : n = 8
      · have h8' : ((n : Int) == 8) = true := by rw [beq_iff_eq]; omega
        by_cases h4 : i % 8 = 4
        · right; left
          refine ⟨hm', h8', by rw [beq_iff_eq]; omega, fun j => ?_⟩
          unfold kt
          rw [if_neg hm, if_pos ⟨h8, h4⟩, e1]
        · left; right
          refine ⟨hm', h8', by rw [beq_eq_false_iff_ne]; omega, fun j => ?_⟩
          unfold kt
          rw [if_neg hm, if_neg (fun e => h4 e.2), e1]
      · left; left
        refine ⟨hm', by rw [beq_eq_false_iff_ne]; omega, fun j => ?_⟩
        unfold kt
        rw [if_neg hm, if_neg (fun e => h8 e.1), e1]
  have HN := Lib.hid hn
  clear hk hS hi1 hi3 hn
  go_enter Try.func46, Try.ntmps46
  go_wp2_with fail
  refine (HW1.out i1 HI1.out).mono ?_
  rintro e w1 ⟨rfl, hb1⟩
  have HK1 := Lib.hid (HK.out.keep hb1)
  have HB1 := Lib.hid hb1
  clear hb1
  have HA1 := Lib.hid (arr_made w1 #[.int .u8 0, .int .u8 0, .int .u8 0, .int .u8 0] 92 4 (fun _ => 0) rfl)
  have HTB := Lib.hid (Nat.ne_of_lt HK1.out.lt)
  generalize htb : w1.heap.size = tb at HTB
  have HTE := Lib.hid htb
  clear htb
  rcases hway with (⟨ht1, ht2, ht3⟩ | ⟨ht1, ht2, ht4, ht3⟩) | ⟨ht1, ht2, ht4, ht3⟩ | ⟨ht1, ht3⟩
  all_goals
    have HKT := Lib.hid ht3
    clear ht3
  focus
    -- each way ends in the same facts: w2, its word tb
    go_wp2_with ((refine wpList_storeB rfl 92 (.tmp 4) (.tmp 10) rfl w1.heap.size 0 4 _ _ rfl rfl HA1.out size88 ?_; intro w2 h1 h2; have HR2 := Lib.hid h1; have HC2 := Lib.hid h2; clear h1 h2; have HK2 := Lib.hid ((HK1.out.alloc _).chg HC2.out (Nat.ne_of_lt HK1.out.lt)); have hw2 := HK2.out.words; have HB2 := Lib.hid (HB1.out.trans (((Chg.refl w1.heap.size w1).alloc _).trans HC2.out |>.below HB1.out.size HB1.out.size))))
    have HT := Lib.hid (HR2.out.congr (f := kt n S i) fun j _ => (HKT.out j).symm)
    rw [HTE.out] at HT ⊢
    have HB := HB2
    clear HR2 HC2 HA1 HK1 HB1 HKT HTE HB2 ht1 ht2
  rotate_left
  focus
    go_wp2_with ((refine wpList_storeB rfl 92 (.tmp 4) (.tmp 10) rfl w1.heap.size 0 4 _ _ rfl rfl HA1.out size88 ?_; intro w2 h1 h2; have HR2 := Lib.hid h1; have HC2 := Lib.hid h2; clear h1 h2; have HK2 := Lib.hid ((HK1.out.alloc _).chg HC2.out (Nat.ne_of_lt HK1.out.lt)); have hw2 := HK2.out.words; have HB2 := Lib.hid (HB1.out.trans (((Chg.refl w1.heap.size w1).alloc _).trans HC2.out |>.below HB1.out.size HB1.out.size))))
    have HT := Lib.hid (HR2.out.congr (f := kt n S i) fun j _ => (HKT.out j).symm)
    rw [HTE.out] at HT ⊢
    have HB := HB2
    clear HR2 HC2 HA1 HK1 HB1 HKT HTE HB2 ht1 ht2 ht4
  rotate_left
  focus
    go_wp2_with (first | (refine wpList_storeB rfl 92 (.tmp 4) (.tmp 10) rfl w1.heap.size 0 4 _ _ rfl rfl HA1.out size88 ?_; intro w2 h1 h2; have HR2 := Lib.hid h1; have HC2 := Lib.hid h2; clear h1 h2; have HK2 := Lib.hid ((HK1.out.alloc _).chg HC2.out (Nat.ne_of_lt HK1.out.lt)); have hw2 := HK2.out.words; have HB2 := Lib.hid (HB1.out.trans (((Chg.refl w1.heap.size w1).alloc _).trans HC2.out |>.below HB1.out.size HB1.out.size))) | (refine wpList_loadB rfl 92 (.tmp 4) rfl w1.heap.size 0 4 rfl _ HR2.out _ Try.underlying92 rfl size88 ?_))
    refine (boxed_any g box _ w2 HK2.out.box (fun j hj => HS.out _ (by have := HI1.out; omega))).mono ?_
    rintro e w3 ⟨rfl, hb3⟩
    have HK3 := Lib.hid (HK2.out.keep hb3)
    have HR3 := Lib.hid (HR2.out.keep hb3)
    have HB3 := Lib.hid (HB2.out.trans (hb3.mono HB2.out.size))
    clear hb3
    go_wp2_with ((refine wpList_storeB rfl 92 (.tmp 4) (.tmp 55) rfl w1.heap.size 0 4 _ _ rfl rfl HR3.out size88 ?_; intro w4 h1 h2; have HR4 := Lib.hid h1; have HC4 := Lib.hid h2; clear h1 h2; have HK4 := Lib.hid (HK3.out.chg HC4.out (Nat.ne_of_lt HK1.out.lt)); have hw4 := HK4.out.words; have HB4 := Lib.hid (HB3.out.trans (HC4.out.below HB3.out.size HB1.out.size))))
    have HT := Lib.hid (HR4.out.congr (f := kt n S i) fun j _ => (HKT.out j).symm)
    rw [HTE.out] at HT ⊢
    have HB := HB4
    clear HR2 HC2 HA1 HK1 HB1 HKT HTE HB2 HR3 HB3 HR4 HC4 HB4 HK2 HK3 ht1 ht2 ht4 hw2
    generalize w4 = w2 at *
    have HK2 := HK4
    clear HK4
  rotate_left
  focus
    go_wp2_with (first | ((refine wpList_storeB rfl 92 (.tmp 4) (.tmp 10) rfl w1.heap.size 0 4 _ _ rfl rfl HA1.out size88 ?_; intro w2 h1 h2; have HR2 := Lib.hid h1; have HC2 := Lib.hid h2; clear h1 h2; have HK2 := Lib.hid ((HK1.out.alloc _).chg HC2.out (Nat.ne_of_lt HK1.out.lt)); have hw2 := HK2.out.words; have HB2 := Lib.hid (HB1.out.trans (((Chg.refl w1.heap.size w1).alloc _).trans HC2.out |>.below HB1.out.size HB1.out.size))); have hc0 := HR2.out.cell (j := 0) (by decide) rfl; have hc1 := HR2.out.cell (j := 1) (by decide) rfl; have hc2 := HR2.out.cell (j := 2) (by decide) rfl; have hc3 := HR2.out.cell (j := 3) (by decide) rfl))
    refine (boxed_any g box (fun j => S (4 * i1 + (j + 1) % 4)) w2 HK2.out.box (fun j hj => HS.out _ (by have := HI1.out; omega))).mono ?_
    rintro e w3 ⟨rfl, hb3⟩
    have HK3 := Lib.hid (HK2.out.keep hb3)
    have HR3 := Lib.hid (HR2.out.keep hb3)
    have HB3 := Lib.hid (HB2.out.trans (hb3.mono HB2.out.size))
    clear hb3
    go_wp2_with ((refine wpList_storeB rfl 92 (.tmp 4) (.tmp 29) rfl w1.heap.size 0 4 _ _ rfl rfl HR3.out size88 ?_; intro w4 h1 h2; have HR4 := Lib.hid h1; have HC4 := Lib.hid h2; clear h1 h2; have HK4 := Lib.hid (HK3.out.chg HC4.out (Nat.ne_of_lt HK1.out.lt)); have hw4 := HK4.out.words; have HB4 := Lib.hid (HB3.out.trans (HC4.out.below HB3.out.size HB1.out.size)); have hd0 := HR4.out.cell (j := 0) (by decide) rfl; have hf0 := HR4.out.frozen (j := 0) (by decide) rfl))
    have hxl := box_lt (HS.out (4 * i1 + (0 + 1) % 4) (by have := HI1.out; omega))
    have HP0 := Lib.hid (show box (S (4 * i1 + (0 + 1) % 4)) ^^^ gpow 2 (i / n - 1) = kt n S i 0 by rw [HKT.out 0, if_pos rfl])
    have HPj := Lib.hid (show ∀ j, j ≠ 0 → box (S (4 * i1 + (j + 1) % 4)) = kt n S i j from fun j hj => by rw [HKT.out j, if_neg hj, Nat.xor_zero])
    have HR5 := Lib.hid (((HR4.out.set (k := 0) (i := 0) (by decide) rfl (box (S (4 * i1 + (0 + 1) % 4)) ^^^ gpow 2 (i / n - 1)) rfl).congr (f := kt n S i) fun j _ => by
      by_cases e : j = 0
      · subst e; rw [if_pos rfl, HP0.out]
      · rw [if_neg e, HPj.out j e]).drew)
    have HK5 := Lib.hid ((HK4.out.chg ((Chg.refl w1.heap.size w4).setCell (a := ⟨w1.heap.size, 0, none⟩) (Or.inl rfl) (.int .u8 ((box (S (4 * i1 + (0 + 1) % 4)) ^^^ gpow 2 (i / n - 1) : Nat) : Int))) (Nat.ne_of_lt HK1.out.lt)).drew)
    have HB5 := Lib.hid ((HB4.out.setCell (p := ⟨w1.heap.size, 0, none⟩) HB1.out.size (.int .u8 ((box (S (4 * i1 + (0 + 1) % 4)) ^^^ gpow 2 (i / n - 1) : Nat) : Int))).drew)
    obtain ⟨q, hq⟩ : ∃ q, i / n - 1 = q := ⟨_, rfl⟩
    rw [hq] at HR5 HK5 HB5
    have hdv : ((i / n : Nat) : Int) = (i : Int) / (n : Nat) := by simp
    have hq1 : 1 ≤ i / n := by
      rcases HN.out with h | h <;> subst h <;> omega
    have hq2 : i / n ≤ 60 := Nat.le_trans (Nat.div_le_self _ _) (by omega)
    have HE := Lib.hid (show IntKind.i64.wrap (wrap64 ((i : Int) / (n : Nat)) - 1) = (q : Nat) by
      rw [← hdv, show wrap64 ((i / n : Nat) : Int) = ((q + 1 : Nat) : Int) by unfold wrap64; omega, IntWalk.i64_in _ (by omega)]; omega)
    have hpl : gpow 2 q < 256 := gpow_lt (by decide) q
    have HPW := Lib.hid fun (t : Int) (ht : t = (q : Nat)) w => (show Calls Try.prog 56 #[.int .u8 2, .int .i64 t] w fun e w' => e = .returned (.int .u8 (gpow 2 q : Nat)) ∧ w = w' by subst ht; exact pow_any 2 (q : Nat) w (by decide) (by omega))
    generalize box (S (4 * i1 + (0 + 1) % 4)) = x at *
    generalize hgp : gpow 2 q = y at *
    have hx := x8 hxl hpl
    clear hdv hq1 hq2 hq hgp hc0 hc1 hc2 hc3
    go_region_with (go_at_call 56; refine (HPW.out _ HE.out _).mono ?_; rintro e w' ⟨rfl, rfl⟩)
    all_goals
      generalize hw2' : (w4.setCell ⟨w1.heap.size, 0, none⟩ (.int .u8 ((x ^^^ y : Nat) : Int))).drew = wc at *
      rw [HTE.out] at HR5 ⊢
      have HT := HR5
      have HB := HB5
      clear HR2 HC2 HA1 HK1 HB1 HKT HTE HB2 HR3 HB3 HR4 HC4 HB4 HK2 HK3 HK4 hw4 hf0 hd0 HPW HP0 HPj HR5 HB5 ht1 hw2 HE hx hw2' w4 w3 w2
      have HK2 := HK5
      clear HK5
      have hw2 := HK2.out.words
  all_goals
    go_wp2_with fail
    refine (word_any g i2 S _ (by omega) HK2.out.sch).mono ?_
    rintro e w3 ⟨rfl, hb3⟩
    have HK3 := Lib.hid ((HK2.out.keep hb3).alloc (.cells #[.int .u8 0, .int .u8 0, .int .u8 0, .int .u8 0] 92))
    have HT3 := Lib.hid ((HT.out.keep hb3).alloc (.cells #[.int .u8 0, .int .u8 0, .int .u8 0, .int .u8 0] 92))
    have HB3 := Lib.hid (((HB.out.trans (hb3.mono HB.out.size))).alloc (Nat.le_trans HB.out.size hb3.size) (.cells #[.int .u8 0, .int .u8 0, .int .u8 0, .int .u8 0] 92))
    have HA3 := Lib.hid (arr_made w3 #[.int .u8 0, .int .u8 0, .int .u8 0, .int .u8 0] 92 4 (fun _ => 0) rfl)
    have HL3 := Lib.hid (show tb < w3.heap.size ∧ g < w3.heap.size ∧ w.heap.size ≤ w3.heap.size from ⟨Nat.lt_of_lt_of_le (HT.out.lt (by decide)) hb3.size, Nat.lt_of_lt_of_le HK2.out.lt hb3.size, Nat.le_trans HB.out.size hb3.size⟩)
    clear hb3 HK2 HT HB
    go_wp2_with ((refine wpList_storeB rfl 92 (.tmp 5) (.tmp 63) rfl w3.heap.size 0 4 _ _ rfl rfl HA3.out size88 ?_; intro w4 h1 h2; have HO4 := Lib.hid h1; have HC4 := Lib.hid h2; clear h1 h2; have HK4 := Lib.hid (HK3.out.chg HC4.out (Nat.ne_of_lt HL3.out.2.1)); have HT4 := Lib.hid (HT3.out.chg HC4.out (Nat.ne_of_lt HL3.out.1)); have HB4 := Lib.hid (HB3.out.trans (HC4.out.below HB3.out.size HL3.out.2.2))))
    generalize hob : w3.heap.size = ob at *
    clear HC4 HA3 HB3 HT3 HK3
    go_loopw [64] (fun v wr => ∃ k : Nat, k ≤ 4 ∧ v = .int .i64 k ∧ KeyMem wr g n 0 m (putWj n i k S) box U D ∧ Arr wr tb 0 4 (kt n S i) ∧ Arr wr ob 0 4 (fun j => S (4 * i2 + j)) ∧ Chg g w wr) (fun v _ => 4 - (intOf v).toNat)
    case atStart => exact ⟨0, by decide, rfl, HK4.out.congr (fun j _ => putWj_zero n i S j) (fun _ _ => rfl) (fun _ _ => rfl) (fun _ _ => rfl), HT4.out, HO4.out, Chg.of_below HB4.out⟩
    case round =>
      obtain ⟨k, hk, rfl, h1, h2, h3, h4⟩ := hrel
      have H1 := Lib.hid h1
      have H2 := Lib.hid h2
      have H3 := Lib.hid h3
      have H4 := Lib.hid h4
      clear h1 h2 h3 h4
      by_cases hlt : k < 4
      · have hc1 := H2.out.cell hlt (Nat.zero_add k).symm
        have hc2 := H3.out.cell hlt (Nat.zero_add k).symm
        have hi4 : 4 * i + k < 240 := by omega
        have hc3 := H1.out.sch.cell hi4 (show 1 + (i * 4 + k) = 1 + (4 * i + k) by omega)
        have hf3 := H1.out.sch.frozen hi4 (show 1 + (i * 4 + k) = 1 + (4 * i + k) by omega)
        have hw5 : 1 + (i * 4 + k) = 1 + (4 * i + k) := by omega
        have HM5 := Lib.hid ((H1.out.setSch (k := 1 + (i * 4 + k)) hi4 (by omega) (S (4 * i2 + k) ^^^ kt n S i k) rfl).drew)
        have HC5 := Lib.hid ((H4.out.setCell (a := ⟨g, 1 + (i * 4 + k), none⟩) (Or.inl rfl) (.int .u8 ((S (4 * i2 + k) ^^^ kt n S i k : Nat) : Int))).drew)
        have HT5 := Lib.hid ((H2.out.setOther (a := ⟨g, 1 + (i * 4 + k), none⟩) HTB.out.symm (.int .u8 ((S (4 * i2 + k) ^^^ kt n S i k : Nat) : Int))).drew)
        have HO5 := Lib.hid ((H3.out.setOther (a := ⟨g, 1 + (i * 4 + k), none⟩) (Nat.ne_of_gt HL3.out.2.1) (.int .u8 ((S (4 * i2 + k) ^^^ kt n S i k : Nat) : Int))).drew)
        clear hw5
        have htl : kt n S i k < 256 := kt_by (by have := HN.out; omega) hi hlt (fun x hx => HS.out x (by omega))
        have hol : S (4 * i2 + k) < 256 := HS.out _ (by have := HI2.out; omega)
        have HX := Lib.hid (show S (4 * i2 + k) ^^^ kt n S i k = nxt n S i k by unfold nxt; rw [show i - n = i2 by have := HI2.out; omega])
        generalize kt n S i k = y at *
        generalize S (4 * i2 + k) = x at *
        have hx := x8 hol htl
        go_wp2_with fail
        go_region
        all_goals
          generalize (wr.setCell ⟨g, 1 + (i * 4 + k), none⟩ (.int .u8 ((x ^^^ y : Nat) : Int))).drew = W5 at *
          clear hc1 hc2 hc3 hf3
          go_wp2_with fail
          go_roundw
          case rel => exact ⟨k + 1, by omega, by go_num, HM5.out.congr (fun j _ => by rw [HX.out]; exact putWj_step n i k S hlt j) (fun _ _ => rfl) (fun _ _ => rfl) (fun _ _ => rfl), HT5.out, HO5.out, HC5.out⟩
          case measure => simp [intOf]; omega
      · obtain rfl : k = 4 := by omega
        go_wp2_with fail
        go_end0
        exact ⟨rfl, H1.out.congr (fun j _ => putWj_four n i S j) (fun _ _ => rfl) (fun _ _ => rfl) (fun _ _ => rfl), H4.out⟩
end Go.Proofs.Ytgfdnhpfdbaddaa
