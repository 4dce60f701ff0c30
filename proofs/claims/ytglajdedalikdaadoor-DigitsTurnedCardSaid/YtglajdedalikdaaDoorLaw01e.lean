import Derived.Test.YtglajdedalikdaaDoorLaw01a
import Derived.Test.YtglajdedalikdaaDoorRowX
namespace Go.Proofs.YtglajdedalikdaaDoor
open Go.RowKit

/-- the sum of weights of k digits D -/
def gsum (N f : Nat) (D : Nat → Nat) : Nat → Nat
  | 0 => 0
  | k + 1 => gsum N f D k + wt (N - 1 - k + f) (D k)
theorem psum_g (N f : Nat) (s : ByteArray) (k : Nat) : psum N f s k = gsum N f (dg s) k := by
  induction k with
  | zero => rfl
  | succ k ih => simp only [psum, gsum]; rw [ih]
theorem gsum_congr (N f : Nat) (D E : Nat → Nat) (k : Nat) (h : ∀ i, i < k → D i = E i) : gsum N f D k = gsum N f E k := by
  induction k with
  | zero => rfl
  | succ k ih => simp only [gsum]; rw [ih (fun i hi => h i (by omega)), h k (by omega)]
/-- one digit turned -/
theorem gsum_set (N f : Nat) (D : Nat → Nat) (a y : Nat) (k : Nat) (h : a < k) :
    gsum N f (fun i => if i = a then y else D i) k + wt (N - 1 - a + f) (D a) = gsum N f D k + wt (N - 1 - a + f) y := by
  induction k with
  | zero => omega
  | succ k ih =>
    simp only [gsum]
    rcases Nat.lt_or_ge a k with h' | h'
    · rw [if_neg (by omega)]; have := ih h'; omega
    · obtain rfl : a = k := by omega
      rw [if_pos rfl, gsum_congr N f _ D a (fun i hi => if_neg (by omega))]; omega
theorem wt_inj : ∀ p < 2, ∀ x < 10, ∀ y < 10, x ≠ y → (wt p x + 10 - wt p y) % 10 ≠ 0 := by decide
theorem wt_mod (p d : Nat) : wt p d = wt (p % 2) d := by unfold wt; rw [Nat.mod_mod]
def two_ok (p x y : Nat) : Bool := x == y || (x == 0 && y == 9) || (x == 9 && y == 0) || (wt p x + wt (1 - p) y + 20 - (wt p y + wt (1 - p) x)) % 10 != 0
theorem two_all : ∀ p < 2, ∀ x < 10, ∀ y < 10, two_ok p x y = true := by decide
theorem wt_two (p : Nat) (hp : p < 2) (x : Nat) (hx : x < 10) (y : Nat) (hy : y < 10) : x = y ∨ x = 0 ∧ y = 9 ∨ x = 9 ∧ y = 0 ∨ (wt p x + wt (1 - p) y + 20 - (wt p y + wt (1 - p) x)) % 10 ≠ 0 := by
  have h := two_all p hp x hx y hy
  unfold two_ok at h
  simp only [Bool.or_eq_true, Bool.and_eq_true, beq_iff_eq, bne_iff_ne] at h
  rcases h with ((h | h) | h) | h
  · exact Or.inl h
  · exact Or.inr (Or.inl h)
  · exact Or.inr (Or.inr (Or.inl h))
  · exact Or.inr (Or.inr (Or.inr h))
theorem valid_iff (s : ByteArray) (h : validB s = true) : s.data.toList.all isDig = true ∧ s.size ≤ 999 ∧ 0 < s.size ∧ gsum s.size 0 (dg s) s.size % 10 = 0 := by
  unfold validB at h
  simp only [Bool.and_eq_true, decide_eq_true_eq] at h
  obtain ⟨h1, h2, h3⟩ := h
  obtain ⟨h4, h5⟩ := fault_zero h2
  exact ⟨h4, by rw [Array.length_toList] at h5; exact h5, h1, by rw [← psum_g]; exact h3⟩
theorem invalid_of {s : ByteArray} (h : gsum s.size 0 (dg s) s.size % 10 ≠ 0) : validB s = false := by
  cases hv : validB s
  · rfl
  · exact absurd (valid_iff s hv).2.2.2 h
theorem dg_strOf (n : Nat) (b : Nat → Nat) (i : Nat) (h : i < n) (hb : b i < 256) : dg (strOf n b) i = b i - 48 := by
  unfold dg; rw [strOf_at n b 48 i h hb]
theorem by_dg (s : ByteArray) (i : Nat) (h : i < s.size) (hd : s.data.toList.all isDig = true) : by_ s i = 48 + dg s i ∧ dg s i ≤ 9 := by
  have h1 := dig_at s i h hd
  have h2 := dg_eq s i h
  unfold by_
  rw [List.getD_eq_getElem?_getD, List.getElem?_eq_getElem (by rw [Array.length_toList]; exact h)]
  show (s[i]).toNat = _ ∧ _
  omega
/-- one digit turned makes a valid text invalid -/
theorem turned_one (s : ByteArray) (a d : Nat) (h : validB s = true) (ha : a < s.size) (hd : d ≤ 9) (hne : by_ s a ≠ 48 + d) :
    validB (strOf s.size fun i => if i = a then 48 + d else by_ s i) = false := by
  obtain ⟨h1, h2, h3, h4⟩ := valid_iff s h
  apply invalid_of
  rw [strOf_size]
  have hda := by_dg s a ha h1
  have hD : gsum s.size 0 (dg (strOf s.size fun i => if i = a then 48 + d else by_ s i)) s.size = gsum s.size 0 (fun i => if i = a then d else dg s i) s.size := by
    apply gsum_congr
    intro i hi
    rw [dg_strOf _ _ i hi (by split; omega; exact by_lt s i)]
    by_cases e : i = a
    · rw [if_pos e, if_pos e]; omega
    · rw [if_neg e, if_neg e, (by_dg s i hi h1).1]; omega
  rw [hD]
  have hs := gsum_set s.size 0 (dg s) a d s.size ha
  have h10 := wt_inj ((s.size - 1 - a + 0) % 2) (by omega) d (by omega) (dg s a) (by omega) (by omega)
  rw [← wt_mod, ← wt_mod] at h10
  have hw := wt_le (s.size - 1 - a + 0) (dg s a) hda.2
  omega
/-- two digits next to each other exchanged make a valid text invalid, but for 0 and 9 -/
theorem turned_two (s : ByteArray) (a : Nat) (h : validB s = true) (ha : a + 1 < s.size) (hne : by_ s a ≠ by_ s (a + 1)) (h09 : ¬ (by_ s a = 48 ∧ by_ s (a + 1) = 57)) (h90 : ¬ (by_ s a = 57 ∧ by_ s (a + 1) = 48)) :
    validB (strOf s.size fun i => if i = a + 1 then by_ s a else if i = a then by_ s (a + 1) else by_ s i) = false := by
  obtain ⟨h1, h2, h3, h4⟩ := valid_iff s h
  apply invalid_of
  rw [strOf_size]
  have hda := by_dg s a (by omega) h1
  have hdb := by_dg s (a + 1) ha h1
  have hD : gsum s.size 0 (dg (strOf s.size fun i => if i = a + 1 then by_ s a else if i = a then by_ s (a + 1) else by_ s i)) s.size =
      gsum s.size 0 (fun i => if i = a + 1 then dg s a else if i = a then dg s (a + 1) else dg s i) s.size := by
    apply gsum_congr
    intro i hi
    rw [dg_strOf _ _ i hi (by split; exact by_lt s _; split; exact by_lt s _; exact by_lt s i)]
    by_cases e : i = a + 1
    · rw [if_pos e, if_pos e]; omega
    · rw [if_neg e, if_neg e]
      by_cases e2 : i = a
      · rw [if_pos e2, if_pos e2]; omega
      · rw [if_neg e2, if_neg e2, (by_dg s i hi h1).1]; omega
  rw [hD]
  have hs1 := gsum_set s.size 0 (dg s) a (dg s (a + 1)) s.size (by omega)
  have hs2 := gsum_set s.size 0 (fun i => if i = a then dg s (a + 1) else dg s i) (a + 1) (dg s a) s.size ha
  rw [if_neg (show ¬ a + 1 = a by omega)] at hs2
  have h10 : (wt ((s.size - 1 - a + 0) % 2) (dg s (a + 1)) + wt (1 - (s.size - 1 - a + 0) % 2) (dg s a) + 20 - (wt ((s.size - 1 - a + 0) % 2) (dg s a) + wt (1 - (s.size - 1 - a + 0) % 2) (dg s (a + 1)))) % 10 ≠ 0 := by
    rcases wt_two ((s.size - 1 - a + 0) % 2) (by omega) (dg s (a + 1)) (by omega) (dg s a) (by omega) with h | h | h | h
    · omega
    · omega
    · omega
    · exact h
  have hp : (s.size - 1 - (a + 1) + 0) % 2 = 1 - (s.size - 1 - a + 0) % 2 := by omega
  rw [← hp, ← wt_mod, ← wt_mod, ← wt_mod, ← wt_mod] at h10
  have w1 := wt_le (s.size - 1 - a + 0) (dg s a) hda.2
  have w2 := wt_le (s.size - 1 - (a + 1) + 0) (dg s (a + 1)) hdb.2
  omega

set_option maxRecDepth 100000 in
set_option maxHeartbeats 1600000 in
theorem turned_any (s : ByteArray) (at_ d : Int) (w : World) (hs : s.size ≤ maxLen) (hat : -9223372036854775808 ≤ at_ ∧ at_ ≤ 9223372036854775807) (hd : 0 ≤ d ∧ d ≤ 255) (hw : Wts w) :
    Calls Tryd.prog 7 #[.string s, .int .i64 at_, .int .u8 d] w fun e w' => e = .returned (.bool true) ∧ Below w.heap.size w w' := by
  have HW := Lib.hid hw
  clear hw
  by_cases hv : validB s = true
  · obtain ⟨h1, h2, h3, _⟩ := valid_iff s hv
    have HV := Lib.hid hv
    have HD := Lib.hid h1
    clear hv h1
    rcases (show at_ < 0 ∨ (0 ≤ at_ ∧ (s.size : Int) ≤ at_) ∨ (0 ≤ at_ ∧ at_ < s.size ∧ 9 < d) ∨ (0 ≤ at_ ∧ at_ < s.size ∧ d ≤ 9) by omega) with h | ⟨h, h'⟩ | ⟨h, h', h''⟩ | ⟨h, h', h''⟩
    iterate 3
      · go_enter Tryd.func7, Tryd.ntmps7
        go_wp2_with fail
        refine (small_any _ HW.out).mono ?_
        rintro e w1 ⟨rfl, hb1⟩
        have HW1 := Lib.hid (HW.out.keep hb1)
        go_wp2_with fail
        refine (valid_any s _ hs HW1.out).mono ?_
        rintro e w2 ⟨rfl, n2, rfl⟩
        rw [HV.out]
        go_wp2_with fail
        go_ret
        exact ⟨rfl, drawn hb1 n2⟩
    · obtain ⟨a, rfl⟩ := Int.eq_ofNat_of_zero_le h
      obtain ⟨d, rfl⟩ := Int.eq_ofNat_of_zero_le hd.1
      go_enter Tryd.func7, Tryd.ntmps7
      go_wp2_with fail
      refine (small_any _ HW.out).mono ?_
      rintro e w1 ⟨rfl, hb1⟩
      have HW1 := Lib.hid (HW.out.keep hb1)
      go_wp2_with fail
      refine (valid_any s _ hs HW1.out).mono ?_
      rintro e w2 ⟨rfl, n2, rfl⟩
      rw [HV.out]
      have hb2 := drawn hb1 n2
      have hw2 := HW1.out.drewN n2
      generalize w1.drewN n2 = W at *
      have HB2 := Lib.hid hb2
      have HW2 := Lib.hid hw2
      clear hb1 hb2 hw2 HW1
      obtain ⟨cap, W1, hconv, hbW, hlt1, hrow⟩ := bytesOf s W
      have HC := Lib.hid hbW
      have HR := Lib.hid hrow
      clear hbW hrow
      have ha : a < s.size := by omega
      have hc := HR.out.cell ha
      have hf := HR.out.frozen ha
      have HXL := Lib.hid (by_lt s a)
      obtain ⟨x, hx⟩ : ∃ x, by_ s a = x := ⟨_, rfl⟩
      have HX := Lib.hid hx
      rw [hx] at hc
      clear hx
      have HR2 := Lib.hid (HR.out.set a (.int .u8 (48 + (d : Int))))
      have HB3 := Lib.hid ((HB2.out.trans (HC.out.mono HB2.out.size)).setCell (p := ⟨W.heap.size, a, none⟩) HB2.out.size (.int .u8 (48 + (d : Int))))
      rcases (show (((x : Nat) : Int) == 48 + (d : Int)) = true ∨ (((x : Nat) : Int) == 48 + (d : Int)) = false by cases h : (((x : Nat) : Int) == 48 + (d : Int)) <;> simp) with he | he
      · have e48 : (48 : Int) + (d : Int) = (x : Nat) := by simpa using (beq_iff_eq.1 he).symm
        rw [e48] at HB3
        clear he HR2
        by_cases hlast : a + 1 = s.size
        · have hl1 : (((a : Nat) : Int) == (s.size : Int) - 1) = true := by simp; omega
          go_wp2_with fail
          go_ret
          exact ⟨rfl, HB3.out⟩
        · have hl1 : (((a : Nat) : Int) == (s.size : Int) - 1) = false := by simp; omega
          obtain ⟨cap2, W4, hconv2, hbW2, hlt2, hrow2⟩ := bytesOf s (W1.setCell ⟨W.heap.size, a, none⟩ (.int .u8 ((x : Nat) : Int)))
          have HB4 := Lib.hid (HB3.out.trans (hbW2.mono HB3.out.size))
          have HR4 := Lib.hid hrow2
          have ha1 : a + 1 < s.size := by omega
          have HSZ := Lib.hid HB3.out.size
          generalize hg : ((W1.setCell ⟨W.heap.size, a, none⟩ (.int .u8 ((x : Nat) : Int)))).heap.size = g2 at *
          clear hg hbW2 hrow2
          have hca := HR4.out.cell ha
          have hfa := HR4.out.frozen ha
          have hcb := HR4.out.cell ha1
          have hfb := HR4.out.frozen ha1
          rw [HX.out] at hca
          obtain ⟨y, hy⟩ : ∃ y, by_ s (a + 1) = y := ⟨_, rfl⟩
          have HY := Lib.hid hy
          rw [hy] at hcb
          clear hy
          have HB5 := Lib.hid (fun u v : Value => (HB4.out.setCell (p := ⟨g2, a, none⟩) HSZ.out u).setCell (p := ⟨g2, a + 1, none⟩) HSZ.out v)
          by_cases hxy : x = y
          · subst hxy
            by_cases q1 : x = 48
            · have f1 : (((x : Nat) : Int) == 48) = true := beq_iff_eq.2 (by omega)
              have f2 : (((x : Nat) : Int) == 57) = false := beq_eq_false_iff_ne.2 (by omega)
              clear q1
              go_wp2_with fail
              go_ret
              exact ⟨rfl, HB5.out _ _⟩
            · by_cases q2 : x = 57
              · have f1 : (((x : Nat) : Int) == 48) = false := beq_eq_false_iff_ne.2 (by omega)
                have f2 : (((x : Nat) : Int) == 57) = true := beq_iff_eq.2 (by omega)
                clear q1 q2
                go_wp2_with fail
                go_ret
                exact ⟨rfl, HB5.out _ _⟩
              · have f1 : (((x : Nat) : Int) == 48) = false := beq_eq_false_iff_ne.2 (by omega)
                have f2 : (((x : Nat) : Int) == 57) = false := beq_eq_false_iff_ne.2 (by omega)
                clear q1 q2
                go_wp2_with fail
                go_ret
                exact ⟨rfl, HB5.out _ _⟩
          · have f0 : (((x : Nat) : Int) == ((y : Nat) : Int)) = false := beq_eq_false_iff_ne.2 (by omega)
            by_cases h09 : x = 48 ∧ y = 57
            · have f1 : (((x : Nat) : Int) == 48) = true := beq_iff_eq.2 (by omega)
              have f2 : (((y : Nat) : Int) == 57) = true := beq_iff_eq.2 (by omega)
              clear h09 hxy
              go_wp2_with fail
              go_ret
              exact ⟨rfl, HB5.out _ _⟩
            · by_cases h90 : x = 57 ∧ y = 48
              · have f1 : (((x : Nat) : Int) == 48) = false := beq_eq_false_iff_ne.2 (by omega)
                have f2 : (((x : Nat) : Int) == 57) = true := beq_iff_eq.2 (by omega)
                have f3 : (((y : Nat) : Int) == 48) = true := beq_iff_eq.2 (by omega)
                clear h09 h90 hxy
                go_wp2_with fail
                go_ret
                exact ⟨rfl, HB5.out _ _⟩
              · have HT2 := Lib.hid (turned_two s a HV.out ha1 (by rw [HX.out, HY.out]; exact hxy) (by rw [HX.out, HY.out]; exact h09) (by rw [HX.out, HY.out]; exact h90))
                rw [HX.out, HY.out] at HT2
                have hcv2 := convRowX (cap := cap2) ((HR4.out.set a (.int .u8 (y : Int))).set (a + 1) (.int .u8 (x : Int))) (fun i => if i = a + 1 then x else if i = a then y else by_ s i) (Nat.le_refl _) (fun i _ => by
                  by_cases e : i = a + 1
                  · simp [e]
                  · by_cases e2 : i = a <;> simp [e, e2])
                have htz2 := strOf_size s.size (fun i => if i = a + 1 then x else if i = a then y else by_ s i)
                generalize (strOf s.size fun i => if i = a + 1 then x else if i = a then y else by_ s i) = t2 at *
                have hz2 : t2.size ≤ maxLen := by rw [htz2]; exact hs
                clear htz2
                have HW5 := Lib.hid (HW.out.keep (HB5.out (.int .u8 y) (.int .u8 x)))
                by_cases q1 : x = 48
                · have f1 : (((x : Nat) : Int) == 48) = true := beq_iff_eq.2 (by omega)
                  have f2 : (((y : Nat) : Int) == 57) = false := beq_eq_false_iff_ne.2 (by omega)
                  have f3 : (((x : Nat) : Int) == 57) = false := beq_eq_false_iff_ne.2 (by omega)
                  clear q1 h09 h90 hxy
                  go_wp2_with fail
                  refine (valid_any t2 _ hz2 HW5.out).mono ?_
                  rintro e w9 ⟨rfl, n9, rfl⟩
                  rw [HT2.out]
                  go_wp2_with fail
                  go_ret
                  exact ⟨rfl, drawn (HB5.out _ _) n9⟩
                · by_cases q2 : x = 57
                  · have f1 : (((x : Nat) : Int) == 48) = false := beq_eq_false_iff_ne.2 (by omega)
                    have f2 : (((x : Nat) : Int) == 57) = true := beq_iff_eq.2 (by omega)
                    have f3 : (((y : Nat) : Int) == 48) = false := beq_eq_false_iff_ne.2 (by omega)
                    clear q1 q2 h09 h90 hxy
                    go_wp2_with fail
                    refine (valid_any t2 _ hz2 HW5.out).mono ?_
                    rintro e w9 ⟨rfl, n9, rfl⟩
                    rw [HT2.out]
                    go_wp2_with fail
                    go_ret
                    exact ⟨rfl, drawn (HB5.out _ _) n9⟩
                  · have f1 : (((x : Nat) : Int) == 48) = false := beq_eq_false_iff_ne.2 (by omega)
                    have f2 : (((x : Nat) : Int) == 57) = false := beq_eq_false_iff_ne.2 (by omega)
                    clear q1 q2 h09 h90 hxy
                    go_wp2_with fail
                    refine (valid_any t2 _ hz2 HW5.out).mono ?_
                    rintro e w9 ⟨rfl, n9, rfl⟩
                    rw [HT2.out]
                    go_wp2_with fail
                    go_ret
                    exact ⟨rfl, drawn (HB5.out _ _) n9⟩
      · have hcv := convRowX (cap := cap) HR2.out (fun i => if i = a then 48 + d else by_ s i) (Nat.le_refl _) (fun i _ => by by_cases e : i = a <;> simp [e])
        have HT := Lib.hid (turned_one s a d HV.out ha (by omega) (by rw [HX.out]; simp at he; omega))
        have htz := strOf_size s.size (fun i => if i = a then 48 + d else by_ s i)
        generalize (strOf s.size fun i => if i = a then 48 + d else by_ s i) = t at *
        have hz : t.size ≤ maxLen := by rw [htz]; exact hs
        clear htz
        by_cases hlast : a + 1 = s.size
        · have hl1 : (((a : Nat) : Int) == (s.size : Int) - 1) = true := by simp; omega
          go_wp2_with fail
          refine (valid_any t _ hz (HW.out.keep HB3.out)).mono ?_
          rintro e w8 ⟨rfl, n8, rfl⟩
          rw [HT.out]
          go_wp2_with fail
          go_ret
          exact ⟨rfl, drawn HB3.out n8⟩
        · have hl1 : (((a : Nat) : Int) == (s.size : Int) - 1) = false := by simp; omega
          go_wp2_with fail
          refine (valid_any t _ hz (HW.out.keep HB3.out)).mono ?_
          rintro e w8 ⟨rfl, n8, rfl⟩
          rw [HT.out]
          clear hcv
          have HB6 := Lib.hid (drawn HB3.out n8)
          generalize hW6 : (W1.setCell ⟨W.heap.size, a, none⟩ (.int .u8 (48 + (d : Int)))).drewN n8 = W6 at *
          clear hW6
          obtain ⟨cap2, W4, hconv2, hbW2, hlt2, hrow2⟩ := bytesOf s W6
          have HB4 := Lib.hid (HB6.out.trans (hbW2.mono HB6.out.size))
          have HR4 := Lib.hid hrow2
          have ha1 : a + 1 < s.size := by omega
          have HSZ := Lib.hid HB6.out.size
          generalize hg : (W6).heap.size = g2 at *
          clear hg hbW2 hrow2
          have hca := HR4.out.cell ha
          have hfa := HR4.out.frozen ha
          have hcb := HR4.out.cell ha1
          have hfb := HR4.out.frozen ha1
          rw [HX.out] at hca
          obtain ⟨y, hy⟩ : ∃ y, by_ s (a + 1) = y := ⟨_, rfl⟩
          have HY := Lib.hid hy
          rw [hy] at hcb
          clear hy
          have HB5 := Lib.hid (fun u v : Value => (HB4.out.setCell (p := ⟨g2, a, none⟩) HSZ.out u).setCell (p := ⟨g2, a + 1, none⟩) HSZ.out v)
          by_cases hxy : x = y
          · subst hxy
            by_cases q1 : x = 48
            · have f1 : (((x : Nat) : Int) == 48) = true := beq_iff_eq.2 (by omega)
              have f2 : (((x : Nat) : Int) == 57) = false := beq_eq_false_iff_ne.2 (by omega)
              clear q1
              go_wp2_with fail
              go_ret
              exact ⟨rfl, HB5.out _ _⟩
            · by_cases q2 : x = 57
              · have f1 : (((x : Nat) : Int) == 48) = false := beq_eq_false_iff_ne.2 (by omega)
                have f2 : (((x : Nat) : Int) == 57) = true := beq_iff_eq.2 (by omega)
                clear q1 q2
                go_wp2_with fail
                go_ret
                exact ⟨rfl, HB5.out _ _⟩
              · have f1 : (((x : Nat) : Int) == 48) = false := beq_eq_false_iff_ne.2 (by omega)
                have f2 : (((x : Nat) : Int) == 57) = false := beq_eq_false_iff_ne.2 (by omega)
                clear q1 q2
                go_wp2_with fail
                go_ret
                exact ⟨rfl, HB5.out _ _⟩
          · have f0 : (((x : Nat) : Int) == ((y : Nat) : Int)) = false := beq_eq_false_iff_ne.2 (by omega)
            by_cases h09 : x = 48 ∧ y = 57
            · have f1 : (((x : Nat) : Int) == 48) = true := beq_iff_eq.2 (by omega)
              have f2 : (((y : Nat) : Int) == 57) = true := beq_iff_eq.2 (by omega)
              clear h09 hxy
              go_wp2_with fail
              go_ret
              exact ⟨rfl, HB5.out _ _⟩
            · by_cases h90 : x = 57 ∧ y = 48
              · have f1 : (((x : Nat) : Int) == 48) = false := beq_eq_false_iff_ne.2 (by omega)
                have f2 : (((x : Nat) : Int) == 57) = true := beq_iff_eq.2 (by omega)
                have f3 : (((y : Nat) : Int) == 48) = true := beq_iff_eq.2 (by omega)
                clear h09 h90 hxy
                go_wp2_with fail
                go_ret
                exact ⟨rfl, HB5.out _ _⟩
              · have HT2 := Lib.hid (turned_two s a HV.out ha1 (by rw [HX.out, HY.out]; exact hxy) (by rw [HX.out, HY.out]; exact h09) (by rw [HX.out, HY.out]; exact h90))
                rw [HX.out, HY.out] at HT2
                have hcv2 := convRowX (cap := cap2) ((HR4.out.set a (.int .u8 (y : Int))).set (a + 1) (.int .u8 (x : Int))) (fun i => if i = a + 1 then x else if i = a then y else by_ s i) (Nat.le_refl _) (fun i _ => by
                  by_cases e : i = a + 1
                  · simp [e]
                  · by_cases e2 : i = a <;> simp [e, e2])
                have htz2 := strOf_size s.size (fun i => if i = a + 1 then x else if i = a then y else by_ s i)
                generalize (strOf s.size fun i => if i = a + 1 then x else if i = a then y else by_ s i) = t2 at *
                have hz2 : t2.size ≤ maxLen := by rw [htz2]; exact hs
                clear htz2
                have HW5 := Lib.hid (HW.out.keep (HB5.out (.int .u8 y) (.int .u8 x)))
                by_cases q1 : x = 48
                · have f1 : (((x : Nat) : Int) == 48) = true := beq_iff_eq.2 (by omega)
                  have f2 : (((y : Nat) : Int) == 57) = false := beq_eq_false_iff_ne.2 (by omega)
                  have f3 : (((x : Nat) : Int) == 57) = false := beq_eq_false_iff_ne.2 (by omega)
                  clear q1 h09 h90 hxy
                  go_wp2_with fail
                  refine (valid_any t2 _ hz2 HW5.out).mono ?_
                  rintro e w9 ⟨rfl, n9, rfl⟩
                  rw [HT2.out]
                  go_wp2_with fail
                  go_ret
                  exact ⟨rfl, drawn (HB5.out _ _) n9⟩
                · by_cases q2 : x = 57
                  · have f1 : (((x : Nat) : Int) == 48) = false := beq_eq_false_iff_ne.2 (by omega)
                    have f2 : (((x : Nat) : Int) == 57) = true := beq_iff_eq.2 (by omega)
                    have f3 : (((y : Nat) : Int) == 48) = false := beq_eq_false_iff_ne.2 (by omega)
                    clear q1 q2 h09 h90 hxy
                    go_wp2_with fail
                    refine (valid_any t2 _ hz2 HW5.out).mono ?_
                    rintro e w9 ⟨rfl, n9, rfl⟩
                    rw [HT2.out]
                    go_wp2_with fail
                    go_ret
                    exact ⟨rfl, drawn (HB5.out _ _) n9⟩
                  · have f1 : (((x : Nat) : Int) == 48) = false := beq_eq_false_iff_ne.2 (by omega)
                    have f2 : (((x : Nat) : Int) == 57) = false := beq_eq_false_iff_ne.2 (by omega)
                    clear q1 q2 h09 h90 hxy
                    go_wp2_with fail
                    refine (valid_any t2 _ hz2 HW5.out).mono ?_
                    rintro e w9 ⟨rfl, n9, rfl⟩
                    rw [HT2.out]
                    go_wp2_with fail
                    go_ret
                    exact ⟨rfl, drawn (HB5.out _ _) n9⟩
  · have HV := Lib.hid (show validB s = false by cases h : validB s <;> simp_all)
    clear hv
    go_enter Tryd.func7, Tryd.ntmps7
    go_wp2_with fail
    refine (small_any _ HW.out).mono ?_
    rintro e w1 ⟨rfl, hb1⟩
    have HW1 := Lib.hid (HW.out.keep hb1)
    go_wp2_with fail
    refine (valid_any s _ hs HW1.out).mono ?_
    rintro e w2 ⟨rfl, n2, rfl⟩
    rw [HV.out]
    go_wp2_with fail
    go_ret
    exact ⟨rfl, drawn hb1 n2⟩
end Go.Proofs.YtglajdedalikdaaDoor
