/- 1 texts in one, in their order. -/
import Derived.Test.YtengejmkpkacgaaDoorPk6
/- Law KeysFold (layer 13). -/
namespace Go.Proofs.YtengejmkpkacgaaDoor
set_option maxRecDepth 100000
open Go.RowKit
theorem run_bs3 (a b c : ByteArray) (w : World) : (Instr.buildSlice 65 3 #[(0, .string a), (1, .string b), (2, .string c)]).run Tryd.prog w = .ok (.slice (some ⟨w.heap.size, 0, none⟩) 3 3) (w.alloc (.cells #[.string a, .string b, .string c] 9)) := by go_simp
theorem sls3b {w : World} {B : Nat} {a b c : ByteArray} (h : w.heap[B]? = some (.cells #[.string a, .string b, .string c] 9 (0, 0))) : SlS w (some ⟨B, 0, none⟩) 3 (lab3 a b c) := fun _ =>
  ⟨B, 0, rfl, (Array.getElem?_eq_some_iff.1 h).1, fun j hj => by
    rcases (show j = 0 ∨ j = 1 ∨ j = 2 by omega) with rfl | rfl | rfl
    · exact (Lib.cell_of_heap h 0).trans rfl
    · exact (Lib.cell_of_heap h 1).trans rfl
    · exact (Lib.cell_of_heap h 2).trans rfl⟩
/-- a number's text, that of nought being empty -/
def ntx (m : Nat) : ByteArray := if m = 0 then ByteArray.empty else itoaB (m : Int)
theorem ntx_step : ∀ m : Nat, m < 256 → 0 < m → ntx (m / 10) ++ ⟨#[chr (48 + m % 10)]⟩ = ntx m := by decide +kernel
theorem app_assoc (a b c : ByteArray) : a ++ b ++ c = a ++ (b ++ c) := by
  apply ba_ext
  rw [app_list, app_list, app_list, app_list, List.append_assoc]
theorem app_none (a : ByteArray) : a ++ { data := #[] } = a := by
  apply ba_ext
  rw [app_list]
  exact List.append_nil _
theorem app_none' (a : ByteArray) : ByteArray.empty ++ a = a := by
  apply ba_ext
  rw [app_list]
  exact List.nil_append _
theorem ntx_size {m a : Nat} {st : ByteArray} (h : ntx m ++ st = ntx a) (ha : a < 256) : st.size ≤ 3 := by
  have h1 : (ntx a).size ≤ 3 := by
    unfold ntx
    split
    · decide
    · exact itoaB_small a ha
  have h2 := congrArg ByteArray.size h
  rw [ByteArray.size_append] at h2
  omega
set_option maxHeartbeats 1600000 in
theorem kfold_bad (A : Option Addr) (n c : Nat) (t p v : Int) (w0 : World) (hn : ¬ (16 ≤ n ∧ n ≤ 64)) (ht : GT w0) (hp : P10 w0) :
    Calls Tryd.prog 4 #[.slice A n c, .int .i64 t, .int .i64 p, .int .i64 v] w0 fun e w' => e = .returned (.bool true) ∧ Below w0.heap.size w0 w' := by
  have HS := Lib.hid (small13_any w0 ht hp)
  have HN := Lib.hid (fun W => knew_bad A n c W hn)
  clear ht hp hn
  go_enter Tryd.func4, Tryd.ntmps4
  go_wp2_with fail
  refine HS.out.mono ?_
  rintro e w1 ⟨rfl, hb⟩
  have HB1 := Lib.hid hb
  clear hb
  go_wp2_with fail
  refine (HN.out _).mono ?_
  rintro e w2 ⟨rfl, rfl⟩
  go_wp2_with fail
  go_ret
  exact ⟨rfl, HB1.out⟩
theorem kok_no {t p v : Int} (h : kok t p v = false) : (t < 1 ∨ (¬ t < 1 ∧ 64 < t)) ∨ (¬ t < 1 ∧ ¬ 64 < t) ∧ (nmB p = false ∨ nmB p = true ∧ (v < 1 ∨ (¬ v < 1 ∧ 255 < v))) := by
  unfold kok at h
  have h := of_decide_eq_false h
  by_cases hb : 1 ≤ p ∧ p ≤ 4
  · have e : nmB p = true := decide_eq_true hb
    by_cases h1 : t < 1
    · exact Or.inl (Or.inl h1)
    by_cases h2 : 64 < t
    · exact Or.inl (Or.inr ⟨h1, h2⟩)
    refine Or.inr ⟨⟨h1, h2⟩, Or.inr ⟨e, ?_⟩⟩
    by_cases h3 : v < 1
    · exact Or.inl h3
    · exact Or.inr ⟨h3, by omega⟩
  · have e : nmB p = false := decide_eq_false hb
    by_cases h1 : t < 1
    · exact Or.inl (Or.inl h1)
    by_cases h2 : 64 < t
    · exact Or.inl (Or.inr ⟨h1, h2⟩)
    exact Or.inr ⟨⟨h1, h2⟩, Or.inl e⟩
set_option maxHeartbeats 3200000 in
theorem kfold_none (A : Option Addr) (n c : Nat) (t p v : Int) (key : Nat → Nat) (w0 : World) (hn : 16 ≤ n ∧ n ≤ 64) (hk : kok t p v = false) (hA : SlB w0 A n key) (hnil : A = none → n = 0 ∧ c = 0) (ht : GT w0) (hp : P10 w0) :
    Calls Tryd.prog 4 #[.slice A n c, .int .i64 t, .int .i64 p, .int .i64 v] w0 fun e w' => e = .returned (.bool true) ∧ Below w0.heap.size w0 w' := by
  have HS := Lib.hid (small13_any w0 ht hp)
  have HN := Lib.hid (show ∀ W, Below w0.heap.size w0 W → Calls Tryd.prog 9 #[.slice A n c] W fun e w' => ∃ G M cc, e = .returned (.tuple #[.pointer (some ⟨G, 0, none⟩), .int .i64 0]) ∧ W.heap.size ≤ G ∧ W.heap.size ≤ M ∧ RingAt w0 w' G M cc n key ∧ Below W.heap.size W w' from fun W h =>
    knew_good A n c key w0 W hn (hA.keep h) hnil ht hp h)
  have HKEY := Lib.hid (show ∀ G M cc W, RingAt w0 W G M cc n key → Calls Tryd.prog 15 #[.pointer (some ⟨G, 0, none⟩), .int .i64 t, .int .i64 p, .int .i64 v] W (KeyP w0 W G M cc n key t p v) from fun G M cc W h => key_any G M cc n t p v key w0 W h)
  unfold KeyP at HKEY
  rw [hk] at HKEY
  simp only [show kN false = 0 from rfl, show kE false = 1 from rfl] at HKEY
  have HNM := Lib.hid (fun W => name_any p W)
  have hno := kok_no hk
  clear ht hp hn hA hnil hk
  generalize keyF n key t.toNat (nmS p) v.toNat = F at *
  generalize nmS p = s at *
  generalize nmB p = is at *
  go_enter Tryd.func4, Tryd.ntmps4
  go_wp2_with fail
  refine HS.out.mono ?_
  rintro e w1 ⟨rfl, hb⟩
  have HB1 := Lib.hid hb
  clear hb
  go_wp2_with fail
  refine (HN.out _ HB1.out).mono ?_
  rintro e w2 ⟨G, M, cc, rfl, hG, hM, h2, hb2⟩
  have HRG := Lib.hid h2
  clear h2 hb2 hG hM
  go_wp2_with fail
  refine (HKEY.out G M cc _ HRG.out).mono ?_
  rintro e w3 ⟨⟨A3, c3, g3, rfl, _⟩, h3, _⟩
  have HB3 := Lib.hid h3.bel
  clear h3
  go_wp2_with fail
  refine (HNM.out _).mono ?_
  rintro e w4 ⟨rfl, rfl⟩
  rcases hno with (h1 | ⟨h1, h2⟩) | ⟨⟨h1, h2⟩, rfl | ⟨rfl, h3 | ⟨h3, h4⟩⟩⟩
  all_goals (go_wp2_with fail; go_ret; exact ⟨rfl, HB3.out⟩)
--DEFS fd
def fdG (AK AO : Option Addr) (cK cO : Nat) (KF : Nat → Nat) (s l : ByteArray) : Nat → Value → World → Prop
  | 0, v, _ => v = .bool true
  | 1, v, _ => v = .bool true
  | 2, v, _ => v = .slice AK 32 cK
  | 3, v, _ => v = .string (strOf 32 KF)
  | 4, v, _ => v = .slice AO 32 cO
  | 5, v, _ => v = .string s
  | 6, v, _ => v = .string l
  | 7, v, w => ∃ B, v = .slice (some ⟨B, 0, none⟩) 3 3 ∧ w.heap[B]? = some (.cells #[.string s, .string bVersion, .string l] 9 (0, 0))
  | 8, v, w => ∃ A c, v = .slice A 32 c ∧ SlB w A 32 KF
  | 9, v, _ => v = .string (strOf 32 KF)
  | 10, v, _ => v = .bool true
  | 11, v, _ => v = .bool true
  | 12, v, _ => v = .bool true
  | 13, v, _ => v = .slice AK 32 cK
  | 14, v, _ => v = .int .i64 ((32 : Nat) : Int)
  | 15, v, _ => v = .bool true
  | 16, v, _ => v = .bool true
  | _, _, _ => True
theorem fdG_stays (AK AO : Option Addr) (cK cO : Nat) (KF : Nat → Nat) (s l : ByteArray) : ∀ i v w w', fdG AK AO cK cO KF s l i v w → Below w.heap.size w w' → fdG AK AO cK cO KF s l i v w'
  | 0, _, _, _, h, _ => h
  | 1, _, _, _, h, _ => h
  | 2, _, _, _, h, _ => h
  | 3, _, _, _, h, _ => h
  | 4, _, _, _, h, _ => h
  | 5, _, _, _, h, _ => h
  | 6, _, _, _, h, _ => h
  | 7, v, w, w', h_, hb => by
    obtain ⟨B, h1, h2⟩ := h_; exact ⟨B, h1, (hb.block B (Array.getElem?_eq_some_iff.1 h2).1).trans h2⟩
  | 8, v, w, w', h_, hb => by
    obtain ⟨A, c, h1, h2⟩ := h_; exact ⟨A, c, h1, h2.keep hb⟩
  | 9, _, _, _, h, _ => h
  | 10, _, _, _, h, _ => h
  | 11, _, _, _, h, _ => h
  | 12, _, _, _, h, _ => h
  | 13, _, _, _, h, _ => h
  | 14, _, _, _, h, _ => h
  | 15, _, _, _, h, _ => h
  | 16, _, _, _, h, _ => h
  | _ + 17, _, _, _, _, _ => trivial
--END DEFS fd
set_option maxHeartbeats 6400000 in
theorem kfold_good (A : Option Addr) (n c : Nat) (t p v : Int) (key : Nat → Nat) (w0 : World) (hn : 16 ≤ n ∧ n ≤ 64) (hk : kok t p v = true) (hA : SlB w0 A n key) (hnil : A = none → n = 0 ∧ c = 0) (ht : GT w0) (hp : P10 w0) :
    Calls Tryd.prog 4 #[.slice A n c, .int .i64 t, .int .i64 p, .int .i64 v] w0 fun e w' => e = .returned (.bool true) ∧ Below w0.heap.size w0 w' := by
  have HS := Lib.hid (small13_any w0 ht hp)
  have HN := Lib.hid (show ∀ W, Below w0.heap.size w0 W → Calls Tryd.prog 9 #[.slice A n c] W fun e w' => ∃ G M cc, e = .returned (.tuple #[.pointer (some ⟨G, 0, none⟩), .int .i64 0]) ∧ W.heap.size ≤ G ∧ W.heap.size ≤ M ∧ RingAt w0 w' G M cc n key ∧ Below W.heap.size W w' from fun W h =>
    knew_good A n c key w0 W hn (hA.keep h) hnil ht hp h)
  have hk' := hk
  unfold kok at hk'
  have ⟨⟨t1, t2⟩, ⟨p1, p2⟩, v1, v2⟩ := of_decide_eq_true hk'
  clear hk'
  obtain ⟨a, rfl⟩ : ∃ a : Nat, t = (a : Int) := ⟨t.toNat, by omega⟩
  obtain ⟨b, rfl⟩ : ∃ b : Nat, v = (b : Int) := ⟨v.toNat, by omega⟩
  have HKEY := Lib.hid (show ∀ G M cc W, RingAt w0 W G M cc n key → Calls Tryd.prog 15 #[.pointer (some ⟨G, 0, none⟩), .int .i64 (a : Int), .int .i64 p, .int .i64 (b : Int)] W (KeyP w0 W G M cc n key (a : Int) p (b : Int)) from fun G M cc W h => key_any G M cc n (a : Int) p (b : Int) key w0 W h)
  unfold KeyP at HKEY
  rw [hk] at HKEY
  simp only [show kN true = 32 from rfl, show kE true = 0 from rfl, Int.toNat_natCast] at HKEY
  have HNM := Lib.hid (fun W => name_any p W)
  rw [show nmB p = true from decide_eq_true ⟨p1, p2⟩] at HNM
  have ha : 0 < a ∧ a < 256 := by omega
  have hb : 0 < b ∧ b < 256 := by omega
  have HFA := Lib.hid (show ∀ W B, Below w0.heap.size w0 W → SlS W B 2 (lab2 bTenant (ntx a)) → Calls Tryd.prog 17 #[.slice A n c, .slice B 2 2] W (FoldP W 32 (ownF n key a)) from fun W B h hs => by
    have e : ntx a = itoaB (a : Int) := if_neg (by omega)
    rw [e] at hs
    exact fold_any A n c key B 2 2 (lab2 bTenant (itoaB (a : Int))) W (by omega) (hA.keep h) hnil (by decide) hs
      (fun j _ => Nat.le_trans (lab2_size (K := 6) (by decide) (Nat.le_trans (itoaB_small a ha.2) (by decide)) j) (by decide)) (ht.keep h))
  have HFB := Lib.hid (show ∀ W AO cO B, Below w0.heap.size w0 W → SlB W AO 32 (ownF n key a) → (AO = none → 32 = 0 ∧ cO = 0) → SlS W B 3 (lab3 (nmS p) bVersion (ntx b)) → Calls Tryd.prog 17 #[.slice AO 32 cO, .slice B 3 3] W (FoldP W 32 (keyF n key a (nmS p) b)) from fun W AO cO B h ho hz hs => by
    have e : ntx b = itoaB (b : Int) := if_neg (by omega)
    rw [e] at hs
    exact fold_any AO 32 cO (ownF n key a) B 3 3 (lab3 (nmS p) bVersion (itoaB (b : Int))) W (by decide) ho hz (by decide) hs
      (fun j _ => Nat.le_trans (lab3_size (K := 7) (Nat.le_trans (nmS_size p) (by decide)) (by decide) (Nat.le_trans (itoaB_small b hb.2) (by decide)) j) (by decide)) (ht.keep h))
  have HAB := Lib.hid (show (0 < a ∧ a < 256) ∧ (0 < b ∧ b < 256) from ⟨ha, hb⟩)
  clear ht hp hn hA hnil hk t1 t2 p1 p2 v1 v2 ha hb
  generalize keyF n key a (nmS p) b = F at *
  generalize nmS p = s at *
  generalize ownF n key a = OF at *
  go_enter Tryd.func4, Tryd.ntmps4
  go_wp2_with fail
  refine HS.out.mono ?_
  rintro e w1 ⟨rfl, hb⟩
  have HB1 := Lib.hid hb
  clear hb
  go_wp2_with fail
  refine (HN.out _ HB1.out).mono ?_
  rintro e w2 ⟨G, M, cc, rfl, hG, hM, h2, hb2⟩
  have HRG := Lib.hid h2
  clear h2 hb2 hG hM
  go_wp2_with fail
  refine (HKEY.out G M cc _ HRG.out).mono ?_
  rintro e w3 ⟨⟨A3, c3, g3, rfl, hm3⟩, h3, _⟩
  have HM3 := Lib.hid hm3
  have HB3 := Lib.hid h3.bel
  clear h3 hm3 HRG
  go_wp2_with fail
  refine (HNM.out _).mono ?_
  rintro e w4 ⟨rfl, rfl⟩
  go_wp2_with fail
  go_loopw [16, 17] (fun x i wr => ∃ (m : Nat) (st : ByteArray), i = .int .i64 m ∧ x = .string st ∧ m ≤ a ∧ ntx m ++ st = ntx a ∧ Below w4.heap.size w4 wr) (fun _ i _ => (intOf i).toNat)
  case atStart => exact ⟨a, _, rfl, rfl, Nat.le_refl _, app_none _, Below.refl _ _⟩
  case round =>
    obtain ⟨m, st, rfl, rfl, hma, htx, hbw⟩ := hrel
    have HBW := Lib.hid hbw
    have HTX := Lib.hid htx
    have hsz : st.size ≤ 3 := ntx_size htx (by have := HAB.out; omega)
    clear hbw htx
    by_cases h0 : 0 < m
    · obtain ⟨r, hr⟩ : ∃ r, r = m % 10 := ⟨_, rfl⟩
      obtain ⟨q, hq⟩ : ∃ q, q = m / 10 := ⟨_, rfl⟩
      obtain ⟨d, hd⟩ : ∃ d, d = 48 + r := ⟨_, rfl⟩
      have HST := Lib.hid (show ntx q ++ (⟨#[chr d]⟩ ++ st) = ntx a by
        rw [← app_assoc, hd, hr, hq, ntx_step m (by have := HAB.out; omega) h0]
        exact HTX.out)
      have HQL := Lib.hid (show q < m ∧ q ≤ a by omega)
      have hq2 : (m : Int).tdiv 10 = (q : Nat) := by rw [Int.tdiv_eq_ediv_of_nonneg (by omega)]; omega
      have hr2 : (m : Int).tmod 10 = (r : Nat) := by rw [Int.tmod_eq_emod_of_nonneg (by omega)]; omega
      have hq3 : (m : Int) / 10 = (q : Nat) := by omega
      have hr3 : (m : Int) % 10 = (r : Nat) := by omega
      have hd2 : (48 : Int) + (r : Nat) = (d : Nat) := by omega
      have hdl : (d : Int) < 256 := by omega
      have hd0 : (0 : Int) ≤ (d : Nat) := by omega
      have hq0 : (q : Int) ≤ 255 := by have := HAB.out; omega
      have hr0 : (r : Int) ≤ 9 := by omega
      have hm0 : (0 : Int) < (m : Nat) := by omega
      have hm1 : (m : Int) ≤ 255 := by have := HAB.out; omega
      have hcv := fun W => conv1 (d : Int) W
      simp only [Int.toNat_natCast] at hcv
      clear hr hq hd h0
      go_wp2_with fail
      go_roundw
      case rel => exact ⟨q, _, by go_num, rfl, HQL.out.2, HST.out, HBW.out.alloc HBW.out.size _⟩
      case measure => simp [intOf]; have := HQL.out.1; omega
    · obtain rfl : m = 0 := by omega
      have e0 : st = ntx a := by
        have := HTX.out
        rwa [show ntx 0 = ByteArray.empty from rfl, app_none'] at this
      subst e0
      clear HTX h0
      have HB5 := Lib.hid (HB3.out.trans (HBW.out.mono HB3.out.size))
      have HM5 := Lib.hid (HM3.out.keep HBW.out)
      clear HBW HB3 HM3
      go_wp2_with fail
      generalize wr = w5 at *
      go_loopw [18, 19] (fun x i wr => ∃ (m : Nat) (st : ByteArray), i = .int .i64 m ∧ x = .string st ∧ m ≤ b ∧ ntx m ++ st = ntx b ∧ Below w5.heap.size w5 wr) (fun _ i _ => (intOf i).toNat)
      case atStart => exact ⟨b, _, rfl, rfl, Nat.le_refl _, app_none _, Below.refl _ _⟩
      case round =>
        obtain ⟨m, st, rfl, rfl, hma, htx, hbw⟩ := hrel
        have HBW := Lib.hid hbw
        have HTX := Lib.hid htx
        have hsz : st.size ≤ 3 := ntx_size htx (by have := HAB.out; omega)
        clear hbw htx
        by_cases h0 : 0 < m
        · obtain ⟨r, hr⟩ : ∃ r, r = m % 10 := ⟨_, rfl⟩
          obtain ⟨q, hq⟩ : ∃ q, q = m / 10 := ⟨_, rfl⟩
          obtain ⟨d, hd⟩ : ∃ d, d = 48 + r := ⟨_, rfl⟩
          have HST := Lib.hid (show ntx q ++ (⟨#[chr d]⟩ ++ st) = ntx b by
            rw [← app_assoc, hd, hr, hq, ntx_step m (by have := HAB.out; omega) h0]
            exact HTX.out)
          have HQL := Lib.hid (show q < m ∧ q ≤ b by omega)
          have hq2 : (m : Int).tdiv 10 = (q : Nat) := by rw [Int.tdiv_eq_ediv_of_nonneg (by omega)]; omega
          have hr2 : (m : Int).tmod 10 = (r : Nat) := by rw [Int.tmod_eq_emod_of_nonneg (by omega)]; omega
          have hq3 : (m : Int) / 10 = (q : Nat) := by omega
          have hr3 : (m : Int) % 10 = (r : Nat) := by omega
          have hd2 : (48 : Int) + (r : Nat) = (d : Nat) := by omega
          have hdl : (d : Int) < 256 := by omega
          have hd0 : (0 : Int) ≤ (d : Nat) := by omega
          have hq0 : (q : Int) ≤ 255 := by have := HAB.out; omega
          have hr0 : (r : Int) ≤ 9 := by omega
          have hm0 : (0 : Int) < (m : Nat) := by omega
          have hm1 : (m : Int) ≤ 255 := by have := HAB.out; omega
          have hcv := fun W => conv1 (d : Int) W
          simp only [Int.toNat_natCast] at hcv
          clear hr hq hd h0
          go_wp2_with fail
          go_roundw
          case rel => exact ⟨q, _, by go_num, rfl, HQL.out.2, HST.out, HBW.out.alloc HBW.out.size _⟩
          case measure => simp [intOf]; have := HQL.out.1; omega
        · obtain rfl : m = 0 := by omega
          have e0 : st = ntx b := by
            have := HTX.out
            rwa [show ntx 0 = ByteArray.empty from rfl, app_none'] at this
          subst e0
          clear HTX h0
          have HB6 := Lib.hid (HB5.out.trans (HBW.out.mono HB5.out.size))
          have HM6 := Lib.hid (HM5.out.keep HBW.out)
          clear HBW HB5 HM5
          go_wp2_with fail
          have hs7 := sls2 (heap_alloc_new wr (.cells #[.string bTenant, .string (ntx a)] 9))
          have hb7 := alloc_below wr (.cells #[.string bTenant, .string (ntx a)] 9)
          generalize hA7 : (some ⟨wr.heap.size, 0, none⟩ : Option Addr) = A7 at *
          generalize wr.alloc (.cells #[.string bTenant, .string (ntx a)] 9) = w7 at *
          have HB7 := Lib.hid (HB6.out.trans (hb7.mono HB6.out.size))
          have HM7 := Lib.hid (HM6.out.keep hb7)
          refine (HFA.out _ _ HB7.out hs7).mono ?_
          rintro e w8 ⟨⟨x8, A8, c8, g8, rfl, hm8⟩, hb8⟩
          obtain rfl := hm8.val
          have HB8 := Lib.hid (HB7.out.trans (hb8.mono HB7.out.size))
          have HM8 := Lib.hid (HM7.out.keep hb8)
          have HO8 := Lib.hid hm8
          clear hm8 hb8 hb7 hs7 HB6 HM6 HB7 HM7
          have HCV := Lib.hid (show ∀ w', Below w8.heap.size w8 w' → (convert 22 9 (.slice A3 32 c3)).run Tryd.prog w' = .ok (.string (strOf 32 F)) w' from fun w' h => convSl (HM8.out.keep h).row (Nat.le_refl _))
          have HFO := Lib.hid (show ∀ w' B, Below w8.heap.size w8 w' → w'.heap[B]? = some (.cells #[.string s, .string bVersion, .string (ntx b)] 9 (0, 0)) → Calls Tryd.prog 17 #[.slice A8 32 c8, .slice (some ⟨B, 0, none⟩) 3 3] w' (FoldP w' 32 F) from fun w' B h hh =>
            HFB.out w' A8 c8 (some ⟨B, 0, none⟩) (HB8.out.trans (h.mono HB8.out.size)) (HO8.out.row.keep h) HO8.out.nil (sls3b hh))
          generalize ntx a = la at *
          generalize ntx b = lb at *
          go_wp2_with fail
          refine ord.wp_region_ordT 17 [[], [0], [1], [2, 1], [1], [1], [1], [5, 6, 1], [4, 7, 1], [8, 1], [3, 9, 1], [1, 10], [11], [12], [13, 12], [14, 12], [12, 15]] [(0, 110), (1, 111), (2, 112), (3, 113), (4, 114), (5, 115), (6, 116), (7, 117), (8, 118), (9, 119), (10, 120), (11, 121), (12, 122), (13, 123), (14, 124), (15, 125), (16, 126)] (fdG A3 A8 c3 c8 F s lb) (by kernel_rfl) (by kernel_rfl) (by kernel_rfl) (fdG_stays _ _ _ _ _ _ _) ((ord.steps_cons ?_ (ord.steps_cons ?_ (ord.steps_cons ?_ (ord.steps_cons ?_ (ord.steps_cons ?_ (ord.steps_cons ?_ (ord.steps_cons ?_ (ord.steps_cons ?_ (ord.steps_cons ?_ (ord.steps_cons ?_ (ord.steps_cons ?_ (ord.steps_cons ?_ (ord.steps_cons ?_ (ord.steps_cons ?_ (ord.steps_cons ?_ (ord.steps_cons ?_ (ord.steps_cons ?_ ord.steps_nil)))))))))))))))))) ?_
          --STEPS fd
          · intro o ho x w hb hG
            obtain rfl := Option.some.inj ho
            clear ho
            refine Or.inl ⟨ord.want0 rfl, ?_⟩
            exact ord.makes_move rfl ⟨Below.refl _ _, rfl⟩
          · intro o ho x w hb hG
            obtain rfl := Option.some.inj ho
            clear ho
            have h110 : x 0 = .bool true := hG (0, 110) (List.mem_of_getElem? (i := 0) rfl) rfl
            refine Or.inl ⟨ord.want0 rfl, ?_⟩
            exact ord.makes_move rfl ⟨Below.refl _ _, h110⟩
          · intro o ho x w hb hG
            obtain rfl := Option.some.inj ho
            clear ho
            have h111 : x 1 = .bool true := hG (1, 111) (List.mem_of_getElem? (i := 1) rfl) rfl
            refine Or.inl ⟨ord.wantG rfl rfl h111, ?_⟩
            exact ord.makes_move rfl ⟨Below.refl _ _, rfl⟩
          · intro o ho x w hb hG
            obtain rfl := Option.some.inj ho
            clear ho
            have h112 : x 2 = .slice A3 32 c3 := hG (2, 112) (List.mem_of_getElem? (i := 2) rfl) rfl
            have h111 : x 1 = .bool true := hG (1, 111) (List.mem_of_getElem? (i := 1) rfl) rfl
            refine Or.inl ⟨ord.wantG rfl rfl h111, ?_⟩
            exact ord.makes_conv rfl h112 (HCV.out w (of_drew hb)) ⟨Below.refl _ _, rfl⟩
          · intro o ho x w hb hG
            obtain rfl := Option.some.inj ho
            clear ho
            have h111 : x 1 = .bool true := hG (1, 111) (List.mem_of_getElem? (i := 1) rfl) rfl
            refine Or.inl ⟨ord.wantG rfl rfl h111, ?_⟩
            exact ord.makes_move rfl ⟨Below.refl _ _, rfl⟩
          · intro o ho x w hb hG
            obtain rfl := Option.some.inj ho
            clear ho
            have h111 : x 1 = .bool true := hG (1, 111) (List.mem_of_getElem? (i := 1) rfl) rfl
            refine Or.inl ⟨ord.wantG rfl rfl h111, ?_⟩
            exact ord.makes_move rfl ⟨Below.refl _ _, rfl⟩
          · intro o ho x w hb hG
            obtain rfl := Option.some.inj ho
            clear ho
            have h111 : x 1 = .bool true := hG (1, 111) (List.mem_of_getElem? (i := 1) rfl) rfl
            refine Or.inl ⟨ord.wantG rfl rfl h111, ?_⟩
            exact ord.makes_move rfl ⟨Below.refl _ _, rfl⟩
          · intro o ho x w hb hG
            obtain rfl := Option.some.inj ho
            clear ho
            have h115 : x 5 = .string s := hG (5, 115) (List.mem_of_getElem? (i := 5) rfl) rfl
            have h116 : x 6 = .string lb := hG (6, 116) (List.mem_of_getElem? (i := 6) rfl) rfl
            have h111 : x 1 = .bool true := hG (1, 111) (List.mem_of_getElem? (i := 1) rfl) rfl
            refine Or.inl ⟨ord.wantG rfl rfl h111, ?_⟩
            exact ord.makes_build3 rfl h115 rfl h116 (run_bs3 s bVersion lb w) ⟨(Below.refl _ _).alloc (Nat.le_refl _) _, _, rfl, heap_alloc_new w _⟩
          · intro o ho x w hb hG
            obtain rfl := Option.some.inj ho
            clear ho
            have h114 : x 4 = .slice A8 32 c8 := hG (4, 114) (List.mem_of_getElem? (i := 4) rfl) rfl
            have h117 : fdG A3 A8 c3 c8 F s lb 7 (x 7) w := hG (7, 117) (List.mem_of_getElem? (i := 7) rfl) rfl
            have h111 : x 1 = .bool true := hG (1, 111) (List.mem_of_getElem? (i := 1) rfl) rfl
            refine Or.inl ⟨ord.wantG rfl rfl h111, ?_⟩
            obtain ⟨B, hv, hh⟩ := h117
            exact ord.makes_call2 Tryd.func17 (by kernel_rfl) (by kernel_rfl) rfl h114 hv (HFO.out w B (of_drew hb) hh) (fun e w' h => by obtain ⟨⟨v, A, c2, g, he, hm⟩, h4⟩ := h; exact ⟨_, he, h4, A, c2, hm.val, hm.row⟩)
          · intro o ho x w hb hG
            obtain rfl := Option.some.inj ho
            clear ho
            have h118 : fdG A3 A8 c3 c8 F s lb 8 (x 8) w := hG (8, 118) (List.mem_of_getElem? (i := 8) rfl) rfl
            have h111 : x 1 = .bool true := hG (1, 111) (List.mem_of_getElem? (i := 1) rfl) rfl
            refine Or.inl ⟨ord.wantG rfl rfl h111, ?_⟩
            obtain ⟨A, c, hv, hs⟩ := h118
            exact ord.makes_conv rfl hv (convSl hs (Nat.le_refl _)) ⟨Below.refl _ _, rfl⟩
          · intro o ho x w hb hG
            obtain rfl := Option.some.inj ho
            clear ho
            have h113 : x 3 = .string (strOf 32 F) := hG (3, 113) (List.mem_of_getElem? (i := 3) rfl) rfl
            have h119 : x 9 = .string (strOf 32 F) := hG (9, 119) (List.mem_of_getElem? (i := 9) rfl) rfl
            have h111 : x 1 = .bool true := hG (1, 111) (List.mem_of_getElem? (i := 1) rfl) rfl
            refine Or.inl ⟨ord.wantG rfl rfl h111, ?_⟩
            exact ord.makes_bin rfl h113 h119 (by exact str_same2 _ _ _ _) ⟨Below.refl _ _, rfl⟩
          · intro o ho x w hb hG
            obtain rfl := Option.some.inj ho
            clear ho
            have h111 : x 1 = .bool true := hG (1, 111) (List.mem_of_getElem? (i := 1) rfl) rfl
            have h120 : x 10 = .bool true := hG (10, 120) (List.mem_of_getElem? (i := 10) rfl) rfl
            refine Or.inl ⟨ord.want0 rfl, ?_⟩
            exact ord.makes_pick rfl h111 ⟨Below.refl _ _, h120⟩
          · intro o ho x w hb hG
            obtain rfl := Option.some.inj ho
            clear ho
            have h121 : x 11 = .bool true := hG (11, 121) (List.mem_of_getElem? (i := 11) rfl) rfl
            refine Or.inl ⟨ord.want0 rfl, ?_⟩
            exact ord.makes_move rfl ⟨Below.refl _ _, h121⟩
          · intro o ho x w hb hG
            obtain rfl := Option.some.inj ho
            clear ho
            have h122 : x 12 = .bool true := hG (12, 122) (List.mem_of_getElem? (i := 12) rfl) rfl
            refine Or.inl ⟨ord.wantG rfl rfl h122, ?_⟩
            exact ord.makes_move rfl ⟨Below.refl _ _, rfl⟩
          · intro o ho x w hb hG
            obtain rfl := Option.some.inj ho
            clear ho
            have h123 : x 13 = .slice A3 32 c3 := hG (13, 123) (List.mem_of_getElem? (i := 13) rfl) rfl
            have h122 : x 12 = .bool true := hG (12, 122) (List.mem_of_getElem? (i := 12) rfl) rfl
            refine Or.inl ⟨ord.wantG rfl rfl h122, ?_⟩
            exact ord.makes_len rfl rfl h123 (run_len8 _ _ _ w) ⟨Below.refl _ _, rfl⟩
          · intro o ho x w hb hG
            obtain rfl := Option.some.inj ho
            clear ho
            have h124 : x 14 = .int .i64 ((32 : Nat) : Int) := hG (14, 124) (List.mem_of_getElem? (i := 14) rfl) rfl
            have h122 : x 12 = .bool true := hG (12, 122) (List.mem_of_getElem? (i := 12) rfl) rfl
            refine Or.inl ⟨ord.wantG rfl rfl h122, ?_⟩
            exact ord.makes_bin rfl h124 rfl (by go_simp) ⟨Below.refl _ _, rfl⟩
          · intro o ho x w hb hG
            obtain rfl := Option.some.inj ho
            clear ho
            have h122 : x 12 = .bool true := hG (12, 122) (List.mem_of_getElem? (i := 12) rfl) rfl
            have h125 : x 15 = .bool true := hG (15, 125) (List.mem_of_getElem? (i := 15) rfl) rfl
            refine Or.inl ⟨ord.want0 rfl, ?_⟩
            exact ord.makes_pick rfl h122 ⟨Below.refl _ _, h125⟩
          --END STEPS fd
          · intro x w9 hb hG
            have e126 : x 16 = .bool true := hG (16, 126) (List.mem_of_getElem? (i := 16) rfl)
            clear hG
            have HB9 := Lib.hid (HB8.out.trans (hb.mono HB8.out.size))
            clear hb
            simp only [ord.puts, ord.put', List.set_cons_zero, List.set_cons_succ, if_true]
            rw [e126]
            simp only [List.drop_succ_cons, List.drop_zero]
            go_wp2_with fail
            go_ret
            exact ⟨rfl, HB9.out⟩
theorem kfold_any (A : Option Addr) (n c : Nat) (t p v : Int) (key : Nat → Nat) (w0 : World) (hA : SlB w0 A n key) (hnil : A = none → n = 0 ∧ c = 0) (ht : GT w0) (hp : P10 w0) :
    Calls Tryd.prog 4 #[.slice A n c, .int .i64 t, .int .i64 p, .int .i64 v] w0 fun e w' => e = .returned (.bool true) ∧ Below w0.heap.size w0 w' := by
  by_cases h : 16 ≤ n ∧ n ≤ 64
  · cases hk : kok t p v with
    | false => exact kfold_none A n c t p v key w0 h hk hA hnil ht hp
    | true => exact kfold_good A n c t p v key w0 h hk hA hnil ht hp
  · exact kfold_bad A n c t p v w0 h ht hp
end Go.Proofs.YtengejmkpkacgaaDoor
