/- Contracts of the reference's aes: round keys. -/
import Derived.Test.YtgfdnhpfdbaddaaRef04D
import Derived.Test.YtgfdnhpfdbaddaaLR
import Derived.Test.YtgfdnhpfdbaddaaAesB
namespace Go.Proofs.Ytgfdnhpfdbaddaa
open Go.RowKit

theorem row4 (w : World) (y0 y1 y2 y3 : Nat) (f : Nat → Nat) (h0 : f 0 = y0) (h1 : f 1 = y1) (h2 : f 2 = y2) (h3 : f 3 = y3) :
    RowX (w.alloc (.cells #[.int .u8 (y0 : Nat), .int .u8 (y1 : Nat), .int .u8 (y2 : Nat), .int .u8 (y3 : Nat)] 5)) w.heap.size 5 4 (fun t => .int .u8 (f t : Nat)) := by
  subst h0 h1 h2 h3
  exact RowX.of_rowIs (World.rowIs_alloc w _ _ _ fun i hi => by
    rcases (show i = 0 ∨ i = 1 ∨ i = 2 ∨ i = 3 by have : i < 4 := hi; omega) with rfl | rfl | rfl | rfl <;> rfl)
/-- the words of a schedule -/
abbrev wordOf (S : Nat → Nat) (j t : Nat) : Nat := S (4 * j + t)
/-- the reference's round keys, told -/
def RRoundsP (n : Nat) (key : Nat → Nat) (w : World) (e : Ending) (w' : World) : Prop :=
  ∃ v G C, e = .returned v ∧ LR w.heap.size w' v (n + 7) 16 (fun j t => ks n key (16 * j + t)) G C ∧ Below w.heap.size w w'
set_option maxRecDepth 100000 in
set_option maxHeartbeats 4000000 in
theorem rrounds_any (A1 A2 : Option Addr) (n c1 c2 : Nat) (key : Nat → Nat) (w : World) (hn : n = 4 ∨ n = 8) (hc : 4 * n ≤ c1) (h1 : SlB w A1 (4 * n) key) (h2 : SlB w A2 256 box) :
    Calls Try.prog 26 #[.slice A1 (4 * n) c1, .slice A2 256 c2] w (RRoundsP n key w) := by
  obtain ⟨B1, o1, rfl, l1, e1⟩ := h1 (by omega)
  obtain ⟨B2, o2, rfl, l2, e2⟩ := h2 (by decide)
  have HS1 := Lib.hid h1
  have HY := Lib.hid (show By (4 * n) key from fun j hj => (e1 j hj).1)
  have L1 := Lib.hid l1
  have E2 := Lib.hid fun x (hx : x < 256) => (e2 x hx).2
  have L2 := Lib.hid l2
  have HN := Lib.hid hn
  have HC1 := Lib.hid hc
  have hn4 : (4 : Int) ≤ (n : Nat) := by omega
  have hn8 : ((n : Nat) : Int) ≤ 8 := by omega
  have hn0 : ¬ ((n : Nat) : Int) = 0 := by omega
  obtain ⟨l, hl⟩ : ∃ l, 4 * n = l := ⟨_, rfl⟩
  have HL := Lib.hid hl
  rw [hl]
  have hdiv : ((l : Nat) : Int) / 4 = (n : Nat) := by omega
  clear h1 h2 e1 e2 l1 l2 hn hc hl
  go_enter Try.func26, Try.ntmps26
  go_wp2_with fail
  go_loopw [6, 7] (fun v6 v7 wr => ∃ (i cap : Nat) (A : Option Addr) (G C : Nat → Nat), i ≤ 4 * (n + 7) ∧ v7 = .int .i64 (i : Nat) ∧ v6 = .slice A i cap ∧ LR w.heap.size wr (.slice A i cap) i 4 (wordOf (ks n key)) G C ∧ Below w.heap.size w wr) (fun _ v7 _ => 70 - (intOf v7).toNat)
  case atStart => exact ⟨0, 0, none, fun _ => 0, fun _ => 0, Nat.zero_le _, rfl, rfl, LR.nil _ _ _ _ _ _, Below.refl _ _⟩
  case round =>
    obtain ⟨i, cap, A, G, C, hi, rfl, rfl, h1, h2⟩ := hrel
    have H1 := Lib.hid h1
    have H2 := Lib.hid h2
    clear h1 h2
    by_cases hlt : i < 4 * (n + 7)
    · have hlti : (i : Int) < 4 * ((n : Int) + 7) := by omega
      by_cases hin : i < n
      · have hc4 : ¬ c1 = 4 * i := by have := HC1.out; omega
        have hcb : 0 ≤ 4 * (i : Int) + 4 ∧ 4 * (i : Int) + 4 ≤ (c1 : Nat) := by have := HC1.out; omega
        have HSL := Lib.hid (show SlB (wr.alloc (.cells #[] 5)) (some ⟨B1, o1 + 4 * i, none⟩) 4 (fun t => key (4 * i + t)) from fun _ => ⟨B1, o1 + 4 * i, rfl, Nat.lt_of_lt_of_le L1.out (Nat.le_trans H2.out.size (by simp)), fun j hj => ⟨HY.out _ (by omega), by
          rw [World.cell?_alloc_past _ _ _ (Nat.lt_of_lt_of_le L1.out H2.out.size), H2.out.cell (p := ⟨B1, _, none⟩) L1.out]
          obtain ⟨B, o, e, _, hcc⟩ := HS1.out (by omega)
          obtain ⟨rfl, rfl, _⟩ : B1 = B ∧ o1 = o ∧ True := by injection e with e; injection e with e1 e2; exact ⟨e1, e2, trivial⟩
          rw [Nat.add_assoc]
          exact (hcc (4 * i + j) (by omega)).2⟩⟩)
        have HBY := Lib.hid (show ∀ j, j < 4 → key (4 * i + j) < 256 from fun j hj => HY.out _ (by omega))
        have HKS := Lib.hid (show ∀ t, t < 4 → catB 0 (fun _ => 0) (fun t => key (4 * i + t)) t = wordOf (ks n key) i t from fun t ht => by
          unfold catB
          rw [if_neg (Nat.not_lt_zero _), Nat.sub_zero]
          exact (ks_key (by omega)).symm)
        have H44 := Lib.hid (show 4 * i + 4 - 4 * i = 4 by omega)
        have HSL := Lib.hid (show SlB (wr.alloc (.cells #[] 5)) (some ⟨B1, o1 + 4 * i, none⟩) (4 * i + 4 - 4 * i) (fun t => key (4 * i + t)) by rw [H44.out]; exact HSL.out)
        have HBY := Lib.hid (show ∀ j, j < 4 * i + 4 - 4 * i → key (4 * i + j) < 256 by rw [H44.out]; exact HBY.out)
        have T1 : OwnB (wr.alloc (.cells #[] 5)) wr.heap.size (.slice (some ⟨wr.heap.size, 0, none⟩) 0 0) 0 (fun _ => 0) := OwnB.empty wr _ _ (Nat.le_refl _)
        have T2 : wr.heap.size ≤ (wr.alloc (.cells #[] 5)).heap.size := by simp
        have T1 := Lib.hid T1
        have T2 := Lib.hid T2
        go_wp2_with (at_builtin; first | (refine wpList_appO rfl (.tmp 28) (.tmp 35) rfl wr.heap.size _ 0 (fun _ => 0) rfl T1.out (some ⟨B1, o1 + 4 * i, none⟩) (4 * i + 4 - 4 * i) (c1 - 4 * i) (fun t => key (4 * i + t)) rfl HSL.out (fun h => by cases h) (by omega) T2.out (fun j hj => absurd hj (Nat.not_lt_zero _)) HBY.out ?_; intro A2 c2' w2 ho2 _ _ hb2; rw [Nat.zero_add, H44.out] at ho2 ⊢; obtain ⟨T, cT, hv, hT1, hT2, hT3⟩ := OwnB.rowX ho2 (by decide); cases hv; have HT := Lib.hid (hT3.congr (g := fun t => .int .u8 (wordOf (ks n key) i t : Nat)) fun t ht => by rw [HKS.out t ht]); have HB2 := Lib.hid (((Below.refl wr.heap.size wr).alloc (Nat.le_refl _) (.cells #[] 5)).trans hb2); have HZ2 := Lib.hid (show w.heap.size ≤ (w2.alloc (.cells #[.slice (some ⟨T, 0, none⟩) 4 c2'] 22)).heap.size from Nat.le_trans H2.out.size (Nat.le_trans HB2.out.size (by simp))); clear ho2 hb2 hT3) | (go_must (refine wpList_appS rfl (.tmp 27) (.tmp 37) rfl w.heap.size _ i 4 _ G C rfl (H1.out.keep HB2.out |>.alloc' (.cells #[.slice (some ⟨T, 0, none⟩) 4 c2'] 22)) w2.heap.size T c2' rfl (World.cell?_alloc_at _ _ _ _ rfl) (HT.out.alloc _) (by omega) HZ2.out ?_); intro v3 w3 h3 hb3; have H3 := Lib.hid h3; have HB3 := Lib.hid (H2.out.trans ((HB2.out.mono H2.out.size).trans (((Below.refl w2.heap.size w2).alloc (Nat.le_refl _) _).mono (Nat.le_trans H2.out.size HB2.out.size) |>.trans hb3))); clear h3 hb3))
        obtain ⟨A3, cap3, hv3, _, _⟩ := H3.out.slice
        subst hv3
        clear hc4 hcb
        go_roundw
        case rel => exact ⟨i + 1, cap3, A3, _, _, by omega, by go_num, rfl, H3.out, HB3.out⟩
        case measure => simp [intOf]; omega
      · obtain ⟨i1, hi1⟩ : ∃ i1, i = i1 + 1 := ⟨i - 1, by have := HN.out; omega⟩
        obtain ⟨i2, hi2⟩ : ∃ i2, i = i2 + n := ⟨i - n, by omega⟩
        obtain ⟨A6, cap6, hv6, hcap6, hsl6⟩ := H1.out.slice
        obtain ⟨rfl, _, rfl⟩ : A = A6 ∧ True ∧ cap = cap6 := by injection hv6 with e1 e2 e3; exact ⟨e1, trivial, e3⟩
        obtain ⟨g6, rfl, hg6, hcl6⟩ := hsl6 (by omega)
        have HCL := Lib.hid hcl6
        have HG6 := Lib.hid hg6
        have hs1 : (i : Int) - 1 = (i1 : Nat) := by omega
        have hs2 : (i : Int) - (n : Nat) = (i2 : Nat) := by omega
        have hs2w : IntKind.i64.wrap ((i : Int) - (n : Nat)) = (i2 : Nat) := by rw [IntWalk.i64_in _ (by omega)]; omega
        have hi10 : (0 : Int) ≤ (i1 : Nat) := by omega
        have hi1l : ((i1 : Nat) : Int) < (i : Nat) := by omega
        have hi20 : (0 : Int) ≤ (i2 : Nat) := by omega
        have hi2l : ((i2 : Nat) : Int) < (i : Nat) := by have := HN.out; omega
        have HKB := Lib.hid fun x => ks_by (n := n) (key := key) (by have := HN.out; omega) HY.out x
        have hway : ((((i : Int) % (n : Nat) == 0) = false ∧ ((n : Int) == 8) = false ∧ ∀ j, kt n (ks n key) i j = ks n key (4 * i1 + j)) ∨ (((i : Int) % (n : Nat) == 0) = false ∧ ((n : Int) == 8) = true ∧ ((i : Int) % 8 == 4) = false ∧ ∀ j, kt n (ks n key) i j = ks n key (4 * i1 + j))) ∨
            (((i : Int) % (n : Nat) == 0) = false ∧ ((n : Int) == 8) = true ∧ ((i : Int) % 8 == 4) = true ∧ ∀ j, kt n (ks n key) i j = box (ks n key (4 * i1 + j))) ∨
            (((i : Int) % (n : Nat) == 0) = true ∧ ∀ j, kt n (ks n key) i j = box (ks n key (4 * i1 + (j + 1) % 4)) ^^^ (if j = 0 then gpow 2 (i / n - 1) else 0)) := by
          have e1 : i - 1 = i1 := by omega
          by_cases hm : i % n = 0
          · right; right
            refine ⟨by rw [beq_iff_eq]; omega, fun j => ?_⟩
            unfold kt
            rw [if_pos hm, e1]
          · have hm' : ((i : Int) % (n : Nat) == 0) = false := by rw [beq_eq_false_iff_ne]; omega
            by_cases h8 : n = 8
            · have h8' : ((n : Int) == 8) = true := by rw [beq_iff_eq]; omega
              by_cases h4 : i % 8 = 4
              · right; left
                refine ⟨hm', h8', by rw [beq_iff_eq]; omega, fun j => ?_⟩
                unfold kt
                rw [if_neg hm, if_pos ⟨h8, h4⟩, e1]
              · left; right
                refine ⟨hm', h8', by rw [beq_eq_false_iff_ne]; omega, fun j => ?_⟩
                unfold kt
                rw [if_neg hm, if_neg (fun e => h4 e.2), e1]
            · left; left
              refine ⟨hm', by rw [beq_eq_false_iff_ne]; omega, fun j => ?_⟩
              unfold kt
              rw [if_neg hm, if_neg (fun e => h8 e.1), e1]
        have HI1 := Lib.hid hi1
        have HI2 := Lib.hid hi2
        have HIN := Lib.hid hin
        have hcw := HCL.out i1 (by omega)
        have hcw0 : (wr.alloc (.cells #[] 5)).cell? ⟨g6, i1, none⟩ = some (.slice (some ⟨G i1, 0, none⟩) 4 (C i1)) := (World.cell?_alloc_past _ _ _ HG6.out).trans hcw
        have T1 := Lib.hid (show OwnB (wr.alloc (.cells #[] 5)) wr.heap.size (.slice (some ⟨wr.heap.size, 0, none⟩) 0 0) 0 (fun _ => 0) from OwnB.empty wr _ _ (Nat.le_refl _))
        have T2 := Lib.hid (show wr.heap.size ≤ (wr.alloc (.cells #[] 5)).heap.size by simp)
        have HSL := Lib.hid (((H1.out.rows i1 (by omega)).alloc (.cells #[] 5)).slB fun j _ => HKB.out _)
        clear hi1 hi2 hin hcl6 hg6 hsl6 hv6 hcw
        rcases hway with (⟨ht1, ht2, ht3⟩ | ⟨ht1, ht2, ht4, ht3⟩) | ⟨ht1, ht2, ht4, ht3⟩ | ⟨ht1, ht3⟩
        all_goals
          have HKT := Lib.hid ht3
          clear ht3
        focus
          go_wp2_with (at_builtin; refine wpList_appO rfl (.tmp 39) (.tmp 44) rfl wr.heap.size _ 0 (fun _ => 0) rfl T1.out (some ⟨G i1, 0, none⟩) 4 (C i1) (fun t => ks n key (4 * i1 + t)) rfl HSL.out (fun h => by cases h) (by omega) T2.out (fun j hj => absurd hj (Nat.not_lt_zero _)) (fun j _ => HKB.out _) ?_; intro A2 c2' w2 ho2 _ _ hb2; rw [Nat.zero_add] at ho2 ⊢; obtain ⟨T, cT, hv, hT1, hT2, hT3⟩ := OwnB.rowX ho2 (by decide); cases hv; have HT := Lib.hid (hT3.congr (g := fun t => .int .u8 (ks n key (4 * i1 + t) : Nat)) fun t ht => by unfold catB; rw [if_neg (Nat.not_lt_zero _), Nat.sub_zero]); have HTN := Lib.hid hT1; have HB2 := Lib.hid (((Below.refl wr.heap.size wr).alloc (Nat.le_refl _) (.cells #[] 5)).trans hb2); clear ho2 hb2 hT3 hT1 hT2; have HBW := Lib.hid (H2.out.trans (HB2.out.mono H2.out.size)))
          have HTW := Lib.hid (HT.out.congr (g := fun t => .int .u8 (kt n (ks n key) i t : Nat)) fun t _ => by rw [HKT.out t])
          have HRW := Lib.hid (H1.out.keep HB2.out)
          have HSW := Lib.hid (show T < w2.heap.size ∧ wr.heap.size ≤ T from ⟨HT.out.lt, HTN.out⟩)
          have HBW0 := HB2
          clear HT HB2 HTN HKT ht1 ht2 HBW
          generalize w2 = W at *
          generalize T = TB at *
        rotate_left
        focus
          go_wp2_with (at_builtin; refine wpList_appO rfl (.tmp 39) (.tmp 44) rfl wr.heap.size _ 0 (fun _ => 0) rfl T1.out (some ⟨G i1, 0, none⟩) 4 (C i1) (fun t => ks n key (4 * i1 + t)) rfl HSL.out (fun h => by cases h) (by omega) T2.out (fun j hj => absurd hj (Nat.not_lt_zero _)) (fun j _ => HKB.out _) ?_; intro A2 c2' w2 ho2 _ _ hb2; rw [Nat.zero_add] at ho2 ⊢; obtain ⟨T, cT, hv, hT1, hT2, hT3⟩ := OwnB.rowX ho2 (by decide); cases hv; have HT := Lib.hid (hT3.congr (g := fun t => .int .u8 (ks n key (4 * i1 + t) : Nat)) fun t ht => by unfold catB; rw [if_neg (Nat.not_lt_zero _), Nat.sub_zero]); have HTN := Lib.hid hT1; have HB2 := Lib.hid (((Below.refl wr.heap.size wr).alloc (Nat.le_refl _) (.cells #[] 5)).trans hb2); clear ho2 hb2 hT3 hT1 hT2; have HBW := Lib.hid (H2.out.trans (HB2.out.mono H2.out.size)))
          have HTW := Lib.hid (HT.out.congr (g := fun t => .int .u8 (kt n (ks n key) i t : Nat)) fun t _ => by rw [HKT.out t])
          have HRW := Lib.hid (H1.out.keep HB2.out)
          have HSW := Lib.hid (show T < w2.heap.size ∧ wr.heap.size ≤ T from ⟨HT.out.lt, HTN.out⟩)
          have HBW0 := HB2
          clear HT HB2 HTN HKT ht1 ht2 ht4 HBW
          generalize w2 = W at *
          generalize T = TB at *
        rotate_left
        focus
          have hx0 := HKB.out (4 * i1 + 0)
          have hx1 := HKB.out (4 * i1 + 1)
          have hx2 := HKB.out (4 * i1 + 2)
          have hx3 := HKB.out (4 * i1 + 3)
          have hxi0 : ((ks n key (4 * i1 + 0) : Nat) : Int) < 256 := by omega
          have hxi1 : ((ks n key (4 * i1 + 1) : Nat) : Int) < 256 := by omega
          have hxi2 : ((ks n key (4 * i1 + 2) : Nat) : Int) < 256 := by omega
          have hxi3 : ((ks n key (4 * i1 + 3) : Nat) : Int) < 256 := by omega
          go_wp2_with (at_builtin; refine wpList_appO rfl (.tmp 39) (.tmp 44) rfl wr.heap.size _ 0 (fun _ => 0) rfl T1.out (some ⟨G i1, 0, none⟩) 4 (C i1) (fun t => ks n key (4 * i1 + t)) rfl HSL.out (fun h => by cases h) (by omega) T2.out (fun j hj => absurd hj (Nat.not_lt_zero _)) (fun j _ => HKB.out _) ?_; intro A2 c2' w2 ho2 _ _ hb2; rw [Nat.zero_add] at ho2 ⊢; obtain ⟨T, cT, hv, hT1, hT2, hT3⟩ := OwnB.rowX ho2 (by decide); cases hv; have HT := Lib.hid (hT3.congr (g := fun t => .int .u8 (ks n key (4 * i1 + t) : Nat)) fun t ht => by unfold catB; rw [if_neg (Nat.not_lt_zero _), Nat.sub_zero]); have HTN := Lib.hid hT1; have HB2 := Lib.hid (((Below.refl wr.heap.size wr).alloc (Nat.le_refl _) (.cells #[] 5)).trans hb2); clear ho2 hb2 hT3 hT1 hT2; have HBW := Lib.hid (H2.out.trans (HB2.out.mono H2.out.size)); have hd0 := HT.out.cell (i := 0) (by decide); have hd1 := HT.out.cell (i := 1) (by decide); have hd2 := HT.out.cell (i := 2) (by decide); have hd3 := HT.out.cell (i := 3) (by decide); have hb0 := (HBW.out.cell (p := ⟨B2, o2 + ks n key (4 * i1 + 0), none⟩) L2.out).trans (E2.out _ (HKB.out (4 * i1 + 0))); have hb1 := (HBW.out.cell (p := ⟨B2, o2 + ks n key (4 * i1 + 1), none⟩) L2.out).trans (E2.out _ (HKB.out (4 * i1 + 1))); have hb2 := (HBW.out.cell (p := ⟨B2, o2 + ks n key (4 * i1 + 2), none⟩) L2.out).trans (E2.out _ (HKB.out (4 * i1 + 2))); have hb3 := (HBW.out.cell (p := ⟨B2, o2 + ks n key (4 * i1 + 3), none⟩) L2.out).trans (E2.out _ (HKB.out (4 * i1 + 3))))
          have HE0 := Lib.hid (show kt n (ks n key) i 0 = box (ks n key (4 * i1 + 0)) ∧ kt n (ks n key) i 1 = box (ks n key (4 * i1 + 1)) ∧ kt n (ks n key) i 2 = box (ks n key (4 * i1 + 2)) ∧ kt n (ks n key) i 3 = box (ks n key (4 * i1 + 3)) from ⟨HKT.out 0, HKT.out 1, HKT.out 2, HKT.out 3⟩)
          generalize box (ks n key (4 * i1 + 0)) = y0 at *
          generalize box (ks n key (4 * i1 + 1)) = y1 at *
          generalize box (ks n key (4 * i1 + 2)) = y2 at *
          generalize box (ks n key (4 * i1 + 3)) = y3 at *
          generalize ks n key (4 * i1 + 0) = x0 at *
          generalize ks n key (4 * i1 + 1) = x1 at *
          generalize ks n key (4 * i1 + 2) = x2 at *
          generalize ks n key (4 * i1 + 3) = x3 at *
          have HR0 := Lib.hid (show LR w.heap.size w2.drew _ i 4 _ G C from (H1.out.keep HB2.out).keep (Below.refl _ _).drew)
          have HB0 := Lib.hid (show Below wr.heap.size wr w2.drew from HB2.out.drew)
          refine wp_region_still_tail 24 (by kernel_rfl) (by kernel_rfl) ?_
          change wpStill _ _ w2.drew (fun a' => wpList _ _ _ _ a' w2.drew) _ _
          replace hd0 : w2.drew.cell? _ = _ := hd0
          replace hd1 : w2.drew.cell? _ = _ := hd1
          replace hd2 : w2.drew.cell? _ = _ := hd2
          replace hd3 : w2.drew.cell? _ = _ := hd3
          replace hb0 : w2.drew.cell? _ = _ := hb0
          replace hb1 : w2.drew.cell? _ = _ := hb1
          replace hb2 : w2.drew.cell? _ = _ := hb2
          replace hb3 : w2.drew.cell? _ = _ := hb3
          generalize w2.drew = Wd at *
          simp only [List.take_succ_cons, List.take_zero, List.drop_succ_cons, List.drop_zero]
          repeat still_step
          refine wpStill_nil ?_
          go_wp2_with fail
          have HTW := Lib.hid (row4 Wd y0 y1 y2 y3 (kt n (ks n key) i) HE0.out.1 HE0.out.2.1 HE0.out.2.2.1 HE0.out.2.2.2)
          have HRW := Lib.hid (HR0.out.alloc' (.cells #[.int .u8 (y0 : Nat), .int .u8 (y1 : Nat), .int .u8 (y2 : Nat), .int .u8 (y3 : Nat)] 5))
          have HBW0 := Lib.hid (HB0.out.alloc HB0.out.size (.cells #[.int .u8 (y0 : Nat), .int .u8 (y1 : Nat), .int .u8 (y2 : Nat), .int .u8 (y3 : Nat)] 5))
          have HSW := Lib.hid (show Wd.heap.size < (Wd.alloc (.cells #[.int .u8 (y0 : Nat), .int .u8 (y1 : Nat), .int .u8 (y2 : Nat), .int .u8 (y3 : Nat)] 5)).heap.size ∧ wr.heap.size ≤ Wd.heap.size from ⟨by simp, HB0.out.size⟩)
          generalize Wd.alloc (.cells #[.int .u8 (y0 : Nat), .int .u8 (y1 : Nat), .int .u8 (y2 : Nat), .int .u8 (y3 : Nat)] 5) = W at *
          generalize Wd.heap.size = TB at *
          clear HT HB2 HTN HKT HBW hd0 hd1 hd2 hd3 hb0 hb1 hb2 hb3 HE0 hx0 hx1 hx2 hx3 hxi0 hxi1 hxi2 hxi3 ht1 ht2 ht4 HR0 HB0
        rotate_left
        focus
          have hx0 := HKB.out (4 * i1 + 0)
          have hx1 := HKB.out (4 * i1 + 1)
          have hx2 := HKB.out (4 * i1 + 2)
          have hx3 := HKB.out (4 * i1 + 3)
          have hxi0 : ((ks n key (4 * i1 + 0) : Nat) : Int) < 256 := by omega
          have hxi1 : ((ks n key (4 * i1 + 1) : Nat) : Int) < 256 := by omega
          have hxi2 : ((ks n key (4 * i1 + 2) : Nat) : Int) < 256 := by omega
          have hxi3 : ((ks n key (4 * i1 + 3) : Nat) : Int) < 256 := by omega
          go_wp2_with (at_builtin; refine wpList_appO rfl (.tmp 39) (.tmp 44) rfl wr.heap.size _ 0 (fun _ => 0) rfl T1.out (some ⟨G i1, 0, none⟩) 4 (C i1) (fun t => ks n key (4 * i1 + t)) rfl HSL.out (fun h => by cases h) (by omega) T2.out (fun j hj => absurd hj (Nat.not_lt_zero _)) (fun j _ => HKB.out _) ?_; intro A2 c2' w2 ho2 _ _ hb2; rw [Nat.zero_add] at ho2 ⊢; obtain ⟨T, cT, hv, hT1, hT2, hT3⟩ := OwnB.rowX ho2 (by decide); cases hv; have HT := Lib.hid (hT3.congr (g := fun t => .int .u8 (ks n key (4 * i1 + t) : Nat)) fun t ht => by unfold catB; rw [if_neg (Nat.not_lt_zero _), Nat.sub_zero]); have HTN := Lib.hid hT1; have HB2 := Lib.hid (((Below.refl wr.heap.size wr).alloc (Nat.le_refl _) (.cells #[] 5)).trans hb2); clear ho2 hb2 hT3 hT1 hT2; have HBW := Lib.hid (H2.out.trans (HB2.out.mono H2.out.size)); have hd0 := HT.out.cell (i := 0) (by decide); have hd1 := HT.out.cell (i := 1) (by decide); have hd2 := HT.out.cell (i := 2) (by decide); have hd3 := HT.out.cell (i := 3) (by decide); have hb0 := (HBW.out.cell (p := ⟨B2, o2 + ks n key (4 * i1 + 0), none⟩) L2.out).trans (E2.out _ (HKB.out (4 * i1 + 0))); have hb1 := (HBW.out.cell (p := ⟨B2, o2 + ks n key (4 * i1 + 1), none⟩) L2.out).trans (E2.out _ (HKB.out (4 * i1 + 1))); have hb2 := (HBW.out.cell (p := ⟨B2, o2 + ks n key (4 * i1 + 2), none⟩) L2.out).trans (E2.out _ (HKB.out (4 * i1 + 2))); have hb3 := (HBW.out.cell (p := ⟨B2, o2 + ks n key (4 * i1 + 3), none⟩) L2.out).trans (E2.out _ (HKB.out (4 * i1 + 3))))
          have HE0 := Lib.hid (show kt n (ks n key) i 0 = box (ks n key (4 * i1 + 1)) ^^^ gpow 2 (i / n - 1) ∧ kt n (ks n key) i 1 = box (ks n key (4 * i1 + 2)) ∧ kt n (ks n key) i 2 = box (ks n key (4 * i1 + 3)) ∧ kt n (ks n key) i 3 = box (ks n key (4 * i1 + 0)) from
            ⟨by rw [HKT.out 0, if_pos rfl], by rw [HKT.out 1, if_neg (by decide), Nat.xor_zero], by rw [HKT.out 2, if_neg (by decide), Nat.xor_zero], by rw [HKT.out 3, if_neg (by decide), Nat.xor_zero]⟩)
          obtain ⟨q, hq⟩ : ∃ q, i / n - 1 = q := ⟨_, rfl⟩
          rw [hq] at HE0
          have hdv : ((i / n : Nat) : Int) = (i : Int) / (n : Nat) := by simp
          have hq1 : 1 ≤ i / n := by
            have := HIN.out
            rcases HN.out with h | h <;> subst h <;> omega
          have hq2 : i / n ≤ 60 := Nat.le_trans (Nat.div_le_self _ _) (by have := HN.out; omega)
          have HE := Lib.hid (show IntKind.i64.wrap (IntKind.i64.wrap ((i : Int) / (n : Nat)) - 1) = (q : Nat) by
            rw [← hdv, show IntKind.i64.wrap ((i / n : Nat) : Int) = ((q + 1 : Nat) : Int) by rw [IntWalk.i64_in _ (by omega)]; omega, IntWalk.i64_in _ (by omega)]; omega)
          have hnn : ¬ n = 0 := by have := HN.out; omega
          have hpl : gpow 2 q < 256 := gpow_lt (by decide) q
          have HPW := Lib.hid fun (t : Int) (ht : t = (q : Nat)) w => (show Calls Try.prog 40 #[.int .u8 2, .int .i64 t] w fun e w' => e = .returned (.int .u8 (gpow 2 q : Nat)) ∧ w = w' by subst ht; exact rpow_any 2 (q : Nat) w (by decide) (by omega))
          have hy1 := box_lt hx1
          generalize box (ks n key (4 * i1 + 0)) = y0 at *
          generalize box (ks n key (4 * i1 + 1)) = y1 at *
          generalize box (ks n key (4 * i1 + 2)) = y2 at *
          generalize box (ks n key (4 * i1 + 3)) = y3 at *
          generalize ks n key (4 * i1 + 0) = x0 at *
          generalize ks n key (4 * i1 + 1) = x1 at *
          generalize ks n key (4 * i1 + 2) = x2 at *
          generalize ks n key (4 * i1 + 3) = x3 at *
          generalize hgp : gpow 2 q = z at *
          have hyz := x8 hy1 hpl
          clear hdv hq1 hq2 hq hgp
          have HR0 := Lib.hid (show LR w.heap.size w2.drew _ i 4 _ G C from (H1.out.keep HB2.out).keep (Below.refl _ _).drew)
          have HB0 := Lib.hid (show Below wr.heap.size wr w2.drew from HB2.out.drew)
          refine wp_region_still_tail 30 (by kernel_rfl) (by kernel_rfl) ?_
          change wpStill _ _ w2.drew (fun a' => wpList _ _ _ _ a' w2.drew) _ _
          replace hd0 : w2.drew.cell? _ = _ := hd0
          replace hd1 : w2.drew.cell? _ = _ := hd1
          replace hd2 : w2.drew.cell? _ = _ := hd2
          replace hd3 : w2.drew.cell? _ = _ := hd3
          replace hb0 : w2.drew.cell? _ = _ := hb0
          replace hb1 : w2.drew.cell? _ = _ := hb1
          replace hb2 : w2.drew.cell? _ = _ := hb2
          replace hb3 : w2.drew.cell? _ = _ := hb3
          generalize w2.drew = Wd at *
          simp only [List.take_succ_cons, List.take_zero, List.drop_succ_cons, List.drop_zero]
          repeat still_step
          still_call (same_flip (HPW.out _ HE.out _))
          repeat still_step
          refine wpStill_nil ?_
          go_wp2_with fail
          have HTW := Lib.hid (row4 Wd (y1 ^^^ z) y2 y3 y0 (kt n (ks n key) i) HE0.out.1 HE0.out.2.1 HE0.out.2.2.1 HE0.out.2.2.2)
          have HRW := Lib.hid (HR0.out.alloc' (.cells #[.int .u8 ((y1 ^^^ z : Nat) : Int), .int .u8 (y2 : Nat), .int .u8 (y3 : Nat), .int .u8 (y0 : Nat)] 5))
          have HBW0 := Lib.hid (HB0.out.alloc HB0.out.size (.cells #[.int .u8 ((y1 ^^^ z : Nat) : Int), .int .u8 (y2 : Nat), .int .u8 (y3 : Nat), .int .u8 (y0 : Nat)] 5))
          have HSW := Lib.hid (show Wd.heap.size < (Wd.alloc (.cells #[.int .u8 ((y1 ^^^ z : Nat) : Int), .int .u8 (y2 : Nat), .int .u8 (y3 : Nat), .int .u8 (y0 : Nat)] 5)).heap.size ∧ wr.heap.size ≤ Wd.heap.size from ⟨by simp, HB0.out.size⟩)
          generalize Wd.alloc (.cells #[.int .u8 ((y1 ^^^ z : Nat) : Int), .int .u8 (y2 : Nat), .int .u8 (y3 : Nat), .int .u8 (y0 : Nat)] 5) = W at *
          generalize Wd.heap.size = TB at *
          clear HT HB2 HTN HKT HBW hd0 hd1 hd2 hd3 hb0 hb1 hb2 hb3 HE0 hx0 hx1 hx2 hx3 hxi0 hxi1 hxi2 hxi3 ht1 HPW HE hpl hyz hy1 HR0 HB0
        all_goals
          have HRT := Lib.hid fun j (hj : j < i) => (show G j ≠ TB from Nat.ne_of_lt (Nat.lt_of_lt_of_le (H1.out.rows j hj).lt HSW.out.2))
          have HCT := Lib.hid (show ∀ c fr, W.heap[TB]? ≠ some (.cells c 22 fr) from fun c fr e => by
            obtain ⟨c', fr', h', _⟩ := HTW.out
            rw [e] at h'
            injection h' with h'
            injection h' with _ ht _
            exact absurd ht (by decide))
          clear T1 T2 HSL hcw0 hs1 hi10 hi1l
          go_loopw [9] (fun v wx => ∃ k : Nat, k ≤ 4 ∧ v = .int .i64 k ∧ RowX wx TB 5 4 (fun j => .int .u8 ((if j < k then ks n key (4 * i + j) else kt n (ks n key) i j : Nat) : Int)) ∧ Chg TB W wx) (fun v _ => 4 - (intOf v).toNat)
          case atStart => exact ⟨0, by decide, rfl, HTW.out.congr fun j _ => by rw [if_neg (Nat.not_lt_zero _)], Chg.refl _ _⟩
          case round =>
            obtain ⟨k, hk, rfl, h1, h2⟩ := hrel
            have HRX := Lib.hid (HRW.out.chg h2 HRT.out HCT.out)
            have H5 := Lib.hid h1
            have H6 := Lib.hid h2
            clear h1 h2
            by_cases hlk : k < 4
            · have hc1 := H5.out.cell hlk
              have hf1 := H5.out.frozen hlk
              rw [if_neg (Nat.lt_irrefl k)] at hc1
              obtain ⟨A7, cap7, hv7, _, hsl7⟩ := HRX.out.slice
              obtain ⟨g7, hA7, _, hcl7⟩ := hsl7 (by have := HIN.out; have := HN.out; omega)
              obtain rfl : g6 = g7 := by
                rw [hA7] at hv7
                injection hv7 with e1 _ _
                injection e1 with e1
                injection e1
              have hc2 := hcl7 i2 (by have := HI2.out; have := HN.out; omega)
              have hc3 : wr.cell? ⟨G i2, k, none⟩ = some (.int .u8 (ks n key (4 * i2 + k) : Nat)) := (HRX.out.rows i2 (by have := HI2.out; have := HN.out; omega)).cell hlk
              have hxl := kt_by (n := n) (i := i) (j := k) (S := ks n key) (by have := HN.out; omega) (by have := HIN.out; omega) hlk (fun x _ => HKB.out x)
              have hyl := HKB.out (4 * i2 + k)
              have HX := Lib.hid (show kt n (ks n key) i k ^^^ ks n key (4 * i2 + k) = ks n key (4 * i + k) by
                rw [ks_next (by have := HN.out; omega) (by have := HIN.out; omega) hlt hlk]
                unfold nxt
                rw [show i - n = i2 by have := HI2.out; omega, Nat.xor_comm])
              have HM := Lib.hid (((H5.out.set k (.int .u8 ((kt n (ks n key) i k ^^^ ks n key (4 * i2 + k) : Nat) : Int))).congr (g := fun j => .int .u8 ((if j < k + 1 then ks n key (4 * i + j) else kt n (ks n key) i j : Nat) : Int)) fun j _ => by
                by_cases e : j = k
                · subst e; rw [if_pos rfl, if_pos (Nat.lt_succ_self _), HX.out]
                · rw [if_neg e]
                  by_cases h : j < k
                  · rw [if_pos h, if_pos (by omega)]
                  · rw [if_neg h, if_neg (by omega)]).drew)
              have HC := Lib.hid ((H6.out.setCell (a := ⟨TB, k, none⟩) (Or.inl rfl) (.int .u8 ((kt n (ks n key) i k ^^^ ks n key (4 * i2 + k) : Nat) : Int))).drew)
              clear hsl7 hcl7 hv7
              generalize kt n (ks n key) i k = x at *
              generalize ks n key (4 * i2 + k) = y at *
              have hxy := x8 hxl hyl
              go_wp2_with fail
              go_region
              all_goals
                generalize (wr.setCell ⟨TB, k, none⟩ (.int .u8 ((x ^^^ y : Nat) : Int))).drew = W5 at *
                clear hc1 hc2 hc3 hf1 HRX
                go_wp2_with fail
                go_roundw
                case rel => exact ⟨k + 1, by omega, by go_num, HM.out, HC.out⟩
                case measure => simp [intOf]; omega
            · obtain rfl : k = 4 := by omega
              have HTW5 := Lib.hid (H5.out.congr (g := fun t => .int .u8 (wordOf (ks n key) i t : Nat)) fun j hj => by rw [if_pos hj])
              have HB5 := Lib.hid (show Below w.heap.size w wr from H2.out.trans ((HBW0.out.mono H2.out.size).trans (H6.out.below (Nat.le_trans H2.out.size (Nat.le_trans HSW.out.2 (Nat.le_of_lt HSW.out.1))) (Nat.le_trans H2.out.size HSW.out.2))))
              have HZ5 := Lib.hid fun o => (show w.heap.size ≤ (wr.alloc o).heap.size from Nat.le_trans HB5.out.size (by simp))
              clear H5 hs2 hs2w hi20 hi2l
              go_wp2_with (at_builtin; go_must (refine wpList_appS rfl (.tmp 134) (.tmp 136) rfl w.heap.size _ i 4 _ G C rfl (HRX.out.alloc' _) wr.heap.size TB _ rfl (World.cell?_alloc_at _ _ _ _ rfl) (HTW5.out.alloc _) (by omega) (HZ5.out _) ?_); intro v3 w3 h3 hb3; have H3 := Lib.hid h3; have HB3 := Lib.hid ((HB5.out.alloc HB5.out.size _).trans hb3); clear h3 hb3)
              obtain ⟨A3, cap3, hv3, _, _⟩ := H3.out.slice
              subst hv3
              go_roundw
              case rel => exact ⟨i + 1, cap3, A3, _, _, by omega, by go_num, rfl, H3.out, HB3.out⟩
              case measure => simp [intOf]; omega
    · obtain ⟨A6, cap6, hv6, hcap6, hsl6⟩ := H1.out.slice
      obtain ⟨rfl, _, rfl⟩ : A = A6 ∧ True ∧ cap = cap6 := by injection hv6 with e1 e2 e3; exact ⟨e1, trivial, e3⟩
      obtain ⟨g6, rfl, hg6, hcl6⟩ := hsl6 (by have := HN.out; omega)
      have HIE := Lib.hid (show i = 4 * (n + 7) by omega)
      have HKB := Lib.hid fun x => ks_by (n := n) (key := key) (by have := HN.out; omega) HY.out x
      have hli : ¬ (i : Int) < 4 * ((n : Int) + 7) := by omega
      have HCL := Lib.hid fun W (h : Below wr.heap.size wr W) j (hj : j < i) => (h.cell (p := ⟨g6, j, none⟩) hg6).trans (hcl6 j hj)
      have HRS := Lib.hid fun W (h : Below wr.heap.size wr W) j (hj : j < i) => ((H1.out.rows j hj).below h (H1.out.rows j hj).lt).slB fun t _ => HKB.out (4 * j + t)
      have hi60 : i ≤ 60 := by have := HN.out; omega
      generalize hWr : wr = Wr at *
      clear hv6 hsl6 hcl6 hg6 hWr
      go_wp2_with fail
      go_loopw [10, 11] (fun v10 v11 wx => ∃ (m cap10 : Nat) (A10 : Option Addr) (G10 C10 : Nat → Nat), 4 * m ≤ i ∧ v11 = .int .i64 ((4 * m : Nat) : Int) ∧ v10 = .slice A10 m cap10 ∧ LR Wr.heap.size wx (.slice A10 m cap10) m 16 (fun j t => ks n key (16 * j + t)) G10 C10 ∧ Below Wr.heap.size Wr wx) (fun _ v11 _ => 70 - (intOf v11).toNat)
      case atStart => exact ⟨0, 0, none, fun _ => 0, fun _ => 0, Nat.zero_le _, rfl, rfl, LR.nil _ _ _ _ _ _, Below.refl _ _⟩
      case round =>
        obtain ⟨m, cap10, A10, G10, C10, hm, rfl, rfl, h1, h2⟩ := hrel
        have H3 := Lib.hid h1
        have H4 := Lib.hid h2
        clear h1 h2
        obtain ⟨p, hp⟩ : ∃ p, 4 * m = p := ⟨_, rfl⟩
        rw [hp]
        have HP := Lib.hid hp
        by_cases hlm : p < i
        · have hp4 : p + 4 ≤ i := by have := HIE.out; omega
          have hlm2 : (p : Int) < (i : Nat) := by omega
          generalize hW2 : wr = W2 at *
          clear hW2
          go_wp2_with fail
          go_loopw [12, 13] (fun v12 v13 wy => ∃ (k c12 : Nat) (A12 : Option Addr), k ≤ 4 ∧ v13 = .int .i64 (k : Nat) ∧ v12 = .slice A12 (4 * k) c12 ∧ OwnB wy W2.heap.size (.slice A12 (4 * k) c12) (4 * k) (fun t => ks n key (4 * p + t)) ∧ Below W2.heap.size W2 wy) (fun _ v13 _ => 4 - (intOf v13).toNat)
          case atStart => exact ⟨0, 0, none, by decide, rfl, rfl, OwnB.nil _ _ _, Below.refl _ _⟩
          case round =>
            obtain ⟨k, c12, A12, hk, rfl, rfl, h1, h2⟩ := hrel
            have H5 := Lib.hid h1
            have H6 := Lib.hid h2
            clear h1 h2
            by_cases hlk : k < 4
            · obtain ⟨j, hj⟩ : ∃ j, p + k = j := ⟨_, rfl⟩
              have hji : j < i := by omega
              have hjI : ((j : Nat) : Int) < (i : Nat) := by omega
              have hj0 : (0 : Int) ≤ (j : Nat) := by omega
              have hjs : (p : Int) + (k : Nat) = (j : Nat) := by omega
              have HBB := Lib.hid (show Below Wr.heap.size Wr wr from H4.out.trans (H6.out.mono H4.out.size))
              have hc1 := HCL.out wr HBB.out j hji
              have HS := Lib.hid (HRS.out wr HBB.out j hji)
              have HJ := Lib.hid hj
              clear hj
              go_wp2_with (at_builtin; go_must (refine wpList_appO rfl (.tmp 148) (.tmp 154) rfl W2.heap.size _ (4 * k) (fun t => ks n key (4 * p + t)) rfl H5.out (some ⟨G j, 0, none⟩) 4 (C j) (wordOf (ks n key) j) rfl HS.out (fun h => by cases h) (by omega) H6.out.size (fun t _ => HKB.out _) (fun t _ => HKB.out _) ?_); intro A2 c2' w2 ho2 _ hc2 hb2; have HO2 := Lib.hid (ho2.congr (g := fun t => ks n key (4 * p + t)) fun t ht => by
                unfold catB
                by_cases h : t < 4 * k
                · rw [if_pos h]
                · rw [if_neg h]; show ks n key (4 * j + (t - 4 * k)) = _; congr 1; have := HJ.out; omega); have HB2 := Lib.hid (H6.out.trans hb2); clear ho2 hb2 hc2)
              go_roundw
              case rel => exact ⟨k + 1, c2', A2, by omega, by go_num, rfl, HO2.out, HB2.out⟩
              case measure => simp [intOf]; omega
            · obtain rfl : k = 4 := by omega
              obtain ⟨T, cT, hv, hT1, hT2, hT3⟩ := OwnB.rowX H5.out (by decide)
              cases hv
              have HTW := Lib.hid (show RowX wr T 5 16 (fun t => .int .u8 (ks n key (16 * m + t) : Nat)) from RowX.congr hT3 fun t _ => by have := HP.out; rw [show 4 * p + t = 16 * m + t by omega])
              have HRW := Lib.hid (H3.out.keep H6.out)
              have HZ := Lib.hid fun o => (show Wr.heap.size ≤ (wr.alloc o).heap.size from Nat.le_trans H4.out.size (Nat.le_trans H6.out.size (by simp)))
              have HBW := Lib.hid (H4.out.trans (H6.out.mono H4.out.size))
              have hm20 : m ≤ 1000 := by have := HP.out; omega
              have HTN := Lib.hid hT1
              clear hT1 hT2 hT3
              go_wp2_with (at_builtin; go_must (refine wpList_appS rfl (.tmp 156) (.tmp 158) rfl Wr.heap.size _ m 16 (fun j t => ks n key (16 * j + t)) G10 C10 rfl (HRW.out.alloc' _) wr.heap.size T _ rfl (World.cell?_alloc_at _ _ _ _ rfl) (HTW.out.alloc _) hm20 (HZ.out _) ?_); intro v3 w3 h3 hb3; have H7 := Lib.hid h3; have H8 := Lib.hid ((HBW.out.alloc HBW.out.size _).trans hb3); clear h3 hb3)
              obtain ⟨A3, cap3, hv3, _, _⟩ := H7.out.slice
              subst hv3
              go_roundw
              case rel => exact ⟨m + 1, cap3, A3, _, _, by have := HP.out; omega, by have := HP.out; go_num, rfl, H7.out, H8.out⟩
              case measure => have := HP.out; simp [intOf]; omega
        · have hm7 : m = n + 7 := by have := HP.out; have := HIE.out; omega
          have HM7 := Lib.hid hm7
          have hlm2 : ¬ (p : Int) < (i : Nat) := by omega
          clear hm7
          go_wp2_with fail
          go_ret
          exact ⟨_, G10, C10, rfl, by rw [← HM7.out]; exact H3.out.base_le H2.out.size, H2.out.trans (H4.out.mono H2.out.size)⟩
end Go.Proofs.Ytgfdnhpfdbaddaa
