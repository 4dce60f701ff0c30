/- Law RouteLongest (layer 15). -/
import Derived.Test.YtcohkhjfncknpaaLaw15d
namespace Go.Proofs.Ytcohkhjfncknpaa
set_option maxRecDepth 100000
open Go.RowKit
/-- the longest prefix among the first k -/
def BestQ (L : List Rt) (s : ByteArray) (k : Nat) (bp : ByteArray) : Prop := (bp = { data := #[] } ∧ BestI L s k (-1)) ∨ ∃ b : Nat, ∃ hb : b < L.length, bp = L[b].p ∧ BestI L s k (b : Int)
theorem mt_bg {s : ByteArray} {r : Rt} : Mt s r ↔ bgS s r.p = true := ⟨fun h => by unfold bgS; exact decide_eq_true h, fun h => of_decide_eq_true (p := r.p.size ≤ s.size ∧ s.extract 0 r.p.size = r.p) h⟩
theorem bestQ_no {L : List Rt} {s bp : ByteArray} {k : Nat} (hk : k < L.length) (h : BestQ L s k bp) (hm : bgS s L[k].p = false) : BestQ L s (k + 1) bp := by
  have hm : ¬ Mt s L[k] := fun h => by rw [mt_bg.1 h] at hm; cases hm
  rcases h with ⟨e, h⟩ | ⟨b, hb, e, h⟩
  · exact Or.inl ⟨e, best_no hk h hm⟩
  · exact Or.inr ⟨b, hb, e, best_no hk h hm⟩
theorem bestQ_more {L : List Rt} {s bp : ByteArray} {k : Nat} (hk : k < L.length) (h : BestQ L s k bp) (hm : bgS s L[k].p = true) (hl : bp.size < L[k].p.size) : BestQ L s (k + 1) L[k].p := by
  have hm := mt_bg.2 hm
  rcases h with ⟨e, h⟩ | ⟨b, hb, e, h⟩
  · exact Or.inr ⟨k, hk, rfl, best_first hk h hm⟩
  · exact Or.inr ⟨k, hk, rfl, best_more hk hb h hm (by rw [← e]; exact hl)⟩
theorem bestQ_keep {L : List Rt} {s bp : ByteArray} {k : Nat} (ok : RtOk L) (hk : k < L.length) (h : BestQ L s k bp) (hl : ¬ bp.size < L[k].p.size) : BestQ L s (k + 1) bp := by
  rcases h with ⟨e, h⟩ | ⟨b, hb, e, h⟩
  · have := ok.size L[k] (List.getElem_mem hk)
    refine absurd ?_ hl
    rw [e]
    show 0 < L[k].p.size
    omega
  · exact Or.inr ⟨b, hb, e, best_keep hk hb h (by rw [← e]; exact hl)⟩
theorem rise_step {L : List Rt} (ok : RtOk L) {k : Nat} (h : k + 1 < L.length) : Go.Op.bytesLess L[k + 1].p.toList L[k].p.toList = false ∧ ¬ L[k + 1].p.toList = L[k].p.toList := by
  have h1 := (List.pairwise_iff_getElem.1 ok.rise) k (k + 1) (by omega) h (by omega)
  exact ⟨lsB_asym h1, fun e => lsB_ne h1 (toList_inj e).symm⟩
theorem ne_nil {p : ByteArray} (h : 1 ≤ p.size) : ¬ p.toList = [] := fun e => by
  rw [ByteArray.toList_eq] at e
  have h3 : p.data.size = 0 := by rw [← Array.length_toList, e]; rfl
  have : p.size = p.data.size := rfl
  omega
set_option maxHeartbeats 6400000 in
theorem longest15_any (hN : NewT) (A : Option Addr) (k0 c : Nat) (D M : Nat → Int) (T : Nat → ByteArray) (s : ByteArray) (w : World) (hv : Ev w) (hk : k0 ≤ 140737488355328) (hT : ∀ j, j < k0 → (T j).size ≤ maxLen) (hact : ActsIn w A k0 D M T) (hs : s.size ≤ maxLen) :
    Calls Try.prog 4 #[.slice A k0 c, .string s] w fun e w' => e = .returned (.bool true) ∧ Below w.heap.size w w' := by
  have HS := Lib.hid (small15_any hN w hv)
  have HM := Lib.hid (fun w1 (hb : Below w.heap.size w w1) => made15_any hN A k0 c D M T w w1 hv hb hk hT (hact.keep hb (Nat.le_refl _)))
  have HQ := Lib.hid hs
  clear hN hv hT hact hs
  go_enter Try.func4, Try.ntmps4
  go_wp2_with fail
  refine HS.out.mono ?_
  rintro e w1 ⟨rfl, hb1⟩
  have HB1 := Lib.hid hb1
  clear hb1
  go_wp2_with fail
  refine (HM.out w1 HB1.out).mono ?_
  rintro e w2 ⟨G, TA, O, rfl, hkit, ha, ho, hb2⟩
  have HK := Lib.hid hkit
  have HA := Lib.hid ha
  have HOK := Lib.hid (hkit.ok _ _ _ ha)
  clear hkit ha ho hb2 HM HS
  generalize mdL D M T (mdN k0) = L at *
  go_wp2_with fail
  refine (HK.out.find w2 L O s HA.out HQ.out).mono ?_
  rintro e w3 ⟨rfl, O3, h3, _⟩
  have HA3 := Lib.hid h3
  obtain ⟨x1, hx1⟩ : ∃ x1, fdV L s = x1 := ⟨_, rfl⟩
  obtain ⟨y1, hy1⟩ : ∃ y1, fdI L s = y1 := ⟨_, rfl⟩
  rw [hx1, hy1]
  have HXY := Lib.hid (And.intro hx1 hy1)
  clear h3 HA hx1 hy1
  go_wp2_with fail
  refine (HK.out.list w3 L O3 HA3.out).mono ?_
  rintro e w4 ⟨v4, O4, rfl, ho4, _, h4, _⟩
  obtain ⟨A4, c4, rfl, hl4⟩ := ho4.slice
  have HL := Lib.hid hl4
  have HB4 := Lib.hid (HK.out.bel _ _ _ h4)
  have hl24 : (L.length : Int) ≤ 24 := by have := HOK.out.few; omega
  clear ho4 hl4 h4 HA3
  go_wp2_with fail
  go_loopw [10, 11, 12] (fun bv i _ wr => ∃ (k d : Nat) (bp : ByteArray), k ≤ L.length ∧ i = .int .i64 k ∧ bv = .string bp ∧ wr = w4.drewN d ∧ BestQ L s k bp ∧ bp.size ≤ 8) (fun _ i _ _ => L.length - (intOf i).toNat)
  case atStart => exact ⟨0, 0, _, Nat.zero_le _, rfl, rfl, rfl, Or.inl ⟨rfl, Or.inl ⟨rfl, fun j _ hj => absurd hj (Nat.not_lt_zero j)⟩⟩, by decide⟩
  case round =>
    obtain ⟨k, d, bp, hk, rfl, rfl, rfl, hb, hb8⟩ := hrel
    have HB := Lib.hid hb
    clear hb
    by_cases hlt : k < L.length
    · obtain ⟨B, o, hAe, hBl, c1, c2⟩ := rt_at (HL.out.drewN d) hlt
      subst hAe
      have hk1 : (k : Int) < L.length := by omega
      have hz := HOK.out.size _ (List.getElem_mem hlt)
      have hne : ¬ L[k].p.toList = [] := ne_nil hz.1
      have hne2 : L[k].p.toList.isEmpty = false := by cases h : L[k].p.toList with | nil => exact absurd h hne | cons => rfl
      by_cases hk0 : k = 0
      · have hki : ¬ (0 : Int) < k := by omega
        have hkd : decide (0 < k) = false := decide_eq_false (by omega)
        generalize hx : L[k] = x at *
        have HX := Lib.hid hx
        generalize hW : w4.drewN d = Wd at *
        have HW := Lib.hid hW
        clear hx hW c2 hk0
        go_wp2_with fail
        go_quiet (fail)
        go_wp2_with fail
        refine (begins15_any s x.p _).mono ?_
        rintro e w6 ⟨rfl, rfl⟩
        cases hbg : bgS s x.p with
        | false =>
          have HN := Lib.hid (bestQ_no hlt HB.out (by rw [HX.out]; exact hbg))
          clear hbg
          go_wp2_with fail
          go_roundw
          case rel => exact ⟨k + 1, d + nq, bp, by omega, by go_num, rfl, by rw [← HW.out, World.drewN_drewN], HN.out, hb8⟩
          case measure => simp [intOf]; omega
        | true =>
          by_cases hmore : bp.size < x.p.size
          · have HN := Lib.hid (bestQ_more hlt HB.out (by rw [HX.out]; exact hbg) (by rw [HX.out]; exact hmore))
            rw [HX.out] at HN
            have hmi : (bp.size : Int) < x.p.size := by omega
            clear hbg
            go_wp2_with fail
            go_roundw
            case rel => exact ⟨k + 1, d + nq, x.p, by omega, by go_num, rfl, by rw [← HW.out, World.drewN_drewN], HN.out, hz.2⟩
            case measure => simp [intOf]; omega
          · have HN := Lib.hid (bestQ_keep HOK.out hlt HB.out (by rw [HX.out]; exact hmore))
            have hmi : ¬ (bp.size : Int) < x.p.size := by omega
            clear hbg
            go_wp2_with fail
            go_roundw
            case rel => exact ⟨k + 1, d + nq, bp, by omega, by go_num, rfl, by rw [← HW.out, World.drewN_drewN], HN.out, hb8⟩
            case measure => simp [intOf]; omega
      · obtain ⟨j, rfl⟩ : ∃ j, k = j + 1 := ⟨k - 1, by omega⟩
        obtain ⟨B', o', e', _, c3, _⟩ := rt_at (HL.out.drewN d) (j := j) (by omega)
        cases e'
        obtain ⟨r1, r2⟩ := rise_step HOK.out hlt
        obtain ⟨k, hk⟩ : ∃ k, k = j + 1 := ⟨_, rfl⟩
        have hj1 : (j : Int) < L.length := by omega
        generalize hy : L[j] = y at *
        clear hy
        have hki : (0 : Int) < k := by omega
        have hkd : decide (0 < k) = true := decide_eq_true (by omega)
        have hsub : (k : Int) - 1 = (j : Nat) := by omega
        have hx0 : L[j + 1] = L[k]'(by omega) := by simp [hk]
        rw [hx0] at c1 c2 hz hne hne2 r1 r2
        rw [← hk] at HB hlt c1 c2 hk1 ⊢
        generalize hx : L[k] = x at *
        have HX := Lib.hid hx
        have r3 : (x.p.toList == y.p.toList) = false := by simpa using r2
        generalize hW : w4.drewN d = Wd at *
        have HW := Lib.hid hW
        clear hx hW c2 hk0 hk hx0
        go_wp2_with fail
        go_quiet (fail)
        go_wp2_with fail
        refine (begins15_any s x.p _).mono ?_
        rintro e w6 ⟨rfl, rfl⟩
        cases hbg : bgS s x.p with
        | false =>
          have HN := Lib.hid (bestQ_no hlt HB.out (by rw [HX.out]; exact hbg))
          clear hbg
          go_wp2_with fail
          go_roundw
          case rel => exact ⟨k + 1, d + nq, bp, by omega, by go_num, rfl, by rw [← HW.out, World.drewN_drewN], HN.out, hb8⟩
          case measure => simp [intOf]; omega
        | true =>
          by_cases hmore : bp.size < x.p.size
          · have HN := Lib.hid (bestQ_more hlt HB.out (by rw [HX.out]; exact hbg) (by rw [HX.out]; exact hmore))
            rw [HX.out] at HN
            have hmi : (bp.size : Int) < x.p.size := by omega
            clear hbg
            go_wp2_with fail
            go_roundw
            case rel => exact ⟨k + 1, d + nq, x.p, by omega, by go_num, rfl, by rw [← HW.out, World.drewN_drewN], HN.out, hz.2⟩
            case measure => simp [intOf]; omega
          · have HN := Lib.hid (bestQ_keep HOK.out hlt HB.out (by rw [HX.out]; exact hmore))
            have hmi : ¬ (bp.size : Int) < x.p.size := by omega
            clear hbg
            go_wp2_with fail
            go_roundw
            case rel => exact ⟨k + 1, d + nq, bp, by omega, by go_num, rfl, by rw [← HW.out, World.drewN_drewN], HN.out, hb8⟩
            case measure => simp [intOf]; omega
    · have hk1 : ¬ (k : Int) < L.length := by omega
      have HB2 := Lib.hid (show (bp = { data := #[] } ∧ x1 = 0 ∧ y1 = false) ∨ ∃ b : Nat, ∃ hb : b < L.length, bp = L[b].p ∧ x1 = L[b].t ∧ y1 = true from by
        rcases HB.out with ⟨e, h⟩ | ⟨b, hb, e, h⟩
        · have := best_none h (by omega)
          exact Or.inl ⟨e, by rw [← HXY.out.1]; unfold fdV; rw [this]; rfl, by rw [← HXY.out.2]; unfold fdI; rw [this]; rfl⟩
        · have := best_some HOK.out h (by omega) hb
          exact Or.inr ⟨b, hb, e, by rw [← HXY.out.1]; unfold fdV; rw [this]; rfl, by rw [← HXY.out.2]; unfold fdI; rw [this]; rfl⟩)
      have HLd := Lib.hid (HL.out.drewN d)
      have HBd := Lib.hid (drawn HB4.out d)
      generalize w4.drewN d = Wd at *
      clear HB HXY HL HB4
      rcases HB2.out with ⟨rfl, rfl, rfl⟩ | ⟨b, hb, hbp, hx1, hy1⟩
      · clear HB2
        go_wp2_with fail
        go_loopw [13] (fun i wr => ∃ k : Nat, k ≤ L.length ∧ i = .int .i64 k ∧ wr = Wd) (fun i _ => L.length - (intOf i).toNat)
        case atStart => exact ⟨0, Nat.zero_le _, rfl, rfl⟩
        case round =>
          obtain ⟨q, hq, rfl, rfl⟩ := hrel
          by_cases hlt2 : q < L.length
          · obtain ⟨B, o, hAe, hBl, c1, c2⟩ := rt_at HLd.out hlt2
            subst hAe
            have hq1 : (q : Int) < L.length := by omega
            have hz := HOK.out.size _ (List.getElem_mem hlt2)
            have hne : ¬ L[q].p.toList = [] := ne_nil hz.1
            have hne2 : L[q].p.toList.isEmpty = false := by cases h : L[q].p.toList with | nil => exact absurd h hne | cons => rfl
            generalize L[q] = x at *
            go_wp2_with fail
            go_roundw
            case rel => exact ⟨q + 1, by omega, by go_num, trivial⟩
            case measure => simp [intOf]; omega
          · have hq1 : ¬ (q : Int) < L.length := by omega
            go_wp2_with fail
            go_ret
            exact ⟨rfl, HBd.out⟩
      · have hzb := (HOK.out.size _ (List.getElem_mem hb)).1
        have HPB := Lib.hid hbp
        have HX1 := Lib.hid hx1
        subst hy1
        have hbn : ¬ bp.toList = [] := by rw [hbp]; exact ne_nil hzb
        have hbn2 : bp.toList.isEmpty = false := by cases h : bp.toList with | nil => exact absurd h hbn | cons => rfl
        clear hbp hx1 HB2
        go_wp2_with fail
        go_loopw [13] (fun i wr => ∃ k : Nat, k ≤ b ∧ i = .int .i64 k ∧ wr = Wd) (fun i _ => L.length - (intOf i).toNat)
        case atStart => exact ⟨0, Nat.zero_le _, rfl, rfl⟩
        case round =>
          obtain ⟨q, hq, rfl, rfl⟩ := hrel
          have hlt2 : q < L.length := by omega
          obtain ⟨B, o, hAe, hBl, c1, c2⟩ := rt_at HLd.out hlt2
          subst hAe
          have hq1 : (q : Int) < L.length := by omega
          by_cases hqb : q = b
          · have HE := Lib.hid (show L[q].p = bp ∧ L[q].t = x1 from by subst hqb; exact ⟨HPB.out.symm, HX1.out.symm⟩)
            rw [HE.out.1] at c1
            rw [HE.out.2] at c2
            clear hqb
            go_wp2_with fail
            go_ret
            exact ⟨rfl, HBd.out⟩
          · have hne : (L[q].p.toList == bp.toList) = false := by
              have h1 := (List.pairwise_iff_getElem.1 HOK.out.rise) q b hlt2 hb (by omega)
              rw [HPB.out]
              have := lsB_ne h1
              simpa using fun e => this (toList_inj e)
            generalize L[q] = x at *
            go_wp2_with fail
            go_roundw
            case rel => exact ⟨q + 1, by omega, by go_num, trivial⟩
            case measure => simp [intOf]; omega
end Go.Proofs.Ytcohkhjfncknpaa
