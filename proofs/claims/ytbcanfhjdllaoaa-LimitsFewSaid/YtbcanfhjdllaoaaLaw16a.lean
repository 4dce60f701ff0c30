/- Law LimitsFew (layer 16). -/
import Derived.Test.YtbcanfhjdllaoaaActs16
namespace Go.Proofs.Ytbcanfhjdllaoaa
set_option maxRecDepth 100000
open Go.RowKit
theorem nilNe {c : ByteArray} (h : 1 ≤ c.size) : ¬ c.toList = [] ∧ c.toList.isEmpty = false := by
  have h2 := toList_of_size (s := c) (by omega)
  exact ⟨(fun e => by rw [e] at h2; cases h2), h2⟩
set_option maxHeartbeats 6400000 in
theorem few16_any (hN : LimOk) (A : Option Addr) (c : Nat) (X : List Ac) (w : World) (hv : Ev w) (_hn : X.length ≤ 140737488355328) (hX : ∀ x ∈ X, x.c.size ≤ maxLen) (hact : LiS acE w A X) :
    Calls Try.prog 7 #[.slice A X.length c] w fun e w' => e = .returned (.bool true) ∧ Below w.heap.size w w' := by
  have HS := Lib.hid (small16_any hN w hv)
  have HN := Lib.hid (fun w1 (hb : Below w.heap.size w w1) => hN.new w w1 hv hb)
  have HACT := Lib.hid hact
  have HX := Lib.hid hX
  clear hN hv hact hX
  go_enter Try.func7, Try.ntmps7
  go_wp2_with fail
  refine HS.out.mono ?_
  rintro e w1 ⟨rfl, hb1⟩
  have HB1 := Lib.hid hb1
  clear hb1
  go_wp2_with fail
  refine (HN.out w1 HB1.out).mono ?_
  rintro e w2 ⟨G, TA, O, rfl, hkit, ha, _, _⟩
  have HK := Lib.hid hkit
  have HA := Lib.hid ha
  clear hkit ha HN HS
  go_wp2_with fail
  go_loopw [5] (fun i wr => ∃ (k : Nat) (L : List Us) (O : Nat → Prop), i = .int .i64 k ∧ k ≤ X.length ∧ k ≤ 150 ∧ TA wr L O) (fun i _ => X.length - (intOf i).toNat)
  case atStart => exact ⟨0, [], O, rfl, Nat.zero_le _, Nat.zero_le _, HA.out⟩
  case round =>
    obtain ⟨k, L, O1, rfl, hk, hk150, hp⟩ := hrel
    have HP := Lib.hid hp
    clear hp HA
    by_cases hlt : k < X.length ∧ k < 150
    · obtain ⟨hl1, hl2⟩ := hlt
      have hki : (k : Int) < X.length := by omega
      have hk2i : (k : Int) < 150 := by omega
      have hk3 : ¬ (k : Int) < 0 := by omega
      obtain ⟨B, o, rfl, hBl, a0, a1, a2, a3, a4, a5, a6, a7⟩ := ac_at (HACT.out.keep (HK.out.bel _ _ _ HP.out)) hl1
      have HDO := Lib.hid (do16_any HK.out HP.out X[k] (HX.out _ (List.getElem_mem hl1)))
      generalize X[k] = x at *
      obtain ⟨d, ⟨rk, rt, rs, ro⟩, xc, xa, xn⟩ := x
      simp only at a0 a1 a2 a3 a4 a5 a6 a7
      obtain ⟨L1, hL1⟩ : ∃ L1, doN L ⟨d, ⟨rk, rt, rs, ro⟩, xc, xa, xn⟩ = L1 := ⟨_, rfl⟩
      obtain ⟨e1, he1⟩ : ∃ e1, doE L ⟨d, ⟨rk, rt, rs, ro⟩, xc, xa, xn⟩ = e1 := ⟨_, rfl⟩
      rw [hL1, he1] at HDO
      clear hL1 he1
      go_wp2_with fail
      refine HDO.out.mono ?_
      rintro e w5 ⟨rfl, O5, h5, _⟩
      have HL := Lib.hid (HK.out.list _ _ _ h5)
      clear h5 HDO a0 a1 a2 a3 a4 a5 a6 a7
      go_wp2_with fail
      refine HL.out.mono ?_
      rintro e w6 ⟨v6, O6, rfl, ho6, _, h6, _⟩
      obtain ⟨A6, c6, rfl, hl6⟩ := ho6.slice
      have HR := Lib.hid hl6
      have HP6 := Lib.hid h6
      have HOK := Lib.hid (HK.out.ok _ _ _ h6)
      have hf16 : (L1.length : Int) ≤ 16 := by have := HOK.out.few; omega
      have hf16' : ¬ (16 : Int) < L1.length := by omega
      clear hl6 h6 ho6 HL HP
      go_wp2_with fail
      go_loopw [7] (fun i wr => ∃ (q : Nat) (d : Nat), i = .int .i64 q ∧ q ≤ L1.length ∧ wr = w6.drewN d) (fun i _ => L1.length - (intOf i).toNat)
      case atStart => exact ⟨0, 0, rfl, Nat.zero_le _, rfl⟩
      case round =>
        obtain ⟨q, dr, rfl, hq, rfl⟩ := hrel
        by_cases hql : q < L1.length
        · have hqi : (q : Int) < L1.length := by omega
          have hq0 : ¬ (q : Int) < 0 := by omega
          obtain ⟨B1, o1, hA1, hB1, b0, b1, b2, b3⟩ := us_at HR.out hql
          have HU := Lib.hid (HOK.out.each _ (List.getElem_mem hql))
          have hs0 := nilNe HU.out.c1
          have hn1 := hs0.1
          have hn2 := hs0.2
          have hw0 := HU.out.w0
          have hm0 := HU.out.n0
          have hz0 := HU.out.s0
          have g1 : ¬ L1[q].w < 0 := by omega
          have g2 : ¬ L1[q].n < 0 := by omega
          have g3 : ¬ L1[q].s < 0 := by omega
          have HAP := Lib.hid (show ∀ (m : Nat) (hm : m < L1.length), m < q → L1[q].c ≠ L1[m].c from fun m hm hmq e => (List.pairwise_iff_getElem.1 HOK.out.apart) m q hm hql hmq e.symm)
          subst hA1
          clear hs0 hw0 hm0 hz0
          generalize hu : L1[q] = us at *
          clear hu
          obtain ⟨uc, uw, un, us⟩ := us
          simp only at b0 b1 b2 b3 hn1 hn2 g1 g2 g3
          have b0 : ∀ n, (w6.drewN n).cell? ⟨B1, o1 + q * 4, none⟩ = some (.string uc) := fun _ => b0
          have b1 : ∀ n, (w6.drewN n).cell? ⟨B1, o1 + q * 4 + 1, none⟩ = some (.int .i64 uw) := fun _ => b1
          have b2 : ∀ n, (w6.drewN n).cell? ⟨B1, o1 + q * 4 + 2, none⟩ = some (.int .i64 un) := fun _ => b2
          have b3 : ∀ n, (w6.drewN n).cell? ⟨B1, o1 + q * 4 + 3, none⟩ = some (.int .i64 us) := fun _ => b3
          go_wp2_with fail
          go_loopw [8] (fun i wr => ∃ (m : Nat) (d : Nat), i = .int .i64 m ∧ m ≤ q ∧ wr = w6.drewN d) (fun i _ => q - (intOf i).toNat)
          case atStart => exact ⟨0, dr, rfl, Nat.zero_le _, rfl⟩
          case round =>
            obtain ⟨m, dm, rfl, hm, rfl⟩ := hrel
            by_cases hmq : m < q
            · have hmi : (m : Int) < q := by omega
              have hm0 : ¬ (m : Int) < 0 := by omega
              have hml : (m : Int) < L1.length := by omega
              have hmL : m < L1.length := by omega
              obtain ⟨B2, o2, hA2, _, d0, _, _, _⟩ := us_at HR.out hmL
              injection hA2 with hA2
              injection hA2 with e1 e2 _
              subst e1 e2
              have hne := HAP.out m hmL hmq
              have q1 : (uc.toList == L1[m].c.toList) = false := by rw [str_eq16]; exact decide_eq_false hne
              generalize L1[m].c = mc at *
              have d0 : ∀ n, (w6.drewN n).cell? ⟨B1, o1 + m * 4, none⟩ = some (.string mc) := fun _ => d0
              clear hne
              generalize hW : w6.drewN dm = Wm at *
              have HW := Lib.hid hW
              have b0 : ∀ n, (Wm.drewN n).cell? ⟨B1, o1 + q * 4, none⟩ = some (.string uc) := fun n => by rw [← HW.out, World.drewN_drewN]; exact b0 _
              have d0 : ∀ n, (Wm.drewN n).cell? ⟨B1, o1 + m * 4, none⟩ = some (.string mc) := fun n => by rw [← HW.out, World.drewN_drewN]; exact d0 _
              clear hW
              go_wp2_with fail
              go_quiet (fail)
              go_wp2_with fail
              go_roundw
              case rel => exact ⟨m + 1, dm + nq, by go_num, by omega, by rw [← HW.out, World.drewN_drewN]⟩
              case measure => simp [intOf]; omega
            · have hmi : ¬ (m : Int) < q := by omega
              have b0 := b0 dm
              have b1 := b1 dm
              have b2 := b2 dm
              have b3 := b3 dm
              go_wp2_with fail
              go_roundw
              case rel => exact ⟨q + 1, dm, by go_num, by omega, rfl⟩
              case measure => simp [intOf]; omega
        · have hqi : ¬ (q : Int) < L1.length := by omega
          go_wp2_with fail
          go_roundw
          case rel => exact ⟨k + 1, L1, O6, by go_num, by omega, by omega, HK.out.below HP6.out (drawn (Below.refl _ _) _)⟩
          case measure => simp [intOf]; omega
    · have HB := Lib.hid (HK.out.bel _ _ _ HP.out)
      have hend : ¬ (k : Int) < X.length ∨ (k : Int) < X.length ∧ ¬ (k : Int) < 150 := by omega
      rcases hend with hki | ⟨hki, hki2⟩
      all_goals
        go_wp2_with fail
        go_ret
        exact ⟨rfl, HB.out⟩
end Go.Proofs.Ytbcanfhjdllaoaa
