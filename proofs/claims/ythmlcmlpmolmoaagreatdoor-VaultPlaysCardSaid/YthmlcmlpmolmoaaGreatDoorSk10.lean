/- 15 texts in one, in their order: what the cards need of them. -/
import Derived.Test.YthmlcmlpmolmoaaGreatDoorSk9
import Derived.Lib.QuietBelow
namespace Go.Proofs.YthmlcmlpmolmoaaGreatDoor
set_option maxRecDepth 100000
open Go.RowKit
structure RCip (w : World) (c g n : Nat) (key : Nat → Nat) (t : Nat) (T : Nat → Nat) : Prop where
  key : RKey w g n key
  ptr : w.cell? ⟨c, 0, none⟩ = some (.pointer (some ⟨g, 0, none⟩))
  tw : ∃ A cap, w.cell? ⟨c, 1, none⟩ = some (.slice A t cap) ∧ SlB w A t T ∧ t ≤ cap ∧ (A = none → t = 0 ∧ cap = 0) ∧ ∀ B o, A = some ⟨B, o, none⟩ → o = 0
theorem RCip.lt {w : World} {c g n t : Nat} {key T : Nat → Nat} (h : RCip w c g n key t T) : c < w.heap.size := block_lt h.ptr
theorem RCip.keep {w w' : World} {c g n t : Nat} {key T : Nat → Nat} (h : RCip w c g n key t T) (hb : Below w.heap.size w w') : RCip w' c g n key t T := by
  obtain ⟨A, cap, h1, h2, h3, h4⟩ := h.tw
  exact ⟨h.key.keep hb, (hb.cell (p := ⟨c, 0, none⟩) h.lt).trans h.ptr, A, cap, (hb.cell (p := ⟨c, 1, none⟩) h.lt).trans h1, h2.keep hb, h3, h4⟩
theorem RCip.chg {w w' : World} {c g n t K : Nat} {z : Int} {key T : Nat → Nat} (h : RCip w c g n key t T) (hc : Chg K w w') (hK : w.cell? ⟨K, 0, none⟩ = some (.int .i64 z)) : RCip w' c g n key t T := by
  obtain ⟨A, cap, h1, h2, h3, h4, h5⟩ := h.tw
  have hne : c ≠ K := fun e => by
    have hp := h.ptr
    rw [e, hK] at hp
    cases hp
  refine ⟨h.key.chg hc hK, (hc.cell h.lt hne).trans h.ptr, A, cap, (hc.cell h.lt hne).trans h1, fun h0 => ?_, h3, h4, h5⟩
  obtain ⟨B, o, e, hB, hj⟩ := h2 h0
  obtain rfl := h5 B o e
  have hBK : B ≠ K := fun e => by
    have hp := (hj 0 h0).2
    rw [e, hK] at hp
    cases hp
  exact ⟨B, 0, e, Nat.lt_of_lt_of_le hB hc.size, fun j hj' => ⟨(hj j hj').1, (hc.cell hB hBK).trans (hj j hj').2⟩⟩
theorem RCip.drewN {w : World} {c g n t : Nat} {key T : Nat → Nat} (h : RCip w c g n key t T) (k : Nat) : RCip (w.drewN k) c g n key t T := by
  obtain ⟨A, cap, h1, h2, h3, h4⟩ := h.tw
  obtain ⟨L, cp, G, C, r1, r2, r3⟩ := h.key.rounds
  obtain ⟨B, b1, b2⟩ := h.key.box
  obtain ⟨U, u1, u2⟩ := h.key.unbox
  exact ⟨⟨⟨L, cp, G, C, r1, r2, fun j hj => ⟨(r3 j hj).1, (r3 j hj).2.drewN k⟩⟩, ⟨B, b1, b2.drewN k⟩, ⟨U, u1, u2.drewN k⟩⟩, h.ptr, A, cap, h1, h2.drewN k, h3, h4⟩
set_option maxHeartbeats 800000 in
theorem rnew10_any (A : Option Addr) (len n cap : Nat) (key : Nat → Nat) (A2 : Option Addr) (t c2 : Nat) (T : Nat → Nat) (w : World) (hn : n = 4 ∨ n = 8) (hl : 4 * n = len) (hc : len ≤ cap) (hA : SlB w A len key) (ht : t ≤ 16) (hA2 : SlB w A2 t T) (hnil : A2 = none → t = 0 ∧ c2 = 0) :
    Calls Tryz.prog 84 #[.slice A len cap, .slice A2 t c2] w fun e w' => ∃ c g, e = .returned (.tuple #[.pointer (some ⟨c, 0, none⟩), .int .i64 0]) ∧ RCip w' c g n key t T ∧ Below w.heap.size w w' := by
  have HN := Lib.hid (rnew_at A len n cap key w hl hn hc hA)
  have hb : decide ((16 : Int) < (t : Nat)) = false := by rw [decide_eq_false_iff_not]; omega
  have HA2 := Lib.hid hA2
  have HBB := Lib.hid (show ∀ j, j < t → T j < 256 from fun j hj => hA2.byte hj)
  have HNIL := Lib.hid hnil
  have HT := Lib.hid ht
  clear hA hn hA2 hnil ht hl hc
  go_enter Tryz.func84, Tryz.ntmps84
  go_wp2_with (first | (go_at_call 121; refine HN.out.mono ?_; rintro e w1 ⟨g, rfl, h1, h2, h3⟩; have H1 := Lib.hid h1; have H2 := Lib.hid h2; have H3 := Lib.hid h3; have HE := Lib.hid (OwnB.empty w1 w1.heap.size (fun _ => 0) (Nat.le_refl _)); have HB := Lib.hid ((Below.refl w1.heap.size w1).alloc (Nat.le_refl _) (.cells #[] 5)); clear h1 h2 h3) | (at_builtin; refine wpList_appO rfl (.tmp 19) (.tmp 20) rfl w1.heap.size _ 0 (fun _ => 0) rfl HE.out A2 t c2 T rfl ((HA2.out.keep H3.out).keep HB.out) HNIL.out (by have := HT.out; omega) HB.out.size (fun j hj => absurd hj (Nat.not_lt_zero _)) HBB.out ?_; intro A3 c3 w2 ho2 hs2 hn2 hb2; rw [Nat.zero_add] at ho2 hs2 hn2 ⊢; have HO2 := Lib.hid ho2; have HS2 := Lib.hid hs2; have HN2 := Lib.hid hn2; have HB2 := Lib.hid (HB.out.trans hb2); clear ho2 hs2 hn2 hb2))
  go_ret2
  have hba := (Below.refl w2.heap.size w2).alloc (Nat.le_refl _) (.cells #[.pointer (some ⟨g, 0, none⟩), .slice A3 t c3] 183)
  have hS : SlB w2 A3 t T := fun h => by
    obtain ⟨B', o', e', l', c'⟩ := HS2.out h
    exact ⟨B', o', e', l', fun j hj => by have := c' j hj; unfold catB at this; rw [if_neg (Nat.not_lt_zero _), Nat.sub_zero] at this; exact this⟩
  refine ⟨w2.heap.size, g, rfl, ⟨(H2.out.keep HB2.out).keep hba, (World.cell?_alloc_at _ _ _ _ rfl).trans rfl, A3, c3, (World.cell?_alloc_at _ _ _ _ rfl).trans rfl, hS.keep hba, HN2.out.1, HN2.out.2.2, fun B o e => by
    subst e
    rcases HO2.out.2 with ⟨e, _⟩ | ⟨_, _, _, e, _⟩
    · cases e
    · cases e; rfl⟩, ?_⟩
  exact H3.out.trans ((HB2.out.mono H3.out.size).trans (hba.mono (Nat.le_trans H3.out.size HB2.out.size)))
def bK (k x j : Nat) : Nat := x / 256 ^ (k - 1 - j) % 256
theorem bK_lt (k x j : Nat) : bK k x j < 256 := Nat.mod_lt _ (by decide)
set_option maxHeartbeats 800000 in
theorem rbytes_any (x k : Nat) (w : World) (hx : x ≤ 9223372036854775807) (hk : k ≤ 8) :
    Calls Tryz.prog 159 #[.int .i64 (x : Nat), .int .i64 (k : Nat)] w fun e w' => ∃ A c, e = .returned (.slice A k c) ∧ OwnB w' w.heap.size (.slice A k c) k (bK k x) ∧ Below w.heap.size w w' := by
  have hxi : (x : Int) ≤ 9223372036854775807 := by omega
  have hki : (k : Int) ≤ 8 := by omega
  go_enter Tryz.func159, Tryz.ntmps159
  go_wp2_with fail
  go_loopw [5, 6] (fun v t wr => ∃ (j : Nat) (A c : _), j ≤ k ∧ t = .int .i64 ((k : Int) - 1 - (j : Int)) ∧ v = .slice A j c ∧ OwnB wr w.heap.size (.slice A j c) j (bK k x) ∧ Below w.heap.size w wr) (fun _ t _ => (intOf t + 1).toNat)
  case atStart => exact ⟨0, none, 0, Nat.zero_le _, by go_num, rfl, OwnB.nil _ _ _, Below.refl _ _⟩
  case round =>
    obtain ⟨j, A5, c5, hj, rfl, rfl, h1, h2⟩ := hrel
    have G1 := Lib.hid h1
    have G2 := Lib.hid h2
    clear h1 h2
    by_cases hjk : j < k
    · obtain ⟨q, hq⟩ : ∃ q, q = k - 1 - j := ⟨_, rfl⟩
      obtain ⟨q8, hq8⟩ : ∃ q8, q8 = 8 * q := ⟨_, rfl⟩
      have eq : (k : Int) - 1 - j = q := by omega
      have eq8 : (8 : Int) * q = q8 := by omega
      have hqi : (q : Int) ≤ 7 := by omega
      have hq8i : (q8 : Int) ≤ 56 := by omega
      obtain ⟨y, hy⟩ : ∃ y, y = x / 2 ^ q8 := ⟨_, rfl⟩
      have hyx : y ≤ x := by rw [hy]; exact Nat.div_le_self _ _
      have ey : (x : Int) / 2 ^ q8 = y := by rw [hy]; simp
      obtain ⟨z, hz⟩ : ∃ z, z = y % 256 := ⟨_, rfl⟩
      have ez : (y : Int) % 256 = z := by omega
      have lz : z < 256 := by omega
      have HZP := Lib.hid (show z = bK k x j by unfold bK; rw [hz, hy, hq8, ← hq, Nat.pow_mul])
      have HZ1 := Lib.hid fun W => one_sl W z lz
      have hyi : (y : Int) ≤ 9223372036854775807 := by omega
      have HEQ := Lib.hid eq
      have HJK := Lib.hid (show j + 1 ≤ k by omega)
      clear hq hq8 hy hz
      rw [eq]
      have HO3 := Lib.hid (G1.out.alloc (.cells #[.int .u8 (z : Nat)] 5))
      have HB3 := Lib.hid (G2.out.alloc G2.out.size (.cells #[.int .u8 (z : Nat)] 5))
      go_wp2_with (refine wpList_appO rfl (.tmp 13) (.tmp 19) rfl w.heap.size _ j (bK k x) rfl HO3.out (some ⟨_, 0, none⟩) 1 1 (fun _ => z) rfl (HZ1.out _) (fun h => by cases h) (by omega) HB3.out.size (fun i _ => bK_lt k x i) (fun _ _ => lz) ?_; intro A4 c4 w4 h1 h2 h3 h4; have HO4 := Lib.hid (OwnB.congr (g := bK k x) h1 fun i hi => by unfold catB; by_cases e : i < j; rw [if_pos e]; rw [if_neg e, HZP.out, show i = j by omega]); have HB4 := Lib.hid (HB3.out.trans h4); clear h1 h2 h3 h4)
      exact ⟨⟨j + 1, A4, c4, HJK.out, congrArg _ (by have := HEQ.out; omega), rfl, HO4.out, HB4.out⟩, by simp [intOf]⟩
    · obtain rfl : j = k := by omega
      have et : (j : Int) - 1 - (j : Nat) = -1 := by omega
      rw [et]
      clear et
      go_wp2_with fail
      go_ret
      exact ⟨A5, c5, rfl, G1.out, G2.out⟩
theorem rdigits_any (n i : Nat) (w : World) (hn : n ≤ 1000000) (hi : i ≤ 1000000) :
    Calls Tryz.prog 123 #[.int .i64 (n : Nat), .int .i64 (i : Nat)] w fun e w' => e = .returned (.int .i64 (fd n i : Nat)) ∧ w = w' := by
  have hni : (n : Int) ≤ 1000000 := by omega
  have hii : (i : Int) ≤ 1000000 := by omega
  by_cases h : i % 2 = 0
  · have hb : ((i : Int) % 2 == 0) = true := by simp; omega
    have E1 := Lib.hid (show fd n i = n / 2 from if_pos h)
    clear h
    go_enter Tryz.func123, Tryz.ntmps123
    go_wp2_with fail
    go_ret
    exact ⟨by rw [E1.out]; simp, rfl⟩
  · have hb : ((i : Int) % 2 == 0) = false := by simp; omega
    have E1 := Lib.hid (show fd n i = n - n / 2 from if_neg h)
    clear h
    go_enter Tryz.func123, Tryz.ntmps123
    go_wp2_with fail
    go_ret
    exact ⟨by rw [E1.out]; simp; omega, rfl⟩
end Go.Proofs.YthmlcmlpmolmoaaGreatDoor
namespace Go.Proofs.YthmlcmlpmolmoaaGreatDoor
open Go.RowKit
set_option maxHeartbeats 400000 in
theorem qpower_any (m : Int) (w : World) :
    Calls Tryz.prog 157 #[.int .i64 m] w fun e w' => e = .returned (.int .i64 (pw m : Nat)) ∧ w = w' := by
  by_cases h1 : m < 1
  · have HZ := Lib.hid (pw_none (Or.inl h1))
    go_enter Tryz.func157, Tryz.ntmps157
    go_wp2_with fail
    go_ret
    exact ⟨by rw [HZ.out]; rfl, rfl⟩
  · by_cases h2 : 16 < m
    · have HZ := Lib.hid (pw_none (Or.inr h2))
      go_enter Tryz.func157, Tryz.ntmps157
      go_wp2_with fail
      go_ret
      exact ⟨by rw [HZ.out]; rfl, rfl⟩
    · obtain ⟨K, rfl⟩ : ∃ K : Nat, m = (K : Int) := ⟨m.toNat, by omega⟩
      have HZ := Lib.hid (pw_at (k := K) (by omega) (by omega))
      go_enter Tryz.func157, Tryz.ntmps157
      go_wp2_with fail
      go_loop [3, 4] (fun p i => ∃ k : Nat, k ≤ K ∧ i = .int .i64 k ∧ p = .int .i64 (10 ^ k : Nat)) (fun _ i => K - (intOf i).toNat)
      case atStart => exact ⟨0, Nat.zero_le _, rfl, rfl⟩
      case round =>
        obtain ⟨k, hk, rfl, rfl⟩ := hrel
        by_cases hlt : k < K
        · have hb := ten_le k (by omega)
          have HS := Lib.hid (show 10 ^ (k + 1) = 10 * 10 ^ k by rw [Nat.pow_succ, Nat.mul_comm])
          generalize 10 ^ k = q at *
          go_wp2_with fail
          go_round
          case rel => exact ⟨k + 1, by omega, by go_num, by rw [HS.out]; go_num⟩
          case measure => simp [intOf]; omega
        · obtain rfl : k = K := by omega
          generalize 10 ^ k = q at *
          go_wp2_with fail
          go_ret
          exact ⟨by rw [HZ.out]; rfl, rfl⟩
set_option maxHeartbeats 400000 in
theorem qwidth_any (m : Int) (w : World) :
    Calls Tryz.prog 158 #[.int .i64 m] w fun e w' => e = .returned (.int .i64 (wd m : Nat)) ∧ w = w' := by
  have HC := Lib.hid (qpower_any m w)
  have hle := pw_le m
  by_cases h : pw m = 0
  · have HZ := Lib.hid (wd_none h)
    rw [h] at HC
    clear h hle
    go_enter Tryz.func158, Tryz.ntmps158
    go_wp2_with fail
    refine HC.out.mono ?_
    rintro e w' ⟨rfl, rfl⟩
    go_wp2_with fail
    go_loop [3, 4] (fun n p => n = .int .i64 0 ∧ p = .int .i64 (-1)) (fun _ _ => 0)
    case atStart => exact ⟨rfl, rfl⟩
    case round =>
      obtain ⟨rfl, rfl⟩ := hrel
      go_wp2_with fail
      go_ret
      exact ⟨by rw [HZ.out]; rfl, rfl⟩
  · have HL := Lib.hid (pw_lt8 m)
    obtain ⟨q, hq⟩ : ∃ q : Nat, pw m = q + 1 := ⟨pw m - 1, by omega⟩
    have HW := Lib.hid (show wd m = cntW 8 q by unfold wd; rw [hq]; rfl)
    rw [hq] at HC HL hle
    have hs : ((q + 1 : Nat) : Int) - 1 = q := by omega
    clear h hq
    generalize ((q + 1 : Nat) : Int) = p at *
    go_enter Tryz.func158, Tryz.ntmps158
    go_wp2_with fail
    refine HC.out.mono ?_
    rintro e w' ⟨rfl, rfl⟩
    go_wp2_with fail
    go_loop [3, 4] (fun n p => ∃ (c f x : Nat), c + f = 8 ∧ n = .int .i64 c ∧ p = .int .i64 x ∧ x ≤ 10000000000000000 ∧ x < 256 ^ f ∧ c + cntW f x = cntW 8 q) (fun _ p => (intOf p).toNat)
    case atStart => exact ⟨0, 8, q, rfl, rfl, rfl, by omega, by have := HL.out; rw [Nat.add_sub_cancel] at this; exact this, Nat.zero_add _⟩
    case round =>
      obtain ⟨c, f, x, hcf, rfl, rfl, hx, hxf, hcnt⟩ := hrel
      have HX := Lib.hid hxf
      have HN := Lib.hid hcnt
      clear hxf hcnt
      by_cases h0 : x = 0
      · subst h0
        have HE := Lib.hid (show wd m = c by rw [HW.out, ← HN.out, cnt_zero]; rfl)
        go_wp2_with fail
        go_ret
        exact ⟨by rw [HE.out]; rfl, rfl⟩
      · obtain ⟨f, rfl⟩ : ∃ f', f = f' + 1 := by
          cases f with
          | zero => have := HX.out; rw [Nat.pow_zero] at this; omega
          | succ f => exact ⟨f, rfl⟩
        have HY := Lib.hid (show x / 256 < 256 ^ f by rw [Nat.div_lt_iff_lt_mul (by decide)]; have := HX.out; rw [Nat.pow_succ] at this; exact this)
        have HM := Lib.hid (show c + 1 + cntW f (x / 256) = cntW 8 q by have := HN.out; rw [cnt_step h0] at this; omega)
        go_wp2_with fail
        go_round
        case rel => exact ⟨c + 1, f, x / 256, by omega, by go_num, by go_num, by omega, HY.out, HM.out⟩
        case measure => simp [intOf]; omega
end Go.Proofs.YthmlcmlpmolmoaaGreatDoor
namespace Go.Proofs.YthmlcmlpmolmoaaGreatDoor
open Go.RowKit
set_option maxHeartbeats 400000 in
theorem qrest_any (A : Option Addr) (len cap : Nat) (bs : Nat → Nat) (m : Int) (w : World) (hl : len ≤ 9223372036854775807) (hA : SlB w A len bs) :
    Calls Tryz.prog 161 #[.slice A len cap, .int .i64 m] w fun e w' => e = .returned (.tuple #[.int .i64 (rV len bs m), .int .i64 (rE len m)]) ∧ ∃ n, w' = w.drewN n := by
  have HM := Lib.hid (qpower_any m w)
  have HA := Lib.hid hA
  clear hA
  by_cases h : pw m = 0
  · rw [h] at HM
    have HE := Lib.hid (rE_low (len := len) h)
    have HV := Lib.hid (rV_bad (len := len) (b := bs) (m := m) (by rw [HE.out]; decide))
    clear h
    go_enter Tryz.func161, Tryz.ntmps161
    go_wp2_with fail
    refine HM.out.mono ?_
    rintro e w' ⟨rfl, rfl⟩
    go_wp2_with fail
    go_ret2
    exact ⟨by rw [HE.out, HV.out]; rfl, 0, rfl⟩
  · have hne : (((pw m : Nat) : Int) == 0) = false := by simp; omega
    by_cases h64 : 64 < len
    · have HE := Lib.hid (rE_long h h64)
      have HV := Lib.hid (rV_bad (len := len) (b := bs) (m := m) (by rw [HE.out]; decide))
      have h64' : (64 : Int) < len := by omega
      clear h
      generalize pw m = p at *
      go_enter Tryz.func161, Tryz.ntmps161
      go_wp2_with fail
      refine HM.out.mono ?_
      rintro e w' ⟨rfl, rfl⟩
      go_wp2_with fail
      go_ret2
      exact ⟨by rw [HE.out, HV.out]; rfl, 0, rfl⟩
    · have HE := Lib.hid (rE_ok (m := m) (len := len) h (by omega))
      have HV := Lib.hid (rV_ok (b := bs) HE.out)
      have h64' : (len : Int) ≤ 64 := by omega
      have hle := pw_le m
      have hpos : 0 < pw m := by omega
      have hpos' : (0 : Int) < (pw m : Nat) := by omega
      clear h
      generalize pw m = p at *
      go_enter Tryz.func161, Tryz.ntmps161
      go_wp2_with fail
      refine HM.out.mono ?_
      rintro e w' ⟨rfl, rfl⟩
      go_wp2_with fail
      go_loopw [7, 8] (fun r i wr => ∃ k : Nat, k ≤ len ∧ i = .int .i64 k ∧ r = .int .i64 (restN p bs k : Nat) ∧ ∃ n, wr = w.drewN n) (fun _ i _ => len - (intOf i).toNat)
      case atStart => exact ⟨0, Nat.zero_le _, rfl, rfl, 0, rfl⟩
      case round =>
        obtain ⟨k, hk, rfl, rfl, hn⟩ := hrel
        have HN := Lib.hid hn
        clear hn
        by_cases hlt : k < len
        · obtain ⟨B, o, rfl, hB, hcells⟩ := HA.out (by omega)
          obtain ⟨hx, hcell⟩ := hcells k hlt
          have hr := restN_lt hpos bs k
          have HS := Lib.hid (show restN p bs (k + 1) = (256 * restN p bs k + bs k) % p from rfl)
          have hc : wr.cell? ⟨B, o + k, none⟩ = some (.int .u8 (bs k : Nat)) := by
            obtain ⟨n, hn⟩ := HN.out
            rw [hn]; exact hcell
          clear hcell hcells
          generalize bs k = x at *
          generalize restN p bs k = r at *
          go_wp2_with fail
          go_roundw
          case rel => exact ⟨k + 1, by omega, by go_num, by rw [HS.out]; go_num, HN.out⟩
          case measure => simp [intOf]; omega
        · obtain rfl : k = len := by omega
          go_wp2_with fail
          go_ret2
          exact ⟨by rw [HE.out, HV.out]; rfl, HN.out⟩
end Go.Proofs.YthmlcmlpmolmoaaGreatDoor
namespace Go.Proofs.YthmlcmlpmolmoaaGreatDoor
set_option maxRecDepth 100000
open Go.RowKit
def hd8 (u j : Nat) : Nat := [1, 2, 1, 0, 0, 10, 10, u].getD j 0
theorem hd8_lt {u : Nat} (hu : u < 256) (j : Nat) : hd8 u j < 256 := by
  unfold hd8
  match j with
  | 0 | 1 | 2 | 3 | 4 | 5 | 6 => first | exact (by decide : (0 : Nat) < 256) | exact (by decide : (1 : Nat) < 256) | exact (by decide : (2 : Nat) < 256) | exact (by decide : (10 : Nat) < 256)
  | 7 => exact hu
  | j + 8 => rw [List.getD_eq_getElem?_getD, List.getElem?_eq_none (by simp)]; decide
theorem fhd_12 {u N t j : Nat} (hN : N < 256) (hj : j < 12) : catB 8 (hd8 u) (bK 4 N) j = fhd u N t j := by
  rcases (show j = 0 ∨ j = 1 ∨ j = 2 ∨ j = 3 ∨ j = 4 ∨ j = 5 ∨ j = 6 ∨ j = 7 ∨ j = 8 ∨ j = 9 ∨ j = 10 ∨ j = 11 by omega) with rfl | rfl | rfl | rfl | rfl | rfl | rfl | rfl | rfl | rfl | rfl | rfl
  all_goals first | rfl | (simp [catB, bK, fhd]; omega)
theorem fhd_16 {u N t j : Nat} (ht : t < 256) (hj : j < 16) : catB 12 (fhd u N t) (bK 4 t) j = fhd u N t j := by
  by_cases h : j < 12
  · unfold catB; rw [if_pos h]
  · rcases (show j = 12 ∨ j = 13 ∨ j = 14 ∨ j = 15 by omega) with rfl | rfl | rfl | rfl
    all_goals (simp [catB, bK, fhd]; omega)
theorem finp_head {u N t : Nat} {T : Nat → Nat} {r x k j : Nat} (hj : j < 16) : finp u N t T r x k j = fhd u N t j := if_pos hj
theorem finp_tw {u N t : Nat} {T : Nat → Nat} {r x k j : Nat} (hj : j < 16 + t) : catB 16 (finp u N t T r x k) T j = finp u N t T r x k j := by
  unfold catB
  by_cases h : j < 16
  · rw [if_pos h]
  · rw [if_neg h]; unfold finp; rw [if_neg h, if_pos hj]
theorem finp_pad {u N t : Nat} {T : Nat → Nat} {r x k m j : Nat} (h1 : 16 + t ≤ m) (h2 : m < finL t k - 1 - k) (hj : j < m + 1) : catB m (finp u N t T r x k) (fun _ => 0) j = finp u N t T r x k j := by
  unfold catB
  by_cases h : j < m
  · rw [if_pos h]
  · rw [if_neg h]; unfold finp; rw [if_neg (by omega), if_neg (by omega), if_pos (by omega)]
theorem finp_rnd {u N t : Nat} {T : Nat → Nat} {r x k j : Nat} (hj : j < finL t k - 1 - k + 1) : catB (finL t k - 1 - k) (finp u N t T r x k) (fun _ => r) j = finp u N t T r x k j := by
  have := finL_ge t k
  unfold catB
  by_cases h : j < finL t k - 1 - k
  · rw [if_pos h]
  · rw [if_neg h]; unfold finp; rw [if_neg (by omega), if_neg (by omega), if_neg (by omega), if_pos (by omega)]
theorem finp_val {u N t : Nat} {T : Nat → Nat} {r x k j : Nat} (hj : j < finL t k) : catB (finL t k - k) (finp u N t T r x k) (bK k x) j = finp u N t T r x k j := by
  have := finL_ge t k
  unfold catB
  by_cases h : j < finL t k - k
  · rw [if_pos h]
  · rw [if_neg h]; unfold finp bK; rw [if_neg (by omega), if_neg (by omega), if_neg (by omega), if_neg (by omega), show k - 1 - (j - (finL t k - k)) = finL t k - 1 - j by omega]
set_option maxHeartbeats 4000000 in
theorem rmask_any (c g n : Nat) (key : Nat → Nat) (t : Nat) (T : Nat → Nat) (N r x : Nat) (w : World) (k : Kt n key t T) (hC : RCip w c g n key t T) (hN : 6 ≤ N) (hN2 : N ≤ 32) (hr : r ≤ 9) (hx : x ≤ 9223372036854775807) :
    Calls Tryz.prog 125 #[.pointer (some ⟨c, 0, none⟩), .int .i64 (N : Nat), .int .i64 (r : Nat), .int .i64 (x : Nat)] w fun e w' => e = .returned (.int .i64 (fmk n key t T N r x : Nat)) ∧ Below w.heap.size w w' := by
  have HW := Lib.hid (qwidth_any ((N - N / 2 : Nat) : Int) w)
  rw [show wd ((N - N / 2 : Nat) : Int) = fw N from rfl] at HW
  have hfd := fd_le r hN hN2
  have hkl := fw_le N
  have hpw := pw_at (k := fd N r) (by omega) (by omega)
  have HV := Lib.hid fun (f : Nat → Nat) => show rV ((fw N + 3) / 4 * 4 + 4) f (fd N r : Nat) = (restN (10 ^ fd N r) f ((fw N + 3) / 4 * 4 + 4) : Nat) by
    have := ten_pos (fd N r)
    rw [rV_ok (rE_ok (by omega) (by omega)), hpw]
  have HFM := Lib.hid (show fmk n key t T N r x = restN (10 ^ fd N r) (xch (enc n (ks n key)) (finp (N / 2) N t T r x (fw N)) (finL t (fw N) / 16)) ((fw N + 3) / 4 * 4 + 4) from rfl)
  have HBY := Lib.hid (finp_by (u := N / 2) (n := N) (t := t) (T := T) (r := r) (x := x) (w := fw N) (by omega) (by omega) (by have := k.t16; omega) k.tw (by omega))
  have hm1 := finL_mul t (fw N)
  have hm2 := finL_ge t (fw N)
  have hm3 := finL_le k.t16 hkl
  have HDG := Lib.hid fun W => rdigits_any N r W (by omega) (by omega)
  have HB1 := Lib.hid fun W => rbytes_any N 4 W (by omega) (by decide)
  have HB2 := Lib.hid fun W => rbytes_any t 4 W (by have := k.t16; omega) (by decide)
  have HB3 := Lib.hid fun W => rbytes_any x (fw N) W hx hkl
  obtain ⟨A, cap, e1, h2, h3, h4, _⟩ := hC.tw
  have hp0 := hC.ptr
  have hcl := hC.lt
  have ht16 := k.t16
  have H8 := Lib.hid fun u j (hj : j < 12) => fhd_12 (u := u) (N := N) (t := t) (by omega) hj
  have H16 := Lib.hid fun u j (hj : j < 16) => fhd_16 (u := u) (N := N) (t := t) (by omega) hj
  have HK := Lib.hid k
  have HC := Lib.hid hC
  have HT := Lib.hid h2
  have HNIL := Lib.hid h4
  have hu256 : N / 2 < 256 := by omega
  have HPW := Lib.hid fun j (hj : j < 16 + t) => finp_tw (u := N / 2) (N := N) (T := T) (r := r) (x := x) (k := fw N) hj
  have HPH := Lib.hid fun j (hj : j < 16) => finp_head (u := N / 2) (N := N) (t := t) (T := T) (r := r) (x := x) (k := fw N) hj
  have HPD := Lib.hid fun m j (h1 : 16 + t ≤ m) (h2 : m < finL t (fw N) - 1 - fw N) (hj : j < m + 1) => finp_pad (u := N / 2) (N := N) (T := T) (r := r) (x := x) h1 h2 hj
  have HPR := Lib.hid fun j (hj : j < finL t (fw N) - 1 - fw N + 1) => finp_rnd (u := N / 2) (N := N) (T := T) (r := r) (x := x) hj
  have HPV := Lib.hid fun j (hj : j < finL t (fw N)) => finp_val (u := N / 2) (N := N) (T := T) (r := r) (x := x) hj
  have hfl : finL t (fw N) = 16 + (t + 1 + fw N + 15) / 16 * 16 := rfl
  generalize fw N = kk at *
  generalize finL t kk = L at *
  obtain ⟨d, hd⟩ : ∃ d, L - 1 - kk = d := ⟨_, rfl⟩
  rw [show L - kk = d + 1 by omega] at HPV
  rw [hd] at HPD HPR
  have HMOD := Lib.hid fun (m : Nat) (h1 : 16 + t ≤ m) (h2 : m ≤ d) => show (m < d → ((((m : Nat) : Int) + 1 + (kk : Nat)) % 16 != 0) = true) ∧ (m = d → ((((m : Nat) : Int) + 1 + (kk : Nat)) % 16 != 0) = false) from ⟨fun h => by simp; omega, fun h => by simp; omega⟩
  obtain ⟨M, hM⟩ : ∃ M, L / 16 = M := ⟨_, rfl⟩
  rw [hM] at HFM hm1
  have hdL : d + 1 + kk = L := by omega
  have htd : 16 + t ≤ d := by omega
  obtain ⟨u, hu⟩ : ∃ u, N / 2 = u := ⟨_, rfl⟩
  rw [hu] at HFM HBY hu256 HW HPW HPH HPD HPR HPV
  generalize hF : finp u N t T r x kk = F at *
  have HXB := Lib.hid fun q (h : 16 * q ≤ L) => xch_by k.hn k.key HBY.out q h
  have hui : (N : Int) / 2 = (u : Nat) := by omega
  have hvi : (N : Int) - (u : Nat) = ((N - u : Nat) : Int) := by omega
  have hu8 : (u : Int) ≤ 16 := by omega
  have hNi : (N : Int) ≤ 32 := by omega
  have hti : (t : Int) ≤ 16 := by omega
  have hki : (kk : Int) ≤ 8 := by omega
  have hri : (r : Int) ≤ 9 := by omega
  have hvn : ((N - N / 2 : Nat) : Int) = ((N - u : Nat) : Int) := by rw [hu]
  have hmk : ∀ W : World, (Instr.makeSlice 22 (.int .i64 16) (.int .i64 16)).run Tryz.prog W = .ok (.slice (some ⟨W.heap.size, 0, none⟩) 16 16) (W.alloc (.cells (madeCells #[.int .u8 0] 16) 5)) := mk8 16 (by decide)
  have R8 : RowB (w.alloc (.cells #[.int .u8 1, .int .u8 2, .int .u8 1, .int .u8 0, .int .u8 0, .int .u8 10, .int .u8 10, .int .u8 (u : Nat)] 5)) w.heap.size 8 (hd8 u) := World.alloc_heap_new w _
  have HO1 := Lib.hid (R8.own (Nat.le_refl w.heap.size) (by decide))
  have HBL1 := Lib.hid (alloc_below w (.cells #[.int .u8 1, .int .u8 2, .int .u8 1, .int .u8 0, .int .u8 0, .int .u8 10, .int .u8 10, .int .u8 (u : Nat)] 5))
  have HH8 := Lib.hid (fun j (_ : j < 8) => hd8_lt hu256 j)
  have HF12 := Lib.hid fun j (hj : j < 12) => show fhd u N t j < 256 from fhd_lt hu256 (by omega) (by omega) (by omega)
  have HF16 := Lib.hid fun j (hj : j < 16) => HBY.out j (by omega)
  have HTB := Lib.hid fun j (hj : j < t) => k.tw j hj
  clear k hC hN hN2 hr hx h2 h3 h4 hpw hu hkl R8
  go_enter Tryz.func125, Tryz.ntmps125
  go_wp2_with fail
  refine HW.out.mono ?_
  rintro e w1 ⟨rfl, rfl⟩
  go_wp2_with fail
  refine (HB1.out _).mono ?_
  rintro e w2 ⟨A2, c2, rfl, h1, h2⟩
  obtain ⟨_, _, e2, hs2⟩ := h1.slice (fun j _ => bK_lt 4 N j)
  cases e2
  have HS2 := Lib.hid hs2
  have HN2 := Lib.hid h1.cap_le
  have HO2 := Lib.hid (HO1.out.keep h2)
  have HL2 := Lib.hid (HBL1.out.trans (h2.mono HBL1.out.size))
  clear h1 h2 hs2
  go_wp2_with (first | (at_builtin; refine wpList_appO rfl (.tmp 28) (.tmp 30) rfl w.heap.size _ 8 (hd8 u) rfl HO2.out A2 4 c2 (bK 4 N) rfl HS2.out (fun h => by obtain ⟨_, _, e, _, _, hn⟩ := HN2.out; cases e; exact hn h) (by decide) HL2.out.size HH8.out (fun j _ => bK_lt 4 N j) ?_; intro A3 c3 w3 h1 h2 h3 h4; have HO3 := Lib.hid (show OwnB w3 w.heap.size (.slice A3 12 c3) 12 (fhd u N t) from h1.congr fun j hj => H8.out u j hj); have HL3 := Lib.hid (HL2.out.trans h4); have e3 := (HL3.out.cell (p := ⟨c, 1, none⟩) hcl).trans e1; clear h1 h2 h3 h4))
  refine (HB2.out w3).mono ?_
  rintro e w4 ⟨A4, c4, rfl, h1, h2⟩
  obtain ⟨_, _, e4, hs4⟩ := h1.slice (fun j _ => bK_lt 4 t j)
  cases e4
  have HS4 := Lib.hid hs4
  have HN4 := Lib.hid h1.cap_le
  have HO4 := Lib.hid (HO3.out.keep h2)
  have HL4 := Lib.hid (HL3.out.trans (h2.mono HL3.out.size))
  clear h1 h2 hs4
  go_wp2_with (first | (at_builtin; refine wpList_appO rfl (.tmp 32) (.tmp 38) rfl w.heap.size _ 12 (fhd u N t) rfl HO4.out A4 4 c4 (bK 4 t) rfl HS4.out (fun h => by obtain ⟨_, _, e, _, _, hn⟩ := HN4.out; cases e; exact hn h) (by decide) HL4.out.size HF12.out (fun j _ => bK_lt 4 t j) ?_; intro A5 c5 w5 h1 h2 h3 h4; have HO5 := Lib.hid (show OwnB w5 w.heap.size (.slice A5 16 c5) 16 F from h1.congr fun j hj => (H16.out u j hj).trans (HPH.out j hj).symm); have HL5 := Lib.hid (HL4.out.trans h4); have e5 := (HL5.out.cell (p := ⟨c, 1, none⟩) hcl).trans e1; clear h1 h2 h3 h4) | (at_builtin; refine wpList_appO rfl (.tmp 40) (.tmp 44) rfl w.heap.size _ 16 F rfl HO5.out A t cap T rfl (HT.out.keep HL5.out) HNIL.out (by omega) HL5.out.size HF16.out HTB.out ?_; intro A6 c6 w6 h1 h2 h3 h4; have HO6 := Lib.hid (show OwnB w6 w.heap.size (.slice A6 (16 + t) c6) (16 + t) F from h1.congr fun j hj => HPW.out j hj); have HL6 := Lib.hid (HL5.out.trans h4); clear h1 h2 h3 h4))
  go_loopw [12] (fun v wr => ∃ (m : Nat) (A7 : Option Addr) (c7 : Nat), 16 + t ≤ m ∧ m ≤ d ∧ v = .slice A7 m c7 ∧ OwnB wr w.heap.size (.slice A7 m c7) m F ∧ Below w.heap.size w wr) (fun v _ => d - lenOf v)
  case atStart => exact ⟨16 + t, A6, c6, Nat.le_refl _, htd, rfl, HO6.out, HL6.out⟩
  case round =>
    obtain ⟨m, A7, c7, hm7, hmd, rfl, h1, h2⟩ := hrel
    have HO7 := Lib.hid h1
    have HL7 := Lib.hid h2
    clear h1 h2
    have hmi : (m : Int) ≤ 100 := by omega
    by_cases hlt : m < d
    · have hb := (HMOD.out m hm7 hmd).1 hlt
      have HZ := Lib.hid fun W => one_sl W 0 (by decide)
      have HO8 := Lib.hid (HO7.out.alloc (.cells #[.int .u8 0] 5))
      have HL8 := Lib.hid (HL7.out.alloc HL7.out.size (.cells #[.int .u8 0] 5))
      have HFM7 := Lib.hid fun j (hj : j < m) => HBY.out j (by omega)
      have HDD := Lib.hid (show m + 1 ≤ d by omega)
      go_wp2_with (at_builtin; refine wpList_appO rfl (.tmp 53) (.tmp 54) rfl w.heap.size _ m F rfl HO8.out (some ⟨_, 0, none⟩) 1 1 (fun _ => 0) rfl (HZ.out _) (fun h => by cases h) (by omega) HL8.out.size HFM7.out (fun _ _ => by decide) ?_; intro A9 c9 w9 h1 h2 h3 h4; have HO9 := Lib.hid (show OwnB w9 w.heap.size (.slice A9 (m + 1) c9) (m + 1) F from h1.congr fun j hj => HPD.out m j hm7 hlt hj); have HL9 := Lib.hid (HL8.out.trans h4); clear h1 h2 h3 h4)
      go_roundw
      case rel => exact ⟨m + 1, A9, c9, by omega, HDD.out, rfl, HO9.out, HL9.out⟩
      case measure => simp [lenOf]; omega
    · obtain rfl : m = d := by omega
      have hb := (HMOD.out m hm7 hmd).2 rfl
      have hr256 : r < 256 := by omega
      have HR1 := Lib.hid fun W => one_sl W r hr256
      have HO8 := Lib.hid (HO7.out.alloc (.cells #[.int .u8 (r : Nat)] 5))
      have HL8 := Lib.hid (HL7.out.alloc HL7.out.size (.cells #[.int .u8 (r : Nat)] 5))
      have HFM7 := Lib.hid fun j (hj : j < m) => HBY.out j (by omega)
      have HFM8 := Lib.hid fun j (hj : j < m + 1) => HBY.out j (by omega)
      have HMK := Lib.hid (show m + 1 + kk ≤ 140737488355328 by omega)
      clear HMOD HPD HPW HPH HO1 HBL1 HH8 HF12 HF16 HTB HS2 HN2 HO2 HL2 HO3 HL3 HS4 HN4 HO4 HL4 HO5 HL5 HO6 HL6 e3 e5 hm7 hmd hlt htd hfl
      go_wp2_with (at_builtin; refine wpList_appO rfl (.tmp 56) (.tmp 59) rfl w.heap.size _ m F rfl HO8.out (some ⟨_, 0, none⟩) 1 1 (fun _ => r) rfl (HR1.out _) (fun h => by cases h) (by omega) HL8.out.size HFM7.out (fun _ _ => hr256) ?_; intro A9 c9 w9 h1 h2 h3 h4; have HO9 := Lib.hid (show OwnB w9 w.heap.size (.slice A9 (m + 1) c9) (m + 1) F from h1.congr fun j hj => HPR.out j hj); have HL9 := Lib.hid (HL8.out.trans h4); clear h1 h2 h3 h4)
      refine (HB3.out w9).mono ?_
      rintro e w10 ⟨A10, c10, rfl, h1, h2⟩
      obtain ⟨_, _, e10, hs10⟩ := h1.slice (fun j _ => bK_lt kk x j)
      cases e10
      have HS10 := Lib.hid hs10
      have HN10 := Lib.hid h1.cap_le
      have HO10 := Lib.hid (HO9.out.keep h2)
      have HL10 := Lib.hid (HL9.out.trans (h2.mono HL9.out.size))
      clear h1 h2 hs10 HO7 HL7 HO8 HL8 HO9 HL9 HR1
      go_wp2_with (at_builtin; refine wpList_appO rfl (.tmp 61) (.tmp 64) rfl w.heap.size _ (m + 1) F rfl HO10.out A10 kk c10 (bK kk x) rfl HS10.out (fun h => by obtain ⟨_, _, e, _, _, hn⟩ := HN10.out; cases e; exact hn h) HMK.out HL10.out.size HFM8.out (fun j _ => bK_lt kk x j) ?_; intro A11 c11 w11 h1 h2 h3 h4; rw [hdL] at h2 ⊢; have HS11 := Lib.hid (show SlB w11 A11 L F from h2.congr fun j hj => HPV.out j hj); have HL11 := Lib.hid (HL10.out.trans h4); clear h1 h2 h3 h4)
      obtain ⟨Bp, op, rfl, hBp, _⟩ := HS11.out (by omega)
      have HBA := Lib.hid ((Below.refl w11.heap.size w11).alloc (Nat.le_refl _) (.cells (madeCells #[.int .u8 0] 16) 5))
      have HRA := Lib.hid (rowB_made w11 16)
      have HSA := Lib.hid (HS11.out.keep HBA.out)
      have HLA := Lib.hid (HL11.out.trans (HBA.out.mono HL11.out.size))
      have hML : 16 * M = L := hm1
      have hMi : (M : Int) ≤ 3 := by omega
      generalize w11.alloc (.cells (madeCells #[.int .u8 0] 16) 5) = wA at *
      have HWS := Lib.hid HL11.out.size
      generalize hst : w11.heap.size = stA at *
      clear hst
      go_loopw [13, 14] (fun sv a wr => ∃ (q st : Nat), q ≤ M ∧ a = .int .i64 ((16 * q : Nat) : Int) ∧ sv = .slice (some ⟨st, 0, none⟩) 16 16 ∧ RowB wr st 16 (xch (enc n (ks n key)) F q) ∧ SlB wr (some ⟨Bp, op, none⟩) L F ∧ Bp < st ∧ w.heap.size ≤ st ∧ Below w.heap.size w wr) (fun _ a _ => L - (intOf a).toNat)
      case atStart => exact ⟨0, stA, Nat.zero_le _, rfl, rfl, HRA.out, HSA.out, hBp, HWS.out, HLA.out⟩
      case round =>
        obtain ⟨q, st, hq, rfl, rfl, h1, h2, hBs, hst, h3⟩ := hrel
        have HR := Lib.hid h1
        have HS := Lib.hid h2
        have HL := Lib.hid h3
        clear h1 h2 h3
        by_cases hlt : q < M
        · obtain ⟨Q, hQ⟩ : ∃ Q, 16 * q = Q := ⟨_, rfl⟩
          rw [hQ]
          have hQL : Q + 16 ≤ L := by omega
          have hQi : (Q : Int) ≤ 48 := by omega
          have HQ := Lib.hid hQ
          have HSB := Lib.hid (HXB.out q (by omega))
          have HNX := Lib.hid (show xch (enc n (ks n key)) F (q + 1) = enc n (ks n key) (fun j => xch (enc n (ks n key)) F q j ^^^ F (16 * q + j)) from rfl)
          have HQM := Lib.hid (show q + 1 ≤ M by omega)
          generalize hS : xch (enc n (ks n key)) F q = S at *
          clear hQ hS
          go_wp2_with fail
          go_loopw [15] (fun kv wr2 => ∃ j : Nat, j ≤ 16 ∧ kv = .int .i64 (j : Nat) ∧ RowB wr2 st 16 (xpt S F q j) ∧ SlB wr2 (some ⟨Bp, op, none⟩) L F ∧ Below w.heap.size w wr2) (fun kv _ => 16 - (intOf kv).toNat)
          case atStart => exact ⟨0, Nat.zero_le _, rfl, HR.out, HS.out, HL.out⟩
          case round =>
            obtain ⟨j, hj, rfl, h1, h2, h3⟩ := hrel
            have G1 := Lib.hid h1
            have G2 := Lib.hid h2
            have G3 := Lib.hid h3
            clear h1 h2 h3
            by_cases hj16 : j < 16
            · obtain ⟨z, hz⟩ : ∃ z, Q + j = z := ⟨_, rfl⟩
              have hzi : (Q : Int) + (j : Nat) = (z : Nat) := by omega
              have hji : (j : Int) < 16 := by omega
              have hzl : z < L := by omega
              have hzl2 : (z : Int) < (L : Nat) := by omega
              obtain ⟨_, _, eB, _, hbs⟩ := G2.out (by omega)
              cases eB
              obtain ⟨y, hy⟩ : ∃ y, F z = y := ⟨_, rfl⟩
              obtain ⟨s, hs⟩ : ∃ s, S j = s := ⟨_, rfl⟩
              have hy8 : y < 256 := hy ▸ (hbs z hzl).1
              have hs8 : s < 256 := hs ▸ HSB.out j hj16
              have c1 := (hbs z hzl).2
              rw [hy] at c1
              have c2 : wr.cell? ⟨st, j, none⟩ = some (.int .u8 (s : Nat)) := by
                rw [G1.out.cell hj16]; unfold xpt; rw [if_neg (Nat.lt_irrefl j), hs]
              have f2 := G1.out.frozen j
              have d1 : wr.drew.cell? ⟨Bp, op + z, none⟩ = _ := c1
              have d2 : wr.drew.cell? ⟨st, j, none⟩ = _ := c2
              have g2 : wr.drew.frozen? ⟨st, j, none⟩ = _ := f2
              have b1 : bits BinOp.xor .u8 (s : Int) (y : Int) = ((s ^^^ y : Nat) : Int) := u8_xor_nat s y hs8 hy8
              have HBS := Lib.hid (show Bp ≠ st from Nat.ne_of_lt hBs)
              have HNW := Lib.hid (fun (W : World) (h : RowB W st 16 (xpt S F q j)) => (h.set j (s ^^^ y) (.int .u8 ((s ^^^ y : Nat) : Int)) rfl).congr (f := xpt S F q (j + 1)) fun i _ => by
                unfold xpt
                by_cases e : i = j
                · subst e; rw [if_pos rfl, if_pos (Nat.lt_succ_self _), hs, HQ.out, hz, hy]
                · rw [if_neg e]
                  by_cases h : i < j
                  · rw [if_pos h, if_pos (by omega)]
                  · rw [if_neg h, if_neg (by omega)])
              have HKS := Lib.hid (fun (W : World) (v : Value) (h : SlB W (some ⟨Bp, op, none⟩) L F) => show SlB (W.setCell ⟨st, j, none⟩ v) (some ⟨Bp, op, none⟩) L F from fun h0 => by
                obtain ⟨_, _, e, h1, h2⟩ := h h0
                cases e
                exact ⟨Bp, op, rfl, by rw [size_setCell]; exact h1, fun i hi => ⟨(h2 i hi).1, (World.cell?_of_block (a := ⟨Bp, op + i, none⟩) (Below.heap_setCell W ⟨st, j, none⟩ v Bp HBS.out)).trans (h2 i hi).2⟩⟩)
              clear hbs hs hy hz
              go_wp2_with fail
              go_region
              all_goals
                go_wp2_with fail
                exact ⟨⟨j + 1, by omega, by go_num, (HNW.out _ G1.out).drew, (HKS.out _ _ G2.out).drewN 1, drawn (G3.out.setCell (p := ⟨st, j, none⟩) hst _) 1⟩, by simp [intOf]; omega⟩
            · obtain rfl : j = 16 := by omega
              have e0 : wr.cell? ⟨c, 0, none⟩ = _ := (G3.out.cell (p := ⟨c, 0, none⟩) hcl).trans hp0
              have HBX := Lib.hid (show By 16 (fun i => S i ^^^ F (16 * q + i)) from fun i hi => xor_lt8 (HSB.out i hi) (HBY.out _ (by have := HQ.out; omega)))
              have HRX := Lib.hid (G1.out.congr (f := fun i => S i ^^^ F (16 * q + i)) fun i hi => by unfold xpt; rw [if_pos hi])
              have HEN := Lib.hid (renc_any g n key (fun i => S i ^^^ F (16 * q + i)) (some ⟨st, 0, none⟩) 16 wr HK.out.hn HK.out.key (HC.out.keep G3.out).key (HRX.out.slB0 (Nat.le_refl _) HBX.out))
              clear hj16
              go_wp2_with fail
              refine HEN.out.mono ?_
              rintro e w20 ⟨st2, rfl, h1, h2, h3⟩
              have HR20 := Lib.hid h2
              have HL20 := Lib.hid (G3.out.trans (h3.mono G3.out.size))
              have HS20 := Lib.hid (G2.out.keep h3)
              have HST2 := Lib.hid h1
              have HBP := Lib.hid (show Bp < wr.heap.size by obtain ⟨_, _, e, h, _⟩ := G2.out (by omega); cases e; exact h)
              clear h1 h2 h3
              go_wp2_with fail
              exact ⟨⟨q + 1, st2, HQM.out, by have := HQ.out; go_num, rfl, by rw [HNX.out]; exact HR20.out, HS20.out, Nat.lt_of_lt_of_le HBP.out HST2.out, Nat.le_trans G3.out.size HST2.out, HL20.out⟩, by simp [intOf]; omega⟩
        · obtain rfl : q = M := by omega
          rw [hML]
          obtain ⟨dl, hdl⟩ : ∃ dl, (kk + 3) / 4 * 4 + 4 = dl := ⟨_, rfl⟩
          rw [hdl] at HV HFM
          have hdi : ((kk : Int) + 3) / 4 * 4 + 4 = (dl : Nat) := by omega
          have hdl16 : dl ≤ 16 := by omega
          have hdl16i : (dl : Int) ≤ 16 := by omega
          have HSF := Lib.hid ((HR.out.slB0 (Nat.le_refl 16) (HXB.out q (Nat.le_of_eq hML))).low hdl16)
          clear hdl hlt hq HS HXB HBY
          go_wp2_with fail
          go_region_with (first | (go_at_call 123; refine (HDG.out _).mono ?_; rintro e w20 ⟨rfl, rfl⟩) | (go_at_call 161; refine (qrest_any (some ⟨st, 0, none⟩) dl 16 _ (fd N r : Nat) _ (by omega) (HSF.out.drewN 1)).mono ?_; rintro e w21 ⟨rfl, z5, rfl⟩))
          all_goals
            go_wp2_with fail
            go_ret
            exact ⟨by rw [HV.out, HFM.out]; rfl, drawn HL.out _⟩
end Go.Proofs.YthmlcmlpmolmoaaGreatDoor
namespace Go.Proofs.YthmlcmlpmolmoaaGreatDoor
open Go.RowKit
theorem qin_any (n m : Int) (w : World) :
    Calls Tryz.prog 156 #[.int .i64 n, .int .i64 m] w fun e w' => e = .returned (.bool (inP n m)) ∧ w = w' := by
  have HC := Lib.hid (qpower_any m w)
  by_cases h0 : 0 ≤ n
  · have HZ := Lib.hid (show inP n m = decide (n < (pw m : Nat)) by unfold inP; rw [decide_eq_true h0]; rfl)
    generalize ((pw m : Nat) : Int) = p at *
    have hd : decide (0 ≤ n) = true := decide_eq_true h0
    go_enter Tryz.func156, Tryz.ntmps156
    go_wp2_with fail
    refine HC.out.mono ?_
    rintro e w' ⟨rfl, rfl⟩
    go_wp2_with fail
    go_ret
    exact ⟨by rw [HZ.out]; rfl, rfl⟩
  · have HZ := Lib.hid (show inP n m = false by unfold inP; rw [decide_eq_false h0]; rfl)
    have hd : decide (0 ≤ n) = false := decide_eq_false h0
    go_enter Tryz.func156, Tryz.ntmps156
    go_wp2_with fail
    go_ret
    exact ⟨by rw [HZ.out]; rfl, rfl⟩
end Go.Proofs.YthmlcmlpmolmoaaGreatDoor
namespace Go.Proofs.YthmlcmlpmolmoaaGreatDoor
open Go.RowKit
set_option maxHeartbeats 400000 in
theorem qadd_any (a b m : Int) (w : World) :
    Calls Tryz.prog 127 #[.int .i64 a, .int .i64 b, .int .i64 m] w fun e w' => e = .returned (.tuple #[.int .i64 (aV a b m), .int .i64 (tE a b m)]) ∧ w = w' := by
  have HA := Lib.hid (qin_any a m w)
  have HB := Lib.hid (qin_any b m w)
  have HP := Lib.hid (qpower_any m w)
  by_cases h : inP a m = true ∧ inP b m = true
  · have HV := Lib.hid (show aV a b m = (a + b) % (pw m : Int) by unfold aV; rw [if_pos (tE_pos h.1 h.2)])
    have HE := Lib.hid (tE_pos h.1 h.2)
    obtain ⟨a0, a1⟩ := (inP_iff a m).1 h.1
    obtain ⟨b0, b1⟩ := (inP_iff b m).1 h.2
    have hle := pw_le m
    have hpos : (0 : Int) < (pw m : Nat) := by omega
    rw [h.1] at HA
    rw [h.2] at HB
    clear h
    generalize pw m = p at *
    go_enter Tryz.func127, Tryz.ntmps127
    go_wp2_with fail
    refine HA.out.mono ?_
    rintro e w' ⟨rfl, rfl⟩
    go_wp2_with fail
    refine HB.out.mono ?_
    rintro e w' ⟨rfl, rfl⟩
    go_wp2_with fail
    refine HP.out.mono ?_
    rintro e w' ⟨rfl, rfl⟩
    go_wp2_with fail
    go_ret2
    exact ⟨by rw [HE.out, HV.out]; rfl, rfl⟩
  · have HV := Lib.hid (show aV a b m = 0 by unfold aV; rw [tE_neg h]; rfl)
    have HE := Lib.hid (tE_neg h)
    rcases (show inP a m = false ∨ (inP a m = true ∧ inP b m = false) by cases h1 : inP a m <;> cases h2 : inP b m <;> simp_all) with h' | ⟨h', h''⟩
    · rw [h'] at HA
      clear h h'
      generalize inP b m = y at *
      go_enter Tryz.func127, Tryz.ntmps127
      go_wp2_with fail
      refine HA.out.mono ?_
      rintro e w' ⟨rfl, rfl⟩
      go_wp2_with fail
      refine HB.out.mono ?_
      rintro e w' ⟨rfl, rfl⟩
      go_wp2_with fail
      go_ret2
      exact ⟨by rw [HE.out, HV.out]; rfl, rfl⟩
    · rw [h'] at HA
      rw [h''] at HB
      clear h h' h''
      go_enter Tryz.func127, Tryz.ntmps127
      go_wp2_with fail
      refine HA.out.mono ?_
      rintro e w' ⟨rfl, rfl⟩
      go_wp2_with fail
      refine HB.out.mono ?_
      rintro e w' ⟨rfl, rfl⟩
      go_wp2_with fail
      go_ret2
      exact ⟨by rw [HE.out, HV.out]; rfl, rfl⟩
set_option maxHeartbeats 400000 in
theorem qsub_any (a b m : Int) (w : World) :
    Calls Tryz.prog 124 #[.int .i64 a, .int .i64 b, .int .i64 m] w fun e w' => e = .returned (.tuple #[.int .i64 (sV a b m), .int .i64 (tE a b m)]) ∧ w = w' := by
  have HA := Lib.hid (qin_any a m w)
  have HB := Lib.hid (qin_any b m w)
  have HP := Lib.hid (qpower_any m w)
  by_cases h : inP a m = true ∧ inP b m = true
  · have HV := Lib.hid (show sV a b m = (a - b + (pw m : Int)) % (pw m : Int) by unfold sV; rw [if_pos (tE_pos h.1 h.2)])
    have HE := Lib.hid (tE_pos h.1 h.2)
    obtain ⟨a0, a1⟩ := (inP_iff a m).1 h.1
    obtain ⟨b0, b1⟩ := (inP_iff b m).1 h.2
    have hle := pw_le m
    have hpos : (0 : Int) < (pw m : Nat) := by omega
    rw [h.1] at HA
    rw [h.2] at HB
    clear h
    generalize pw m = p at *
    go_enter Tryz.func124, Tryz.ntmps124
    go_wp2_with fail
    refine HA.out.mono ?_
    rintro e w' ⟨rfl, rfl⟩
    go_wp2_with fail
    refine HB.out.mono ?_
    rintro e w' ⟨rfl, rfl⟩
    go_wp2_with fail
    refine HP.out.mono ?_
    rintro e w' ⟨rfl, rfl⟩
    go_wp2_with fail
    refine HP.out.mono ?_
    rintro e w' ⟨rfl, rfl⟩
    go_wp2_with fail
    go_ret2
    exact ⟨by rw [HE.out, HV.out]; rfl, rfl⟩
  · have HV := Lib.hid (show sV a b m = 0 by unfold sV; rw [tE_neg h]; rfl)
    have HE := Lib.hid (tE_neg h)
    rcases (show inP a m = false ∨ (inP a m = true ∧ inP b m = false) by cases h1 : inP a m <;> cases h2 : inP b m <;> simp_all) with h' | ⟨h', h''⟩
    · rw [h'] at HA
      clear h h'
      generalize inP b m = y at *
      go_enter Tryz.func124, Tryz.ntmps124
      go_wp2_with fail
      refine HA.out.mono ?_
      rintro e w' ⟨rfl, rfl⟩
      go_wp2_with fail
      refine HB.out.mono ?_
      rintro e w' ⟨rfl, rfl⟩
      go_wp2_with fail
      go_ret2
      exact ⟨by rw [HE.out, HV.out]; rfl, rfl⟩
    · rw [h'] at HA
      rw [h''] at HB
      clear h h' h''
      go_enter Tryz.func124, Tryz.ntmps124
      go_wp2_with fail
      refine HA.out.mono ?_
      rintro e w' ⟨rfl, rfl⟩
      go_wp2_with fail
      refine HB.out.mono ?_
      rintro e w' ⟨rfl, rfl⟩
      go_wp2_with fail
      go_ret2
      exact ⟨by rw [HE.out, HV.out]; rfl, rfl⟩
end Go.Proofs.YthmlcmlpmolmoaaGreatDoor
namespace Go.Proofs.YthmlcmlpmolmoaaGreatDoor
open Go.RowKit
set_option maxHeartbeats 400000 in
theorem texts_any (s : ByteArray) (w : World) (hs : s.size ≤ maxLen) :
    Calls Tryz.prog 102 #[.string s] w fun e w' => e = .returned (.int .i64 (faultOf s.data.toList)) ∧ w = w' := by
  unfold maxLen at hs
  go_enter Tryz.func102, Tryz.ntmps102
  go_wp2
  go_loop [3] (fun i => ∃ k : Nat, k ≤ s.size ∧ i = .int .i64 k ∧ (s.data.toList.take k).all isDig = true) (fun i => s.size - (intOf i).toNat)
  case atStart => exact ⟨0, Nat.zero_le _, rfl, rfl⟩
  case round =>
    obtain ⟨k, hk, rfl, ha⟩ := hrel
    by_cases hlt : k < s.size
    · by_cases h1 : (s[k].toNat : Int) < 48
      · have HB := Lib.hid (all_bad s k hlt (by unfold isDig; simp; omega))
        go_wp2
        go_ret
        exact ⟨ret_int (by unfold faultOf; rw [HB.out]; rfl), rfl⟩
      · by_cases h2 : (57 : Int) < s[k].toNat
        · have HB := Lib.hid (all_bad s k hlt (by unfold isDig; simp; omega))
          go_wp2
          go_ret
          exact ⟨ret_int (by unfold faultOf; rw [HB.out]; rfl), rfl⟩
        · have HB := Lib.hid (all_snoc s k hlt ha (by unfold isDig; simp; omega))
          clear ha
          go_wp2
          go_round
          case rel => exact ⟨k + 1, by omega, by go_num, HB.out⟩
          case measure => simp [intOf]; omega
    · have e : k = s.size := by omega
      subst e
      have HA := Lib.hid ha
      clear ha
      by_cases hl : 999 < s.size
      all_goals
        go_wp2
        go_ret
        refine ⟨ret_int ?_, rfl⟩
        have h := HA.out
        rw [List.take_of_length_le (by simp)] at h
        unfold faultOf
        rw [h]
        simp [hl]
end Go.Proofs.YthmlcmlpmolmoaaGreatDoor
namespace Go.Proofs.YthmlcmlpmolmoaaGreatDoor
open Go.RowKit
set_option maxHeartbeats 800000 in
theorem rnumber_any (s : ByteArray) (w : World) (hs : s.size ≤ maxLen) :
    Calls Tryz.prog 88 #[.string s] w fun e w' => e = .returned (.tuple #[.int .i64 (dnV s), .int .i64 (dnE s)]) ∧ ∃ n, w' = w.drewN n := by
  by_cases hf : faultOf s.data.toList = 0
  · obtain ⟨hd, hl⟩ := fault_zero hf
    have hl' : s.size ≤ 999 := by rw [Array.length_toList] at hl; exact hl
    have HD := Lib.hid hd
    have HF := Lib.hid hf
    clear hf hd hl
    by_cases h0 : s.size = 0
    · have e1 : s.toList = [] := by
        rw [ByteArray.toList_eq]; exact List.eq_nil_of_length_eq_zero (Array.length_toList.trans h0)
      have HB := Lib.hid (show dnE s = 3 by unfold dnE; rw [if_neg (by rw [HF.out]; decide), if_pos h0])
      have HV := Lib.hid (show dnV s = 0 by unfold dnV; rw [HB.out]; rfl)
      clear h0
      go_enter Tryz.func88, Tryz.ntmps88
      go_wp2_with (go_at_call 102; refine (texts_any s _ hs).mono ?_; rintro e w' ⟨rfl, rfl⟩; rw [HF.out])
      go_ret2
      exact ⟨by rw [HB.out, HV.out]; rfl, 0, rfl⟩
    · have e1 := toList_of_size (s := s) (by omega)
      have e2 : ¬ s.toList = [] := by intro h; rw [h] at e1; cases e1
      go_enter Tryz.func88, Tryz.ntmps88
      go_wp2_with (go_at_call 102; refine (texts_any s _ hs).mono ?_; rintro e w' ⟨rfl, rfl⟩; rw [HF.out])
      go_loopw [5, 6] (fun t i wr => ∃ k : Nat, k ≤ s.size ∧ i = .int .i64 k ∧ t = .int .i64 (acc s k) ∧ acc s k ≤ 9223372036854775807 ∧ ∃ n, wr = w.drewN n) (fun _ i _ => s.size - (intOf i).toNat)
      case atStart => exact ⟨0, Nat.zero_le _, rfl, rfl, by simp [acc], 0, rfl⟩
      case round =>
        obtain ⟨k, hk, rfl, rfl, hle, hn⟩ := hrel
        have HN := Lib.hid hn
        clear hn
        by_cases hlt : k < s.size
        · obtain ⟨hb1, hb2⟩ := dig_at s k hlt HD.out
          obtain ⟨d, e0, hd9⟩ : ∃ d : Nat, (s[k].toNat : Int) - 48 = d ∧ d < 10 := ⟨s[k].toNat - 48, by omega, by omega⟩
          have HS := Lib.hid (show acc s (k + 1) = 10 * acc s k + d by simp only [acc]; rw [dg_eq s k hlt]; omega)
          generalize hq : acc s k = q at *
          have HQ := Lib.hid hq
          clear hq
          by_cases hbig : 9223372036854775807 < 10 * q + d
          · have ht : ((9223372036854775807 : Int) - d) / 10 < q := by omega
            have ht2 : (0 : Int) ≤ 9223372036854775807 - d := by omega
            have HB := Lib.hid (show dnE s = 5 by
              unfold dnE; rw [if_neg (by rw [HF.out]; decide), if_neg h0, if_pos (by have := acc_mono s (k + 1) s.size (by omega); have := HS.out; omega)])
            have HV := Lib.hid (show dnV s = 0 by unfold dnV; rw [HB.out]; rfl)
            clear hbig
            go_wp2_with fail
            go_ret2
            exact ⟨by rw [HB.out, HV.out]; rfl, HN.out⟩
          · have ht : ¬ ((9223372036854775807 : Int) - d) / 10 < q := by omega
            have ht2 : (0 : Int) ≤ 9223372036854775807 - d := by omega
            go_wp2_with fail
            go_roundw
            case rel => exact ⟨k + 1, by omega, by go_num, by rw [HS.out]; go_num, by rw [HS.out]; omega, HN.out⟩
            case measure => simp [intOf]; omega
        · obtain rfl : k = s.size := by omega
          have HB := Lib.hid (show dnE s = 0 by unfold dnE; rw [if_neg (by rw [HF.out]; decide), if_neg h0, if_neg (by omega)])
          have HV := Lib.hid (show dnV s = acc s s.size by unfold dnV; rw [if_pos HB.out])
          go_wp2_with fail
          go_ret2
          exact ⟨by rw [HB.out, HV.out]; rfl, HN.out⟩
  · have hf' : (faultOf s.data.toList != 0) = true := by simpa using hf
    have HB := Lib.hid (show dnE s = faultOf s.data.toList by unfold dnE; rw [if_pos hf])
    have HV := Lib.hid (show dnV s = 0 by unfold dnV; rw [HB.out, if_neg hf])
    clear hf
    go_enter Tryz.func88, Tryz.ntmps88
    go_wp2_with (go_at_call 102; refine (texts_any s _ hs).mono ?_; rintro e w' ⟨rfl, rfl⟩)
    go_ret2
    exact ⟨by rw [HB.out, HV.out]; rfl, 0, rfl⟩
end Go.Proofs.YthmlcmlpmolmoaaGreatDoor
namespace Go.Proofs.YthmlcmlpmolmoaaGreatDoor
open Go.RowKit
theorem rt_step (n i : Nat) : (ByteArray.mk #[chr (48 + n / 10 ^ i % 10)]) ++ strOf i (td n i) = strOf (i + 1) (td n (i + 1)) := by
  unfold strOf
  rw [List.range_succ_eq_map]
  apply ByteArray.ext
  simp only [ByteArray.data_append, List.map_cons, List.map_map]
  apply Array.ext'
  simp [td]
  intro a ha
  rw [show i - (a + 1) = i - 1 - a by omega]
set_option maxHeartbeats 800000 in
theorem rtext_ok (n k : Nat) (w : World) (hn : n ≤ 9223372036854775807) (h1 : 1 ≤ k) (h2 : k ≤ 19) :
    Calls Tryz.prog 126 #[.int .i64 n, .int .i64 k] w fun e w' => e = .returned (.tuple #[.string (textV n k), .int .i64 (textE n k)]) ∧ Below w.heap.size w w' := by
  go_enter Tryz.func126, Tryz.ntmps126
  go_wp2_with fail
  go_loopw [0, 6, 7] (fun t s c wr => ∃ i : Nat, i ≤ k ∧ c = .int .i64 i ∧ t = .int .i64 (n / 10 ^ i : Nat) ∧ s = .string (strOf i (td n i)) ∧ Below w.heap.size w wr) (fun _ _ c _ => k - (intOf c).toNat)
  case atStart => exact ⟨0, Nat.zero_le _, rfl, by simp, rfl, Below.refl _ _⟩
  case round =>
    obtain ⟨i, hi, rfl, rfl, rfl, hb⟩ := hrel
    have HS := Lib.hid (pow_step n i)
    have HM := Lib.hid (show n / 10 ^ i ≤ n from Nat.div_le_self _ _)
    have HB := Lib.hid hb
    clear hb
    by_cases hlt : i < k
    · have HT := Lib.hid (rt_step n i)
      have hz := HM.out
      have hsz := strOf_size i (td n i)
      have HS3 := Lib.hid hsz
      generalize strOf i (td n i) = st at *
      have hsz' : st.size ≤ 19 := by omega
      clear hsz
      generalize n / 10 ^ i = m at *
      have hcv := conv1 (48 + m % 10) wr
      rw [show ((48 : Int) + m % 10).toNat = 48 + m % 10 by omega] at hcv
      have hz1 : (ByteArray.mk #[chr (48 + m % 10)]).size ≤ 1 := Nat.le_refl 1
      go_wp2_with fail
      go_roundw
      case rel => exact ⟨i + 1, by omega, by go_num, by rw [HS.out]; go_num, by rw [← HT.out], HB.out.alloc HB.out.size _⟩
      case measure => simp [intOf]; omega
    · obtain rfl : i = k := by omega
      have HZ := Lib.hid (show textV n i = if n / 10 ^ i = 0 then strOf i (td n i) else ByteArray.empty by
        unfold textV
        by_cases h : n / 10 ^ i = 0
        · rw [if_pos (textE_fit h1 h2 h), if_pos h]; rfl
        · rw [if_neg (by rw [textE_big h1 h2 h]; decide), if_neg h])
      by_cases h0 : n / 10 ^ i = 0
      · have HE := Lib.hid (textE_fit h1 h2 h0)
        have HV := Lib.hid (HZ.out.trans (if_pos h0))
        rw [h0]
        clear h0 HZ HS HM
        go_wp2_with fail
        go_ret2
        exact ⟨ret_sv HV.out.symm HE.out.symm, HB.out⟩
      · have HE := Lib.hid (textE_big h1 h2 h0)
        have HV := Lib.hid (HZ.out.trans (if_neg h0))
        generalize n / 10 ^ i = m at *
        have hm : (0 : Int) < m := by omega
        go_wp2_with fail
        go_ret2
        exact ⟨ret_sv HV.out.symm HE.out.symm, HB.out⟩
set_option maxHeartbeats 400000 in
theorem rtext_bad (n k : Int) (w : World) (h : n < 0 ∨ k < 1 ∨ 19 < k) :
    Calls Tryz.prog 126 #[.int .i64 n, .int .i64 k] w fun e w' => e = .returned (.tuple #[.string (textV n k), .int .i64 (textE n k)]) ∧ Below w.heap.size w w' := by
  have HE := Lib.hid (show textE n k = 1 by unfold textE; rw [if_pos h])
  have HV := Lib.hid (show textV n k = ByteArray.empty by unfold textV; rw [HE.out]; rfl)
  rcases (show n < 0 ∨ (0 ≤ n ∧ k < 1) ∨ (0 ≤ n ∧ 1 ≤ k ∧ 19 < k) by omega) with h | ⟨h, h'⟩ | ⟨h, h', h''⟩
  all_goals
    go_enter Tryz.func126, Tryz.ntmps126
    go_wp2_with fail
    go_ret2
    exact ⟨ret_sv HV.out.symm HE.out.symm, Below.refl _ _⟩
theorem rtext_any (n k : Int) (w : World) (hn : n ≤ 9223372036854775807) :
    Calls Tryz.prog 126 #[.int .i64 n, .int .i64 k] w fun e w' => e = .returned (.tuple #[.string (textV n k), .int .i64 (textE n k)]) ∧ Below w.heap.size w w' := by
  by_cases h : n < 0 ∨ k < 1 ∨ 19 < k
  · exact rtext_bad n k w h
  · obtain ⟨n, rfl⟩ := Int.eq_ofNat_of_zero_le (show 0 ≤ n by omega)
    obtain ⟨k, rfl⟩ := Int.eq_ofNat_of_zero_le (show 0 ≤ k by omega)
    exact rtext_ok n k w (by omega) (by omega) (by omega)
end Go.Proofs.YthmlcmlpmolmoaaGreatDoor
namespace Go.Proofs.YthmlcmlpmolmoaaGreatDoor
open Go.RowKit
def half (s : ByteArray) (t : Nat) : Nat := if s.size % 2 = 0 then dg s t else if t = 0 then 0 else dg s (t - 1)
def pb (s : ByteArray) (j : Nat) : Nat := 16 * half s (2 * j) + half s (2 * j + 1)
end Go.Proofs.YthmlcmlpmolmoaaGreatDoor
namespace Go.Proofs.YthmlcmlpmolmoaaGreatDoor
open Go.RowKit
def padded (s : ByteArray) : ByteArray := if s.size % 2 = 1 then ByteArray.mk #[chr 48] ++ s else s
theorem padded_size (s : ByteArray) : (padded s).size = 2 * ((s.size + 1) / 2) := by
  unfold padded
  split
  · rw [ByteArray.size_append]; show 1 + s.size = _; omega
  · omega
theorem padded_dig (s : ByteArray) (hd : s.data.toList.all isDig = true) : (padded s).data.toList.all isDig = true := by
  unfold padded
  split
  · rw [ByteArray.data_append, Array.toList_append, List.all_append, hd]; decide
  · exact hd
theorem padded_at (s : ByteArray) (t : Nat) : dg (padded s) t = half s t := by
  unfold padded half
  by_cases h : s.size % 2 = 1
  · rw [if_pos h, if_neg (by omega)]
    unfold dg
    rw [ByteArray.data_append, Array.toList_append]
    cases t with
    | zero => rfl
    | succ t => rfl
  · rw [if_neg h, if_pos (by omega)]
set_option maxHeartbeats 1600000 in
theorem rpack_ok (s : ByteArray) (w : World) (hd : s.data.toList.all isDig = true) (hl : s.size ≤ 999) :
    Calls Tryz.prog 57 #[.string s] w fun e w' => ∃ v, e = .returned (.tuple #[v, .int .i64 0]) ∧
      w'.ownsRow w.heap.size 5 1 v ((s.size + 1) / 2) ((List.range ((s.size + 1) / 2)).map fun j => .int .u8 (pb s j : Nat)) ∧ Below w.heap.size w w' := by
  have HT := Lib.hid (padded_size s)
  have HTd := Lib.hid (padded_dig s hd)
  have HPB := Lib.hid (show ∀ j, pb s j = 16 * dg (padded s) (2 * j) + dg (padded s) (2 * j + 1) from fun j => by rw [padded_at, padded_at]; rfl)
  have HF := Lib.hid (fault_ok hd (by simpa using hl))
  have hm5 : (s.size + 1) / 2 ≤ 500 := by omega
  clear hd
  generalize pb s = PB at *
  generalize (s.size + 1) / 2 = m at *
  by_cases h2 : s.size % 2 = 1
  · have h2' : (s.size : Int).tmod 2 = 1 := by rw [Int.tmod_eq_emod_of_nonneg (by omega)]; omega
    obtain ⟨t, ht⟩ : ∃ t, ByteArray.mk #[48] ++ s = t := ⟨_, rfl⟩
    have HP2 := Lib.hid (show padded s = t from (show padded s = _ by unfold padded; rw [if_pos h2]; rfl).trans ht)
    clear h2
    go_enter Tryz.func57, Tryz.ntmps57
    go_wp2_with (go_at_call 102; refine (texts_any _ _ (by unfold maxLen; omega)).mono ?_; rintro e w' ⟨rfl, rfl⟩; rw [HF.out])
    go_loopw [5, 6] (fun v c wr => ∃ j : Nat, j ≤ m ∧ c = .int .i64 (2 * j) ∧ wr.ownsRow w.heap.size 5 1 v j ((List.range j).map fun j => .int .u8 (PB j : Nat)) ∧ Below w.heap.size w wr) (fun _ c _ => 2 * m - (intOf c).toNat)
    case atStart => exact ⟨0, Nat.zero_le _, rfl, World.ownsRow_nil _ _ _ _, Below.refl _ _⟩
    case round =>
      obtain ⟨j, hj, rfl, hown, hb⟩ := hrel
      have HO := Lib.hid hown
      have HB := Lib.hid hb
      clear hown hb
      have hts : t.size = 2 * m := by rw [← HP2.out, HT.out]
      by_cases hlt : j < m
      · obtain ⟨q, eq1, hq⟩ : ∃ q : Nat, (2 : Int) * j = q ∧ q = 2 * j := ⟨2 * j, by omega, rfl⟩
        obtain ⟨q1, eq2, hq1⟩ : ∃ q1 : Nat, (q : Int) + 1 = q1 ∧ q1 = q + 1 := ⟨q + 1, by omega, rfl⟩
        have hqs : q < t.size := by omega
        have hqs1 : q1 < t.size := by omega
        have HTd2 := Lib.hid (show t.data.toList.all isDig = true by rw [← HP2.out]; exact HTd.out)
        obtain ⟨ha1, ha2⟩ := dig_at t q hqs HTd2.out
        obtain ⟨hb1, hb2⟩ := dig_at t q1 hqs1 HTd2.out
        obtain ⟨x, ex, hx⟩ : ∃ x : Nat, (t[q].toNat : Int) - 48 = x ∧ dg t q = x := ⟨t[q].toNat - 48, by omega, dg_eq t q hqs⟩
        obtain ⟨y, ey, hy⟩ : ∃ y : Nat, (t[q1].toNat : Int) - 48 = y ∧ dg t q1 = y := ⟨t[q1].toNat - 48, by omega, dg_eq t q1 hqs1⟩
        have HPj := Lib.hid (show PB j = 16 * x + y by rw [HPB.out j, HP2.out, ← hq, hx, ← hq1, hy])
        have hx9 : x ≤ 9 := by omega
        have hy9 : y ≤ 9 := by omega
        have hw1 : IntKind.i64.wrap (q1 : Int) = q1 := IntWalk.i64_in _ (by omega)
        have hw2 : IntKind.u8.wrap (x : Int) = x := IntWalk.u8_in _ (by omega)
        have hw3 : IntKind.u8.wrap (y : Int) = y := IntWalk.u8_in _ (by omega)
        obtain ⟨x16, ez, hz⟩ : ∃ z : Nat, IntKind.u8.wrap ((x : Int) * 16) = z ∧ z = x * 16 := ⟨x * 16, by rw [IntWalk.u8_in _ (by omega)]; omega, rfl⟩
        obtain ⟨z, ez2, hz2⟩ : ∃ z : Nat, IntKind.u8.wrap ((x16 : Int) + y) = z ∧ z = x16 + y := ⟨x16 + y, by rw [IntWalk.u8_in _ (by omega)]; omega, rfl⟩
        have HPz := Lib.hid (show PB j = z by rw [HPj.out]; omega)
        clear hq hq1 hx hy hts hz hz2
        go_wp2_with fail
        have hj12 : j ≤ 1000000000000 := by omega
        have hsz := HB.out.size
        have hcell : ((wr.alloc (.cells #[.int .u8 z] 5)).drew).cell? ⟨wr.heap.size, 0, none⟩ = some (.int .u8 z) := World.cell?_alloc_at _ _ _ _ rfl
        have hsz2 : w.heap.size ≤ ((wr.alloc (.cells #[.int .u8 z] 5)).drew).heap.size := by show _ ≤ (wr.heap.push _).size; simp; omega
        go_region_law (refine step_app8 rfl (.tmp 24) (.tmp 36) rfl w.heap.size _ j _ rfl ((HO.out.alloc _).drew) wr.heap.size z rfl hcell hj12 hsz2 ?_; intro v' w' hown' hb')
        all_goals
          clear hcell hsz2
          go_wp2_with fail
          go_roundw
          case rel => exact ⟨j + 1, by omega, by go_num, own_snoc hown' (by rw [HPz.out]), ((HB.out.alloc HB.out.size _).drew).trans hb'⟩
          case measure => simp [intOf]; omega
      · obtain rfl : j = m := by omega
        go_wp2_with fail
        go_ret2
        exact ⟨u5, rfl, HO.out, HB.out⟩
  · have h2' : (s.size : Int).tmod 2 = 0 := by rw [Int.tmod_eq_emod_of_nonneg (by omega)]; omega
    obtain ⟨t, rfl⟩ : ∃ t, t = s := ⟨_, rfl⟩
    have HP2 := Lib.hid (show padded t = t by unfold padded; rw [if_neg h2])
    clear h2
    go_enter Tryz.func57, Tryz.ntmps57
    go_wp2_with (go_at_call 102; refine (texts_any _ _ (by unfold maxLen; omega)).mono ?_; rintro e w' ⟨rfl, rfl⟩; rw [HF.out])
    go_loopw [5, 6] (fun v c wr => ∃ j : Nat, j ≤ m ∧ c = .int .i64 (2 * j) ∧ wr.ownsRow w.heap.size 5 1 v j ((List.range j).map fun j => .int .u8 (PB j : Nat)) ∧ Below w.heap.size w wr) (fun _ c _ => 2 * m - (intOf c).toNat)
    case atStart => exact ⟨0, Nat.zero_le _, rfl, World.ownsRow_nil _ _ _ _, Below.refl _ _⟩
    case round =>
      obtain ⟨j, hj, rfl, hown, hb⟩ := hrel
      have HO := Lib.hid hown
      have HB := Lib.hid hb
      clear hown hb
      have hts : t.size = 2 * m := by rw [← HP2.out, HT.out]
      by_cases hlt : j < m
      · obtain ⟨q, eq1, hq⟩ : ∃ q : Nat, (2 : Int) * j = q ∧ q = 2 * j := ⟨2 * j, by omega, rfl⟩
        obtain ⟨q1, eq2, hq1⟩ : ∃ q1 : Nat, (q : Int) + 1 = q1 ∧ q1 = q + 1 := ⟨q + 1, by omega, rfl⟩
        have hqs : q < t.size := by omega
        have hqs1 : q1 < t.size := by omega
        have HTd2 := Lib.hid (show t.data.toList.all isDig = true by rw [← HP2.out]; exact HTd.out)
        obtain ⟨ha1, ha2⟩ := dig_at t q hqs HTd2.out
        obtain ⟨hb1, hb2⟩ := dig_at t q1 hqs1 HTd2.out
        obtain ⟨x, ex, hx⟩ : ∃ x : Nat, (t[q].toNat : Int) - 48 = x ∧ dg t q = x := ⟨t[q].toNat - 48, by omega, dg_eq t q hqs⟩
        obtain ⟨y, ey, hy⟩ : ∃ y : Nat, (t[q1].toNat : Int) - 48 = y ∧ dg t q1 = y := ⟨t[q1].toNat - 48, by omega, dg_eq t q1 hqs1⟩
        have HPj := Lib.hid (show PB j = 16 * x + y by rw [HPB.out j, HP2.out, ← hq, hx, ← hq1, hy])
        have hx9 : x ≤ 9 := by omega
        have hy9 : y ≤ 9 := by omega
        have hw1 : IntKind.i64.wrap (q1 : Int) = q1 := IntWalk.i64_in _ (by omega)
        have hw2 : IntKind.u8.wrap (x : Int) = x := IntWalk.u8_in _ (by omega)
        have hw3 : IntKind.u8.wrap (y : Int) = y := IntWalk.u8_in _ (by omega)
        obtain ⟨x16, ez, hz⟩ : ∃ z : Nat, IntKind.u8.wrap ((x : Int) * 16) = z ∧ z = x * 16 := ⟨x * 16, by rw [IntWalk.u8_in _ (by omega)]; omega, rfl⟩
        obtain ⟨z, ez2, hz2⟩ : ∃ z : Nat, IntKind.u8.wrap ((x16 : Int) + y) = z ∧ z = x16 + y := ⟨x16 + y, by rw [IntWalk.u8_in _ (by omega)]; omega, rfl⟩
        have HPz := Lib.hid (show PB j = z by rw [HPj.out]; omega)
        clear hq hq1 hx hy hts hz hz2
        go_wp2_with fail
        have hj12 : j ≤ 1000000000000 := by omega
        have hsz := HB.out.size
        have hcell : ((wr.alloc (.cells #[.int .u8 z] 5)).drew).cell? ⟨wr.heap.size, 0, none⟩ = some (.int .u8 z) := World.cell?_alloc_at _ _ _ _ rfl
        have hsz2 : w.heap.size ≤ ((wr.alloc (.cells #[.int .u8 z] 5)).drew).heap.size := by show _ ≤ (wr.heap.push _).size; simp; omega
        go_region_law (refine step_app8 rfl (.tmp 24) (.tmp 36) rfl w.heap.size _ j _ rfl ((HO.out.alloc _).drew) wr.heap.size z rfl hcell hj12 hsz2 ?_; intro v' w' hown' hb')
        all_goals
          clear hcell hsz2
          go_wp2_with fail
          go_roundw
          case rel => exact ⟨j + 1, by omega, by go_num, own_snoc hown' (by rw [HPz.out]), ((HB.out.alloc HB.out.size _).drew).trans hb'⟩
          case measure => simp [intOf]; omega
      · obtain rfl : j = m := by omega
        go_wp2_with fail
        go_ret2
        exact ⟨u5, rfl, HO.out, HB.out⟩
set_option maxHeartbeats 400000 in
theorem rpack_bad (s : ByteArray) (w : World) (hs : s.size ≤ maxLen) (hb : ¬ faultOf s.data.toList = 0) :
    Calls Tryz.prog 57 #[.string s] w fun e w' => e = .returned (.tuple #[.slice none 0 0, .int .i64 (faultOf s.data.toList)]) ∧ w = w' := by
  have hb' : (faultOf s.data.toList != 0) = true := by simpa using hb
  go_enter Tryz.func57, Tryz.ntmps57
  go_wp2_with (go_at_call 102; refine (texts_any _ _ hs).mono ?_; rintro e w' ⟨rfl, rfl⟩)
  go_ret2
  exact ⟨rfl, rfl⟩
end Go.Proofs.YthmlcmlpmolmoaaGreatDoor
namespace Go.Proofs.YthmlcmlpmolmoaaGreatDoor
set_option maxRecDepth 100000
open Go.RowKit
theorem rnum10_bad (s : ByteArray) (w : World) (hs : s.size ≤ maxLen) (h : s.size < 6 ∨ 32 < s.size) :
    Calls Tryz.prog 122 #[.string s] w fun e w' => e = .returned (.int .i64 1) ∧ w = w' := by
  unfold maxLen at hs
  rcases (show decide (((s.size : Nat) : Int) < 6) = true ∨ (decide (((s.size : Nat) : Int) < 6) = false ∧ decide (32 < ((s.size : Nat) : Int)) = true) from by
    simp only [decide_eq_true_eq, decide_eq_false_iff_not]; omega) with q1 | ⟨q1, q2⟩
  all_goals
    clear h
    go_enter Tryz.func122, Tryz.ntmps122
    go_wp2_with fail
    go_ret
    exact ⟨rfl, rfl⟩
theorem rnum10_any (s : ByteArray) (w : World) (hs : s.size ≤ maxLen) :
    Calls Tryz.prog 122 #[.string s] w fun e w' => e = .returned (.int .i64 (hE s)) ∧ Below w.heap.size w w' := by
  by_cases hl : s.size < 6 ∨ 32 < s.size
  · refine (rnum10_bad s w hs hl).mono ?_
    rintro e w' ⟨rfl, rfl⟩
    exact ⟨by rw [hE_one hl], Below.refl _ _⟩
  · have q1 : decide (((s.size : Nat) : Int) < 6) = false := by rw [decide_eq_false_iff_not]; omega
    have q2 : decide (32 < ((s.size : Nat) : Int)) = false := by rw [decide_eq_false_iff_not]; omega
    have h6 : 6 ≤ s.size := by omega
    have h32 : s.size ≤ 32 := by omega
    have hsi : ((s.size : Nat) : Int) ≤ 32 := by omega
    by_cases hd : s.data.toList.all isDig = true
    · have HP := Lib.hid (rpack_ok s w hd (by omega))
      have HE := Lib.hid ((hE_zero h6 h32).2 hd)
      clear hd hl h6 h32 hs
      go_enter Tryz.func122, Tryz.ntmps122
      go_wp2_with (go_at_call 57; refine HP.out.mono ?_; rintro e w1 ⟨v, rfl, h1, h2⟩; have H2 := Lib.hid h2; clear h1 h2)
      go_ret
      exact ⟨by rw [HE.out]; rfl, H2.out⟩
    · have hf : faultOf s.data.toList = 4 := by unfold faultOf; rw [if_neg hd]
      have hp := rpack_bad s w hs (by rw [hf]; decide)
      rw [hf] at hp
      have HP := Lib.hid hp
      have HE := Lib.hid (hE_four h6 h32 fun h => hd ((hE_zero h6 h32).1 h))
      clear hd hl h6 h32 hs hp hf
      go_enter Tryz.func122, Tryz.ntmps122
      go_wp2_with (go_at_call 57; refine HP.out.mono ?_; rintro e w1 ⟨rfl, rfl⟩)
      go_ret
      exact ⟨by rw [HE.out]; rfl, Below.refl _ _⟩
theorem number_fit {x m : Int} (w : World) (h : inP x m = true) :
    Calls Tryz.prog 88 #[.string (gV x m)] w fun e w' => e = .returned (.tuple #[.int .i64 x, .int .i64 0]) ∧ ∃ n, w' = w.drewN n := by
  obtain ⟨h1, h2, h3, h4⟩ := back_value h
  obtain ⟨k, rfl, hk1, _⟩ := pw_ten (inP_pos h)
  obtain ⟨f1, f2⟩ := (xvalue_facts (gV x k)).2.2 (by omega) h4
  refine (rnumber_any (gV x k) w (by unfold maxLen; omega)).mono ?_
  rintro e w' ⟨rfl, h⟩
  exact ⟨by rw [← f1, ← f2, h1, h2], h⟩
theorem text_fit {x m : Int} (w : World) (h : inP x m = true) :
    Calls Tryz.prog 126 #[.int .i64 x, .int .i64 m] w fun e w' => e = .returned (.tuple #[.string (gV x m), .int .i64 0]) ∧ Below w.heap.size w w' := by
  refine (rtext_any x m w (by have := inP_le h; omega)).mono ?_
  rintro e w' ⟨rfl, h1⟩
  exact ⟨by rw [(text_in h).1, (text_in h).2], h1⟩
theorem rmask_fit {c g n : Nat} {key : Nat → Nat} {t : Nat} {T : Nat → Nat} {N r : Nat} {v : Int} (w : World) (k : Kt n key t T) (hC : RCip w c g n key t T) (hN : 6 ≤ N) (hN2 : N ≤ 32) (hr : r ≤ 9) (hv : inP v (fd N (r + 1) : Nat) = true) :
    Calls Tryz.prog 125 #[.pointer (some ⟨c, 0, none⟩), .int .i64 (N : Nat), .int .i64 (r : Nat), .int .i64 v] w fun e w' => e = .returned (.int .i64 (fM n key t T N r v)) ∧ Below w.heap.size w w' := by
  have hb := inP_le hv
  obtain ⟨x, rfl⟩ := Int.eq_ofNat_of_zero_le hb.1
  exact rmask_any c g n key t T N r x w k hC hN hN2 hr (by omega)
theorem halves_text {s : ByteArray} (h1 : 6 ≤ s.size) (h2 : s.size ≤ 32) (h : hE s = 0) : loS s = gV (vV (loS s)) (fd s.size 0 : Nat) ∧ hiS s = gV (vV (hiS s)) (fd s.size 1 : Nat) := by
  obtain ⟨a, b, c, d, _⟩ := halves_in h1 h2 h
  exact ⟨by rw [← c]; exact (back_text a).2.1.symm, by rw [← d]; exact (back_text b).2.1.symm⟩
theorem renc10_bad (c : Nat) (s : ByteArray) (w : World) (hs : s.size ≤ maxLen) (h : ¬ hE s = 0) :
    Calls Tryz.prog 86 #[.pointer (some ⟨c, 0, none⟩), .string s] w fun e w' => e = .returned (.tuple #[.string ⟨#[]⟩, .int .i64 (hE s)]) ∧ Below w.heap.size w w' := by
  have HN := Lib.hid (rnum10_any s w hs)
  have g1 : (hE s != 0) = true := by simpa using h
  generalize hE s = r at *
  clear h hs
  go_enter Tryz.func86, Tryz.ntmps86
  go_wp2_with (go_at_call 122; refine HN.out.mono ?_; rintro e w1 ⟨rfl, h1⟩; have H1 := Lib.hid h1; clear h1)
  go_ret2
  exact ⟨rfl, H1.out⟩
set_option maxHeartbeats 4000000 in
theorem renc10_go (c g n : Nat) (key : Nat → Nat) (t : Nat) (T : Nat → Nat) (s : ByteArray) (w : World) (k : Kt n key t T) (hC : RCip w c g n key t T) (hs : s.size ≤ maxLen) (h1 : 6 ≤ s.size) (h2 : s.size ≤ 32) (he : hE s = 0) :
    Calls Tryz.prog 86 #[.pointer (some ⟨c, 0, none⟩), .string s] w fun e w' => e = .returned (.tuple #[.string (encS n key t T s), .int .i64 0]) ∧ Below w.heap.size w w' := by
  obtain ⟨_, _, z1, z2, i0, i1⟩ := halves_in h1 h2 he
  obtain ⟨tx1, tx2⟩ := halves_text h1 h2 he
  have hn := rnum10_any s w hs
  rw [he] at hn
  have HN := Lib.hid hn
  have hM : MIn (fM n key t T s.size) s.size := fun k x => fM_in h1 h2 k x
  have heV : encS n key t T s = gV (fgo (fM n key t T s.size) s.size (vV (loS s)) (vV (hiS s)) 10).1 (fd s.size 10 : Nat) ++ gV (fgo (fM n key t T s.size) s.size (vV (loS s)) (vV (hiS s)) 10).2 (fd s.size 11 : Nat) := if_pos he
  have HL := Lib.hid (show s.extract 0 (s.size / 2) = gV (vV (loS s)) (fd s.size 0 : Nat) from tx1)
  have HH := Lib.hid (show s.extract (s.size / 2) s.size = gV (vV (hiS s)) (fd s.size 1 : Nat) from tx2)
  have HEV := Lib.hid heV
  clear tx1 tx2 z1 z2 heV hn
  generalize vV (loS s) = a at *
  generalize vV (hiS s) = b at *
  have HDG := Lib.hid fun r (hr : r ≤ 9) W => rdigits_any s.size r W (by omega) (by omega)
  have HFZ := Lib.hid fun r => fd_le (n := s.size) r h1 h2
  have HMK := Lib.hid fun r v (hr : r ≤ 9) hv W (h : RCip W c g n key t T) => rmask_fit (N := s.size) (r := r) (v := v) W k h h1 h2 hr hv
  have HMM := Lib.hid hM
  have HC := Lib.hid hC
  have hsz : ((s.size : Nat) : Int) ≤ 32 := by omega
  obtain ⟨u, hu⟩ : ∃ u, s.size / 2 = u := ⟨_, rfl⟩
  have hui : ((s.size : Nat) : Int) / 2 = (u : Nat) := by omega
  have hus : u ≤ s.size := by omega
  have hus2 : (u : Int) ≤ (s.size : Nat) := by omega
  rw [hu] at HL HH
  have HGO := Lib.hid fun k => fgo_in hM i0 i1 k
  have HNX := Lib.hid fun k => show fgo (fM n key t T s.size) s.size a b (k + 1) = ((fgo (fM n key t T s.size) s.size a b k).2, aV (fgo (fM n key t T s.size) s.size a b k).1 (fM n key t T s.size k (fgo (fM n key t T s.size) s.size a b k).2) (fd s.size k : Nat)) from rfl
  clear k hC hs he i0 i1 hM h1 h2 hu
  go_enter Tryz.func86, Tryz.ntmps86
  go_wp2_with (go_at_call 122; refine HN.out.mono ?_; rintro e w1 ⟨rfl, h1⟩; have H1 := Lib.hid h1; clear h1)
  rw [HL.out, HH.out]
  go_loopw [8, 9, 10] (fun p q i wr => ∃ j : Nat, j ≤ 10 ∧ i = .int .i64 (j : Nat) ∧ p = .string (gV (fgo (fM n key t T s.size) s.size a b j).1 (fd s.size j : Nat)) ∧ q = .string (gV (fgo (fM n key t T s.size) s.size a b j).2 (fd s.size (j + 1) : Nat)) ∧ Below w.heap.size w wr) (fun _ _ i _ => 10 - (intOf i).toNat)
  case atStart => exact ⟨0, by decide, rfl, rfl, rfl, H1.out⟩
  case round =>
    obtain ⟨j, hj, rfl, rfl, rfl, h1⟩ := hrel
    have H5 := Lib.hid h1
    clear h1
    obtain ⟨i2, i3⟩ := HGO.out j
    by_cases hlt : j < 10
    · have hji : (j : Int) < 10 := by omega
      have hnx := HNX.out j
      have hmi := HMM.out j (fgo (fM n key t T s.size) s.size a b j).2
      have HMJ := Lib.hid fun W h => HMK.out j (fgo (fM n key t T s.size) s.size a b j).2 (by omega) i3 W h
      have HDJ := Lib.hid fun W => HDG.out j (by omega) W
      have HJ1 := Lib.hid (show j + 1 ≤ 10 by omega)
      generalize (fgo (fM n key t T s.size) s.size a b j).1 = p at *
      generalize (fgo (fM n key t T s.size) s.size a b j).2 = q at *
      generalize fM n key t T s.size j q = y at *
      have hai := aV_in i2 hmi
      have HN1 := Lib.hid fun W => number_fit W i2
      have HN2 := Lib.hid fun W => number_fit W i3
      have HTX := Lib.hid fun W => text_fit W hai.2
      have HAD := Lib.hid fun W => show Calls Tryz.prog 127 #[.int .i64 p, .int .i64 y, .int .i64 (fd s.size j : Nat)] W (fun e w' => e = .returned (.tuple #[.int .i64 (aV p y (fd s.size j : Nat)), .int .i64 0]) ∧ W = w') from (qadd_any p y (fd s.size j : Nat) W).mono fun e w' ⟨he, hw⟩ => ⟨he.trans (by rw [tE_pos i2 hmi]), hw⟩
      have HNJ := Lib.hid hnx
      have HFJ := Lib.hid (fd_two s.size j)
      generalize aV p y (fd s.size j : Nat) = z at *
      clear hnx hmi hai i2 i3
      generalize hg1 : gV p (fd s.size j : Nat) = sp at *
      generalize hg2 : gV q (fd s.size (j + 1) : Nat) = sq at *
      have HG2 := Lib.hid hg2
      generalize hg3 : gV z (fd s.size j : Nat) = sz at *
      have HG3 := Lib.hid hg3
      clear hg1 hg2 hg3
      go_wp2_with fail
      refine (HDJ.out wr).mono ?_
      rintro e w5 ⟨rfl, rfl⟩
      go_wp2_with fail
      refine (HN1.out wr).mono ?_
      rintro e w6 ⟨rfl, n6, rfl⟩
      go_wp2_with fail
      refine (HN2.out _).mono ?_
      rintro e w7 ⟨rfl, n7, rfl⟩
      have H7 := Lib.hid (drawn H5.out (n6 + n7))
      go_wp2_with fail
      refine (HMJ.out _ (HC.out.keep H7.out)).mono ?_
      rintro e w8 ⟨rfl, h1⟩
      have H8 := Lib.hid (H7.out.trans (h1.mono H7.out.size))
      clear h1
      go_wp2_with fail
      refine (HAD.out w8).mono ?_
      rintro e w9 ⟨rfl, rfl⟩
      go_wp2_with fail
      refine (HTX.out w8).mono ?_
      rintro e w10 ⟨rfl, h1⟩
      have H10 := Lib.hid (H8.out.trans (h1.mono H8.out.size))
      clear h1
      go_wp2_with fail
      go_roundw
      case rel => exact ⟨j + 1, HJ1.out, by go_num, by rw [HNJ.out, ← HG2.out], by rw [HNJ.out, HFJ.out, ← HG3.out], H10.out⟩
      case measure => simp [intOf]; omega
    · obtain rfl : j = 10 := by omega
      have g1 := gV_size (fgo (fM n key t T s.size) s.size a b 10).1 (fd s.size 10 : Nat) (by have := HFZ.out 10; omega)
      have g2 := gV_size (fgo (fM n key t T s.size) s.size a b 10).2 (fd s.size (10 + 1) : Nat) (by have := HFZ.out (10 + 1); omega)
      rw [show fd s.size 11 = fd s.size (10 + 1) from rfl] at HEV
      generalize gV (fgo (fM n key t T s.size) s.size a b 10).1 (fd s.size 10 : Nat) = x at *
      generalize gV (fgo (fM n key t T s.size) s.size a b 10).2 (fd s.size (10 + 1) : Nat) = y at *
      clear i2 i3
      go_wp2_with fail
      go_ret2
      exact ⟨by rw [HEV.out]; rfl, H5.out⟩
theorem renc10_any (c g n : Nat) (key : Nat → Nat) (t : Nat) (T : Nat → Nat) (s : ByteArray) (w : World) (k : Kt n key t T) (hC : RCip w c g n key t T) (hs : s.size ≤ maxLen) :
    Calls Tryz.prog 86 #[.pointer (some ⟨c, 0, none⟩), .string s] w fun e w' => e = .returned (.tuple #[.string (encS n key t T s), .int .i64 (hE s)]) ∧ Below w.heap.size w w' := by
  by_cases he : hE s = 0
  · have hl : ¬ (s.size < 6 ∨ 32 < s.size) := fun hl => by rw [hE_one hl] at he; cases he
    rw [he]
    exact renc10_go c g n key t T s w k hC hs (by omega) (by omega) he
  · rw [show encS n key t T s = ⟨#[]⟩ from if_neg he]
    exact renc10_bad c s w hs he
theorem rdec10_bad (c : Nat) (s : ByteArray) (w : World) (hs : s.size ≤ maxLen) (h : ¬ hE s = 0) :
    Calls Tryz.prog 85 #[.pointer (some ⟨c, 0, none⟩), .string s] w fun e w' => e = .returned (.tuple #[.string ⟨#[]⟩, .int .i64 (hE s)]) ∧ Below w.heap.size w w' := by
  have HN := Lib.hid (rnum10_any s w hs)
  have g1 : (hE s != 0) = true := by simpa using h
  generalize hE s = r at *
  clear h hs
  go_enter Tryz.func85, Tryz.ntmps85
  go_wp2_with (go_at_call 122; refine HN.out.mono ?_; rintro e w1 ⟨rfl, h1⟩; have H1 := Lib.hid h1; clear h1)
  go_ret2
  exact ⟨rfl, H1.out⟩
set_option maxHeartbeats 4000000 in
theorem rdec10_go (c g n : Nat) (key : Nat → Nat) (t : Nat) (T : Nat → Nat) (s : ByteArray) (w : World) (k : Kt n key t T) (hC : RCip w c g n key t T) (hs : s.size ≤ maxLen) (h1 : 6 ≤ s.size) (h2 : s.size ≤ 32) (he : hE s = 0) :
    Calls Tryz.prog 85 #[.pointer (some ⟨c, 0, none⟩), .string s] w fun e w' => e = .returned (.tuple #[.string (decS n key t T s), .int .i64 0]) ∧ Below w.heap.size w w' := by
  obtain ⟨_, _, z1, z2, i0, i1⟩ := halves_in h1 h2 he
  obtain ⟨tx1, tx2⟩ := halves_text h1 h2 he
  have hn := rnum10_any s w hs
  rw [he] at hn
  have HN := Lib.hid hn
  have hM : MIn (fM n key t T s.size) s.size := fun k x => fM_in h1 h2 k x
  have heV : decS n key t T s = gV (fbk (fM n key t T s.size) s.size 10 (vV (loS s)) (vV (hiS s))).1 (fd s.size 0 : Nat) ++ gV (fbk (fM n key t T s.size) s.size 10 (vV (loS s)) (vV (hiS s))).2 (fd s.size 1 : Nat) := if_pos he
  have HL := Lib.hid (show s.extract 0 (s.size / 2) = gV (vV (loS s)) (fd s.size 0 : Nat) from tx1)
  have HH := Lib.hid (show s.extract (s.size / 2) s.size = gV (vV (hiS s)) (fd s.size 1 : Nat) from tx2)
  have HEV := Lib.hid heV
  clear tx1 tx2 z1 z2 heV hn
  generalize vV (loS s) = a at *
  generalize vV (hiS s) = b at *
  have HDG := Lib.hid fun r (hr : r ≤ 9) W => rdigits_any s.size r W (by omega) (by omega)
  have HFZ := Lib.hid fun r => fd_le (n := s.size) r h1 h2
  have HMK := Lib.hid fun r v (hr : r ≤ 9) hv W (h : RCip W c g n key t T) => rmask_fit (N := s.size) (r := r) (v := v) W k h h1 h2 hr hv
  have HMM := Lib.hid hM
  have HC := Lib.hid hC
  have hsz : ((s.size : Nat) : Int) ≤ 32 := by omega
  obtain ⟨u, hu⟩ : ∃ u, s.size / 2 = u := ⟨_, rfl⟩
  have hui : ((s.size : Nat) : Int) / 2 = (u : Nat) := by omega
  have hus : u ≤ s.size := by omega
  have hus2 : (u : Int) ≤ (s.size : Nat) := by omega
  rw [hu] at HL HH
  rw [show fd s.size 0 = fd s.size 10 from rfl] at i0
  rw [show fd s.size 1 = fd s.size (10 + 1) from rfl] at i1
  have HI := Lib.hid (show inP a (fd s.size 10 : Nat) = true ∧ inP b (fd s.size (10 + 1) : Nat) = true from ⟨i0, i1⟩)
  generalize hR : fbk (fM n key t T s.size) s.size 10 a b = R at *
  have HR := Lib.hid hR
  clear hR
  clear k hC hs he i0 i1 hM h1 h2 hu
  go_enter Tryz.func85, Tryz.ntmps85
  go_wp2_with (go_at_call 122; refine HN.out.mono ?_; rintro e w1 ⟨rfl, h1⟩; have H1 := Lib.hid h1; clear h1)
  rw [HL.out, HH.out]
  go_loopw [8, 9, 10] (fun p q i wr => ∃ (j : Nat) (x y : Int), j ≤ 10 ∧ i = .int .i64 ((j : Int) - 1) ∧ p = .string (gV x (fd s.size j : Nat)) ∧ q = .string (gV y (fd s.size (j + 1) : Nat)) ∧ inP x (fd s.size j : Nat) = true ∧ inP y (fd s.size (j + 1) : Nat) = true ∧ fbk (fM n key t T s.size) s.size j x y = R ∧ Below w.heap.size w wr) (fun _ _ i _ => (intOf i + 1).toNat)
  case atStart => exact ⟨10, a, b, by decide, by go_num, rfl, rfl, HI.out.1, HI.out.2, HR.out, H1.out⟩
  case round =>
    obtain ⟨j, p, q, hj, rfl, rfl, rfl, i2, i3, hfb, h1⟩ := hrel
    have H5 := Lib.hid h1
    clear h1
    cases j with
    | zero =>
      have hz : ((0 : Nat) : Int) - 1 = -1 := rfl
      have HFB := Lib.hid (show (p, q) = R from hfb)
      have g1 := gV_size p (fd s.size 0 : Nat) (by have := HFZ.out 0; omega)
      have g2 := gV_size q (fd s.size (0 + 1) : Nat) (by have := HFZ.out (0 + 1); omega)
      have HEW := Lib.hid (show decS n key t T s = gV p (fd s.size 0 : Nat) ++ gV q (fd s.size (0 + 1) : Nat) by rw [HEV.out, ← HFB.out])
      generalize gV p (fd s.size 0 : Nat) = x at *
      generalize gV q (fd s.size (0 + 1) : Nat) = y at *
      clear i2 i3 hfb
      rw [hz]
      go_wp2_with fail
      go_ret2
      exact ⟨by rw [HEW.out]; rfl, H5.out⟩
    | succ j =>
      have hz : ((j + 1 : Nat) : Int) - 1 = (j : Nat) := by omega
      have hji : (j : Int) ≤ 9 := by omega
      have i4 : inP q (fd s.size j : Nat) = true := by rw [← fd_two]; exact i3
      have HFB := Lib.hid (show fbk (fM n key t T s.size) s.size j (sV q (fM n key t T s.size j p) (fd s.size j : Nat)) p = R from hfb)
      have hmi := HMM.out j p
      have HMJ := Lib.hid fun W h => HMK.out j p (by omega) i2 W h
      have HDJ := Lib.hid fun W => HDG.out j (by omega) W
      have HJ1 := Lib.hid (show j ≤ 10 by omega)
      have HFJ := Lib.hid (fd_two s.size j)
      rw [show j + 1 + 1 = j + 2 from rfl, HFJ.out]
      generalize fM n key t T s.size j p = y at *
      have hai := sV_in i4 hmi
      have HN1 := Lib.hid fun W => number_fit W i4
      have HN2 := Lib.hid fun W => number_fit W i2
      have HTX := Lib.hid fun W => text_fit W hai
      have HAD := Lib.hid fun W => show Calls Tryz.prog 124 #[.int .i64 q, .int .i64 y, .int .i64 (fd s.size j : Nat)] W (fun e w' => e = .returned (.tuple #[.int .i64 (sV q y (fd s.size j : Nat)), .int .i64 0]) ∧ W = w') from (qsub_any q y (fd s.size j : Nat) W).mono fun e w' ⟨he, hw⟩ => ⟨he.trans (by rw [tE_pos i4 hmi]), hw⟩
      have HIZ := Lib.hid hai
      have HI2 := Lib.hid i2
      generalize sV q y (fd s.size j : Nat) = z at *
      clear hmi hai i2 i3 i4 hfb
      generalize hg1 : gV q (fd s.size j : Nat) = sq at *
      generalize hg2 : gV p (fd s.size (j + 1) : Nat) = sp at *
      have HG2 := Lib.hid hg2
      generalize hg3 : gV z (fd s.size j : Nat) = sz at *
      have HG3 := Lib.hid hg3
      clear hg1 hg2 hg3
      rw [hz]
      go_wp2_with fail
      refine (HDJ.out wr).mono ?_
      rintro e w5 ⟨rfl, rfl⟩
      go_wp2_with fail
      refine (HN1.out wr).mono ?_
      rintro e w6 ⟨rfl, n6, rfl⟩
      go_wp2_with fail
      refine (HN2.out _).mono ?_
      rintro e w7 ⟨rfl, n7, rfl⟩
      have H7 := Lib.hid (drawn H5.out (n6 + n7))
      go_wp2_with fail
      refine (HMJ.out _ (HC.out.keep H7.out)).mono ?_
      rintro e w8 ⟨rfl, h1⟩
      have H8 := Lib.hid (H7.out.trans (h1.mono H7.out.size))
      clear h1
      go_wp2_with fail
      refine (HAD.out w8).mono ?_
      rintro e w9 ⟨rfl, rfl⟩
      go_wp2_with fail
      refine (HTX.out w8).mono ?_
      rintro e w10 ⟨rfl, h1⟩
      have H10 := Lib.hid (H8.out.trans (h1.mono H8.out.size))
      clear h1
      go_wp2_with fail
      go_roundw
      case rel => exact ⟨j, z, p, HJ1.out, by go_num, by rw [← HG3.out], by rw [← HG2.out], HIZ.out, HI2.out, HFB.out, H10.out⟩
      case measure => simp [intOf]
theorem rdec10_any (c g n : Nat) (key : Nat → Nat) (t : Nat) (T : Nat → Nat) (s : ByteArray) (w : World) (k : Kt n key t T) (hC : RCip w c g n key t T) (hs : s.size ≤ maxLen) :
    Calls Tryz.prog 85 #[.pointer (some ⟨c, 0, none⟩), .string s] w fun e w' => e = .returned (.tuple #[.string (decS n key t T s), .int .i64 (hE s)]) ∧ Below w.heap.size w w' := by
  by_cases he : hE s = 0
  · have hl : ¬ (s.size < 6 ∨ 32 < s.size) := fun hl => by rw [hE_one hl] at he; cases he
    rw [he]
    exact rdec10_go c g n key t T s w k hC hs (by omega) (by omega) he
  · rw [show decS n key t T s = ⟨#[]⟩ from if_neg he]
    exact rdec10_bad c s w hs he
end Go.Proofs.YthmlcmlpmolmoaaGreatDoor
namespace Go.Proofs.YthmlcmlpmolmoaaGreatDoor
set_option maxRecDepth 100000
open Go.RowKit
theorem text_low (n : Nat) (h : n < 10) (w : World) :
    Calls Tryz.prog 82 #[.int .i64 n] w fun e w' => e = .returned (.string (itoaB n)) ∧ Below w.heap.size w w' := by
  have HI := Lib.hid (show itoaB n = ⟨#[chr (48 + n)]⟩ by rw [itoaB_nat, Lib.decDigits_one h]; rfl)
  have hcv := conv1 (48 + n) w
  rw [show ((48 : Int) + n).toNat = 48 + n by omega] at hcv
  go_enter Tryz.func82, Tryz.ntmps82
  go_wp2_with fail
  go_ret
  exact ⟨by rw [HI.out]; rfl, (Below.refl w.heap.size w).alloc (Nat.le_refl _) _⟩
def txG (n q r : Nat) (tn : ByteArray) (cr : UInt8) : Nat → Value → World → Prop
  | 0, v, _ => v = .int .i64 (n : Nat)
  | 1, v, _ => v = .int .i64 (q : Nat)
  | 2, v, _ => v = .string tn
  | 3, v, _ => v = .int .i64 (n : Nat)
  | 4, v, _ => v = .int .i64 (r : Nat)
  | 5, v, _ => v = .int .i64 ((48 + r : Nat) : Int)
  | 6, v, _ => v = .int .u8 ((48 + r : Nat) : Int)
  | 7, v, w => ∃ B, v = .slice (some ⟨B, 0, none⟩) 1 1 ∧ w.cell? ⟨B, 0, none⟩ = some (.int .u8 ((48 + r : Nat) : Int))
  | 8, v, _ => v = .string ⟨#[cr]⟩
  | 9, v, _ => v = .string (tn ++ ⟨#[cr]⟩)
  | 10, v, _ => v = .string (tn ++ ⟨#[cr]⟩)
  | _, _, _ => True
theorem txG_stays (n q r : Nat) (tn : ByteArray) (cr : UInt8) : ∀ i v w w', txG n q r tn cr i v w → Below w.heap.size w w' → txG n q r tn cr i v w'
  | 0, _, _, _, h, _ => h
  | 1, _, _, _, h, _ => h
  | 2, _, _, _, h, _ => h
  | 3, _, _, _, h, _ => h
  | 4, _, _, _, h, _ => h
  | 5, _, _, _, h, _ => h
  | 6, _, _, _, h, _ => h
  | 7, v, w, w', h_, hb => by
    obtain ⟨B, h1, h2⟩ := h_; exact ⟨B, h1, (hb.cell (block_lt h2)).trans h2⟩
  | 8, _, _, _, h, _ => h
  | 9, _, _, _, h, _ => h
  | 10, _, _, _, h, _ => h
  | _ + 11, _, _, _, _, _ => trivial
set_option maxRecDepth 100000 in
set_option maxHeartbeats 1600000 in
theorem text_step (n q r : Nat) (cr : UInt8) (h10 : 10 ≤ n) (hn : n < 1000) (hq : n / 10 = q) (hr : n % 10 = r) (hcr : chr (48 + r) = cr) (tn : ByteArray) (ht : tn.size ≤ 100)
    (hT : ∀ W, Calls Tryz.prog 82 #[.int .i64 (q : Nat)] W fun e w' => e = .returned (.string tn) ∧ Below W.heap.size W w') (w : World) :
    Calls Tryz.prog 82 #[.int .i64 n] w fun e w' => e = .returned (.string (tn ++ ⟨#[cr]⟩)) ∧ Below w.heap.size w w' := by
  have hr9 : r ≤ 9 := by omega
  have HT := Lib.hid hT
  have HCV := Lib.hid (show ∀ (W : World) (B : Nat), W.cell? ⟨B, 0, none⟩ = some (.int .u8 ((48 + r : Nat) : Int)) → (convert 22 9 (.slice (some ⟨B, 0, none⟩) 1 1)).run Tryz.prog W = .ok (.string ⟨#[cr]⟩) W from
    fun W B h => by rw [← hcr]; exact conv1c _ W B h)
  have hq2 : (n : Int).tdiv 10 = (q : Nat) := by rw [Int.tdiv_eq_ediv_of_nonneg (by omega)]; omega
  have hr2 : (n : Int).tmod 10 = (r : Nat) := by rw [Int.tmod_eq_emod_of_nonneg (by omega)]; omega
  have HQ := Lib.hid (show ∀ W : World, (binOp .quo 3 (.int .i64 (n : Nat)) (.int .i64 10)).run Tryz.prog W = .ok (.int .i64 (q : Nat)) W from fun W => by
    go_simp
    exact IntWalk.i64_in _ (by omega))
  have HR := Lib.hid (show ∀ W : World, (binOp .rem 3 (.int .i64 (n : Nat)) (.int .i64 10)).run Tryz.prog W = .ok (.int .i64 (r : Nat)) W from fun W => by go_simp)
  have HS := Lib.hid (show ∀ W : World, (binOp .add 3 (.int .i64 48) (.int .i64 (r : Nat))).run Tryz.prog W = .ok (.int .i64 ((48 + r : Nat) : Int)) W from fun W => by
    go_simp
    exact IntWalk.i64_in _ (by omega))
  have HC := Lib.hid (show ∀ W : World, (convert 3 5 (.int .i64 ((48 + r : Nat) : Int))).run Tryz.prog W = .ok (.int .u8 ((48 + r : Nat) : Int)) W from fun W => by
    go_simp
    exact IntWalk.u8_in _ (by omega))
  have hz : (tn ++ (⟨#[cr]⟩ : ByteArray)).size ≤ 101 := by rw [ByteArray.size_append]; show tn.size + 1 ≤ 101; omega
  have HA := Lib.hid (show ∀ W : World, (binOp .add 9 (.string tn) (.string ⟨#[cr]⟩)).run Tryz.prog W = .ok (.string (tn ++ ⟨#[cr]⟩)) W from fun W => by
    go_simp
    omega)
  clear hT hq hr hcr hq2 hr2 hz ht
  have hn10 : ¬ (n : Int) < 10 := by omega
  go_enter Tryz.func82, Tryz.ntmps82
  go_wp2_with fail
  refine wp_region_any (by kernel_rfl) ?_
  change wpAny _ _ _ _ _ _ _ w.drew
  refine ord.wpAny_ord [[], [0], [1], [], [3], [4], [5], [6], [7], [2, 8], [9]] [(0, 10), (1, 11), (2, 12), (3, 13), (4, 14), (5, 15), (6, 16), (7, 17), (8, 18), (9, 19), (10, 2)] (txG n q r tn cr) (by kernel_rfl) (by kernel_rfl) (txG_stays _ _ _ _ _) ((ord.steps_cons ?_ (ord.steps_cons ?_ (ord.steps_cons ?_ (ord.steps_cons ?_ (ord.steps_cons ?_ (ord.steps_cons ?_ (ord.steps_cons ?_ (ord.steps_cons ?_ (ord.steps_cons ?_ (ord.steps_cons ?_ (ord.steps_cons ?_ ord.steps_nil)))))))))))) ?_
  · intro o ho x w hb hG
    obtain rfl := Option.some.inj ho
    clear ho
    refine Or.inl ⟨ord.want0 rfl, ?_⟩
    exact ord.makes_move rfl ⟨Below.refl _ _, rfl⟩
  · intro o ho x w hb hG
    obtain rfl := Option.some.inj ho
    clear ho
    have h10 : x 0 = .int .i64 (n : Nat) := hG (0, 10) (List.mem_of_getElem? (i := 0) rfl) rfl
    refine Or.inl ⟨ord.want0 rfl, ?_⟩
    exact ord.makes_bin rfl h10 rfl (by exact HQ.out w) ⟨Below.refl _ _, rfl⟩
  · intro o ho x w hb hG
    obtain rfl := Option.some.inj ho
    clear ho
    have h11 : x 1 = .int .i64 (q : Nat) := hG (1, 11) (List.mem_of_getElem? (i := 1) rfl) rfl
    refine Or.inl ⟨ord.want0 rfl, ?_⟩
    exact ord.makes_call1 Tryz.func82 (by kernel_rfl) (by kernel_rfl) rfl h11 (HT.out w) (fun e w' h => ⟨_, h.1, h.2, rfl⟩)
  · intro o ho x w hb hG
    obtain rfl := Option.some.inj ho
    clear ho
    refine Or.inl ⟨ord.want0 rfl, ?_⟩
    exact ord.makes_move rfl ⟨Below.refl _ _, rfl⟩
  · intro o ho x w hb hG
    obtain rfl := Option.some.inj ho
    clear ho
    have h13 : x 3 = .int .i64 (n : Nat) := hG (3, 13) (List.mem_of_getElem? (i := 3) rfl) rfl
    refine Or.inl ⟨ord.want0 rfl, ?_⟩
    exact ord.makes_bin rfl h13 rfl (by exact HR.out w) ⟨Below.refl _ _, rfl⟩
  · intro o ho x w hb hG
    obtain rfl := Option.some.inj ho
    clear ho
    have h14 : x 4 = .int .i64 (r : Nat) := hG (4, 14) (List.mem_of_getElem? (i := 4) rfl) rfl
    refine Or.inl ⟨ord.want0 rfl, ?_⟩
    exact ord.makes_bin rfl rfl h14 (by exact HS.out w) ⟨Below.refl _ _, rfl⟩
  · intro o ho x w hb hG
    obtain rfl := Option.some.inj ho
    clear ho
    have h15 : x 5 = .int .i64 ((48 + r : Nat) : Int) := hG (5, 15) (List.mem_of_getElem? (i := 5) rfl) rfl
    refine Or.inl ⟨ord.want0 rfl, ?_⟩
    exact ord.makes_conv rfl h15 (HC.out w) ⟨Below.refl _ _, rfl⟩
  · intro o ho x w hb hG
    obtain rfl := Option.some.inj ho
    clear ho
    have h16 : x 6 = .int .u8 ((48 + r : Nat) : Int) := hG (6, 16) (List.mem_of_getElem? (i := 6) rfl) rfl
    refine Or.inl ⟨ord.want0 rfl, ?_⟩
    exact ord.makes_build1 rfl h16 (run_byte1 w _) ⟨(Below.refl _ _).alloc (Nat.le_refl _) _, _, rfl, (World.cell?_alloc_at _ _ _ _ rfl).trans rfl⟩
  · intro o ho x w hb hG
    obtain rfl := Option.some.inj ho
    clear ho
    have h17 : txG n q r tn cr 7 (x 7) w := hG (7, 17) (List.mem_of_getElem? (i := 7) rfl) rfl
    refine Or.inl ⟨ord.want0 rfl, ?_⟩
    obtain ⟨B, hv, hc⟩ := h17
    exact ord.makes_conv rfl hv (HCV.out w B hc) ⟨Below.refl _ _, rfl⟩
  · intro o ho x w hb hG
    obtain rfl := Option.some.inj ho
    clear ho
    have h12 : x 2 = .string tn := hG (2, 12) (List.mem_of_getElem? (i := 2) rfl) rfl
    have h18 : x 8 = .string ⟨#[cr]⟩ := hG (8, 18) (List.mem_of_getElem? (i := 8) rfl) rfl
    refine Or.inl ⟨ord.want0 rfl, ?_⟩
    exact ord.makes_bin rfl h12 h18 (by exact HA.out w) ⟨Below.refl _ _, rfl⟩
  · intro o ho x w hb hG
    obtain rfl := Option.some.inj ho
    clear ho
    have h19 : x 9 = .string (tn ++ ⟨#[cr]⟩) := hG (9, 19) (List.mem_of_getElem? (i := 9) rfl) rfl
    refine Or.inl ⟨ord.want0 rfl, ?_⟩
    exact ord.makes_assign rfl ⟨Below.refl _ _, h19⟩
  · intro x w6 hb hG
    have e0 : x 10 = .string (tn ++ ⟨#[cr]⟩) := hG (10, 2) (List.mem_of_getElem? (i := 10) rfl)
    clear hG
    simp only [ord.puts, ord.put', List.set_cons_zero, List.set_cons_succ, if_true]
    rw [e0]
    go_wp2_with fail
    go_ret
    exact ⟨rfl, (Below.refl w.heap.size w).drew.trans hb⟩
theorem rtext11_any {v : Int} (h1 : 0 ≤ v) (h2 : v ≤ 999) (w : World) :
    Calls Tryz.prog 82 #[.int .i64 v] w fun e w' => e = .returned (.string (itoaB v)) ∧ Below w.heap.size w w' := by
  obtain ⟨n, rfl⟩ : ∃ n : Nat, v = n := ⟨v.toNat, by omega⟩
  by_cases ha : n < 10
  · exact text_low n ha w
  · have step : ∀ m : Nat, 10 ≤ m → itoaB m = itoaB (m / 10 : Nat) ++ ⟨#[chr (48 + m % 10)]⟩ := fun m hm => by
      rw [itoaB_nat, itoaB_nat, Lib.decDigits, dif_neg (by omega)]
      apply ba_ext
      rw [app_list]
      rfl
    by_cases hb : n < 100
    · rw [step n (by omega)]
      exact text_step n (n / 10) (n % 10) _ (by omega) (by omega) rfl rfl rfl _ (Nat.le_trans (itoaB_size _ (by omega) (by omega)) (by decide)) (fun W => text_low (n / 10) (by omega) W) w
    · rw [step n (by omega)]
      refine text_step n (n / 10) (n % 10) _ (by omega) (by omega) rfl rfl rfl _ (Nat.le_trans (itoaB_size _ (by omega) (by omega)) (by decide)) (fun W => ?_) w
      rw [step (n / 10) (by omega)]
      exact text_step (n / 10) (n / 10 / 10) (n / 10 % 10) _ (by omega) (by omega) rfl rfl rfl _ (Nat.le_trans (itoaB_size _ (by omega) (by omega)) (by decide)) (fun W => text_low (n / 10 / 10) (by omega) W) W
end Go.Proofs.YthmlcmlpmolmoaaGreatDoor
namespace Go.Proofs.YthmlcmlpmolmoaaGreatDoor
open Go.RowKit
set_option maxHeartbeats 400000 in
theorem digsum_any (s : ByteArray) (w : World) (hs : s.size ≤ 1000) (hd : s.data.toList.all isDig = true) :
    Calls Tryz.prog 120 #[.string s] w fun e w' => e = .returned (.int .i64 (psum s.size 0 s s.size)) ∧ w = w' := by
  have HD := Lib.hid hd
  clear hd
  go_enter Tryz.func120, Tryz.ntmps120
  go_wp2
  go_loop [3, 4] (fun t i => ∃ k : Nat, k ≤ s.size ∧ i = .int .i64 k ∧ t = .int .i64 (psum s.size 0 s k)) (fun _ i => s.size - (intOf i).toNat)
  case atStart => exact ⟨0, Nat.zero_le _, rfl, rfl⟩
  case round =>
    obtain ⟨k, hk, rfl, rfl⟩ := hrel
    by_cases hlt : k < s.size
    · obtain ⟨hb1, hb2⟩ := dig_at s k hlt HD.out
      have hps := psum_le s.size 0 s HD.out k
      have HS := Lib.hid (show psum s.size 0 s (k+1) = psum s.size 0 s k + wt (s.size - 1 - k) (s[k].toNat - 48) by rw [← dg_eq s k hlt]; rfl)
      go_wp2
      all_goals
        go_round
        case rel => exact ⟨k + 1, by omega, by go_num, fin1 HS.out rfl (by unfold wt; simp only [beq_iff_eq, beq_eq_false_iff_ne] at *; split <;> (try split) <;> omega)⟩
        case measure => simp [intOf]; omega
    · have e : k = s.size := by omega
      subst e
      go_wp2
      go_ret
      exact ⟨rfl, rfl⟩
set_option maxHeartbeats 400000 in
theorem rvalid_any (s : ByteArray) (w : World) (hs : s.size ≤ maxLen) :
    Calls Tryz.prog 81 #[.string s] w fun e w' => e = .returned (.bool (validB s)) ∧ w = w' := by
  by_cases hf : faultOf s.data.toList = 0
  · obtain ⟨hd, hl⟩ := fault_zero hf
    have hl' : s.size ≤ 999 := by rw [Array.length_toList] at hl; exact hl
    have HD := Lib.hid hd
    have HF := Lib.hid hf
    have hp := psum_le s.size 0 s hd s.size
    by_cases h0 : s.size = 0
    · have h00 : ¬ (0 : Int) < s.size := by omega
      have h01 : decide (0 < s.size) = false := decide_eq_false (by omega)
      have HB := Lib.hid (show validB s = false by unfold validB; rw [h01]; simp)
      clear hf hd hl h0
      go_enter Tryz.func81, Tryz.ntmps81
      go_wp2_with (first | (go_at_call 102; refine (texts_any s _ hs).mono ?_; rintro e w' ⟨rfl, rfl⟩; rw [HF.out]))
      go_ret
      exact ⟨by rw [HB.out]; rfl, rfl⟩
    · have h00 : (0 : Int) < s.size := by omega
      have h01 : decide (0 < s.size) = true := decide_eq_true (by omega)
      have HB := Lib.hid (show validB s = ((psum s.size 0 s s.size : Int) % 10 == 0) by
        unfold validB; rw [h01, hf]; simp only [Bool.true_and, decide_true]; rw [Bool.eq_iff_iff]; simp; omega)
      clear hf hd hl h0
      go_enter Tryz.func81, Tryz.ntmps81
      go_wp2_with (first | (go_at_call 102; refine (texts_any s _ hs).mono ?_; rintro e w' ⟨rfl, rfl⟩; rw [HF.out]) | (go_at_call 120; refine (digsum_any s _ (by omega) HD.out).mono ?_; rintro e w' ⟨rfl, rfl⟩))
      go_ret
      exact ⟨by rw [HB.out]; rfl, rfl⟩
  · have hf' : (faultOf s.data.toList == 0) = false := by simpa using hf
    have HB := Lib.hid (show validB s = false by unfold validB; rw [decide_eq_false hf]; simp)
    clear hf
    go_enter Tryz.func81, Tryz.ntmps81
    go_wp2_with (go_at_call 102; refine (texts_any s _ hs).mono ?_; rintro e w' ⟨rfl, rfl⟩)
    go_ret
    exact ⟨by rw [HB.out]; rfl, rfl⟩
end Go.Proofs.YthmlcmlpmolmoaaGreatDoor
namespace Go.Proofs.YthmlcmlpmolmoaaGreatDoor
set_option maxRecDepth 100000
open Go.RowKit
theorem rpack_all (s : ByteArray) (w : World) (hs : s.size ≤ maxLen) :
    Calls Tryz.prog 57 #[.string s] w fun e w' => (∃ v, e = .returned (.tuple #[v, .int .i64 (faultOf s.data.toList)])) ∧ Below w.heap.size w w' := by
  by_cases h : faultOf s.data.toList = 0
  · obtain ⟨hd, hl⟩ := fault_zero h
    exact (rpack_ok s w hd (by rw [Array.length_toList] at hl; exact hl)).mono fun e w' ⟨v, he, _, hb⟩ => ⟨⟨v, by rw [h]; exact he⟩, hb⟩
  · exact (rpack_bad s w hs h).mono fun e w' ⟨he, hw⟩ => ⟨⟨_, he⟩, hw ▸ Below.refl _ _⟩
set_option maxHeartbeats 800000 in
theorem rshaped_any (s : ByteArray) (w : World) (hs : s.size ≤ maxLen) :
    Calls Tryz.prog 28 #[.string s] w fun e w' => e = .returned (.bool (shp s)) ∧ Below w.heap.size w w' := by
  have HS := Lib.hid hs
  unfold maxLen at hs
  by_cases hf : faultOf s.data.toList = 0
  · have hd := (fault_zero hf).1
    have HF := Lib.hid hf
    have HV := Lib.hid (show shp s = (decide (16 ≤ s.size) && decide (s.size ≤ 19)) by unfold shp; rw [hd]; rfl)
    clear hf hd
    by_cases h1 : 16 ≤ s.size
    · have h1' : decide ((16 : Int) ≤ s.size) = true := by simp; omega
      have e1 : decide (16 ≤ s.size) = true := by simp; omega
      by_cases h2 : s.size ≤ 19
      · have h2' : decide ((s.size : Int) ≤ 19) = true := by simp; omega
        have HR := Lib.hid (show shp s = true by rw [HV.out, e1, decide_eq_true h2]; rfl)
        clear h1 h2 e1 HV
        go_enter Tryz.func28, Tryz.ntmps28
        go_wp2_with (go_at_call 57; refine (rpack_all s _ HS.out).mono ?_; rintro e w1 ⟨⟨v, rfl⟩, hb⟩; rw [HF.out])
        go_ret
        exact ⟨by rw [HR.out]; rfl, hb⟩
      · have h2' : decide ((s.size : Int) ≤ 19) = false := by simp; omega
        have HR := Lib.hid (show shp s = false by rw [HV.out, e1, decide_eq_false h2]; rfl)
        clear h1 h2 e1 HV
        go_enter Tryz.func28, Tryz.ntmps28
        go_wp2_with (go_at_call 57; refine (rpack_all s _ HS.out).mono ?_; rintro e w1 ⟨⟨v, rfl⟩, hb⟩; rw [HF.out])
        go_ret
        exact ⟨by rw [HR.out]; rfl, hb⟩
    · have h1' : decide ((16 : Int) ≤ s.size) = false := by simp; omega
      have HR := Lib.hid (show shp s = false by rw [HV.out, decide_eq_false h1]; rfl)
      clear h1 HV
      go_enter Tryz.func28, Tryz.ntmps28
      go_wp2_with (go_at_call 57; refine (rpack_all s _ HS.out).mono ?_; rintro e w1 ⟨⟨v, rfl⟩, hb⟩; rw [HF.out])
      go_ret
      exact ⟨by rw [HR.out]; rfl, hb⟩
  · have HR := Lib.hid (show shp s = false by
      cases h : shp s with
      | false => rfl
      | true =>
        obtain ⟨h1, _, h3⟩ := shp_parts h
        exact absurd (fault_ok h1 (by rw [Array.length_toList]; show s.size ≤ 999; omega)) hf)
    have hf' : (faultOf s.data.toList == 0) = false := by simpa using hf
    clear hf
    go_enter Tryz.func28, Tryz.ntmps28
    go_wp2_with (go_at_call 57; refine (rpack_all s _ HS.out).mono ?_; rintro e w1 ⟨⟨v, rfl⟩, hb⟩)
    go_ret
    exact ⟨by rw [HR.out]; rfl, hb⟩
theorem ris_any (s : ByteArray) (w : World) (hs : s.size ≤ maxLen) :
    Calls Tryz.prog 43 #[.string s] w fun e w' => e = .returned (.bool (isV s)) ∧ Below w.heap.size w w' := by
  cases hz : shp s with
  | false =>
    have HR := Lib.hid (show isV s = false by unfold isV; rw [hz]; rfl)
    have HZ := Lib.hid hz
    clear hz
    go_enter Tryz.func43, Tryz.ntmps43
    go_wp2_with (go_at_call 28; refine (rshaped_any s _ hs).mono ?_; rintro e w1 ⟨rfl, hb⟩; rw [HZ.out])
    go_ret
    exact ⟨by rw [HR.out]; rfl, hb⟩
  | true =>
    have HR := Lib.hid (show isV s = validB s by unfold isV; rw [hz]; rfl)
    have HZ := Lib.hid hz
    clear hz
    go_enter Tryz.func43, Tryz.ntmps43
    go_wp2_with (first | (go_at_call 28; refine (rshaped_any s _ hs).mono ?_; rintro e w1 ⟨rfl, hb⟩; rw [HZ.out]) | (go_at_call 81; refine (rvalid_any s _ hs).mono ?_; rintro e w2 ⟨rfl, rfl⟩))
    go_ret
    exact ⟨by rw [HR.out]; rfl, hb⟩
set_option maxHeartbeats 800000 in
theorem rcut11_any (s : ByteArray) (w : World) (hs : s.size ≤ maxLen) :
    Calls Tryz.prog 83 #[.string s] w fun e w' => e = .returned (.tuple #[.string (pB s), .string (pM s), .string (pL s), .int .i64 (cutE s)]) ∧ Below w.heap.size w w' := by
  have HS := Lib.hid hs
  unfold maxLen at hs
  cases hz : shp s with
  | false =>
    have HR := Lib.hid (show pB s = ⟨#[]⟩ ∧ pM s = ⟨#[]⟩ ∧ pL s = ⟨#[]⟩ ∧ cutE s = 10 from ⟨pB_no hz, pM_no hz, pL_no hz, by unfold cutE; rw [hz]; rfl⟩)
    have HZ := Lib.hid hz
    clear hz
    go_enter Tryz.func83, Tryz.ntmps83
    go_wp2_with (go_at_call 28; refine (rshaped_any s _ HS.out).mono ?_; rintro e w1 ⟨rfl, hb⟩; rw [HZ.out])
    exact bodyPost_ret (v := .tuple #[.string ⟨#[]⟩, .string ⟨#[]⟩, .string ⟨#[]⟩, .int .i64 10]) (by simp [results, Tryz.results83, go_sem]) rfl ⟨by rw [HR.out.1, HR.out.2.1, HR.out.2.2.1, HR.out.2.2.2], hb⟩
  | true =>
    obtain ⟨_, h1, h2⟩ := shp_parts hz
    obtain ⟨n, hn, hn2⟩ : ∃ n : Nat, (s.size : Int) - 4 = n ∧ n = s.size - 4 := ⟨s.size - 4, by omega, rfl⟩
    have hns : n ≤ s.size := by omega
    have hn6 : 6 ≤ n := by omega
    have HR := Lib.hid (show pB s = s.extract 0 6 ∧ pM s = s.extract 6 n ∧ pL s = s.extract n s.size ∧ cutE s = 0 from ⟨pB_yes hz, by rw [pM_yes hz, hn2], by rw [pL_yes hz, hn2], by unfold cutE; rw [hz]; rfl⟩)
    have HZ := Lib.hid hz
    clear hz hn2
    go_enter Tryz.func83, Tryz.ntmps83
    go_wp2_with (go_at_call 28; refine (rshaped_any s _ HS.out).mono ?_; rintro e w1 ⟨rfl, hb⟩; rw [HZ.out])
    go_quiet (fail)
    go_wp2_with fail
    exact bodyPost_ret (v := .tuple #[.string (s.extract 0 6), .string (s.extract 6 n), .string (s.extract n s.size), .int .i64 0]) (by simp [results, Tryz.results83, go_sem]) rfl ⟨by rw [HR.out.1, HR.out.2.1, HR.out.2.2.1, HR.out.2.2.2], drawn hb _⟩
end Go.Proofs.YthmlcmlpmolmoaaGreatDoor
