/- Law ShaRoots. Written by wip/specs/mkroots.py. -/
import Derived.Test.YtcmhnelonainhaaDoorLaw05k
namespace Go.Proofs.YtcmhnelonainhaaDoor
open Go.RowKit
theorem pr_lit : (#[.int .i64 2, .int .i64 3, .int .i64 5, .int .i64 7, .int .i64 11, .int .i64 13, .int .i64 17, .int .i64 19, .int .i64 23, .int .i64 29, .int .i64 31, .int .i64 37, .int .i64 41, .int .i64 43, .int .i64 47, .int .i64 53, .int .i64 59, .int .i64 61, .int .i64 67, .int .i64 71, .int .i64 73, .int .i64 79, .int .i64 83, .int .i64 89, .int .i64 97, .int .i64 101, .int .i64 103, .int .i64 107, .int .i64 109, .int .i64 113, .int .i64 127, .int .i64 131, .int .i64 137, .int .i64 139, .int .i64 149, .int .i64 151, .int .i64 157, .int .i64 163, .int .i64 167, .int .i64 173, .int .i64 179, .int .i64 181, .int .i64 191, .int .i64 193, .int .i64 197, .int .i64 199, .int .i64 211, .int .i64 223, .int .i64 227, .int .i64 229, .int .i64 233, .int .i64 239, .int .i64 241, .int .i64 251, .int .i64 257, .int .i64 263, .int .i64 269, .int .i64 271, .int .i64 277, .int .i64 281, .int .i64 283, .int .i64 293, .int .i64 307, .int .i64 311] : Array Value) = (valsL 64 (ints pr)).toArray := by kernel_rfl
theorem pr_cell (w : World) (k : Nat) (hk : k < 64) : (w.alloc (.cells #[.int .i64 2, .int .i64 3, .int .i64 5, .int .i64 7, .int .i64 11, .int .i64 13, .int .i64 17, .int .i64 19, .int .i64 23, .int .i64 29, .int .i64 31, .int .i64 37, .int .i64 41, .int .i64 43, .int .i64 47, .int .i64 53, .int .i64 59, .int .i64 61, .int .i64 67, .int .i64 71, .int .i64 73, .int .i64 79, .int .i64 83, .int .i64 89, .int .i64 97, .int .i64 101, .int .i64 103, .int .i64 107, .int .i64 109, .int .i64 113, .int .i64 127, .int .i64 131, .int .i64 137, .int .i64 139, .int .i64 149, .int .i64 151, .int .i64 157, .int .i64 163, .int .i64 167, .int .i64 173, .int .i64 179, .int .i64 181, .int .i64 191, .int .i64 193, .int .i64 197, .int .i64 199, .int .i64 211, .int .i64 223, .int .i64 227, .int .i64 229, .int .i64 233, .int .i64 239, .int .i64 241, .int .i64 251, .int .i64 257, .int .i64 263, .int .i64 269, .int .i64 271, .int .i64 277, .int .i64 281, .int .i64 283, .int .i64 293, .int .i64 307, .int .i64 311] 3)).cell? ⟨w.heap.size, k, none⟩ = some (.int .i64 (pr k : Nat)) := by
  rw [pr_lit]
  exact (arrV_made w _ 3 64 (ints pr) rfl).cell hk (Nat.zero_add k).symm
theorem wh3_ok {i : Nat} (h : i < 64) : 1 ≤ wh3 (pr i) ∧ wh3 (pr i) * wh3 (pr i) * wh3 (pr i) ≤ pr i ∧ pr i < (wh3 (pr i) + 1) * (wh3 (pr i) + 1) * (wh3 (pr i) + 1) :=
  (show ∀ i, i < 64 → 1 ≤ wh3 (pr i) ∧ wh3 (pr i) * wh3 (pr i) * wh3 (pr i) ≤ pr i ∧ pr i < (wh3 (pr i) + 1) * (wh3 (pr i) + 1) * (wh3 (pr i) + 1) by decide +kernel) i h
theorem wh2_ok {i : Nat} (h : i < 8) : 1 ≤ wh2 (pr i) ∧ wh2 (pr i) * wh2 (pr i) ≤ pr i ∧ pr i < (wh2 (pr i) + 1) * (wh2 (pr i) + 1) :=
  (show ∀ i, i < 8 → 1 ≤ wh2 (pr i) ∧ wh2 (pr i) * wh2 (pr i) ≤ pr i ∧ pr i < (wh2 (pr i) + 1) * (wh2 (pr i) + 1) by decide +kernel) i h
theorem word_roots {i : Nat} (hi : i < 64) : (wh3 (pr i) * 4294967296 + kc i) * (wh3 (pr i) * 4294967296 + kc i) * (wh3 (pr i) * 4294967296 + kc i) < pr i * 64 * 262144 ^ 5 ∧ pr i * 64 * 262144 ^ 5 ≤ (wh3 (pr i) * 4294967296 + kc i + 1) * (wh3 (pr i) * 4294967296 + kc i + 1) * (wh3 (pr i) * 4294967296 + kc i + 1) :=
  (show ∀ i, i < 64 → (wh3 (pr i) * 4294967296 + kc i) * (wh3 (pr i) * 4294967296 + kc i) * (wh3 (pr i) * 4294967296 + kc i) < pr i * 64 * 262144 ^ 5 ∧ pr i * 64 * 262144 ^ 5 ≤ (wh3 (pr i) * 4294967296 + kc i + 1) * (wh3 (pr i) * 4294967296 + kc i + 1) * (wh3 (pr i) * 4294967296 + kc i + 1) by decide +kernel) i hi
theorem start_roots {i : Nat} (hi : i < 8) : (wh2 (pr i) * 4294967296 + at8 st0 i) * (wh2 (pr i) * 4294967296 + at8 st0 i) < pr i * 1024 * 262144 ^ 3 ∧ pr i * 1024 * 262144 ^ 3 ≤ (wh2 (pr i) * 4294967296 + at8 st0 i + 1) * (wh2 (pr i) * 4294967296 + at8 st0 i + 1) :=
  (show ∀ i, i < 8 → (wh2 (pr i) * 4294967296 + at8 st0 i) * (wh2 (pr i) * 4294967296 + at8 st0 i) < pr i * 1024 * 262144 ^ 3 ∧ pr i * 1024 * 262144 ^ 3 ≤ (wh2 (pr i) * 4294967296 + at8 st0 i + 1) * (wh2 (pr i) * 4294967296 + at8 st0 i + 1) by decide +kernel) i hi
theorem pr_le8 {i : Nat} (h : i < 8) : pr i ≤ 19 := (show ∀ i, i < 8 → pr i ≤ 19 by decide +kernel) i h
theorem num_two (u : Nat) : num 262144 2 (t2 (u % 262144) (u / 262144)) = u := by
  show 0 + u % 262144 * 1 + u / 262144 * 262144 = u
  omega
theorem t2_lt {u : Nat} (h : u < 68719476736) (j : Nat) : t2 (u % 262144) (u / 262144) j < 262144 := by unfold t2; split <;> omega
set_option maxRecDepth 100000 in
set_option maxHeartbeats 3200000 in
theorem roots_any (z : Int) (w : World) (ht : GT w) :
    Calls Tryd.prog 7 #[.int .i64 z] w fun e w' => e = .returned (.bool true) ∧ Below w.heap.size w w' := by
  have HT := Lib.hid ht
  clear ht
  obtain ⟨k, hk⟩ : ∃ k : Nat, (k : Int) = z % 64 := ⟨(z % 64).toNat, by omega⟩
  have hk64 : k < 64 := by omega
  have hki : (k : Int) < 64 := by omega
  have hmask : bits BinOp.and .i64 z 63 = (k : Nat) := (i64_mask 6 63 (by decide) (by decide) z).trans hk.symm
  clear hk
  have HC := Lib.hid (fun w : World => pr_cell w k hk64)
  have HWK := Lib.hid (wh3_ok hk64)
  have HPL := Lib.hid (pr_le hk64)
  go_enter Tryd.func7, Tryd.ntmps7
  go_wp2_with fail
  refine (small_any _ HT.out).mono ?_
  rintro e w1 ⟨rfl, hb1⟩
  have HB1 := Lib.hid hb1
  clear hb1
  have hcell := HC.out w1
  obtain ⟨p, hp⟩ : ∃ p, pr k = p := ⟨_, rfl⟩
  rw [hp] at hcell HWK HPL
  have HPE := Lib.hid hp
  clear hp
  go_wp2_with fail
  have HB2 := Lib.hid (HB1.out.alloc HB1.out.size (.cells #[.int .i64 2, .int .i64 3, .int .i64 5, .int .i64 7, .int .i64 11, .int .i64 13, .int .i64 17, .int .i64 19, .int .i64 23, .int .i64 29, .int .i64 31, .int .i64 37, .int .i64 41, .int .i64 43, .int .i64 47, .int .i64 53, .int .i64 59, .int .i64 61, .int .i64 67, .int .i64 71, .int .i64 73, .int .i64 79, .int .i64 83, .int .i64 89, .int .i64 97, .int .i64 101, .int .i64 103, .int .i64 107, .int .i64 109, .int .i64 113, .int .i64 127, .int .i64 131, .int .i64 137, .int .i64 139, .int .i64 149, .int .i64 151, .int .i64 157, .int .i64 163, .int .i64 167, .int .i64 173, .int .i64 179, .int .i64 181, .int .i64 191, .int .i64 193, .int .i64 197, .int .i64 199, .int .i64 211, .int .i64 223, .int .i64 227, .int .i64 229, .int .i64 233, .int .i64 239, .int .i64 241, .int .i64 251, .int .i64 257, .int .i64 263, .int .i64 269, .int .i64 271, .int .i64 277, .int .i64 281, .int .i64 283, .int .i64 293, .int .i64 307, .int .i64 311] 3))
  clear hcell HC
  generalize w1.alloc (.cells #[.int .i64 2, .int .i64 3, .int .i64 5, .int .i64 7, .int .i64 11, .int .i64 13, .int .i64 17, .int .i64 19, .int .i64 23, .int .i64 29, .int .i64 31, .int .i64 37, .int .i64 41, .int .i64 43, .int .i64 47, .int .i64 53, .int .i64 59, .int .i64 61, .int .i64 67, .int .i64 71, .int .i64 73, .int .i64 79, .int .i64 83, .int .i64 89, .int .i64 97, .int .i64 101, .int .i64 103, .int .i64 107, .int .i64 109, .int .i64 113, .int .i64 127, .int .i64 131, .int .i64 137, .int .i64 139, .int .i64 149, .int .i64 151, .int .i64 157, .int .i64 163, .int .i64 167, .int .i64 173, .int .i64 179, .int .i64 181, .int .i64 191, .int .i64 193, .int .i64 197, .int .i64 199, .int .i64 211, .int .i64 223, .int .i64 227, .int .i64 229, .int .i64 233, .int .i64 239, .int .i64 241, .int .i64 251, .int .i64 257, .int .i64 263, .int .i64 269, .int .i64 271, .int .i64 277, .int .i64 281, .int .i64 283, .int .i64 293, .int .i64 307, .int .i64 311] 3) = w2 at *
  go_loopw [7] (fun v7 wr => ∃ c : Nat, 1 ≤ c ∧ v7 = .int .i64 (c : Nat) ∧ c * c * c ≤ p ∧ w2 = wr) (fun v7 _ => 400 - (intOf v7).toNat)
  case atStart => exact ⟨1, Nat.le_refl _, rfl, by have := HWK.out; have h := Nat.mul_le_mul (Nat.mul_le_mul this.1 this.1) this.1; omega, rfl⟩
  case round =>
    obtain ⟨c, hc1, rfl, hc, rfl⟩ := hrel
    have hpl := HPL.out
    have hc6 : c ≤ 6 := by
      rcases Nat.lt_or_ge 6 c with h | h
      · have h7 : 7 ≤ c := h
        have := Nat.mul_le_mul (Nat.mul_le_mul h7 h7) h7
        omega
      · exact h
    obtain ⟨d, hd⟩ : ∃ d, c + 1 = d := ⟨_, rfl⟩
    have hd7 : d ≤ 7 := by omega
    obtain ⟨m, hm⟩ : ∃ m, d * d = m := ⟨_, rfl⟩
    obtain ⟨q, hq⟩ : ∃ q, m * d = q := ⟨_, rfl⟩
    have hm49 : m ≤ 49 := by rw [← hm]; exact Nat.mul_le_mul hd7 hd7
    have hq343 : q ≤ 343 := by rw [← hq]; exact Nat.mul_le_mul hm49 hd7
    have hdi : (c : Int) + 1 = (d : Nat) := by omega
    have hmi : (d : Int) * (d : Nat) = (m : Nat) := by rw [← hm, Int.natCast_mul]
    have hqi : (m : Int) * (d : Nat) = (q : Nat) := by rw [← hq, Int.natCast_mul]
    have HQ := Lib.hid (show d * d * d = q by rw [hm, hq])
    have HD := Lib.hid hd
    have HCC := Lib.hid hc
    clear hm hq hd hc
    by_cases hqp : q ≤ p
    · have hle : decide (q ≤ p) = true := decide_eq_true hqp
      go_wp2_with fail
      go_roundw
      case rel => exact ⟨d, by omega, rfl, by rw [HQ.out]; exact hqp, trivial⟩
      case measure => simp [intOf]; omega
    · have hle : decide (q ≤ p) = false := decide_eq_false hqp
      have HCW := Lib.hid (cube_one HCC.out (by rw [HD.out, HQ.out]; omega) HWK.out.2.1 HWK.out.2.2)
      go_wp2_with fail
      clear hmi hqi HQ HD hqp hdi hle
      have HT2 := Lib.hid (HT.out.keep HB2.out)
      refine (word_in k w2 hk64 HT2.out).mono ?_
      rintro e w3 ⟨rfl, rfl⟩
      have hx := kc_lt k
      have HWR := Lib.hid (word_roots hk64)
      rw [HPE.out, ← HCW.out] at HWR
      obtain ⟨x, hxe⟩ : ∃ x, kc k = x := ⟨_, rfl⟩
      rw [hxe] at hx HWR
      rw [hxe]
      clear hxe
      obtain ⟨y, hy⟩ : ∃ y, c * 4294967296 = y := ⟨_, rfl⟩
      have hyi : (c : Int) * 4294967296 = (y : Nat) := by omega
      have hyW : wrap64 (y : Int) = (y : Nat) := by unfold wrap64; omega
      obtain ⟨V, hV⟩ : ∃ V, y + x = V := ⟨_, rfl⟩
      have hVi : (y : Int) + (x : Nat) = (V : Nat) := by omega
      have hVl : V + 1 < 68719476736 := by omega
      have hlt1 : decide ((x : Int) < 0) = false := by simp
      have hlt2 : decide ((4294967296 : Int) ≤ (x : Nat)) = false := by simp; omega
      rw [hy, hV] at HWR
      clear hy hV
      have hm1 := mask18 V
      obtain ⟨d0, e0⟩ : ∃ d, V % 262144 = d := ⟨_, rfl⟩
      obtain ⟨d1, e1⟩ : ∃ d, V / 262144 = d := ⟨_, rfl⟩
      have HN2 := Lib.hid (num_two V)
      have HD2 := Lib.hid (fun j => t2_lt (u := V) (by omega) j)
      rw [e0, e1] at HN2 HD2
      rw [e0] at hm1
      have hi1 : (V : Int) / 262144 = (d1 : Nat) := by omega
      clear e0 e1
      obtain ⟨U, hU⟩ : ∃ U, V + 1 = U := ⟨_, rfl⟩
      have hUi : (V : Int) + 1 = (U : Nat) := by omega
      have hUl : U < 68719476736 := by omega
      have hUW := IntWalk.i64_in (U : Int) (by omega)
      have hm2 := mask18 U
      obtain ⟨f0, e0⟩ : ∃ d, U % 262144 = d := ⟨_, rfl⟩
      obtain ⟨f1, e1⟩ : ∃ d, U / 262144 = d := ⟨_, rfl⟩
      have HN3 := Lib.hid (num_two U)
      have HD3 := Lib.hid (fun j => t2_lt (u := U) (by omega) j)
      rw [e0, e1] at HN3 HD3
      rw [e0] at hm2
      have hi2 : (U : Int) / 262144 = (f1 : Nat) := by omega
      rw [hU] at HWR
      clear e0 e1 hU
      go_wp2_with fail
      have HRca := Lib.hid (arrV_made w2 #[.int .i64 (d0 : Nat), .int .i64 (d1 : Nat)] 3 2 (ints (t2 d0 d1)) rfl)
      have HBaca := Lib.hid (HB2.out.alloc HB2.out.size (.cells #[.int .i64 (d0 : Nat), .int .i64 (d1 : Nat)] 3))
      refine (ltimes_any w2.heap.size 2 2 V (t2 d0 d1) _ (by decide) (by omega) HRca.out (fun j _ => HD2.out j)).mono ?_
      rintro e waca ⟨Gca, Oca, rfl, ho, hob, hnum, hb⟩
      rw [HN2.out] at hnum
      have HOca := Lib.hid ho
      have HOBca := Lib.hid hob
      have HNNca := Lib.hid hnum
      have HBbca := Lib.hid (HBaca.out.trans (hb.mono HBaca.out.size))
      clear ho hob hnum hb
      go_wp2_with fail
      refine (ltimes_any Gca 4 4 V Oca waca (by decide) (by omega) HOca.out HOBca.out).mono ?_
      rintro e wbca ⟨Hca, Pca, rfl, ho, hob, hnum, hb⟩
      rw [HNNca.out] at hnum
      have HPca := Lib.hid ho
      have HPBca := Lib.hid hob
      have HPNca := Lib.hid hnum
      have HBcca := Lib.hid (HBbca.out.trans (hb.mono HBbca.out.size))
      clear ho hob hnum hb
      go_wp2_with fail
      refine (below3_any Hca 6 p Pca wbca (by omega) HPca.out HPBca.out).mono ?_
      rintro e wcca ⟨rfl, hb⟩
      rw [HPNca.out, decide_eq_true HWR.out.1]
      have HBdca := Lib.hid (HBcca.out.trans (hb.mono HBcca.out.size))
      clear hb
      go_wp2_with fail
      have HRcb := Lib.hid (arrV_made wcca #[.int .i64 (f0 : Nat), .int .i64 (f1 : Nat)] 3 2 (ints (t2 f0 f1)) rfl)
      have HBacb := Lib.hid (HBdca.out.alloc HBdca.out.size (.cells #[.int .i64 (f0 : Nat), .int .i64 (f1 : Nat)] 3))
      refine (ltimes_any wcca.heap.size 2 2 U (t2 f0 f1) _ (by decide) (by omega) HRcb.out (fun j _ => HD3.out j)).mono ?_
      rintro e wacb ⟨Gcb, Ocb, rfl, ho, hob, hnum, hb⟩
      rw [HN3.out] at hnum
      have HOcb := Lib.hid ho
      have HOBcb := Lib.hid hob
      have HNNcb := Lib.hid hnum
      have HBbcb := Lib.hid (HBacb.out.trans (hb.mono HBacb.out.size))
      clear ho hob hnum hb
      go_wp2_with fail
      refine (ltimes_any Gcb 4 4 U Ocb wacb (by decide) (by omega) HOcb.out HOBcb.out).mono ?_
      rintro e wbcb ⟨Hcb, Pcb, rfl, ho, hob, hnum, hb⟩
      rw [HNNcb.out] at hnum
      have HPcb := Lib.hid ho
      have HPBcb := Lib.hid hob
      have HPNcb := Lib.hid hnum
      have HBccb := Lib.hid (HBbcb.out.trans (hb.mono HBbcb.out.size))
      clear ho hob hnum hb
      go_wp2_with fail
      refine (below3_any Hcb 6 p Pcb wbcb (by omega) HPcb.out HPBcb.out).mono ?_
      rintro e wccb ⟨rfl, hb⟩
      rw [HPNcb.out, decide_eq_false (Nat.not_lt.2 HWR.out.2)]
      have HBdcb := Lib.hid (HBccb.out.trans (hb.mono HBccb.out.size))
      clear hb
      have HTL := Lib.hid (HT.out.keep HBdcb.out)
      by_cases hk8 : 8 ≤ k
      · have hgt : decide ((7 : Int) < (k : Nat)) = true := by simp; omega
        go_wp2_with fail
        refine (start_out (k : Int) wccb (by omega)).mono ?_
        rintro e w9 ⟨rfl, rfl⟩
        go_wp2_with fail
        go_ret
        exact ⟨rfl, HBdcb.out⟩
      · have hgt : decide ((7 : Int) < (k : Nat)) = false := by simp; omega
        have hk9 : k < 8 := by omega
        have HWS := Lib.hid (wh2_ok hk9)
        have HSR := Lib.hid (start_roots hk9)
        have HP19 := Lib.hid (pr_le8 hk9)
        rw [HPE.out] at HWS HSR HP19
        go_wp2_with fail
        go_loopw [7] (fun v7 wr => ∃ c : Nat, 1 ≤ c ∧ v7 = .int .i64 (c : Nat) ∧ c * c ≤ p ∧ wccb = wr) (fun v7 _ => 400 - (intOf v7).toNat)
        case atStart => exact ⟨1, Nat.le_refl _, rfl, by have := HWS.out; have h := Nat.mul_le_mul this.1 this.1; omega, rfl⟩
        case round =>
          obtain ⟨c, hc1, rfl, hc, rfl⟩ := hrel
          have hp19 := HP19.out
          have hc6 : c ≤ 4 := by
            rcases Nat.lt_or_ge 4 c with h | h
            · have h7 : 5 ≤ c := h
              have := Nat.mul_le_mul h7 h7
              omega
            · exact h
          obtain ⟨d, hd⟩ : ∃ d, c + 1 = d := ⟨_, rfl⟩
          have hd7 : d ≤ 5 := by omega
          obtain ⟨m, hm⟩ : ∃ m, d * d = m := ⟨_, rfl⟩
          have hm49 : m ≤ 25 := by rw [← hm]; exact Nat.mul_le_mul hd7 hd7
          have hdi : (c : Int) + 1 = (d : Nat) := by omega
          have hmi : (d : Int) * (d : Nat) = (m : Nat) := by rw [← hm, Int.natCast_mul]
          have HQ := Lib.hid hm
          have HD := Lib.hid hd
          have HCC := Lib.hid hc
          clear hm hd hc
          by_cases hqp : m ≤ p
          · have hle : decide (m ≤ p) = true := decide_eq_true hqp
            go_wp2_with fail
            go_roundw
            case rel => exact ⟨d, by omega, rfl, by rw [HQ.out]; exact hqp, trivial⟩
            case measure => simp [intOf]; omega
          · have hle : decide (m ≤ p) = false := decide_eq_false hqp
            have HCW := Lib.hid (square_one HCC.out (by rw [HD.out, HQ.out]; omega) HWS.out.2.1 HWS.out.2.2)
            go_wp2_with fail
            clear hmi HQ HD hqp hdi hle hm49 hd7
            refine (start_in k wccb hk9 HTL.out).mono ?_
            rintro e w9 ⟨rfl, rfl⟩
            have hx := at8_lt st0_ok k
            have HWR := HSR
            rw [← HCW.out] at HWR
            obtain ⟨x, hxe⟩ : ∃ x, at8 st0 k = x := ⟨_, rfl⟩
            rw [hxe] at hx HWR
            rw [hxe]
            clear hxe
            obtain ⟨y, hy⟩ : ∃ y, c * 4294967296 = y := ⟨_, rfl⟩
            have hyi : (c : Int) * 4294967296 = (y : Nat) := by omega
            have hyW : wrap64 (y : Int) = (y : Nat) := by unfold wrap64; omega
            obtain ⟨V, hV⟩ : ∃ V, y + x = V := ⟨_, rfl⟩
            have hVi : (y : Int) + (x : Nat) = (V : Nat) := by omega
            have hVl : V + 1 < 68719476736 := by omega
            have hlt1 : decide ((x : Int) < 0) = false := by simp
            have hlt2 : decide ((4294967296 : Int) ≤ (x : Nat)) = false := by simp; omega
            rw [hy, hV] at HWR
            clear hy hV
            have hm1 := mask18 V
            obtain ⟨d0, e0⟩ : ∃ d, V % 262144 = d := ⟨_, rfl⟩
            obtain ⟨d1, e1⟩ : ∃ d, V / 262144 = d := ⟨_, rfl⟩
            have HN2 := Lib.hid (num_two V)
            have HD2 := Lib.hid (fun j => t2_lt (u := V) (by omega) j)
            rw [e0, e1] at HN2 HD2
            rw [e0] at hm1
            have hi1 : (V : Int) / 262144 = (d1 : Nat) := by omega
            clear e0 e1
            obtain ⟨U, hU⟩ : ∃ U, V + 1 = U := ⟨_, rfl⟩
            have hUi : (V : Int) + 1 = (U : Nat) := by omega
            have hUl : U < 68719476736 := by omega
            have hUW := IntWalk.i64_in (U : Int) (by omega)
            have hm2 := mask18 U
            obtain ⟨f0, e0⟩ : ∃ d, U % 262144 = d := ⟨_, rfl⟩
            obtain ⟨f1, e1⟩ : ∃ d, U / 262144 = d := ⟨_, rfl⟩
            have HN3 := Lib.hid (num_two U)
            have HD3 := Lib.hid (fun j => t2_lt (u := U) (by omega) j)
            rw [e0, e1] at HN3 HD3
            rw [e0] at hm2
            have hi2 : (U : Int) / 262144 = (f1 : Nat) := by omega
            rw [hU] at HWR
            clear e0 e1 hU
            go_wp2_with fail
            have HRsa := Lib.hid (arrV_made wccb #[.int .i64 (d0 : Nat), .int .i64 (d1 : Nat)] 3 2 (ints (t2 d0 d1)) rfl)
            have HBasa := Lib.hid (HBdcb.out.alloc HBdcb.out.size (.cells #[.int .i64 (d0 : Nat), .int .i64 (d1 : Nat)] 3))
            refine (ltimes_any wccb.heap.size 2 2 V (t2 d0 d1) _ (by decide) (by omega) HRsa.out (fun j _ => HD2.out j)).mono ?_
            rintro e wasa ⟨Gsa, Osa, rfl, ho, hob, hnum, hb⟩
            rw [HN2.out] at hnum
            have HOsa := Lib.hid ho
            have HOBsa := Lib.hid hob
            have HNNsa := Lib.hid hnum
            have HBbsa := Lib.hid (HBasa.out.trans (hb.mono HBasa.out.size))
            clear ho hob hnum hb
            go_wp2_with fail
            refine (below2_any Gsa 4 p Osa wasa (by omega) HOsa.out HOBsa.out).mono ?_
            rintro e wcsa ⟨rfl, hb⟩
            rw [HNNsa.out, decide_eq_true HWR.out.1]
            have HBdsa := Lib.hid (HBbsa.out.trans (hb.mono HBbsa.out.size))
            clear hb
            go_wp2_with fail
            have HRsb := Lib.hid (arrV_made wcsa #[.int .i64 (f0 : Nat), .int .i64 (f1 : Nat)] 3 2 (ints (t2 f0 f1)) rfl)
            have HBasb := Lib.hid (HBdsa.out.alloc HBdsa.out.size (.cells #[.int .i64 (f0 : Nat), .int .i64 (f1 : Nat)] 3))
            refine (ltimes_any wcsa.heap.size 2 2 U (t2 f0 f1) _ (by decide) (by omega) HRsb.out (fun j _ => HD3.out j)).mono ?_
            rintro e wasb ⟨Gsb, Osb, rfl, ho, hob, hnum, hb⟩
            rw [HN3.out] at hnum
            have HOsb := Lib.hid ho
            have HOBsb := Lib.hid hob
            have HNNsb := Lib.hid hnum
            have HBbsb := Lib.hid (HBasb.out.trans (hb.mono HBasb.out.size))
            clear ho hob hnum hb
            go_wp2_with fail
            refine (below2_any Gsb 4 p Osb wasb (by omega) HOsb.out HOBsb.out).mono ?_
            rintro e wcsb ⟨rfl, hb⟩
            rw [HNNsb.out, decide_eq_false (Nat.not_lt.2 HWR.out.2)]
            have HBdsb := Lib.hid (HBbsb.out.trans (hb.mono HBbsb.out.size))
            clear hb
            go_wp2_with fail
            go_ret
            exact ⟨rfl, HBdsb.out⟩
end Go.Proofs.YtcmhnelonainhaaDoor
