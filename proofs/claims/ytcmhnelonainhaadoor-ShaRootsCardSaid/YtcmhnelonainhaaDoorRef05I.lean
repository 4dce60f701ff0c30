/- The reference: the first primes. -/
import Derived.Test.YtcmhnelonainhaaDoorRef05H
import Derived.Test.YtcmhnelonainhaaDoorRunI
namespace Go.Proofs.YtcmhnelonainhaaDoor
open Go.RowKit
def prL : List Nat := [2, 3, 5, 7, 11, 13, 17, 19, 23, 29, 31, 37, 41, 43, 47, 53, 59, 61, 67, 71, 73, 79, 83, 89, 97, 101, 103, 107, 109, 113, 127, 131, 137, 139, 149, 151, 157, 163, 167, 173, 179, 181, 191, 193, 197, 199, 211, 223, 227, 229, 233, 239, 241, 251, 257, 263, 269, 271, 277, 281, 283, 293, 307, 311]
def pr (i : Nat) : Nat := prL.getD i 0
/-- how many of them lie below p -/
def cnt (p : Nat) : Nat := (prL.filter fun q => decide (q < p)).length
/-- none of the first i divides p -/
def noneOf (p i : Nat) : Bool := (List.range i).all fun j => p % pr j != 0
theorem noneOf_snoc (p i : Nat) : noneOf p (i + 1) = (noneOf p i && (p % pr i != 0)) := by
  unfold noneOf
  rw [List.range_succ, List.all_append]
  simp
theorem int_ne (r : Nat) : ((r : Int) != 0) = (r != 0) := by
  cases r with
  | zero => rfl
  | succ n => simp [bne]; omega
theorem pr_pos {i : Nat} (h : i < 64) : 0 < pr i := (show ∀ i, i < 64 → 0 < pr i by decide +kernel) i h
theorem pr_le {i : Nat} (h : i < 64) : pr i ≤ 311 := (show ∀ i, i < 64 → pr i ≤ 311 by decide +kernel) i h
theorem cnt_is {p : Nat} (h : p < 312) (h2 : 2 ≤ p) (hs : noneOf p (cnt p) = true) : p = pr (cnt p) ∧ cnt (p + 1) = cnt p + 1 :=
  (show ∀ p, p < 312 → 2 ≤ p → noneOf p (cnt p) = true → p = pr (cnt p) ∧ cnt (p + 1) = cnt p + 1 by decide +kernel) p h h2 hs
theorem cnt_not {p : Nat} (h : p < 312) (h2 : 2 ≤ p) (hs : noneOf p (cnt p) = false) : cnt (p + 1) = cnt p :=
  (show ∀ p, p < 312 → 2 ≤ p → noneOf p (cnt p) = false → cnt (p + 1) = cnt p by decide +kernel) p h h2 hs
theorem cnt_end {p : Nat} (h : p < 313) (hc : cnt p < 64) : p < 312 := (show ∀ p, p < 313 → cnt p < 64 → p < 312 by decide +kernel) p h hc
set_option maxHeartbeats 800000 in
theorem primes_any (n : Nat) (w : World) (hn : n ≤ 64) :
    Calls Tryd.prog 31 #[.int .i64 (n : Nat)] w fun e w' => ∃ v, e = .returned v ∧ OwnI w' w.heap.size v n pr ∧ Below w.heap.size w w' := by
  go_enter Tryd.func31, Tryd.ntmps31
  go_wp2_with fail
  go_loopw [3, 4] (fun v3 v4 wr => ∃ p c : Nat, 2 ≤ p ∧ p < 313 ∧ cnt p = c ∧ c ≤ n ∧ v4 = .int .i64 (p : Nat) ∧ OwnI wr w.heap.size v3 c pr ∧ Below w.heap.size w wr) (fun _ v4 _ => 313 - (intOf v4).toNat)
  case atStart => exact ⟨2, 0, by decide, by decide, by decide, Nat.zero_le _, rfl, OwnI.nil _ _ _, Below.refl _ _⟩
  case round =>
    obtain ⟨p, c, h2, hp, hcn, hcle, rfl, ho, hb⟩ := hrel
    have HCN := Lib.hid hcn
    have HO := Lib.hid ho
    have HB := Lib.hid hb
    clear hcn ho hb
    obtain ⟨A, cap, rfl, _, _, har, _⟩ := OwnI.slice HO.out
    by_cases hlt : c < n
    · have hli : (c : Int) < (n : Nat) := by omega
      have hp2 : p < 312 := cnt_end hp (by rw [HCN.out]; omega)
      have HAR := Lib.hid har
      clear har
      go_wp2_with fail
      go_loopw [5, 6] (fun v5 v6 wi => ∃ i : Nat, i ≤ c ∧ v5 = .bool (noneOf p i) ∧ v6 = .int .i64 (i : Nat) ∧ wr = wi) (fun _ v6 _ => c - (intOf v6).toNat)
      case atStart => exact ⟨0, Nat.zero_le _, rfl, rfl, rfl⟩
      case round =>
        obtain ⟨i, hi, rfl, rfl, rfl⟩ := hrel
        by_cases hlt2 : i < c
        · obtain ⟨g, rfl, _, ha⟩ := HAR.out (by omega)
          have hic : (i : Int) < (c : Nat) := by omega
          have hca := ha.cell (j := i) hlt2 (Nat.zero_add i).symm
          obtain ⟨y, hy⟩ : ∃ y, pr i = y := ⟨_, rfl⟩
          have hy0 : 0 < y := by rw [← hy]; exact pr_pos (by omega)
          have hyl : y ≤ 311 := by rw [← hy]; exact pr_le (by omega)
          simp only [ints, hy] at hca
          obtain ⟨r, hr⟩ : ∃ r, p % y = r := ⟨_, rfl⟩
          have hri : (p : Int) % (y : Nat) = (r : Nat) := by rw [← hr]; rfl
          have hrl : r < y := by rw [← hr]; exact Nat.mod_lt _ hy0
          have HS := Lib.hid (noneOf_snoc p i)
          rw [hy, hr] at HS
          clear hr hy
          obtain ⟨b, hbb⟩ : ∃ b, noneOf p i = b := ⟨_, rfl⟩
          rw [hbb] at HS
          rw [hbb]
          clear hbb
          cases b
          · go_wp2_with fail
            go_roundw
            case rel => exact ⟨i + 1, by omega, by rw [HS.out]; rfl, by go_num, trivial⟩
            case measure => simp [intOf]; omega
          · go_wp2_with fail
            go_roundw
            case rel => exact ⟨i + 1, by omega, by rw [HS.out, Bool.true_and, int_ne], by go_num, trivial⟩
            case measure => simp [intOf]; omega
        · obtain rfl : i = c := by omega
          have hci : (p : Int) < 312 := by omega
          cases hs : noneOf p i
          · have HE := Lib.hid (cnt_not hp2 h2 (by rw [HCN.out]; exact hs))
            clear hs
            go_wp2_with fail
            go_roundw
            case rel => exact ⟨p + 1, i, by omega, by omega, HE.out.trans HCN.out, hcle, by go_num, HO.out, HB.out⟩
            case measure => simp [intOf]; omega
          · have HE := Lib.hid (cnt_is hp2 h2 (by rw [HCN.out]; exact hs))
            rw [HCN.out] at HE
            clear hs
            go_wp2_with (at_builtin; go_must (refine wpList_app1I rfl (.tmp 30) (.tmp 32) rfl w.heap.size _ i pr rfl (HO.out.alloc _) wr.heap.size p rfl ((World.cell?_alloc_at _ _ _ _ rfl).trans rfl) (by omega) (Nat.le_trans HB.out.size (by simp)) HE.out.1 ?_); intro v' w2 ho2 hb2; have HO2 := Lib.hid ho2; have HB2 := Lib.hid ((HB.out.alloc HB.out.size _).trans hb2); clear ho2 hb2)
            go_roundw
            case rel => exact ⟨p + 1, i + 1, by omega, by omega, HE.out.2, by omega, by go_num, HO2.out, HB2.out⟩
            case measure => simp [intOf]; omega
    · obtain rfl : c = n := by omega
      go_wp2_with fail
      go_ret
      exact ⟨_, rfl, HO.out, HB.out⟩
end Go.Proofs.YtcmhnelonainhaaDoor
