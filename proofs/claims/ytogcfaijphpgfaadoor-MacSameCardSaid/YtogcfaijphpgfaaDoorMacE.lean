/- Contracts of package mac: Same, the length of a label; bytes.Clone. -/
import Derived.Test.YtogcfaijphpgfaaDoorMacD
namespace Go.Proofs.YtogcfaijphpgfaaDoor
open Go.RowKit
/-- have the first k bytes of both no difference? (what Same gathers) -/
def gath (f g : Nat → Nat) : Nat → Nat
  | 0 => 0
  | k + 1 => gath f g k ||| (f k ^^^ g k)
theorem or_lt8 {a b : Nat} (ha : a < 256) (hb : b < 256) : a ||| b < 256 := Nat.or_lt_two_pow (n := 8) ha hb
theorem gath_lt {f g : Nat → Nat} {n : Nat} (hf : By n f) (hg : By n g) : ∀ k, k ≤ n → gath f g k < 256
  | 0, _ => Nat.zero_lt_succ _
  | k + 1, h => or_lt8 (gath_lt hf hg k (by omega)) (xor_lt8 (hf k (by omega)) (hg k (by omega)))
theorem or_zero {a b : Nat} : a ||| b = 0 ↔ a = 0 ∧ b = 0 := Nat.or_eq_zero_iff
theorem xor_zero {a b : Nat} : a ^^^ b = 0 ↔ a = b := by
  constructor
  · intro h
    have h2 : a ^^^ b ^^^ b = 0 ^^^ b := by rw [h]
    rwa [Nat.xor_assoc, Nat.xor_self, Nat.xor_zero, Nat.zero_xor] at h2
  · rintro rfl; exact Nat.xor_self a
theorem gath_zero (f g : Nat → Nat) : ∀ k, gath f g k = 0 ↔ ∀ j, j < k → f j = g j
  | 0 => ⟨fun _ _ h => absurd h (Nat.not_lt_zero _), fun _ => rfl⟩
  | k + 1 => by
    show gath f g k ||| (f k ^^^ g k) = 0 ↔ _
    rw [or_zero, xor_zero, gath_zero f g k]
    constructor
    · rintro ⟨h1, h2⟩ j hj
      rcases Nat.lt_or_ge j k with h | h
      · exact h1 j h
      · obtain rfl : j = k := by omega
        exact h2
    · exact fun h => ⟨fun j hj => h j (by omega), h k (Nat.lt_succ_self k)⟩
/-- have two rows the same bytes? -/
def sameB (n m : Nat) (f g : Nat → Nat) : Bool := decide (n = m ∧ ∀ j, j < n → f j = g j)
set_option maxHeartbeats 800000 in
theorem same_lt (A B : Option Addr) (n c m c2 : Nat) (f g : Nat → Nat) (w : World) (hn : n ≤ 140737488351232) (hm : m ≤ 140737488351232) (hx : m < n) (hA : SlB w A n f) (hB : SlB w B m g) :
    Calls Tryd.prog 17 #[.slice A n c, .slice B m c2] w fun e w' => e = .returned (.bool (sameB n m f g)) ∧ ∃ k, w' = w.drewN k := by
  have HA := Lib.hid hA
  have HB := Lib.hid hB
  have HFA := Lib.hid (fun j (hj : j < n) => hA.byte hj)
  have HFB := Lib.hid (fun j (hj : j < m) => hB.byte hj)
  clear hA hB
  go_enter Tryd.func17, Tryd.ntmps17
  go_wp2_with fail
  go_loopw [5, 12] (fun d i wr => ∃ k q : Nat, k ≤ m ∧ d = .int .u8 (gath f g k : Nat) ∧ i = .int .i64 k ∧ wr = w.drewN q) (fun _ i _ => m - (intOf i).toNat)
  case atStart => exact ⟨0, 0, Nat.zero_le _, rfl, rfl, rfl⟩
  case round =>
    obtain ⟨k, q, hk, rfl, rfl, hw⟩ := hrel
    have HW := Lib.hid hw
    have hgl := gath_lt (n := m) (fun j hj => HFA.out j (by omega)) (fun j hj => HFB.out j (by omega)) k (by omega)
    by_cases hlt : k < m
    · obtain ⟨B1, o1, rfl, _, h1⟩ := HA.out (by omega)
      obtain ⟨B2, o2, rfl, _, h2⟩ := HB.out (by omega)
      have hc1 : wr.cell? ⟨B1, o1 + k, none⟩ = some (.int .u8 (f k : Nat)) := by rw [hw]; exact (h1 k (by omega)).2
      have hc2 : wr.cell? ⟨B2, o2 + k, none⟩ = some (.int .u8 (g k : Nat)) := by rw [hw]; exact (h2 k (by omega)).2
      have hf1 : f k < 256 := (h1 k (by omega)).1
      have hf2 : g k < 256 := (h2 k (by omega)).1
      have hk1 : (k : Int) < n := by omega
      have hk2 : (k : Int) < m := by omega
      have b1 := u8_xor_nat _ _ hf1 hf2
      have b2 := u8_or_nat _ _ hgl (xor_lt8 hf1 hf2)
      have HS := Lib.hid (show gath f g (k + 1) = gath f g k ||| (f k ^^^ g k) from rfl)
      clear h1 h2 hw
      generalize f k = x at *
      generalize g k = y at *
      generalize gath f g k = z at *
      generalize z ||| (x ^^^ y) = u at *
      generalize x ^^^ y = v at *
      go_wp2_with fail
      go_quiet (fail)
      go_wp2_with fail
      go_roundw
      case rel => exact ⟨k + 1, q + nq, by omega, by rw [HS.out], by go_num, by rw [HW.out, World.drewN_drewN]⟩
      case measure => simp [intOf]; omega
    · have HK := Lib.hid (show k = m by omega)
      have HG := Lib.hid (gath_zero f g k)
      clear hw
      generalize gath f g k = z at *
      by_cases hz : z = 0
      · have hz1 : (((z : Nat) : Int) == 0) = true := by simp; omega
        have HE := Lib.hid (show decide (n = m) = sameB n m f g by
          unfold sameB
          congr 1
          refine propext ⟨fun h => ⟨h, fun j hj => ?_⟩, fun h => h.1⟩
          exact HG.out.1 hz j (by have := HK.out; omega))
        have HZ := Lib.hid hz
        clear hz
        by_cases hnm : n = m
        · have hx2 : ((n : Int) == (m : Int)) = true := by simp; omega
          have HE2 := Lib.hid (HE.out.symm.trans (decide_eq_true hnm))
          clear hnm
          go_wp2_with fail
          go_ret
          exact ⟨by rw [HE2.out]; rfl, q, HW.out⟩
        · have hx2 : ((n : Int) == (m : Int)) = false := by simp; omega
          have HE2 := Lib.hid (HE.out.symm.trans (decide_eq_false hnm))
          clear hnm
          go_wp2_with fail
          go_ret
          exact ⟨by rw [HE2.out]; rfl, q, HW.out⟩
      · have hz1 : (((z : Nat) : Int) == 0) = false := by simp; omega
        have HE := Lib.hid (show sameB n m f g = false by
          unfold sameB
          refine decide_eq_false fun h => hz (HG.out.2 fun j hj => h.2 j (by have := HK.out; omega)))
        clear hz
        go_wp2_with fail
        go_ret
        exact ⟨by rw [HE.out]; rfl, q, HW.out⟩
set_option maxHeartbeats 800000 in
theorem same_ge (A B : Option Addr) (n c m c2 : Nat) (f g : Nat → Nat) (w : World) (hn : n ≤ 140737488351232) (hm : m ≤ 140737488351232) (hx : n ≤ m) (hA : SlB w A n f) (hB : SlB w B m g) :
    Calls Tryd.prog 17 #[.slice A n c, .slice B m c2] w fun e w' => e = .returned (.bool (sameB n m f g)) ∧ ∃ k, w' = w.drewN k := by
  have HA := Lib.hid hA
  have HB := Lib.hid hB
  have HFA := Lib.hid (fun j (hj : j < n) => hA.byte hj)
  have HFB := Lib.hid (fun j (hj : j < m) => hB.byte hj)
  clear hA hB
  go_enter Tryd.func17, Tryd.ntmps17
  go_wp2_with fail
  go_loopw [5, 12] (fun d i wr => ∃ k q : Nat, k ≤ n ∧ d = .int .u8 (gath f g k : Nat) ∧ i = .int .i64 k ∧ wr = w.drewN q) (fun _ i _ => n - (intOf i).toNat)
  case atStart => exact ⟨0, 0, Nat.zero_le _, rfl, rfl, rfl⟩
  case round =>
    obtain ⟨k, q, hk, rfl, rfl, hw⟩ := hrel
    have HW := Lib.hid hw
    have hgl := gath_lt (n := n) (fun j hj => HFA.out j (by omega)) (fun j hj => HFB.out j (by omega)) k (by omega)
    by_cases hlt : k < n
    · obtain ⟨B1, o1, rfl, _, h1⟩ := HA.out (by omega)
      obtain ⟨B2, o2, rfl, _, h2⟩ := HB.out (by omega)
      have hc1 : wr.cell? ⟨B1, o1 + k, none⟩ = some (.int .u8 (f k : Nat)) := by rw [hw]; exact (h1 k (by omega)).2
      have hc2 : wr.cell? ⟨B2, o2 + k, none⟩ = some (.int .u8 (g k : Nat)) := by rw [hw]; exact (h2 k (by omega)).2
      have hf1 : f k < 256 := (h1 k (by omega)).1
      have hf2 : g k < 256 := (h2 k (by omega)).1
      have hk1 : (k : Int) < n := by omega
      have hk2 : (k : Int) < m := by omega
      have b1 := u8_xor_nat _ _ hf1 hf2
      have b2 := u8_or_nat _ _ hgl (xor_lt8 hf1 hf2)
      have HS := Lib.hid (show gath f g (k + 1) = gath f g k ||| (f k ^^^ g k) from rfl)
      clear h1 h2 hw
      generalize f k = x at *
      generalize g k = y at *
      generalize gath f g k = z at *
      generalize z ||| (x ^^^ y) = u at *
      generalize x ^^^ y = v at *
      go_wp2_with fail
      go_quiet (fail)
      go_wp2_with fail
      go_roundw
      case rel => exact ⟨k + 1, q + nq, by omega, by rw [HS.out], by go_num, by rw [HW.out, World.drewN_drewN]⟩
      case measure => simp [intOf]; omega
    · have HK := Lib.hid (show k = n by omega)
      have HG := Lib.hid (gath_zero f g k)
      clear hw
      generalize gath f g k = z at *
      by_cases hz : z = 0
      · have hz1 : (((z : Nat) : Int) == 0) = true := by simp; omega
        have HE := Lib.hid (show decide (n = m) = sameB n m f g by
          unfold sameB
          congr 1
          refine propext ⟨fun h => ⟨h, fun j hj => ?_⟩, fun h => h.1⟩
          exact HG.out.1 hz j (by have := HK.out; omega))
        have HZ := Lib.hid hz
        clear hz
        by_cases hnm : n = m
        · have hx2 : ((n : Int) == (m : Int)) = true := by simp; omega
          have HE2 := Lib.hid (HE.out.symm.trans (decide_eq_true hnm))
          clear hnm
          go_wp2_with fail
          go_ret
          exact ⟨by rw [HE2.out]; rfl, q, HW.out⟩
        · have hx2 : ((n : Int) == (m : Int)) = false := by simp; omega
          have HE2 := Lib.hid (HE.out.symm.trans (decide_eq_false hnm))
          clear hnm
          go_wp2_with fail
          go_ret
          exact ⟨by rw [HE2.out]; rfl, q, HW.out⟩
      · have hz1 : (((z : Nat) : Int) == 0) = false := by simp; omega
        have HE := Lib.hid (show sameB n m f g = false by
          unfold sameB
          refine decide_eq_false fun h => hz (HG.out.2 fun j hj => h.2 j (by have := HK.out; omega)))
        clear hz
        go_wp2_with fail
        go_ret
        exact ⟨by rw [HE.out]; rfl, q, HW.out⟩
theorem same_any (A B : Option Addr) (n c m c2 : Nat) (f g : Nat → Nat) (w : World) (hn : n ≤ 140737488351232) (hm : m ≤ 140737488351232) (hA : SlB w A n f) (hB : SlB w B m g) :
    Calls Tryd.prog 17 #[.slice A n c, .slice B m c2] w fun e w' => e = .returned (.bool (sameB n m f g)) ∧ ∃ k, w' = w.drewN k := by
  by_cases h : m < n
  · exact same_lt A B n c m c2 f g w hn hm h hA hB
  · exact same_ge A B n c m c2 f g w hn hm (by omega) hA hB
/-- what Clone leaves -/
theorem clone_any (A : Option Addr) (n c : Nat) (f : Nat → Nat) (w : World) (hn : n ≤ 100000000000000) (hA : SlB w A n f) (hnil : A = none → n = 0 ∧ c = 0) :
    Calls Tryd.prog 27 #[.slice A n c] w fun e w' => (∃ v, e = .returned v ∧ OwnB w' w.heap.size v n f) ∧ Below w.heap.size w w' := by
  have q8 : ∀ (w : World) (a : Option Addr) (n c : Nat), (binOp .eql 22 (.slice a n c) (.slice none 0 0)).run Tryd.prog w = .ok (.bool a.isNone) w := fun w a n c => Lib.run_eql_slice_nil w _ _ a n c 0 0 Tryd.underlying22
  cases A with
  | none =>
    obtain ⟨rfl, rfl⟩ := hnil rfl
    clear hnil hA hn
    go_enter Tryd.func27, Tryd.ntmps27
    go_wp2_with fail
    go_ret
    exact ⟨⟨_, rfl, OwnB.nil _ _ _⟩, Below.refl _ _⟩
  | some ad =>
    have HA := Lib.hid (hA.keep (alloc_below w (.cells #[] 5)))
    have HF := Lib.hid (fun j (hj : j < n) => hA.byte hj)
    have HO := Lib.hid (OwnB.empty w w.heap.size f (Nat.le_refl _))
    have HB := Lib.hid (alloc_below w (.cells #[] 5))
    have HN := Lib.hid hn
    clear hnil hA hn
    go_enter Tryd.func27, Tryd.ntmps27
    go_wp2_with (refine wpList_appO rfl (.tmp 5) (.tmp 6) rfl w.heap.size _ 0 f rfl HO.out (some ad) n c f rfl HA.out (fun h => by cases h) (by have := HN.out; omega) HB.out.size (fun j hj => absurd hj (Nat.not_lt_zero j)) HF.out ?_; intro A' c' w2 h1 _ _ h4; have H1 := Lib.hid h1; have H4 := Lib.hid h4; clear h1 h4)
    go_ret
    refine ⟨⟨_, rfl, ?_⟩, HB.out.trans H4.out⟩
    have := H1.out
    rw [Nat.zero_add] at this
    exact this.congr fun j _ => rfl
end Go.Proofs.YtogcfaijphpgfaaDoor
