/- Contracts of package check: bytes.Equal, Take. -/
import Derived.Test.YtphbhfilaknbfaaDoorChkC
namespace Go.Proofs.YtphbhfilaknbfaaDoor
open Go.RowKit

theorem strOf_inj {n m : Nat} {f g : Nat → Nat} (hf : ∀ j, j < n → f j < 256) (hg : ∀ j, j < m → g j < 256) (h : strOf n f = strOf m g) : n = m ∧ ∀ j, j < n → f j = g j := by
  have hn : n = m := by rw [← strOf_size n f, ← strOf_size m g, h]
  subst hn
  refine ⟨rfl, fun j hj => ?_⟩
  rw [← strOf_at n f 0 j hj (hf j hj), h, strOf_at n g 0 j hj (hg j hj)]
/-- do two texts read alike? -/
def sameS (x y : ByteArray) : Bool := x.toList == y.toList
theorem sameS_self (x : ByteArray) : sameS x x = true := by unfold sameS; exact beq_self_eq_true _
theorem sameS_eq {x y : ByteArray} (h : sameS x y = true) : x = y := by
  unfold sameS at h
  have h2 : x.toList = y.toList := eq_of_beq h
  rw [ByteArray.toList_eq, ByteArray.toList_eq] at h2
  apply ByteArray.ext
  exact Array.ext' h2
theorem sameS_no {x y : ByteArray} (h : x ≠ y) : sameS x y = false := by
  cases e : sameS x y
  · rfl
  · exact absurd (sameS_eq e) h
theorem bytesEq_any (A B : Option Addr) (n c m c2 : Nat) (f g : Nat → Nat) (w : World) (hA : SlB w A n f) (hB : SlB w B m g) :
    Calls Tryd.prog 22 #[.slice A n c, .slice B m c2] w fun e w' => e = .returned (.bool (sameS (strOf n f) (strOf m g))) ∧ w = w' := by
  have hcv1 := convSl (cap := c) hA (Nat.le_refl n)
  have hcv2 := convSl (cap := c2) hB (Nat.le_refl m)
  clear hA hB
  generalize strOf n f = x at *
  generalize strOf m g = y at *
  go_enter Tryd.func22, Tryd.ntmps22
  go_wp2
  go_ret
  exact ⟨rfl, rfl⟩

/-- do the four bytes behind m bytes tell their sum? -/
def told (m : Nat) (f : Nat → Nat) : Bool := sameS (strOf 4 fun j => f (m + j)) (strOf 4 (nb (crc m f)))

/-- what Take does with a sector's bytes, as they tell their sum or not -/
def TakeP (b : Bool) (m : Nat) (f : Nat → Nat) (w : World) (e : Ending) (w' : World) : Prop :=
  match b with
  | true => ∃ g, e = .returned (.tuple #[.slice (some ⟨g, 0, none⟩) m m, .int .i64 0]) ∧ w.heap.size ≤ g ∧ RowB w' g m f ∧ Below w.heap.size w w'
  | false => e = .returned (.tuple #[.slice none 0 0, .int .i64 6]) ∧ Below w.heap.size w w'

set_option maxHeartbeats 800000 in
theorem take_both (b : Bool) (A : Option Addr) (s m cap : Nat) (f : Nat → Nat) (w : World) (hs : s = m + 4) (h1 : 1 ≤ m) (h2 : s ≤ 4096) (hsc : s ≤ cap) (_hc : cap ≤ 281474976710656) (hA : SlB w A s f) (ht : Tab w) (hto : told m f = b) :
    Calls Tryd.prog 15 #[.slice A s cap] w (TakeP b m f w) := by
  have HM := Lib.hid hs
  have HTo := Lib.hid hto
  have HT := Lib.hid ht
  obtain ⟨B, o, rfl, hB, hcl⟩ := hA (by omega)
  have HA := Lib.hid hA
  have HM2 := Lib.hid (show SlB w (some ⟨B, o, none⟩) m f from fun _ => ⟨B, o, rfl, hB, fun j hj => hcl j (by omega)⟩)
  have HM4 := Lib.hid (show SlB w (some ⟨B, o + m, none⟩) 4 (fun j => f (m + j)) from fun _ => ⟨B, o + m, rfl, hB, fun j hj => by
    have := hcl (m + j) (by omega)
    rw [Nat.add_assoc]; exact this⟩)
  have HF := Lib.hid (fun j (hj : j < s) => (hcl j hj).1)
  have e4 : (s : Int) - 4 = (m : Nat) := by omega
  have h5 : (5 : Int) ≤ s := by omega
  have h6 : (s : Int) ≤ 4096 := by omega
  have h7 : (m : Int) ≤ s := by omega
  have h8 : (m : Int) ≤ cap := by omega
  have hne : cap ≠ m := by omega
  have hsm : s - m = 4 := by omega
  have hmk := mk8 m (by omega)
  have HK := Lib.hid (show m = Nat.min s m from (Nat.min_eq_right (by omega)).symm)
  clear hA ht hs hto hcl
  go_enter Tryd.func15, Tryd.ntmps15
  go_wp2_with (go_at_call 20; refine (isSize_yes _ _ (by omega) (by omega)).mono ?_; rintro e w' ⟨rfl, rfl⟩)
  refine (sumBytes_any _ m cap f _ (by omega) HM2.out HT.out).mono ?_
  rintro e w3 ⟨rfl, hb3⟩
  have HB3 := Lib.hid hb3
  clear hb3
  have hl := crc_lt m f
  obtain ⟨q, hq⟩ : ∃ q, crc m f = q := ⟨_, rfl⟩
  have HQ := Lib.hid hq
  rw [hq] at hl ⊢
  have HL := Lib.hid hl
  clear hq hl
  go_wp2_with fail
  have HS4 := Lib.hid (four_slB w3 41 (nb q) (fun j => nb_lt q j HL.out))
  have HB4 := Lib.hid (HB3.out.alloc HB3.out.size (.cells #[.int .u8 (nb q 0 : Nat), .int .u8 (nb q 1 : Nat), .int .u8 (nb q 2 : Nat), .int .u8 (nb q 3 : Nat)] 41))
  generalize (w3.alloc (.cells #[.int .u8 (nb q 0 : Nat), .int .u8 (nb q 1 : Nat), .int .u8 (nb q 2 : Nat), .int .u8 (nb q 3 : Nat)] 41)) = W4 at *
  have HA4 := Lib.hid (HA.out.keep HB4.out)
  have HM5 := Lib.hid (fun k => (HM4.out.keep HB4.out).drewN k)
  have HS5 := Lib.hid (fun k => HS4.out.drewN k)
  have hto : sameS (strOf 4 fun j => f (m + j)) (strOf 4 (nb q)) = b := by rw [← HQ.out]; exact HTo.out
  have HTb := Lib.hid hto
  clear hto
  cases b
  · go_quiet ((go_at_call 22; exact Calls.quiet_of_same ((bytesEq_any _ _ 4 _ 4 _ (fun j => f (m + j)) (nb q) _ (HM5.out _) (HS5.out _)).mono fun _ _ h => ⟨h.1.trans (by rw [HTb.out]), h.2.symm⟩)))
    go_wp2_with fail
    go_ret2
    exact ⟨rfl, drawn HB4.out nq⟩
  · go_quiet ((go_at_call 22; exact Calls.quiet_of_same ((bytesEq_any _ _ 4 _ 4 _ (fun j => f (m + j)) (nb q) _ (HM5.out _) (HS5.out _)).mono fun _ _ h => ⟨h.1.trans (by rw [HTb.out]), h.2.symm⟩)))
    have HB5 := Lib.hid (drawn HB4.out nq)
    generalize W4.drewN nq = W5 at *
    have HB6 := Lib.hid (HB5.out.alloc HB5.out.size (.cells (madeCells #[.int .u8 0] m) 5))
    go_wp2_with ((refine wpList_copyB rfl (.tmp 26) (.tmp 27) rfl _ _ _ _ _ _ rfl rfl W5.heap.size 0 m (fun _ => 0) (rowB_made W5 m) f (HA.out.keep HB6.out) m HK.out (fun _ => rfl) (by omega) w.heap.size w HB6.out HB5.out.size ?_); intro w7 hr7 hb7; have HR7 := Lib.hid (hr7.congr (f := f) fun j _ => by unfold putB; rw [if_pos (by omega), Nat.sub_zero]); have HB7 := Lib.hid hb7; clear hr7 hb7)
    go_ret2
    exact ⟨W5.heap.size, rfl, HB5.out.size, HR7.out, HB7.out⟩

set_option maxHeartbeats 400000 in
theorem take_form (A : Option Addr) (n cap : Nat) (w : World) (hn : n ≤ 281474976710656) (h : n < 5 ∨ 4096 < n) :
    Calls Tryd.prog 15 #[.slice A n cap] w fun e w' => e = .returned (.tuple #[.slice none 0 0, .int .i64 4]) ∧ w = w' := by
  have H := Lib.hid (show (n : Int) < 5 ∨ (4096 : Int) < n by omega)
  clear h
  go_enter Tryd.func15, Tryd.ntmps15
  go_wp2_with (go_at_call 20; refine (isSize_no _ _ H.out).mono ?_; rintro e w' ⟨rfl, rfl⟩)
  go_ret2
  exact ⟨rfl, rfl⟩
end Go.Proofs.YtphbhfilaknbfaaDoor
