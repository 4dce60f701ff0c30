/- Package pan: parts masked and whole, Is, Cut. -/
import Derived.Test.YtgpgleojkldndaaDoorPanA
namespace Go.Proofs.YtgpgleojkldndaaDoor
open Go.RowKit

theorem stars_regrown (W : World) (c : Nat) (hc : c ≤ 1000000) (d : Nat) (os : Array Obj) :
    Calls Tryd.prog 28 #[.string ⟨#[42]⟩, .int .i64 c] (Go.Sort.grow (redrawn W d) os) fun e w'' => e = .returned (.string (stars c)) ∧ ∃ p : Regrown, w'' = Go.Sort.grow (redrawn W p.d) p.os :=
  Calls.regrown_of (stars_any c _ hc)

theorem clone_regrown (W : World) (s : ByteArray) (hl : s.size ≤ 281474976710656) (d : Nat) (os : Array Obj) :
    Calls Tryd.prog 21 #[.string s] (Go.Sort.grow (redrawn W d) os) fun e w'' => e = .returned (.string s) ∧ ∃ p : Regrown, w'' = Go.Sort.grow (redrawn W p.d) p.os :=
  Calls.regrown_of (sclone_any s _ hl)

set_option maxHeartbeats 800000 in
theorem mask3_any (a b c : ByteArray) (w : World) (ha : a.size ≤ 1000) (hb : b.size ≤ 1000) (hc : c.size ≤ 1000) :
    Calls Tryd.prog 25 #[.agg #[.string a, .string b, .string c]] w fun e w' => e = .returned (.string (mk3 a b c)) ∧ Below w.heap.size w w' := by
  have HM := Lib.hid (show mk3 a b c = a ++ stars b.size ++ c from rfl)
  have cR := stars_regrown (w.alloc (.cells #[.string a, .string b, .string c] 36)) b.size (by omega)
  have HS := Lib.hid (stars_size b.size)
  have hz0 := stars_size b.size
  generalize stars b.size = st at *
  have hz : st.size ≤ 1000 := by omega
  have hz1 : ¬ 9223372036854775807 < a.size + st.size := by omega
  have hz2 : ¬ 9223372036854775807 < a.size + st.size + c.size := by omega
  clear hz0
  have hw1 : (w.alloc (.cells #[.string a, .string b, .string c] 36)).cell? ⟨w.heap.size, 0, none⟩ = some (.string a) := (World.cell?_alloc_at _ _ _ _ rfl).trans rfl
  have hw2 : (w.alloc (.cells #[.string a, .string b, .string c] 36)).cell? ⟨w.heap.size, 1, none⟩ = some (.string b) := (World.cell?_alloc_at _ _ _ _ rfl).trans rfl
  have hw3 : (w.alloc (.cells #[.string a, .string b, .string c] 36)).cell? ⟨w.heap.size, 2, none⟩ = some (.string c) := (World.cell?_alloc_at _ _ _ _ rfl).trans rfl
  have k1 := cell_regrown hw1
  have k2 := cell_regrown hw2
  have k3 := cell_regrown hw3
  have HB := Lib.hid ((Below.refl w.heap.size w).alloc (Nat.le_refl _) (.cells #[.string a, .string b, .string c] 36))
  clear hw1 hw2 hw3
  go_enter Tryd.func25, Tryd.ntmps25
  go_wp2_with fail
  generalize w.alloc (.cells #[.string a, .string b, .string c] 36) = W at *
  refine wp_region_quiet_below (by kernel_rfl) (by kernel_rfl) ?_
  repeat (quiet_step (exact cR _ _))
  refine wpQuiet_nil ?_
  intro _ hw'
  obtain ⟨⟨dq, osq⟩, hw''⟩ := hw'
  subst hw''
  have HB2 := Lib.hid (HB.out.trans ((below_regrown W dq osq).mono HB.out.size))
  generalize Go.Sort.grow (redrawn W dq) osq = W2 at *
  go_wp2_with fail
  go_ret
  exact ⟨by rw [HM.out]; rfl, HB2.out⟩

set_option maxHeartbeats 800000 in
theorem whole_any (a b c : ByteArray) (w : World) (ha : a.size ≤ 1000) (hb : b.size ≤ 1000) (hc : c.size ≤ 1000) :
    Calls Tryd.prog 32 #[.agg #[.string a, .string b, .string c]] w fun e w' => e = .returned (.string (a ++ b ++ c)) ∧ Below w.heap.size w w' := by
  have hz1 : (a ++ b).size ≤ 2000 := by rw [ByteArray.size_append]; omega
  have hz2 : (a ++ b ++ c).size ≤ 3000 := by rw [ByteArray.size_append, ByteArray.size_append]; omega
  go_enter Tryd.func32, Tryd.ntmps32
  go_wp2_with fail
  go_ret
  exact ⟨rfl, (Below.refl w.heap.size w).alloc (Nat.le_refl _) _⟩

def isV (s : ByteArray) : Bool := shp s && validB s

set_option maxHeartbeats 800000 in
theorem is11_any (s : ByteArray) (w : World) (hs : s.size ≤ maxLen) (hw : Wts w) (hwk : ∀ w', Below w.heap.size w w' → Wts w') :
    Calls Tryd.prog 12 #[.string s] w fun e w' => e = .returned (.bool (isV s)) ∧ Below w.heap.size w w' := by
  have HK := Lib.hid hwk
  have HW := Lib.hid hw
  clear hwk hw
  cases hz : shp s with
  | true =>
    have HV := Lib.hid (show isV s = validB s by unfold isV; rw [hz]; rfl)
    have hC : cutV s = .agg #[.string (pB s), .string (pM s), .string (pL s)] := rfl
    have e1 : ¬ (pB s).toList = [] := by
      have := toList_of_size (s := pB s) (by rw [pB_size hz]; decide)
      intro h; rw [h] at this; exact absurd this (by decide)
    clear hz
    go_enter Tryd.func12, Tryd.ntmps12
    go_wp2_with fail
    refine (cut_any s _ hs HW.out).mono ?_
    rintro e w1 ⟨rfl, hb1⟩
    rw [hC]
    have HB1 := Lib.hid hb1
    clear hb1 hC
    generalize pB s = a at *
    generalize pM s = b at *
    generalize pL s = c at *
    go_wp2_with fail
    refine (valid_any s _ hs (HK.out _ HB1.out)).mono ?_
    rintro e w2 ⟨rfl, n, rfl⟩
    go_wp2_with fail
    go_ret
    exact ⟨by rw [HV.out]; rfl, drawn HB1.out n⟩
  | false =>
    have HV := Lib.hid (show isV s = false by unfold isV; rw [hz]; rfl)
    have hC : cutV s = .agg #[.string ⟨#[]⟩, .string ⟨#[]⟩, .string ⟨#[]⟩] := by unfold cutV; rw [pB_no hz, pM_no hz, pL_no hz]
    clear hz
    go_enter Tryd.func12, Tryd.ntmps12
    go_wp2_with fail
    refine (cut_any s _ hs HW.out).mono ?_
    rintro e w1 ⟨rfl, hb1⟩
    rw [hC]
    have HB1 := Lib.hid hb1
    clear hb1 hC
    go_wp2_with fail
    go_ret
    exact ⟨by rw [HV.out]; rfl, HB1.out⟩
end Go.Proofs.YtgpgleojkldndaaDoor
