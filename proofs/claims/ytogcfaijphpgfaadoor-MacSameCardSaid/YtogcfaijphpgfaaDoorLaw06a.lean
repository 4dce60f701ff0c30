/- The laws' small case (layer 6). -/
import Derived.Test.YtogcfaijphpgfaaDoorMacG
namespace Go.Proofs.YtogcfaijphpgfaaDoor
open Go.RowKit
def jefeK (j : Nat) : Nat := [74, 101, 102, 101].getD j 0
def jefeA (j : Nat) : Nat := [119, 104, 97, 116, 32, 100, 111, 32, 121, 97, 32, 119, 97, 110, 116, 32].getD j 0
def jefeB (j : Nat) : Nat := [102, 111, 114, 32, 110, 111, 116, 104, 105, 110, 103, 63].getD j 0
def jefeP (j : Nat) : Nat := [119, 104, 97, 116, 32, 100, 111, 32, 121, 97, 32, 119, 97, 110, 116, 32, 102, 111, 114, 32, 110, 111, 116, 104, 105, 110, 103, 63].getD j 0
def jefeT (j : Nat) : Nat := [91, 220, 193, 70, 191, 96, 117, 78, 106, 4, 36, 38, 8, 149, 117, 199, 90, 0, 63, 8, 157, 39, 57, 131, 157, 236, 88, 185, 100, 236, 56, 67].getD j 0
theorem jefe_all : (List.range 32).map (tag 4 jefeK 28 jefeP) = (List.range 32).map jefeT := by decide +kernel
theorem jefe_tag (j : Nat) (hj : j < 32) : tag 4 jefeK 28 jefeP j = jefeT j := by
  have h : ((List.range 32).map (tag 4 jefeK 28 jefeP))[j]? = ((List.range 32).map jefeT)[j]? := by rw [jefe_all]
  rw [List.getElem?_map, List.getElem?_map, List.getElem?_range hj] at h
  simpa using h
theorem jefe_text : strOf 32 (tag 4 jefeK 28 jefeP) = ⟨#[91, 220, 193, 70, 191, 96, 117, 78, 106, 4, 36, 38, 8, 149, 117, 199, 90, 0, 63, 8, 157, 39, 57, 131, 157, 236, 88, 185, 100, 236, 56, 67]⟩ := by
  rw [strOf_congr 32 _ _ jefe_tag]; decide
theorem jefe_same (f : Nat → Nat) : sameB 32 32 f f = true := decide_eq_true ⟨rfl, fun _ _ => rfl⟩
set_option maxRecDepth 100000 in
set_option maxHeartbeats 1600000 in
theorem small6_any (w : World) (ht : GT w) : Calls Tryd.prog 9 #[] w fun e w' => e = .returned (.bool true) ∧ Below w.heap.size w w' := by
  have HT := Lib.hid ht
  clear ht
  have HLJ := Lib.hid (fun w : World => lit_slB w 5 (4, 5) [74, 101, 102, 101] (fun j => by by_cases h : j < 4; exact (show ∀ j, j < 4 → [74, 101, 102, 101].getD j 0 < 256 by decide) j h; rw [List.getD_eq_getElem?_getD, List.getElem?_eq_none (by simp; omega)]; decide))
  have HLA := Lib.hid (fun w : World => lit_slB w 5 (16, 17) [119, 104, 97, 116, 32, 100, 111, 32, 121, 97, 32, 119, 97, 110, 116, 32] (fun j => by by_cases h : j < 16; exact (show ∀ j, j < 16 → [119, 104, 97, 116, 32, 100, 111, 32, 121, 97, 32, 119, 97, 110, 116, 32].getD j 0 < 256 by decide) j h; rw [List.getD_eq_getElem?_getD, List.getElem?_eq_none (by simp; omega)]; decide))
  have HLB := Lib.hid (fun w : World => lit_slB w 5 (12, 13) [102, 111, 114, 32, 110, 111, 116, 104, 105, 110, 103, 63] (fun j => by by_cases h : j < 12; exact (show ∀ j, j < 12 → [102, 111, 114, 32, 110, 111, 116, 104, 105, 110, 103, 63].getD j 0 < 256 by decide) j h; rw [List.getD_eq_getElem?_getD, List.getElem?_eq_none (by simp; omega)]; decide))
  have kc := fun (w : World) C n c => kconv w C n c w.heap.size rfl
  have kc2 := fun (w : World) o C n c => kconv (w.alloc o) C n c (w.heap.size + 1) (by simp)
  have kc3 := fun (w : World) o o2 C n c => kconv ((w.alloc o).alloc o2) C n c (w.heap.size + 1 + 1) (by simp)
  go_enter Tryd.func9, Tryd.ntmps9
  go_wp2_with fail
  clear kc kc2 kc3
  have hb1 : Below w.heap.size w (w.alloc (.cells #[.int .u8 74, .int .u8 101, .int .u8 102, .int .u8 101] 5 (4, 5))) := alloc_below w _
  have hb2 : Below w.heap.size w ((w.alloc (.cells #[.int .u8 74, .int .u8 101, .int .u8 102, .int .u8 101] 5 (4, 5))).alloc (.cells #[.int .u8 119, .int .u8 104, .int .u8 97, .int .u8 116, .int .u8 32, .int .u8 100, .int .u8 111, .int .u8 32, .int .u8 121, .int .u8 97, .int .u8 32, .int .u8 119, .int .u8 97, .int .u8 110, .int .u8 116, .int .u8 32] 5 (16, 17))) := hb1.alloc (by simp) _
  have hb3 : Below w.heap.size w (((w.alloc (.cells #[.int .u8 74, .int .u8 101, .int .u8 102, .int .u8 101] 5 (4, 5))).alloc (.cells #[.int .u8 119, .int .u8 104, .int .u8 97, .int .u8 116, .int .u8 32, .int .u8 100, .int .u8 111, .int .u8 32, .int .u8 121, .int .u8 97, .int .u8 32, .int .u8 119, .int .u8 97, .int .u8 110, .int .u8 116, .int .u8 32] 5 (16, 17))).alloc (.cells #[.int .u8 102, .int .u8 111, .int .u8 114, .int .u8 32, .int .u8 110, .int .u8 111, .int .u8 116, .int .u8 104, .int .u8 105, .int .u8 110, .int .u8 103, .int .u8 63] 5 (12, 13))) := hb2.alloc (by simp; omega) _
  have e1 : (w.alloc (.cells #[.int .u8 74, .int .u8 101, .int .u8 102, .int .u8 101] 5 (4, 5))).heap.size = w.heap.size + 1 := by simp
  have e2 : ((w.alloc (.cells #[.int .u8 74, .int .u8 101, .int .u8 102, .int .u8 101] 5 (4, 5))).alloc (.cells #[.int .u8 119, .int .u8 104, .int .u8 97, .int .u8 116, .int .u8 32, .int .u8 100, .int .u8 111, .int .u8 32, .int .u8 121, .int .u8 97, .int .u8 32, .int .u8 119, .int .u8 97, .int .u8 110, .int .u8 116, .int .u8 32] 5 (16, 17))).heap.size = w.heap.size + 1 + 1 := by simp
  have e3 : (((w.alloc (.cells #[.int .u8 74, .int .u8 101, .int .u8 102, .int .u8 101] 5 (4, 5))).alloc (.cells #[.int .u8 119, .int .u8 104, .int .u8 97, .int .u8 116, .int .u8 32, .int .u8 100, .int .u8 111, .int .u8 32, .int .u8 121, .int .u8 97, .int .u8 32, .int .u8 119, .int .u8 97, .int .u8 110, .int .u8 116, .int .u8 32] 5 (16, 17))).alloc (.cells #[.int .u8 102, .int .u8 111, .int .u8 114, .int .u8 32, .int .u8 110, .int .u8 111, .int .u8 116, .int .u8 104, .int .u8 105, .int .u8 110, .int .u8 103, .int .u8 63] 5 (12, 13))).heap.size = w.heap.size + 1 + 1 + 1 := by simp
  have hJ := ((HLJ.out w).keep (alloc_below _ (.cells #[.int .u8 119, .int .u8 104, .int .u8 97, .int .u8 116, .int .u8 32, .int .u8 100, .int .u8 111, .int .u8 32, .int .u8 121, .int .u8 97, .int .u8 32, .int .u8 119, .int .u8 97, .int .u8 110, .int .u8 116, .int .u8 32] 5 (16, 17)))).keep (alloc_below _ (.cells #[.int .u8 102, .int .u8 111, .int .u8 114, .int .u8 32, .int .u8 110, .int .u8 111, .int .u8 116, .int .u8 104, .int .u8 105, .int .u8 110, .int .u8 103, .int .u8 63] 5 (12, 13)))
  have hA := (HLA.out (w.alloc (.cells #[.int .u8 74, .int .u8 101, .int .u8 102, .int .u8 101] 5 (4, 5)))).keep (alloc_below _ (.cells #[.int .u8 102, .int .u8 111, .int .u8 114, .int .u8 32, .int .u8 110, .int .u8 111, .int .u8 116, .int .u8 104, .int .u8 105, .int .u8 110, .int .u8 103, .int .u8 63] 5 (12, 13)))
  have hB := HLB.out ((w.alloc (.cells #[.int .u8 74, .int .u8 101, .int .u8 102, .int .u8 101] 5 (4, 5))).alloc (.cells #[.int .u8 119, .int .u8 104, .int .u8 97, .int .u8 116, .int .u8 32, .int .u8 100, .int .u8 111, .int .u8 32, .int .u8 121, .int .u8 97, .int .u8 32, .int .u8 119, .int .u8 97, .int .u8 110, .int .u8 116, .int .u8 32] 5 (16, 17)))
  rw [e1] at hA
  rw [e2] at hB
  have HS := mac2_any (((w.alloc (.cells #[.int .u8 74, .int .u8 101, .int .u8 102, .int .u8 101] 5 (4, 5))).alloc (.cells #[.int .u8 119, .int .u8 104, .int .u8 97, .int .u8 116, .int .u8 32, .int .u8 100, .int .u8 111, .int .u8 32, .int .u8 121, .int .u8 97, .int .u8 32, .int .u8 119, .int .u8 97, .int .u8 110, .int .u8 116, .int .u8 32] 5 (16, 17))).alloc (.cells #[.int .u8 102, .int .u8 111, .int .u8 114, .int .u8 32, .int .u8 110, .int .u8 111, .int .u8 116, .int .u8 104, .int .u8 105, .int .u8 110, .int .u8 103, .int .u8 63] 5 (12, 13))) (some ⟨w.heap.size, 0, none⟩) (some ⟨w.heap.size + 1, 0, none⟩) (some ⟨w.heap.size + 1 + 1, 0, none⟩) 4 4 16 12 16 12 jefeK jefeA jefeB jefeP (by decide) (by decide) (by decide) (by decide) (by decide) hJ (fun j hj => hJ.byte hj) hA hB (by decide) (by decide) (HT.out.keep hb3)
  rw [e3] at HS
  have HH := Lib.hid HS
  have HB3 := Lib.hid hb3
  clear hb1 hb2 hb3 e1 e2 e3 hJ hA hB HS HLJ HLA HLB
  refine HH.out.mono ?_
  rintro e w1 ⟨d, rfl, _, ha, hb⟩
  have HB := Lib.hid (HB3.out.trans (hb.mono HB3.out.size))
  have ha' : Arr w1 d 0 32 (tag 4 jefeK 28 jefeP) := ha
  have HSL := Lib.hid (ha'.slB fun j _ => tag_lt _ _ _ _ j)
  have hcv := convSl (cap := 32) HSL.out (Nat.le_refl 32)
  rw [jefe_text] at hcv
  have hb0 := alloc_below w1 (.cells #[] 5)
  obtain ⟨A5, c5, w5, hrun5, _, hs5, _, hb5⟩ := run_appO (w1.alloc (.cells #[] 5)) w1.heap.size _ 0 (fun _ => 0) (OwnB.empty w1 _ _ (Nat.le_refl _)) (some ⟨d, 0, none⟩) 32 32 (tag 4 jefeK 28 jefeP) (HSL.out.keep hb0) (fun h => by cases h) (by decide) hb0.size (fun j hj => absurd hj (Nat.not_lt_zero j)) (fun j _ => tag_lt _ _ _ _ j)
  rw [Nat.zero_add] at hrun5 hs5
  have HR5 := Lib.hid hrun5
  have HS5 := Lib.hid (hs5.congr (f' := tag 4 jefeK 28 jefeP) fun j _ => rfl)
  have HB5 := Lib.hid (HB.out.trans ((hb0.trans hb5).mono HB.out.size))
  have HSA := Lib.hid (HSL.out.keep (hb0.trans hb5))
  have HSM := Lib.hid (same_any (some ⟨d, 0, none⟩) A5 32 32 32 c5 (tag 4 jefeK 28 jefeP) (tag 4 jefeK 28 jefeP) w5 (by decide) (by decide) HSA.out HS5.out)
  clear ha ha' hb hrun5 hs5 hb5 hb0 HH HB3 HT
  go_wp2_with (refine wpList_runA (.tmp 15) (.tmp 16) rfl rfl (by rfl) rfl rfl HR5.out ?_)
  refine HSM.out.mono ?_
  rintro e w6 ⟨rfl, q, rfl⟩
  rw [jefe_same]
  go_wp2_with fail
  go_ret
  exact ⟨rfl, drawn HB5.out q⟩
end Go.Proofs.YtogcfaijphpgfaaDoor
