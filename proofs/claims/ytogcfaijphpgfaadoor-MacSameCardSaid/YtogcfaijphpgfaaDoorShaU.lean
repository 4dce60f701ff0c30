/- Contracts of package sha: the padding. -/
import Derived.Test.YtogcfaijphpgfaaDoorShaT
namespace Go.Proofs.YtogcfaijphpgfaaDoor
open Go.RowKit
/-- p[:h] of an array of bytes behind a pointer -/
theorem sl_to (t : TypeId) (n g o h : Nat) (hu : Tryd.prog.underlying t = some (.array n 5)) (hh : h ≤ n) (hi : Int) (eh : hi = (h : Nat)) (w : World) :
    (Instr.sliceAt t (.pointer (some ⟨g, o, none⟩)) none (some (.int .i64 hi)) none).run Tryd.prog w = .ok (.slice (some ⟨g, o, none⟩) h n) w := by
  subst eh
  have he : Tryd.prog.elem t = 5 := by simp [Program.elem, hu]
  have hn : Tryd.prog.arrayLen t = n := by simp [Program.arrayLen, hu]
  rw [run_sliceAt_array_h (h0 := by omega) (h2 := by rw [hn]; omega) (ht := by rw [hn, he]; exact hu), he, sizeU8]
  show Result.ok (slicedAt ⟨g, o, none⟩ _ _ _ 1) w = _
  rw [hn, Int.toNat_natCast]
  unfold slicedAt
  split
  · simp
  · rw [Go.WideShapes.add_plain]; simp
/-- p[:] -/
theorem run_parts2 (w : World) (A0 : Option Addr) (n0 c0 : Nat) (A1 : Option Addr) (n1 c1 : Nat) : (Instr.buildSlice 30 2 #[(0, .slice A0 n0 c0), (1, .slice A1 n1 c1)]).run Tryd.prog w = .ok (.slice (some ⟨w.heap.size, 0, none⟩) 2 2) (w.alloc (.cells #[.slice A0 n0 c0, .slice A1 n1 c1] 22)) := by go_simp
theorem sl_all (t : TypeId) (n g o : Nat) (hu : Tryd.prog.underlying t = some (.array n 5)) (w : World) :
    (Instr.sliceAt t (.pointer (some ⟨g, o, none⟩)) none none none).run Tryd.prog w = .ok (.slice (some ⟨g, o, none⟩) n n) w := by
  have he : Tryd.prog.elem t = 5 := by simp [Program.elem, hu]
  have hn : Tryd.prog.arrayLen t = n := by simp [Program.arrayLen, hu]
  rw [run_sliceAt_array_all (ht := by rw [hn, he]; exact hu), he, sizeU8]
  show Result.ok (slicedAt ⟨g, o, none⟩ _ _ _ 1) w = _
  rw [hn]
  unfold slicedAt
  split
  · simp
  · rw [Go.WideShapes.add_plain]; simp
theorem arr_new {W : World} {c : Array Value} {t : TypeId} {n g : Nat} {f : Nat → Nat} (hc : c = (bytesL n f).toArray) (hg : g = W.heap.size) : Arr (W.alloc (.cells c t)) g 0 n f := by
  subst hg; exact arr_made W c t n f hc
/-- 128, and zeros -/
def pd (j : Nat) : Nat := if j = 0 then 128 else 0
theorem pd_lit : (#[.int .u8 128, .int .u8 0, .int .u8 0, .int .u8 0, .int .u8 0, .int .u8 0, .int .u8 0, .int .u8 0, .int .u8 0, .int .u8 0, .int .u8 0, .int .u8 0, .int .u8 0, .int .u8 0, .int .u8 0, .int .u8 0, .int .u8 0, .int .u8 0, .int .u8 0, .int .u8 0, .int .u8 0, .int .u8 0, .int .u8 0, .int .u8 0, .int .u8 0, .int .u8 0, .int .u8 0, .int .u8 0, .int .u8 0, .int .u8 0, .int .u8 0, .int .u8 0, .int .u8 0, .int .u8 0, .int .u8 0, .int .u8 0, .int .u8 0, .int .u8 0, .int .u8 0, .int .u8 0, .int .u8 0, .int .u8 0, .int .u8 0, .int .u8 0, .int .u8 0, .int .u8 0, .int .u8 0, .int .u8 0, .int .u8 0, .int .u8 0, .int .u8 0, .int .u8 0, .int .u8 0, .int .u8 0, .int .u8 0, .int .u8 0, .int .u8 0, .int .u8 0, .int .u8 0, .int .u8 0, .int .u8 0, .int .u8 0, .int .u8 0, .int .u8 0] : Array Value) = (bytesL 64 pd).toArray := rfl
/-- the length's bytes -/
def lnb (x1 x2 : Nat) (j : Nat) : Nat := putw 4 x2 (putw 0 x1 (fun _ => 0)) j
theorem lnb_eq (n j : Nat) (hj : j < 8) : lnb (8 * n / 4294967296) (8 * n % 4294967296) j = 8 * n / 256 ^ (7 - j) % 256 := by
  unfold lnb putw
  have hh : j = 0 ∨ j = 1 ∨ j = 2 ∨ j = 3 ∨ j = 4 ∨ j = 5 ∨ j = 6 ∨ j = 7 := by omega
  rcases hh with rfl | rfl | rfl | rfl | rfl | rfl | rfl | rfl <;> simp <;> omega
/-- the padding's two parts -/
theorem pad_offs (n z : Nat) (hz : (119 - n % 64) % 64 = z) : n + (1 + z) + 8 = padL n := by unfold padL; omega
theorem pad_first (n z : Nat) (f : Nat → Nat) (hz : (119 - n % 64) % 64 = z) (j : Nat) (hj : j < 1 + z) : padf n f (n + j) = pd j := by
  have h := pad_offs n z hz
  unfold padf pd
  rw [if_neg (by omega)]
  by_cases e : j = 0
  · rw [if_pos (by omega), if_pos e]
  · rw [if_neg (by omega), if_pos (by omega), if_neg e]
theorem pad_last (n z : Nat) (f : Nat → Nat) (hz : (119 - n % 64) % 64 = z) (j : Nat) (hj : j < 8) : padf n f (n + (1 + z) + j) = lnb (8 * n / 4294967296) (8 * n % 4294967296) j := by
  have h := pad_offs n z hz
  unfold padf
  rw [if_neg (by omega), if_neg (by omega), if_neg (by omega), lnb_eq n j hj, show padL n - 1 - (n + (1 + z) + j) = 7 - j by omega]
theorem padf_by (n : Nat) (f : Nat → Nat) (m : Nat) (hf : By n f) : By m (padf n f) := fun j _ => by
  unfold padf
  by_cases h : j < n
  · rw [if_pos h]; exact hf j h
  · rw [if_neg h]; split
    · decide
    · split
      · decide
      · exact Nat.mod_lt _ (by decide)
/-- one of two -/
def t2 {α : Type} (x y : α) (j : Nat) : α := if j = 0 then x else y
theorem two_of {j : Nat} (h : j < 2) : j = 0 ∨ j = 1 := by omega
set_option maxRecDepth 100000 in
set_option maxHeartbeats 1600000 in
theorem pad_any (g n : Nat) (f : Nat → Nat) (w : World) (hn : n ≤ 100000000000000) (hm : HM w g n f) (hf : By n f) (ht : GT w) (hg : 1 ≠ g ∧ 0 ≠ g) :
    Calls Tryd.prog 33 #[.pointer (some ⟨g, 0, none⟩)] w fun e w' => e = .returned (.tuple #[]) ∧ (HM w' g (padL n) (padf n f) ∧ Chg g w w') := by
  have HH := Lib.hid hm
  have HY := Lib.hid hf
  have HT := Lib.hid ht
  have HG := Lib.hid hg
  have hcnt := hm.count
  have hni : (n : Int) ≤ 100000000000000 := by omega
  have hn0 : (0 : Int) ≤ n := by omega
  have hgl := HH.out.lt
  obtain ⟨x1, hx1⟩ : ∃ x1, 8 * n / 4294967296 = x1 := ⟨_, rfl⟩
  obtain ⟨x2, hx2⟩ : ∃ x2, 8 * n % 4294967296 = x2 := ⟨_, rfl⟩
  have hy1 : (n : Int) * 8 / 4294967296 = (x1 : Nat) := by omega
  have hy2 : (n : Int) * 8 % 4294967296 = (x2 : Nat) := by omega
  have HX1 := Lib.hid hx1
  have HX2 := Lib.hid hx2
  obtain ⟨z, hz⟩ : ∃ z, (119 - n % 64) % 64 = z := ⟨_, rfl⟩
  have hz1 : (119 - (n : Int) % 64) % 64 = (z : Nat) := by omega
  have hz2 : (z : Int) ≤ 63 := by omega
  have HZ := Lib.hid hz
  have lx1 : x1 < 4294967296 := by omega
  have lx2 : x2 < 4294967296 := by omega
  clear hm hf ht hg hx1 hx2 hz
  go_enter Tryd.func33, Tryd.ntmps33
  go_wp2_with fail
  refine (putWord_any (w.heap.size + 1) 0 0 0 8 8 8 x1 _ lx1 (by decide) (by decide) (fun _ => 0) (arr_new rfl (by simp)) rfl (by decide)).mono ?_
  rintro e w3 ⟨rfl, h1, h2⟩
  have HL := Lib.hid h1
  have HP := Lib.hid (show Arr w3 w.heap.size 0 64 pd from (((arr_new pd_lit rfl).alloc _).chg h2 (Nat.ne_of_lt (Nat.lt_succ_self _))))
  have HC := Lib.hid (show Chg g w w3 from (((Chg.refl g w).alloc _).alloc _).thenNew h2 (Nat.le_succ _))
  have HH3 := Lib.hid (show HM w3 g n f from ((HH.out.alloc _).alloc _).chg h2 (by omega))
  have HT3 := Lib.hid (show GT w3 from ((HT.out.alloc _).alloc _).chg h2 ⟨by have := HT.out.ltk; omega, by have := HT.out.lth; omega⟩)
  clear h1 h2
  go_wp2_with fail
  refine (putWord_any (w.heap.size + 1) 0 4 4 8 4 4 x2 _ lx2 (by decide) (by decide) _ HL.out rfl (by decide)).mono ?_
  rintro e w4 ⟨rfl, h1, h2⟩
  have HL4 := Lib.hid h1
  have HP4 := Lib.hid (HP.out.chg h2 (Nat.ne_of_lt (Nat.lt_succ_self _)))
  have HC4 := Lib.hid (HC.out.thenNew h2 (Nat.le_succ _))
  have HH4 := Lib.hid (HH3.out.chg h2 (by omega))
  have HT4 := Lib.hid (HT3.out.chg h2 ⟨by have := HT.out.ltk; omega, by have := HT.out.lth; omega⟩)
  have HSZ := Lib.hid (show w.heap.size + 1 < w4.heap.size from h1.lt (by decide))
  clear h1 h2 HL HP HC HH3 HT3 hy1 hy2 hcnt
  have hsl := sl_to 40 64 w.heap.size 0 (1 + z) Tryd.underlying40 (by omega) (IntKind.i64.wrap (1 + (z : Int))) (by rw [IntKind.wrap_i64]; omega)
  have hsa := sl_all 60 8 (w.heap.size + 1) 0 Tryd.underlying60
  have hbl := fun w' => run_parts2 w' (some ⟨w.heap.size, 0, none⟩) (1 + z) 64 (some ⟨w.heap.size + 1, 0, none⟩) 8 8
  have HW := Lib.hid (write_any g n w4.heap.size 2 2 (t2 (some ⟨w.heap.size, 0, none⟩) (some ⟨w.heap.size + 1, 0, none⟩)) (t2 (1 + z) 8) (t2 64 8) (t2 pd (lnb x1 x2)) (padf n f)
    (w4.drew.alloc (.cells #[.slice (some ⟨w.heap.size, 0, none⟩) (1 + z) 64, .slice (some ⟨w.heap.size + 1, 0, none⟩) 8 8] 22)) (by decide) (by show n + (1 + z) + 8 ≤ _; omega)
    ⟨fun j hj => by rcases two_of hj with rfl | rfl <;> exact (World.cell?_alloc_at _ _ _ _ rfl).trans rfl, fun j hj => by
      rcases two_of hj with rfl | rfl
      · exact SlB.keep (w := w4.drew) (((HP4.out.drew.sub (a := 0) (m := 1 + z) (o' := 0) (by omega) rfl).slB (fun j _ => by unfold pd; split <;> decide)).congr fun j _ => by rw [Nat.zero_add]; rfl) ((Below.refl _ _).alloc (Nat.le_refl _) _)
      · exact SlB.keep (w := w4.drew) (HL4.out.drew.slB (fun j hj => by
          show lnb x1 x2 j < 256
          rw [← HX1.out, ← HX2.out, lnb_eq n j hj]; exact Nat.mod_lt _ (by decide))) ((Below.refl _ _).alloc (Nat.le_refl _) _)⟩
    (fun i hi => by
      rcases two_of hi with rfl | rfl
      · show 1 + z ≤ 64; omega
      · exact Nat.le_refl 8)
    (fun i hi j hj => by
      rcases two_of hi with rfl | rfl
      · exact pad_first n z f HZ.out j hj
      · show padf n f (n + (1 + z) + j) = lnb x1 x2 j
        rw [← HX1.out, ← HX2.out]; exact pad_last n z f HZ.out j hj)
    (HM.alloc (w := w4.drew) (HH4.out.congr fun j hj => by unfold padf; rw [if_pos hj]) _) (padf_by n f _ HY.out) (GT.alloc (w := w4.drew) (HT4.out.drewN 1) _) HG.out (by have := HH4.out.lt; omega)
    (fun i hi _ B o hB => by
      rcases two_of hi with rfl | rfl
      · have hB : (some ⟨w.heap.size, 0, none⟩ : Option Addr) = some ⟨B, o, none⟩ := hB
        injection hB with hB; injection hB with h1 _ _; omega
      · have hB : (some ⟨w.heap.size + 1, 0, none⟩ : Option Addr) = some ⟨B, o, none⟩ := hB
        injection hB with hB; injection hB with h1 _ _; omega))
  rw [show offs n (t2 (1 + z) 8) 2 = padL n from pad_offs n z HZ.out] at HW
  have HC5 := Lib.hid ((HC4.out.drew).alloc (.cells #[.slice (some ⟨w.heap.size, 0, none⟩) (1 + z) 64, .slice (some ⟨w.heap.size + 1, 0, none⟩) 8 8] 22))
  clear hz1
  go_wp2_with fail
  go_region_with (go_at_call 24; refine HW.out.mono ?_; rintro e w5 ⟨rfl, h1, h2⟩; have HR := Lib.hid h1; have HC6 := Lib.hid h2; clear h1 h2)
  all_goals
    go_end0
    exact ⟨rfl, HR.out, HC5.out.trans HC6.out⟩
end Go.Proofs.YtogcfaijphpgfaaDoor
