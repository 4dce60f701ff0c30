import Derived.Test.YtglajdedalikdaaDoorLaw01j
import Derived.Test.YtglajdedalikdaaDoorLaw01h
import Derived.Test.YtglajdedalikdaaDoorRef01C
import Derived.Test.YtglajdedalikdaaDoorRef01D
namespace Go.Proofs.YtglajdedalikdaaDoor
open Go.RowKit

set_option maxRecDepth 100000 in
set_option maxHeartbeats 4000000 in
theorem packs_any (s : ByteArray) (A : Option Addr) (len cap : Nat) (bs : Nat → Nat) (n : Int) (w : World) (hs : s.size ≤ maxLen) (hl : len ≤ 140737488351232) (hA : SlB w A len bs) (hw : Wts w) :
    Calls Tryd.prog 3 #[.string s, .slice A len cap, .int .i64 n] w fun e w' => e = .returned (.bool true) ∧ Below w.heap.size w w' := by
  have HW := Lib.hid hw
  have HA := Lib.hid hA
  have HBY := Lib.hid (fun j (hj : j < len) => hA.byte hj)
  clear hw hA
  obtain ⟨V, U, E, hu⟩ : ∃ V U E, unpR len bs n = .returned (.tuple #[.string V, .int .i64 U, .int .i64 E]) := ⟨_, _, _, rfl⟩
  have HU := Lib.hid hu
  clear hu
  by_cases hf : faultOf s.data.toList = 0
  · obtain ⟨hd, hll⟩ := fault_zero hf
    have hl' : s.size ≤ 999 := by rw [Array.length_toList] at hll; exact hll
    have HD := Lib.hid hd
    clear hf hd hll
    go_enter Tryd.func3, Tryd.ntmps3
    go_wp2_with fail
    refine (small_any _ HW.out).mono ?_
    rintro e w1 ⟨rfl, hb1⟩
    have HB1 := Lib.hid hb1
    clear hb1
    go_wp2_with fail
    refine (lent_any A len cap bs _ hl (HA.out.keep HB1.out)).mono ?_
    rintro e w2 ⟨gL, rfl, hgL, hrow, hb2⟩
    have HR2 := Lib.hid hrow
    have HGL := Lib.hid (Nat.le_trans HB1.out.size hgL)
    have HB2 := Lib.hid (HB1.out.trans (hb2.mono HB1.out.size))
    clear hrow hgL hb2
    go_wp2_with fail
    refine (pack_ok s _ HD.out hl').mono ?_
    rintro e w3 ⟨g1, rfl, hg1, hrow1, hb3⟩
    have HR1 := Lib.hid hrow1
    have HG1 := Lib.hid hg1
    have HB3 := Lib.hid (HB2.out.trans (hb3.mono HB2.out.size))
    have HR3 := Lib.hid (HR2.out.of_block (hb3.block gL HR2.out.lt))
    have hne : g1 ≠ gL := by have := HR2.out.lt; omega
    have HNE := Lib.hid hne
    clear hrow1 hg1 hb3 hne
    go_wp2_with fail
    refine (unpack_any (some ⟨gL, 0, none⟩) (len + 1) len n bs _ (by omega) (SlB.of_rowX ((RowX.of_rowIs HR3.out).less (Nat.le_succ len)) (fun j hj => ⟨HBY.out j hj, by rw [if_pos hj]⟩))).mono ?_
    rintro e w4 ⟨rfl, hb4⟩
    rw [HU.out]
    have HB4 := Lib.hid (HB3.out.trans (hb4.mono HB3.out.size))
    have HR4 := Lib.hid (HR3.out.of_block (hb4.block gL HR3.out.lt))
    have HP4 := Lib.hid (HR1.out.of_block (hb4.block g1 HR1.out.lt))
    clear hb4
    go_wp2_with fail
    refine (rpack_ok s _ HD.out hl').mono ?_
    rintro e w5 ⟨v, rfl, hown, hb5⟩
    obtain ⟨Aq, cq, rfl, hq⟩ := own_slB (f := pb s) hown (fun j _ => pb_lt s HD.out j)
    have HQ5 := Lib.hid hq
    have HB5 := Lib.hid (HB4.out.trans (hb5.mono HB4.out.size))
    have HR5 := Lib.hid (HR4.out.of_block (hb5.block gL HR4.out.lt))
    have HP5 := Lib.hid (HP4.out.of_block (hb5.block g1 HP4.out.lt))
    clear hown hb5 hq
    go_wp2_with fail
    refine (runpack_any A cap len n bs _ (by omega) (HA.out.keep HB5.out)).mono ?_
    rintro e w6 ⟨rfl, hb6⟩
    rw [HU.out]
    have HB6 := Lib.hid (HB5.out.trans (hb6.mono HB5.out.size))
    have HR6 := Lib.hid (HR5.out.of_block (hb6.block gL HR5.out.lt))
    have HP6 := Lib.hid (HP5.out.of_block (hb6.block g1 HP5.out.lt))
    have HQ6 := Lib.hid (HQ5.out.keep hb6)
    clear hb6
    go_wp2_with fail
    refine (kept_any gL A len cap bs _ hl (HA.out.keep HB6.out) HR6.out).mono ?_
    rintro e w7 ⟨rfl, rfl⟩
    have hcv1 := convRow HP6.out (pb s) (Nat.le_refl _) (fun _ _ => rfl)
    have hcv2 := convSl (cap := cq) HQ6.out (Nat.le_refl _)
    generalize strOf ((s.size + 1) / 2) (pb s) = y at *
    go_wp2_with fail
    have HTWO := Lib.hid (show Two (w6.alloc (.cells #[.slice (some ⟨g1, 0, none⟩) ((s.size + 1) / 2) ((s.size + 1) / 2), .slice (some ⟨gL, 0, none⟩) len (len + 1)] 22)) w6.heap.size (fun j => if j = 0 then some ⟨g1, 0, none⟩ else some ⟨gL, 0, none⟩) (fun j => if j = 0 then (s.size + 1) / 2 else len) (fun j => if j = 0 then (s.size + 1) / 2 else len + 1) (fun j => if j = 0 then g1 else gL) (fun j t => if j = 0 then pb s t else if t < len then bs t else 77) 0 0 from by
      refine ⟨fun j hj => ?_, fun j hj _ => ?_⟩
      · rcases (show j = 0 ∨ j = 1 by omega) with rfl | rfl
        · exact (World.cell?_alloc_at _ _ _ _ rfl).trans rfl
        · exact (World.cell?_alloc_at _ _ _ _ rfl).trans rfl
      · rcases (show j = 0 ∨ j = 1 by omega) with rfl | rfl
        · exact ((RowX.of_rowIs HP6.out).alloc _).congr fun t _ => rfl
        · exact ((RowX.of_rowIs HR6.out).alloc _).congr fun t _ => rfl)
    have hA1 : ∀ j, j < 2 → 0 < (if j = 0 then (s.size + 1) / 2 else len + 1) → (if j = 0 then some (⟨g1, 0, none⟩ : Addr) else some ⟨gL, 0, none⟩) = some ⟨if j = 0 then g1 else gL, 0, none⟩ := fun j _ _ => by split <;> rfl
    refine (owned_any (B := w.heap.size) 2 _ HTWO.out hA1 ?_ ?_ ?_ ?_).mono ?_
    · intro i j hi hj hij _ _
      have := HNE.out
      rcases (show i = 0 ∧ j = 1 ∨ i = 1 ∧ j = 0 by omega) with ⟨rfl, rfl⟩ | ⟨rfl, rfl⟩
      · exact this
      · exact fun h => this h.symm
    · intro j _ _
      have h1 := HP6.out.lt
      have h2 := HR6.out.lt
      show w6.heap.size ≠ if j = 0 then g1 else gL
      split <;> omega
    · intro j _ _
      have h1 := Nat.le_trans HB2.out.size HG1.out
      have h2 := HGL.out
      show w.heap.size ≤ if j = 0 then g1 else gL
      split <;> omega
    · intro j _
      show (if j = 0 then (s.size + 1) / 2 else len + 1) ≤ _
      split <;> omega
    rintro e w8 ⟨rfl, hb8⟩
    go_wp2_with fail
    go_ret
    exact ⟨rfl, (HB6.out.alloc HB6.out.size _).trans hb8⟩
  · have HF := Lib.hid hf
    clear hf
    go_enter Tryd.func3, Tryd.ntmps3
    go_wp2_with fail
    refine (small_any _ HW.out).mono ?_
    rintro e w1 ⟨rfl, hb1⟩
    have HB1 := Lib.hid hb1
    clear hb1
    go_wp2_with fail
    refine (lent_any A len cap bs _ hl (HA.out.keep HB1.out)).mono ?_
    rintro e w2 ⟨gL, rfl, hgL, hrow, hb2⟩
    have HR2 := Lib.hid hrow
    have HGL := Lib.hid (Nat.le_trans HB1.out.size hgL)
    have HB2 := Lib.hid (HB1.out.trans (hb2.mono HB1.out.size))
    clear hrow hgL hb2
    go_wp2_with fail
    refine (pack_bad s _ hs HF.out).mono ?_
    rintro e w3 ⟨rfl, rfl⟩
    have HB3 := HB2
    have HR3 := HR2
    go_wp2_with fail
    refine (unpack_any (some ⟨gL, 0, none⟩) (len + 1) len n bs _ (by omega) (SlB.of_rowX ((RowX.of_rowIs HR3.out).less (Nat.le_succ len)) (fun j hj => ⟨HBY.out j hj, by rw [if_pos hj]⟩))).mono ?_
    rintro e w4 ⟨rfl, hb4⟩
    rw [HU.out]
    have HB4 := Lib.hid (HB3.out.trans (hb4.mono HB3.out.size))
    have HR4 := Lib.hid (HR3.out.of_block (hb4.block gL HR3.out.lt))
    clear hb4
    go_wp2_with fail
    refine (rpack_bad s _ hs HF.out).mono ?_
    rintro e w5 ⟨rfl, rfl⟩
    have HB5 := HB4
    have HR5 := HR4
    go_wp2_with fail
    refine (runpack_any A cap len n bs _ (by omega) (HA.out.keep HB5.out)).mono ?_
    rintro e w6 ⟨rfl, hb6⟩
    rw [HU.out]
    have HB6 := Lib.hid (HB5.out.trans (hb6.mono HB5.out.size))
    have HR6 := Lib.hid (HR5.out.of_block (hb6.block gL HR5.out.lt))
    clear hb6
    go_wp2_with fail
    refine (kept_any gL A len cap bs _ hl (HA.out.keep HB6.out) HR6.out).mono ?_
    rintro e w7 ⟨rfl, rfl⟩
    have hcv1 := run_convert_bytes_nil (P := Tryd.prog) w6 22 5 Tryd.underlying22 Tryd.underlying5 0 0 9 Tryd.underlying9
    go_wp2_with fail
    have HTWO := Lib.hid (show Two (w6.alloc (.cells #[.slice none 0 0, .slice (some ⟨gL, 0, none⟩) len (len + 1)] 22)) w6.heap.size (fun j => if j = 0 then none else some ⟨gL, 0, none⟩) (fun j => if j = 0 then 0 else len) (fun j => if j = 0 then 0 else len + 1) (fun _ => gL) (fun _ t => if t < len then bs t else 77) 0 0 from by
      refine ⟨fun j hj => ?_, fun j hj hc => ?_⟩
      · rcases (show j = 0 ∨ j = 1 by omega) with rfl | rfl
        · exact (World.cell?_alloc_at _ _ _ _ rfl).trans rfl
        · exact (World.cell?_alloc_at _ _ _ _ rfl).trans rfl
      · rcases (show j = 0 ∨ j = 1 by omega) with rfl | rfl
        · exact absurd hc (Nat.lt_irrefl 0)
        · exact ((RowX.of_rowIs HR6.out).alloc _).congr fun t _ => rfl)
    refine (owned_any (B := w.heap.size) 2 _ HTWO.out ?_ ?_ ?_ ?_ ?_).mono ?_
    · intro j hj hc
      rcases (show j = 0 ∨ j = 1 by omega) with rfl | rfl
      · exact absurd hc (Nat.lt_irrefl 0)
      · rfl
    · intro i j hi hj hij h1 h2
      rcases (show i = 0 ∧ j = 1 ∨ i = 1 ∧ j = 0 by omega) with ⟨rfl, rfl⟩ | ⟨rfl, rfl⟩
      · exact absurd h1 (Nat.lt_irrefl 0)
      · exact absurd h2 (Nat.lt_irrefl 0)
    · intro j _ _
      have h2 := HR6.out.lt
      show w6.heap.size ≠ gL
      omega
    · intro j _ _
      exact HGL.out
    · intro j _
      show (if j = 0 then 0 else len + 1) ≤ _
      split <;> omega
    rintro e w8 ⟨rfl, hb8⟩
    go_wp2_with fail
    go_ret
    exact ⟨rfl, (HB6.out.alloc HB6.out.size _).trans hb8⟩
end Go.Proofs.YtglajdedalikdaaDoor
