import Derived.Test.YtejljmpjdhdoiaaDoorRowX
import Derived.Test.YtejljmpjdhdoiaaDoorAppB
import Derived.Laws.CopyOwn
namespace Go.Proofs.YtejljmpjdhdoiaaDoor
open Go.RowKit

theorem splice_full (n : Nat) (bs : Nat → Nat) : splice (List.replicate (n + 1) (Value.int .u8 0)) 0 (bytesL n bs) = bytesL (n + 1) (fun j => if j < n then bs j else 0) := by
  unfold splice bytesL
  rw [List.take_zero, List.nil_append, List.range_succ, List.map_append]
  congr 1
  · apply List.map_congr_left
    intro j hj
    show _ = Value.int .u8 ((if j < n then bs j else 0 : Nat) : Int)
    rw [if_pos (List.mem_range.1 hj)]
  · rw [List.length_map, List.length_range, Nat.zero_add, List.drop_replicate, show n + 1 - n = 1 by omega]
    simp
theorem row_of_bytesL {w : World} {g n : Nat} {f : Nat → Nat} (h : w.heap[g]? = some (.cells (bytesL n f).toArray 5 (0, 0))) : w.rowIs g 5 n (fun j => .int .u8 (f j : Nat)) := by
  refine ⟨_, h, by simp [bytesL], fun i hi => ?_⟩
  rw [List.getElem?_toArray]
  unfold bytesL
  rw [List.getElem?_map, List.getElem?_range hi]; rfl

set_option maxHeartbeats 800000 in
theorem lent_any (A : Option Addr) (len cap : Nat) (bs : Nat → Nat) (w : World) (hl : len ≤ 140737488351232) (hA : SlB w A len bs) :
    Calls Tryd.prog 18 #[.slice A len cap] w fun e w' => ∃ g, e = .returned (.slice (some ⟨g, 0, none⟩) len (len + 1)) ∧ w.heap.size ≤ g ∧
      w'.rowIs g 5 (len + 1) (fun j => .int .u8 (if j < len then bs j else 77 : Nat)) ∧ Below w.heap.size w w' := by
  obtain ⟨i, hi, hz, hsz, hb⟩ := info_parts info8
  have hmk : ∀ W : World, (Instr.makeSlice 30 (.int .i64 (len : Int)) (.int .i64 ((len : Int) + 1))).run Tryd.prog W = .ok (.slice (some ⟨W.heap.size, 0, none⟩) len (len + 1)) (W.alloc (.cells (madeCells #[.int .u8 0] (len + 1)) 5)) := fun W => by
    have := run_make (P := Tryd.prog) W 30 5 i (.int .u8 0) Tryd.underlying30 hi hz .i64 .i64 (len : Int) ((len : Int) + 1) (by omega) (by omega) (by rw [hb]; omega) (by omega)
    rw [this, hsz, Int.toNat_natCast, show ((len : Int) + 1).toNat = len + 1 by omega, Nat.mul_one]
    rfl
  have HA := Lib.hid hA
  clear hA hi hz hsz hb
  have HX := Lib.hid (SlB.keep HA.out ((Below.refl _ _).alloc (Nat.le_refl _) (.cells (madeCells #[.int .u8 0] (len + 1)) 5)))
  have HB1 := Lib.hid ((Below.refl w.heap.size w).alloc (Nat.le_refl _) (.cells (madeCells #[.int .u8 0] (len + 1)) 5))
  have HG := Lib.hid (show (w.alloc (.cells (madeCells #[.int .u8 0] (len + 1)) 5)).heap[w.heap.size]? = some (.cells (List.replicate (len + 1) (Value.int .u8 0)).toArray 5 (0, 0)) by
    rw [heap_alloc_new]
    congr 2
    apply Array.ext'
    rw [toList_madeCells_one])
  have hlen : (bytesL len bs).length = Nat.min len len := by simp [bytesL]
  have hfit : 0 + (bytesL len bs).length ≤ (List.replicate (len + 1) (Value.int .u8 0)).length := by simp [bytesL]
  have hone : ∀ v ∈ bytesL len bs, v.oneCell' = true := by
    intro u hu
    obtain ⟨j, hj⟩ := List.getElem?_of_mem hu
    obtain ⟨_, rfl⟩ := bytesL_get _ _ j u hj
    rfl
  have HPOS := Lib.hid (show 0 < (bytesL len bs).length → (some (⟨w.heap.size, 0, none⟩ : Addr)) = some ⟨w.heap.size, 0, none⟩ ∧ ∃ ad, A = some ad ∧ ∀ j v, (bytesL len bs)[j]? = some v → (w.alloc (.cells (madeCells #[.int .u8 0] (len + 1)) 5)).cell? (ad.add j) = some v from fun h => by
    have h0 : 0 < len := by simpa [bytesL] using h
    obtain ⟨B, o, hA, _, hc⟩ := HX.out h0
    refine ⟨rfl, _, hA, fun j v hj => ?_⟩
    obtain ⟨hjl, rfl⟩ := bytesL_get _ _ j v hj
    rw [Go.WideShapes.add_plain]
    exact (hc j hjl).2)
  have hsz1 : (Tryd.prog.info? 5).map (·.size) = some 1 := by kernel_rfl
  have HL := Lib.hid hlen
  have HF := Lib.hid hfit
  have HO := Lib.hid hone
  have HS := Lib.hid hsz1
  clear hlen hfit hone hsz1
  go_enter Tryd.func18, Tryd.ntmps18
  go_wp2_with (((refine wpList_copy_splice rfl (.tmp 10) (.tmp 11) 30 30 rfl 5 Tryd.underlying30 HS.out (some ⟨w.heap.size, 0, none⟩) A len (len + 1) len cap rfl rfl w.heap.size 0 _ 5 HG.out (bytesL len bs) HL.out HPOS.out HF.out HO.out w.heap.size w HB1.out (Nat.le_refl _) ?_); intro w2 HR hb2; rw [splice_full] at HR; have HR2 := Lib.hid (row_of_bytesL HR.out); have HB2 := Lib.hid hb2; have hc := HR2.out.cell (i := len) (Nat.lt_succ_self len); rw [if_neg (Nat.lt_irrefl len)] at hc; have hf := HR2.out.frozen len; clear HR hb2))
  go_ret
  exact ⟨w.heap.size, rfl, Nat.le_refl _, (HR2.out.set len (.int .u8 77)).congr fun j hj => by
    by_cases e : j = len
    · rw [if_pos e, if_neg (by omega)]; rfl
    · rw [if_neg e, if_pos (by omega), if_pos (by omega)], HB2.out.setCell (Nat.le_refl _) _⟩

set_option maxHeartbeats 800000 in
theorem kept_any (g : Nat) (A : Option Addr) (len cap : Nat) (bs : Nat → Nat) (w : World) (hl : len ≤ 140737488351232) (hA : SlB w A len bs)
    (hr : w.rowIs g 5 (len + 1) (fun j => .int .u8 (if j < len then bs j else 77 : Nat))) :
    Calls Tryd.prog 20 #[.slice (some ⟨g, 0, none⟩) len (len + 1), .slice A len cap] w fun e w' => e = .returned (.bool true) ∧ w = w' := by
  have hcv1 := convRowX (cap := len + 1) ((RowX.of_rowIs hr).less (Nat.le_succ len)) bs (Nat.le_refl _) (fun i hi => by rw [if_pos hi])
  have hcv2 := convSl (cap := cap) hA (Nat.le_refl len)
  have hc := hr.cell (i := len) (Nat.lt_succ_self len)
  rw [if_neg (Nat.lt_irrefl len)] at hc
  clear hr hA
  generalize strOf len bs = y at *
  go_enter Tryd.func20, Tryd.ntmps20
  go_wp2_with fail
  go_ret
  exact ⟨rfl, rfl⟩
end Go.Proofs.YtejljmpjdhdoiaaDoor
