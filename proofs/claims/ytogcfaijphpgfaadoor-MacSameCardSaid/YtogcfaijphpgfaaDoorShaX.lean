/- Contracts of package sha: New, Sum. -/
import Derived.Test.YtogcfaijphpgfaaDoorShaV
namespace Go.Proofs.YtogcfaijphpgfaaDoor
open Go.RowKit
theorem st0_lit : valsL 8 (fun j => Value.int .u32 (at8 st0 j : Nat)) = [.int .u32 1779033703, .int .u32 3144134277, .int .u32 1013904242, .int .u32 2773480762, .int .u32 1359893119, .int .u32 2600822924, .int .u32 528734635, .int .u32 1541459225] := rfl
theorem zero_lit : (valsL 73 (hv s80 (fun _ => 0) 0)).toArray = #[Value.int .u32 0, Value.int .u32 0, Value.int .u32 0, Value.int .u32 0, Value.int .u32 0, Value.int .u32 0, Value.int .u32 0, Value.int .u32 0, Value.int .u8 0, Value.int .u8 0, Value.int .u8 0, Value.int .u8 0, Value.int .u8 0, Value.int .u8 0, Value.int .u8 0, Value.int .u8 0, Value.int .u8 0, Value.int .u8 0, Value.int .u8 0, Value.int .u8 0, Value.int .u8 0, Value.int .u8 0, Value.int .u8 0, Value.int .u8 0, Value.int .u8 0, Value.int .u8 0, Value.int .u8 0, Value.int .u8 0, Value.int .u8 0, Value.int .u8 0, Value.int .u8 0, Value.int .u8 0, Value.int .u8 0, Value.int .u8 0, Value.int .u8 0, Value.int .u8 0, Value.int .u8 0, Value.int .u8 0, Value.int .u8 0, Value.int .u8 0, Value.int .u8 0, Value.int .u8 0, Value.int .u8 0, Value.int .u8 0, Value.int .u8 0, Value.int .u8 0, Value.int .u8 0, Value.int .u8 0, Value.int .u8 0, Value.int .u8 0, Value.int .u8 0, Value.int .u8 0, Value.int .u8 0, Value.int .u8 0, Value.int .u8 0, Value.int .u8 0, Value.int .u8 0, Value.int .u8 0, Value.int .u8 0, Value.int .u8 0, Value.int .u8 0, Value.int .u8 0, Value.int .u8 0, Value.int .u8 0, Value.int .u8 0, Value.int .u8 0, Value.int .u8 0, Value.int .u8 0, Value.int .u8 0, Value.int .u8 0, Value.int .u8 0, Value.int .u8 0, Value.int .i64 0] := rfl
theorem new_lit : (#[Value.int .u32 1779033703, Value.int .u32 3144134277, Value.int .u32 1013904242, Value.int .u32 2773480762, Value.int .u32 1359893119, Value.int .u32 2600822924, Value.int .u32 528734635, Value.int .u32 1541459225, Value.int .u8 0, Value.int .u8 0, Value.int .u8 0, Value.int .u8 0, Value.int .u8 0, Value.int .u8 0, Value.int .u8 0, Value.int .u8 0, Value.int .u8 0, Value.int .u8 0, Value.int .u8 0, Value.int .u8 0, Value.int .u8 0, Value.int .u8 0, Value.int .u8 0, Value.int .u8 0, Value.int .u8 0, Value.int .u8 0, Value.int .u8 0, Value.int .u8 0, Value.int .u8 0, Value.int .u8 0, Value.int .u8 0, Value.int .u8 0, Value.int .u8 0, Value.int .u8 0, Value.int .u8 0, Value.int .u8 0, Value.int .u8 0, Value.int .u8 0, Value.int .u8 0, Value.int .u8 0, Value.int .u8 0, Value.int .u8 0, Value.int .u8 0, Value.int .u8 0, Value.int .u8 0, Value.int .u8 0, Value.int .u8 0, Value.int .u8 0, Value.int .u8 0, Value.int .u8 0, Value.int .u8 0, Value.int .u8 0, Value.int .u8 0, Value.int .u8 0, Value.int .u8 0, Value.int .u8 0, Value.int .u8 0, Value.int .u8 0, Value.int .u8 0, Value.int .u8 0, Value.int .u8 0, Value.int .u8 0, Value.int .u8 0, Value.int .u8 0, Value.int .u8 0, Value.int .u8 0, Value.int .u8 0, Value.int .u8 0, Value.int .u8 0, Value.int .u8 0, Value.int .u8 0, Value.int .u8 0, Value.int .i64 0] : Array Value) = (valsL 73 (hv st0 (fun _ => 0) 0)).toArray := rfl
set_option maxRecDepth 100000 in
theorem new_any (f : Nat → Nat) (w : World) (ht : GT w) :
    Calls Tryd.prog 23 #[] w fun e w' => e = .returned (.pointer (some ⟨w.heap.size, 0, none⟩)) ∧ HM w' w.heap.size 0 f ∧ Below w.heap.size w w' := by
  have HRG := Lib.hid (show w.rangeAt 0 0 [.int .u32 1779033703, .int .u32 3144134277, .int .u32 1013904242, .int .u32 2773480762, .int .u32 1359893119, .int .u32 2600822924, .int .u32 528734635, .int .u32 1541459225] from by
    rw [← st0_lit]
    intro j v hv
    obtain ⟨hj, rfl⟩ := valsL_get hv
    rw [Nat.zero_add]; exact ht.h j hj)
  have hz := zero_hash
  rw [zero_lit] at hz
  clear ht
  go_enter Tryd.func23, Tryd.ntmps23
  go_wp2_with (refine wpList_load_mid rfl 64 (.global 0) rfl 0 0 rfl _ _ HRG.out Tryd.underlying64 rfl size8w ?_)
  go_ret
  refine ⟨rfl, ⟨fun _ => 0, ?_, fun j hj => absurd hj (by simp)⟩, (Below.refl _ _).alloc (Nat.le_refl _) _⟩
  exact rowV_new new_lit rfl
theorem Parts.keep {w w' : World} {g k : Nat} {A : Nat → Option Addr} {n c : Nat → Nat} {f : Nat → Nat → Nat} (h : Parts w g k A n c f) (hb : Below w.heap.size w w') : Parts w' g k A n c f :=
  ⟨fun j hj => (hb.cell (p := ⟨g, j, none⟩) (block_lt (a := ⟨g, j, none⟩) (h.cells j hj))).trans (h.cells j hj), fun j hj => (h.rows j hj).keep hb⟩
theorem Parts.apart {w : World} {g k K : Nat} {A : Nat → Option Addr} {n c : Nat → Nat} {f : Nat → Nat → Nat} (h : Parts w g k A n c f) (hK : w.heap.size ≤ K) : ∀ i, i < k → 0 < n i → ∀ B o, A i = some ⟨B, o, none⟩ → B ≠ K := fun i hi hn B o e => by
  obtain ⟨B', o', e', hB, _⟩ := h.rows i hi hn
  rw [e] at e'
  injection e' with e'
  injection e' with e1 _ _
  omega
set_option maxHeartbeats 800000 in
theorem sum_any (gp k cap : Nat) (A : Nat → Option Addr) (n c : Nat → Nat) (f : Nat → Nat → Nat) (F : Nat → Nat) (w : World) (hk0 : 0 < k) (hk : k ≤ 1000) (hN : offs 0 n k ≤ 100000000000000) (hp : Parts w gp k A n c f) (hcap : ∀ i, i < k → n i ≤ c i)
    (hF : ∀ i, i < k → ∀ j, j < n i → F (offs 0 n i + j) = f i j) (hY : By (offs 0 n k) F) (ht : GT w) :
    Calls Tryd.prog 20 #[.slice (some ⟨gp, 0, none⟩) k cap] w fun e w' => ∃ d, e = .returned (.slice (some ⟨d, 0, none⟩) 32 32) ∧ w.heap.size ≤ d ∧ Arr w' d 0 32 (sha (offs 0 n k) F) ∧ Below w.heap.size w w' := by
  have HP := Lib.hid hp
  have HF := Lib.hid hF
  have HY := Lib.hid hY
  have HT := Lib.hid ht
  have HCP := Lib.hid hcap
  have HN := Lib.hid hN
  have HGP := Lib.hid (block_lt (a := ⟨gp, 0, none⟩) (hp.cells 0 hk0))
  clear hp hF hY ht hcap hN
  go_enter Tryd.func20, Tryd.ntmps20
  go_wp2_with fail
  refine (new_any F w HT.out).mono ?_
  rintro e w1 ⟨rfl, h1, h2⟩
  have HM1 := Lib.hid h1
  have HB1 := Lib.hid h2
  have HT1 := Lib.hid (HT.out.keep h2)
  have HP1 := Lib.hid (HP.out.keep h2)
  have HG := Lib.hid (show 1 ≠ w.heap.size ∧ 0 ≠ w.heap.size from ⟨Nat.ne_of_lt HT.out.ltk, Nat.ne_of_lt HT.out.lth⟩)
  clear h1 h2
  go_wp2_with fail
  refine (write_any w.heap.size 0 gp k cap A n c f F w1 hk (by have := HN.out; omega) HP1.out HCP.out HF.out HM1.out HY.out HT1.out HG.out (Nat.ne_of_lt HGP.out) (HP.out.apart (Nat.le_refl _))).mono ?_
  rintro e w2 ⟨rfl, h1, h2⟩
  have HM2 := Lib.hid h1
  have HB2 := Lib.hid (HB1.out.trans (h2.below HB1.out.size (Nat.le_refl _)))
  have HT2 := Lib.hid (HT1.out.chg h2 HG.out)
  clear h1 h2
  go_wp2_with fail
  refine (hsum_any w.heap.size (offs 0 n k) F w2 HN.out HM2.out HY.out HT2.out).mono ?_
  rintro e w3 ⟨d, rfl, h1, h2, h3⟩
  have HD := Lib.hid (Nat.le_trans HB2.out.size h1)
  have HR := Lib.hid h2
  have HB3 := Lib.hid (HB2.out.trans (h3.mono HB2.out.size))
  clear h1 h2 h3
  go_wp2_with fail
  go_ret
  exact ⟨d, rfl, HD.out, HR.out, HB3.out⟩
end Go.Proofs.YtogcfaijphpgfaaDoor
