/- Contracts of package mac: Fold. -/
import Derived.Test.YtogcfaijphpgfaaDoorMacF
import Derived.Test.YtogcfaijphpgfaaDoorOwnV
namespace Go.Proofs.YtogcfaijphpgfaaDoor
open Go.RowKit
/-- a slice of the call's own: its bytes, and that it may be written to its end -/
structure Mine (w : World) (base : Nat) (v : Value) (n : Nat) (f : Nat → Nat) (A : Option Addr) (c g : Nat) : Prop where
  val : v = .slice A n c
  row : SlB w A n f
  own : OwnR w A c g
  from_ : 0 < c → base ≤ g
  le : n ≤ c
  max : c ≤ maxLen
  nil : A = none → n = 0 ∧ c = 0
namespace Mine
variable {w w' : World} {base n : Nat} {v : Value} {f f' : Nat → Nat} {A : Option Addr} {c g : Nat}
theorem keep (h : Mine w base v n f A c g) (hb : Below w.heap.size w w') : Mine w' base v n f A c g := ⟨h.val, h.row.keep hb, h.own.keep hb, h.from_, h.le, h.max, h.nil⟩
theorem congr (h : Mine w base v n f A c g) (e : ∀ j, j < n → f j = f' j) : Mine w base v n f' A c g := ⟨h.val, h.row.congr e, h.own, h.from_, h.le, h.max, h.nil⟩
theorem less (h : Mine w base v n f A c g) {b : Nat} (hb : b ≤ base) : Mine w b v n f A c g := ⟨h.val, h.row, h.own, fun hc => Nat.le_trans hb (h.from_ hc), h.le, h.max, h.nil⟩
theorem of_ownB (h : OwnB w base v n f) (hf : ∀ j, j < n → f j < 256) : ∃ A c g, Mine w base v n f A c g := by
  obtain ⟨A, c, g, rfl, h1, h2, h3, h4⟩ := h.ownR
  obtain ⟨A1, c1, e1, h5⟩ := h.slice hf
  cases e1
  obtain ⟨A2, c2, e2, _, _, h6⟩ := h.cap_le
  cases e2
  exact ⟨A, c, g, rfl, h5, h1, h2, h4, h3, h6⟩
theorem of_arr {d m : Nat} {f : Nat → Nat} (h : Arr w d 0 m f) (hf : By m f) (hd : base ≤ d) (hm : m ≤ maxLen) : Mine w base (.slice (some ⟨d, 0, none⟩) m m) m f (some ⟨d, 0, none⟩) m d :=
  ⟨rfl, h.slB hf, OwnR.arr h, fun _ => hd, Nat.le_refl _, hm, fun h => by cases h⟩
end Mine
/-- what Fold leaves -/
def FoldP (w : World) (n : Nat) (f : Nat → Nat) (e : Ending) (w' : World) : Prop := (∃ v A c g, e = .returned v ∧ Mine w' w.heap.size v n f A c g) ∧ Below w.heap.size w w'
set_option maxRecDepth 100000 in
set_option maxHeartbeats 1600000 in
theorem fold_any (A : Option Addr) (n c : Nat) (key : Nat → Nat) (AL : Option Addr) (L cL : Nat) (s : Nat → ByteArray) (w : World) (hn : n ≤ 1000000000000) (hA : SlB w A n key) (hnil : A = none → n = 0 ∧ c = 0) (hL : L ≤ 1000000) (hS : SlS w AL L s) (hsz : ∀ j, j < L → (s j).size ≤ 1000000000000) (ht : GT w) :
    Calls Tryd.prog 18 #[.slice A n c, .slice AL L cL] w (FoldP w (fkN n L) (fkF n key s L)) := by
  have HCL := Lib.hid (clone_any A n c key w (by omega) hA hnil)
  have HKB := Lib.hid (show By n key from fun j hj => hA.byte hj)
  have HN := Lib.hid hn
  have HS := Lib.hid hS
  have HSZ := Lib.hid hsz
  have HT := Lib.hid ht
  clear hn hA hnil hS hsz ht
  go_enter Tryd.func18, Tryd.ntmps18
  go_wp2_with fail
  refine HCL.out.mono ?_
  rintro e w1 ⟨⟨v, rfl, hown⟩, hb1⟩
  obtain ⟨A1, c1, g1, hmine⟩ := Mine.of_ownB hown HKB.out
  obtain rfl := hmine.val
  have H1 := Lib.hid hmine
  have HB1 := Lib.hid hb1
  clear hown hmine hb1 HCL
  go_wp2_with fail
  go_loopw [5, 13] (fun v i wr => ∃ (k : Nat) (A2 : Option Addr) (c2 g2 : Nat), k ≤ L ∧ i = .int .i64 k ∧ v = .slice A2 (fkN n k) c2 ∧ Mine wr w.heap.size (.slice A2 (fkN n k) c2) (fkN n k) (fkF n key s k) A2 c2 g2 ∧ Below w.heap.size w wr) (fun _ i _ => L - (intOf i).toNat)
  case atStart => exact ⟨0, A1, c1, g1, Nat.zero_le _, rfl, rfl, H1.out, HB1.out⟩
  case round =>
    obtain ⟨k, A2, c2, g2, hk, rfl, rfl, h1, h2⟩ := hrel
    have G1 := Lib.hid h1
    have G2 := Lib.hid h2
    have HNK := Lib.hid (fkN_le (n := n) HN.out (by decide) k)
    clear h1 h2
    by_cases hlt : k < L
    · obtain ⟨B, o, rfl, hB, hsa⟩ := HS.out (by omega)
      have hcell : wr.cell? ⟨B, o + k, none⟩ = some (.string (s k)) := (hsa.keep G2.out) k hlt
      have HZ := Lib.hid (HSZ.out k hlt)
      have hlti : (k : Int) < L := by omega
      have HNX := Lib.hid (show fkF n key s (k + 1) = tag (fkN n k) (fkF n key s k) (8 + (s k).size) (catB 8 (len8 (s k).size) (by_ (s k))) from rfl)
      have HN1 := Lib.hid (show fkN n (k + 1) = 32 from rfl)
      have HFB := Lib.hid (fkF_by (s := s) HKB.out k)
      clear hsa hB
      generalize s k = x at *
      generalize fkN n k = m at *
      generalize fkF n key s k = F at *
      go_wp2_with fail
      refine (length_any x wr (by have := HZ.out; omega)).mono ?_
      rintro e w2 ⟨rfl, hb2⟩
      have HB2 := Lib.hid (G2.out.trans (hb2.mono G2.out.size))
      have HM2 := Lib.hid (G1.out.keep hb2)
      clear hcell hb2
      have HAR := Lib.hid (made8 w2)
      have HM3 := Lib.hid (HM2.out.keep (alloc_below w2 (.cells z8 60)))
      have hB3 := HB2.out.trans ((alloc_below w2 (.cells z8 60)).mono HB2.out.size)
      have HB3 := Lib.hid hB3
      have HWS := Lib.hid (show w.heap.size ≤ w2.heap.size from HB2.out.size)
      clear hB3
      go_wp2_with (refine wpList_storeB rfl 60 (.tmp 8) (.tmp 18) rfl w2.heap.size 0 8 _ _ rfl rfl HAR.out size8b ?_; intro w3 h1 h2; have HA3 := Lib.hid h1; have HC3 := Lib.hid h2; clear h1 h2; obtain ⟨cap, w4, hcv, hb4, hcap, hrow⟩ := bytesOf' x w3; have HB4 := Lib.hid hb4; have HCP := Lib.hid hcap; have HX4 := Lib.hid hrow; clear hb4 hcap hrow)
      clear hcv
      have hm3 := HM3.out
      have HB34 := Lib.hid (HC3.out.below (by simp) (Nat.le_refl _))
      have HG2 := Lib.hid (show 0 < c2 → g2 < w2.heap.size from fun h => HM2.out.own.lt h)
      have HW3 := Lib.hid (HB3.out.trans (HC3.out.below (by have := HWS.out; simp; omega) HWS.out))
      have HWB := Lib.hid (HW3.out.trans (HB4.out.mono HW3.out.size))
      have HM4 := Lib.hid (HM2.out.keep (((alloc_below w2 (.cells z8 60)).trans HB34.out).trans (HB4.out.mono (Nat.le_trans (alloc_below w2 (.cells z8 60)).size HB34.out.size))))
      have HA4 := Lib.hid (HA3.out.keep HB4.out)
      clear hm3
      refine (mac2_any w4 A2 (some ⟨w2.heap.size, 0, none⟩) (some ⟨w3.heap.size, 0, none⟩) m c2 8 x.size 8 cap F (len8 x.size) (by_ x) (catB 8 (len8 x.size) (by_ x)) (by have := HNK.out; omega) (by have := HZ.out; omega) HM4.out.le (Nat.le_refl _) HCP.out HM4.out.row HFB.out (HA4.out.slB fun j _ => len8_lt _ j) HX4.out
        (fun j hj => by unfold catB; rw [if_pos hj]) (fun j _ => by unfold catB; rw [if_neg (by omega), Nat.add_sub_cancel_left]) (HT.out.keep HWB.out)).mono ?_
      rintro e w5 ⟨d, rfl, hd, ha, hb5⟩
      have HB5 := Lib.hid (HWB.out.trans (hb5.mono HWB.out.size))
      have HR := Lib.hid (Mine.of_arr (base := w.heap.size) (f := fkF n key s (k + 1)) (by rw [HNX.out]; exact ha) (by rw [HNX.out]; exact fun j _ => tag_lt _ _ _ _ j) (Nat.le_trans HWB.out.size hd) (by unfold maxLen; omega))
      clear hd ha hb5
      go_wp2_with fail
      go_roundw
      case rel => exact ⟨k + 1, _, 32, d, by omega, by go_num, by rw [HN1.out], by rw [HN1.out]; exact HR.out, HB5.out⟩
      case measure => simp [intOf]; omega
    · obtain rfl : k = L := by omega
      go_wp2_with fail
      go_ret
      exact ⟨⟨_, A2, c2, g2, rfl, G1.out⟩, G2.out⟩
end Go.Proofs.YtogcfaijphpgfaaDoor
