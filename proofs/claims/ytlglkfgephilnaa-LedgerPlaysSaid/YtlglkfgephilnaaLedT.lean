/- Layer 17: tells (the law's comparison of both ledgers). -/
import Derived.Test.YtlglkfgephilnaaLedY
import Derived.Test.YtlglkfgephilnaaRef17S
namespace Go.Proofs.Ytlglkfgephilnaa
set_option maxRecDepth 100000
open Go.RowKit
/-- a whole post stored into a row of its own -/
theorem pown_facts {w : World} {base g n c k : Nat} {F : List Po} (h : OwL poE 31 w base (.slice (some ⟨g, 0, none⟩) n c) F) (hk : k < F.length) (x0 x1 x2 : Value) :
    (w.cell? ⟨g, k * 4, none⟩ = some (.string F[k].k) ∧ w.frozen? ⟨g, k * 4, none⟩ = false) ∧
    ((w.setCell ⟨g, k * 4, none⟩ x0).cell? ⟨g, k * 4 + 1, none⟩ = some (.int .i64 F[k].a) ∧ (w.setCell ⟨g, k * 4, none⟩ x0).frozen? ⟨g, k * 4 + 1, none⟩ = false) ∧
    (((w.setCell ⟨g, k * 4, none⟩ x0).setCell ⟨g, k * 4 + 1, none⟩ x1).cell? ⟨g, k * 4 + 2, none⟩ = some (.int .i64 F[k].s) ∧ ((w.setCell ⟨g, k * 4, none⟩ x0).setCell ⟨g, k * 4 + 1, none⟩ x1).frozen? ⟨g, k * 4 + 2, none⟩ = false) ∧
    ((((w.setCell ⟨g, k * 4, none⟩ x0).setCell ⟨g, k * 4 + 1, none⟩ x1).setCell ⟨g, k * 4 + 2, none⟩ x2).cell? ⟨g, k * 4 + 3, none⟩ = some (.string F[k].t) ∧ (((w.setCell ⟨g, k * 4, none⟩ x0).setCell ⟨g, k * 4 + 1, none⟩ x1).setCell ⟨g, k * 4 + 2, none⟩ x2).frozen? ⟨g, k * 4 + 3, none⟩ = false) := by
  obtain ⟨_, ⟨c0, c1, c2, c3⟩, cf⟩ := po_own h hk
  have ne : ∀ {W : World} {i j : Nat} {y : Value}, i ≠ j → (W.setCell ⟨g, i, none⟩ y).cell? ⟨g, j, none⟩ = W.cell? ⟨g, j, none⟩ := fun {W i j y} hij => World.cell?_setCell_other W ⟨g, i, none⟩ ⟨g, j, none⟩ y (fun e => hij (congrArg Addr.off e))
  refine ⟨⟨c0, cf _⟩, ⟨(ne (by omega)).trans c1, by rw [World.frozen?_setCell]; exact cf _⟩, ⟨(ne (by omega)).trans ((ne (by omega)).trans c2), by rw [World.frozen?_setCell, World.frozen?_setCell]; exact cf _⟩, ⟨(ne (by omega)).trans ((ne (by omega)).trans ((ne (by omega)).trans c3)), by rw [World.frozen?_setCell, World.frozen?_setCell, World.frozen?_setCell]; exact cf _⟩⟩
theorem pown_set4 {w : World} {base g n c k : Nat} {F : List Po} (h : OwL poE 31 w base (.slice (some ⟨g, 0, none⟩) n c) F) (hn : n = F.length) (hk : k < F.length) (z : Po) :
    OwL poE 31 ((((w.setCell ⟨g, k * 4, none⟩ (.string z.k)).setCell ⟨g, k * 4 + 1, none⟩ (.int .i64 z.a)).setCell ⟨g, k * 4 + 2, none⟩ (.int .i64 z.s)).setCell ⟨g, k * 4 + 3, none⟩ (.string z.t)) base (.slice (some ⟨g, 0, none⟩) n c) (F.set k z) := by
  obtain ⟨a0, _⟩ := h.set1 hn (List.getElem?_eq_getElem hk) (i := 0) (y := ⟨z.k, F[k].a, F[k].s, F[k].t⟩) (u := .string z.k) (by decide) rfl
  obtain ⟨a1, _⟩ := a0.set1 (by rw [List.length_set]; exact hn) (j := k) (i := 1) (x := ⟨z.k, F[k].a, F[k].s, F[k].t⟩) (y := ⟨z.k, z.a, F[k].s, F[k].t⟩) (u := .int .i64 z.a) (List.getElem?_set_self hk) (by decide) rfl
  rw [List.set_set] at a1
  obtain ⟨a2, _⟩ := a1.set1 (by rw [List.length_set]; exact hn) (j := k) (i := 2) (x := ⟨z.k, z.a, F[k].s, F[k].t⟩) (y := ⟨z.k, z.a, z.s, F[k].t⟩) (u := .int .i64 z.s) (List.getElem?_set_self hk) (by decide) rfl
  rw [List.set_set] at a2
  obtain ⟨a3, _⟩ := a2.set1 (by rw [List.length_set]; exact hn) (j := k) (i := 3) (x := ⟨z.k, z.a, z.s, F[k].t⟩) (y := z) (u := .string z.t) (List.getElem?_set_self hk) (by decide) rfl
  rw [List.set_set] at a3
  exact a3
theorem chg_four17 {w w' : World} {T : Nat → Prop} (h : ChgS T w w') {g k : Nat} (hg : T g) (x0 x1 x2 x3 : Value) : ChgS T w ((((w'.setCell ⟨g, k * 4, none⟩ x0).setCell ⟨g, k * 4 + 1, none⟩ x1).setCell ⟨g, k * 4 + 2, none⟩ x2).setCell ⟨g, k * 4 + 3, none⟩ x3) :=
  (((h.setCell (a := ⟨g, k * 4, none⟩) hg x0).setCell (a := ⟨g, k * 4 + 1, none⟩) hg x1).setCell (a := ⟨g, k * 4 + 2, none⟩) hg x2).setCell (a := ⟨g, k * 4 + 3, none⟩) hg x3
abbrev spS : ByteArray := { data := #[115, 112, 111, 105, 108, 116] }
abbrev spP : Po := ⟨spS, 0, 0, ⟨#[]⟩⟩
set_option maxHeartbeats 3200000 in
theorem tells17_any {u w w0 : World} {G X : Nat} {LA : World → List Po → (Nat → Prop) → Prop} {L : List Po} (hK : LgKit u G LA) (h : TwoG u LA X (fun _ => False) w0 w L L) :
    Calls Try.prog 22 #[.pointer (some ⟨G, 0, none⟩), .pointer (some ⟨X, 0, none⟩)] w fun e w' => e = .returned (.bool true) ∧ TwoG u LA X (fun _ => False) w' w' L L := by
  have HK := Lib.hid hK
  have HT := Lib.hid h
  have HW := Lib.hid (show u.heap.size ≤ w.heap.size from h.bel.size)
  have hL := (h.ok hK).few
  have HLN := Lib.hid hL
  have hL24 : (L.length : Int) ≤ 24 := by omega
  clear hK h hL
  go_enter Try.func22, Try.ntmps22
  go_wp2_with fail
  refine (TwoG.list HK.out HT.out).mono ?_
  rintro e w1 ⟨y, rfl, ho, ht⟩
  obtain ⟨A, c, rfl, hl⟩ := ho.slice
  obtain ⟨A', c', hcell, hl'⟩ := ht.ref
  have hs := rsame17_any A c L A' c' L w1 hl hl' (by have := HLN.out; omega) (by have := HLN.out; omega)
  rw [show decide (L = L) = true from decide_eq_true rfl] at hs
  have HSM := Lib.hid hs
  have HO := Lib.hid ho
  have HT1 := Lib.hid ht
  clear hs ho ht hl hl' HT
  go_wp2_with fail
  refine HSM.out.mono ?_
  rintro e w2 ⟨rfl, hb2⟩
  have HT2 := Lib.hid (TwoG.chg (T := fun _ => False) HK.out (HT1.out.below HK.out hb2) (ChgS.refl _ w2) (fun _ hk => absurd hk id))
  have HO2 := Lib.hid (HO.out.keep hb2)
  clear hcell hb2 HSM HO HT1
  go_wp2_with fail
  go_loopw [7] (fun i wr => ∃ (j : Nat) (F : List Po), j ≤ L.length ∧ i = .int .i64 j ∧ F.length = L.length ∧ OwL poE 31 wr w.heap.size (.slice A L.length c) F ∧ TwoG u LA X (fun k => False ∨ (Value.slice A L.length c).ownBlock = some k) wr wr L L) (fun i _ => L.length - (intOf i).toNat)
  case atStart => exact ⟨0, L, Nat.zero_le _, rfl, rfl, HO2.out, HT2.out⟩
  case round =>
    obtain ⟨j, F, hj, rfl, hF, ho, ht⟩ := hrel
    have HOR := Lib.hid ho
    have HTR := Lib.hid ht
    have HFL := Lib.hid hF
    clear ho ht HT2 HO2 hF
    by_cases hlt : j < L.length
    · have hjF : j < F.length := by rw [HFL.out]; exact hlt
      obtain ⟨g, c9, e9, _, _, _⟩ := HOR.out.lies (by omega)
      injection e9 with e1 _ _
      subst e1
      have hji : (j : Int) < L.length := by omega
      obtain ⟨⟨k0, f0⟩, ⟨k1, f1⟩, ⟨k2, f2⟩, ⟨k3, f3⟩⟩ := pown_facts HOR.out hjF (.string spS) (.int .i64 0) (.int .i64 0)
      have HN := Lib.hid (pown_set4 HOR.out HFL.out.symm hjF spP)
      have HC := Lib.hid (TwoG.chg (T := fun k => k = g) HK.out HTR.out (chg_four17 (T := fun k => k = g) (g := g) (k := j) (ChgS.refl _ wr) rfl (.string spS) (.int .i64 0) (.int .i64 0) (.string ⟨#[]⟩)) (fun k hk => by subst hk; exact ⟨Or.inr rfl, Nat.le_trans HW.out (HOR.out.lt _ rfl).1⟩))
      clear HTR HOR
      generalize F[j] = z at *
      have HJL := Lib.hid hlt
      go_wp2_with fail
      go_roundw
      case rel => exact ⟨j + 1, F.set j spP, HJL.out, by go_num, by rw [List.length_set]; exact HFL.out, HN.out, HC.out⟩
      case measure => have := HJL.out; simp [intOf]; omega
    · have hji : ¬ (j : Int) < L.length := by omega
      have HE := Lib.hid (HTR.out.free wr)
      have HTO := Lib.hid (fun O (h : LA wr L O) => HK.out.total _ L O h)
      clear HTR HOR
      go_wp2_with fail
      refine (TwoG.left HK.out HE.out HTO.out).mono ?_
      rintro e w4 ⟨rfl, h4⟩
      have H4 := Lib.hid h4
      clear h4 HE HTO
      go_wp2_with fail
      refine (TwoG.right0 HK.out H4.out fun v hv => (rtotal17_any u X L v w4 hv).mono fun e w' h => ⟨h.1, h.2 ▸ Below.refl _ _⟩).mono ?_
      rintro e w5 ⟨rfl, h5⟩
      have H5 := Lib.hid (h5.free w5)
      have htt : (totP L == totP L) = true := by simp
      clear h5 H4
      go_wp2_with fail
      go_ret
      exact ⟨rfl, H5.out⟩
end Go.Proofs.Ytlglkfgephilnaa
