/- 1 texts in one, in their order: what the cards need of them. -/
import Derived.Test.YthmlcmlpmolmoaaGreatDoorSk13
namespace Go.Proofs.YthmlcmlpmolmoaaGreatDoor
set_option maxRecDepth 100000
open Go.RowKit
def cphL : List Value := [.int .u32 0, .int .i32 0, .int .u32 0, .slice none 0 0]
theorem zeroVlt : Tryz.zeroCells88 = (Value.pointer none :: .int .i64 0 :: .int .i64 0 :: (List.replicate 255 cphL).flatten).toArray := by kernel_rfl
theorem vlt_cells {w : World} {G : Nat} {v0 v1 : Value} {t : TypeId} (h : w.heap[G]? = some (.cells ((Tryz.zeroCells88.setIfInBounds 0 v0).setIfInBounds 1 v1) t (0, 0))) :
    w.cell? ⟨G, 0, none⟩ = some v0 ∧ w.cell? ⟨G, 1, none⟩ = some v1 ∧ w.cell? ⟨G, 2, none⟩ = some (.int .i64 0) ∧ (∀ o, w.frozen? ⟨G, o, none⟩ = false) ∧
    ∀ k, k < 255 → OnceAt w G (3 + k * 4) 0 0 ∧ w.cell? ⟨G, 3 + k * 4 + 3, none⟩ = some (.slice none 0 0) := by
  rw [zeroVlt] at h
  generalize hL : (List.replicate 255 cphL).flatten = L at *
  have hr : ∀ k j, k < 255 → j < 4 → L[k * 4 + j]? = cphL[j]? := fun k j hk hj => by
    rw [← hL]
    exact flat_rep cphL 255 k j hk hj
  clear hL
  have e : ((Value.pointer none :: .int .i64 0 :: .int .i64 0 :: L).toArray.setIfInBounds 0 v0).setIfInBounds 1 v1 = (v0 :: v1 :: .int .i64 0 :: L).toArray := by simp
  rw [e] at h
  have hz : ∀ (o : Nat), w.frozen? ⟨G, o, none⟩ = false := fun o => Lib.frozen_of_heap h o
  have hc : ∀ (o : Nat) x, (v0 :: v1 :: Value.int .i64 0 :: L)[o]? = some x → w.cell? ⟨G, o, none⟩ = some x := fun o x hx => (Lib.cell_of_heap h o).trans (by rw [List.getElem?_toArray]; exact hx)
  have hk : ∀ k j, k < 255 → j < 4 → (v0 :: v1 :: Value.int .i64 0 :: L)[3 + k * 4 + j]? = cphL[j]? := fun k j h1 h2 => by
    rw [show 3 + k * 4 + j = (k * 4 + j) + 1 + 1 + 1 by omega, List.getElem?_cons_succ, List.getElem?_cons_succ, List.getElem?_cons_succ]
    exact hr k j h1 h2
  exact ⟨hc 0 _ rfl, hc 1 _ rfl, hc 2 _ rfl, hz, fun k h1 => ⟨⟨hc _ _ ((hk k 0 h1 (by decide)).trans rfl), hc _ _ ((hk k 1 h1 (by decide)).trans rfl), hz _, hz _⟩, hc _ _ ((hk k 3 h1 (by decide)).trans rfl)⟩⟩
theorem vlt_first {u w2 w3 : World} {R M cc n : Nat} {key : Nat → Nat} {t V : Int} (hr : RingAt u w2 R M cc n key) (ht : Tabs u) (ho : (1 ≤ t ∧ t ≤ 64) ∧ 1 ≤ V ∧ V ≤ 255) (hb : Below w2.heap.size w2 w3)
    (hh : w3.heap[w2.heap.size]? = some (.cells ((Tryz.zeroCells88.setIfInBounds 0 (.pointer (some ⟨R, 0, none⟩))).setIfInBounds 1 (.int .i64 t)) 88 (0, 0))) :
    VlA u w2.heap.size R M cc n key t 1000 (w3.setCell ⟨w2.heap.size, 2, none⟩ (.int .i64 V)) V (fun k => k = w2.heap.size ∨ k = R ∨ k = M) := by
  obtain ⟨c0, c1, c2, hz, hk⟩ := vlt_cells hh
  have hlt := hr.lt
  have hltM := hr.ltM
  have huG := hr.bel.size
  have hG3 : w2.heap.size < w3.heap.size := block_lt c0
  have r3 := hr.keep hb
  generalize hG : w2.heap.size = G at *
  have hc := (Chg.refl G w3).setCell (a := ⟨G, 2, none⟩) (Or.inl rfl) (.int .i64 V)
  have r4 := r3.chg hc huG (by omega) (by omega)
  have hf : ∀ j, (w3.setCell ⟨G, 2, none⟩ (.int .i64 V)).frozen? ⟨G, j, none⟩ = false := fun j => by rw [World.frozen?_setCell]; exact hz j
  have d0 : (w3.setCell ⟨G, 2, none⟩ (.int .i64 V)).cell? ⟨G, 0, none⟩ = some (.pointer (some ⟨R, 0, none⟩)) := (cell_off (by decide) _).trans c0
  refine ⟨ht, r4, ho.1, huG, by omega, by omega, Or.inl rfl, Or.inr (Or.inl rfl), Or.inr (Or.inr rfl), fun k hk => ?_, fun k hk s e => ?_, d0, (cell_off (by decide) _).trans c1,
    ⟨V.toNat, (World.cell?_setCell_same w3 ⟨G, 2, none⟩ _ c2).trans (by rw [Int.toNat_of_nonneg (by omega)]), by omega, by omega, by omega⟩, hf 2, fun k hk2 => ⟨hf _, Or.inl ⟨⟨?_, ?_, hf _, hf _⟩, ?_⟩⟩⟩
  · have := hr.uG
    have := hr.uM
    have hs := hc.size
    rcases hk with rfl | rfl | rfl <;> exact ⟨by omega, by omega⟩
  · rcases hk with rfl | rfl | rfl
    · rw [d0] at e; cases e
    · rw [r4.cell] at e; cases e
    · obtain ⟨B, o, e2, _, hh2⟩ := r4.bytes (by have := hr.len; omega)
      cases e2
      have := (hh2 0 (by have := hr.len; omega)).2
      rw [show (⟨k, 0 + 0, none⟩ : Addr) = ⟨k, 0, none⟩ from rfl] at this
      rw [this] at e
      cases e
  · exact (cell_off (by omega) _).trans (hk k hk2).1.done
  · exact (cell_off (by omega) _).trans (hk k hk2).1.lock
  · exact (cell_off (by omega) _).trans (hk k hk2).2
theorem vnew_bad : NewBad := by
  intro A n c key t V w hok hl hA hnil ht
  by_cases hn : 16 ≤ n ∧ n ≤ 64
  · have hkok : kok t 1 V = false := decide_eq_false fun h => of_decide_eq_false hok ⟨hn, h.1, h.2.2⟩
    have HKN := Lib.hid (knew_good A n c key w w hn hA hnil ht.gt ht.p10 (Below.refl _ _))
    have HKY := Lib.hid (show ∀ G M cc W, RingAt w W G M cc n key → Calls Tryz.prog 36 #[.pointer (some ⟨G, 0, none⟩), .int .i64 t, .int .i64 1, .int .i64 V] W fun e w' => ∃ A2 c2, e = .returned (.tuple #[.slice A2 0 c2, .int .i64 1]) ∧ Chg G W w' from fun G M cc W hW => by
      refine (key_any G M cc n t 1 V key w W hW).mono ?_
      rintro e w' ⟨⟨A2, c2, g, he, _⟩, _, h2⟩
      rw [hkok] at he
      exact ⟨A2, c2, he, h2⟩)
    clear hok hl hA hnil ht hkok
    go_enter Tryz.func12, Tryz.ntmps12
    go_wp2_with fail
    refine HKN.out.mono ?_
    rintro e w1 ⟨G, M, cc, rfl, hG, _, hr, hb1⟩
    have HR1 := Lib.hid hr
    have HB1 := Lib.hid hb1
    have HG1 := Lib.hid hG
    clear hr hb1 hG
    go_wp2_with fail
    refine (HKY.out G M cc w1 HR1.out).mono ?_
    rintro e w2 ⟨A2, c2, rfl, h2⟩
    have HB2 := Lib.hid (HB1.out.trans (h2.below (B := w.heap.size) HB1.out.size HG1.out))
    clear h2
    go_wp2_with fail
    go_ret2
    exact ⟨rfl, HB2.out⟩
  · have HKN := Lib.hid (knew_bad A n c w hn)
    clear hok hl hA hnil ht hn
    go_enter Tryz.func12, Tryz.ntmps12
    go_wp2_with fail
    refine HKN.out.mono ?_
    rintro e w1 ⟨rfl, rfl⟩
    go_wp2_with fail
    go_ret2
    exact ⟨rfl, Below.refl _ _⟩
theorem vnew_ok : NewOkS := by
  intro A n c key t V u w hok hA hnil ht hbel
  have hok2 := of_decide_eq_true hok
  have hkok : kok t 1 V = true := decide_eq_true ⟨hok2.2.1, by decide, hok2.2.2⟩
  have HKN := Lib.hid (knew_good A n c key u w hok2.1 hA hnil ht.gt ht.p10 hbel)
  have HKY := Lib.hid (show ∀ G M cc W, RingAt u W G M cc n key → Calls Tryz.prog 36 #[.pointer (some ⟨G, 0, none⟩), .int .i64 t, .int .i64 1, .int .i64 V] W fun e w' => ∃ A2 c2, e = .returned (.tuple #[.slice A2 32 c2, .int .i64 0]) ∧ RingAt u w' G M cc n key ∧ Chg G W w' from fun G M cc W hW => by
    refine (key_any G M cc n t 1 V key u W hW).mono ?_
    rintro e w' ⟨⟨A2, c2, g, he, _⟩, h1, h2⟩
    rw [hkok] at he
    exact ⟨A2, c2, he, h1, h2⟩)
  have HO := Lib.hid hok2.2
  have HT := Lib.hid ht
  have HU := Lib.hid hbel
  clear hok hok2 hA hnil ht hbel hkok
  go_enter Tryz.func12, Tryz.ntmps12
  go_wp2_with fail
  refine HKN.out.mono ?_
  rintro e w1 ⟨R, M, cc, rfl, hG, hM, hr, hb1⟩
  have HR1 := Lib.hid hr
  have HB1 := Lib.hid hb1
  have HG1 := Lib.hid hG
  have HM1 := Lib.hid hM
  clear hr hb1 hG hM
  go_wp2_with fail
  refine (HKY.out R M cc w1 HR1.out).mono ?_
  rintro e w2 ⟨A2, c2, rfl, h2, h3⟩
  have HR2 := Lib.hid h2
  have HB2 := Lib.hid (HB1.out.trans (h3.below (B := w.heap.size) HB1.out.size HG1.out))
  clear h2 h3
  go_wp2_with fail
  have hh := heap_alloc_new w2 (.cells ((Tryz.zeroCells88.setIfInBounds 0 (.pointer (some ⟨R, 0, none⟩))).setIfInBounds 1 (.int .i64 t)) 88)
  have hb3 := alloc_below w2 (.cells ((Tryz.zeroCells88.setIfInBounds 0 (.pointer (some ⟨R, 0, none⟩))).setIfInBounds 1 (.int .i64 t)) 88)
  generalize w2.alloc (.cells ((Tryz.zeroCells88.setIfInBounds 0 (.pointer (some ⟨R, 0, none⟩))).setIfInBounds 1 (.int .i64 t)) 88) = w3 at *
  have HVA := Lib.hid (vlt_first HR2.out HT.out HO.out hb3 hh)
  have HB4 := Lib.hid (HB2.out.trans ((((Chg.of_below (K := w2.heap.size) hb3).setCell (a := ⟨w2.heap.size, 2, none⟩) (Or.inl rfl) (.int .i64 V))).below (B := w.heap.size) HB2.out.size HB2.out.size))
  obtain ⟨_, _, k2, kz, _⟩ := vlt_cells hh
  refine (icount_store w2.heap.size 2 V _ w3 k2 (kz 2)).mono ?_
  rintro e w4 ⟨rfl, hw⟩
  have HW := Lib.hid hw
  clear hw hh hb3 k2 kz
  have HS2 := Lib.hid HB2.out.size
  generalize hG : w2.heap.size = G at *
  clear hG
  go_wp2_with fail
  go_ret2
  refine ⟨G, VlA u G R M cc n key t, _, rfl, vkit _ _ _ _ _ _ _ _, by rw [HW.out]; exact HVA.out, fun k hk => ?_, by rw [HW.out]; exact HB4.out⟩
  have h1 := HG1.out
  have h2 := HM1.out
  have h3 := HS2.out
  rcases hk with rfl | rfl | rfl <;> omega
end Go.Proofs.YthmlcmlpmolmoaaGreatDoor
