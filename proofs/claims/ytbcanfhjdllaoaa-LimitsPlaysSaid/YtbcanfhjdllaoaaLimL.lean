/- Layer 16, the code: New, List. -/
import Derived.Test.YtbcanfhjdllaoaaLimF
import Derived.Test.YtbcanfhjdllaoaaLimS
namespace Go.Proofs.Ytbcanfhjdllaoaa
set_option maxRecDepth 100000
open Go.RowKit
/-- the code's book in block G, of the blocks O -/
def TAc (u : World) (G : Nat) (w : World) (L : List Us) (O : Nat → Prop) : Prop := ∃ v, RBk u G w L v ∧ ∀ k, O k ↔ (k = G ∨ v.ownBlock = some k)
theorem TAc.step {u w w' : World} {G : Nat} {L' : List Us} {O : Nat → Prop} {v : Value} (hO : ∀ k, O k ↔ (k = G ∨ v.ownBlock = some k)) (h : RkS u G w v w' L') : BStep (TAc u G) w O w' L' := by
  obtain ⟨v', h1, h2, h3⟩ := h
  refine ⟨fun k => k = G ∨ v'.ownBlock = some k, ⟨v', h1, fun k => Iff.rfl⟩, ⟨h2.os, h2.tape, h2.output, h2.size, fun k hk hn => h2.block k hk fun e => hn ((hO k).2 e)⟩, fun k hk => ?_⟩
  rcases hk with rfl | hk
  · exact Or.inl ((hO k).2 (Or.inl rfl))
  · rcases h3 k hk with h | h
    · exact Or.inl ((hO k).2 (Or.inr h))
    · exact Or.inr h
theorem cnew16_any (u w : World) (hb : Below u.heap.size u w) : Calls Try.prog 12 #[] w fun e w' => ∃ G, e = .returned (.pointer (some ⟨G, 0, none⟩)) ∧ RBk u G w' [] (.slice none 0 0) ∧ w.heap.size ≤ G ∧ Below w.heap.size w w' := by
  have HB := Lib.hid hb
  clear hb
  go_enter Try.func12, Try.ntmps12
  go_wp2_with fail
  go_ret
  refine ⟨_, rfl, ⟨?_, HB.out.size, ?_, ?_, OwL.nil _ _ _, (fun g hg => by cases hg), BkOk.nil⟩, Nat.le_refl _, alloc_below _ _⟩
  · exact HB.out.trans ((alloc_below w _).mono HB.out.size)
  · exact (World.cell?_alloc_at _ _ _ _ rfl).trans rfl
  · exact World.frozen?_alloc_at _ _ _ _ rfl
/-- what make leaves for so many -/
theorem make16 (w : World) (base c : Nat) (hb : base ≤ w.heap.size) (hc : c ≤ 1000) : ∃ w', (Instr.makeSlice 22 (.int .i64 0) (.int .i64 ((c : Nat) : Int))).run Try.prog w = .ok (.slice (some ⟨w.heap.size, 0, none⟩) 0 c) w' ∧ OwL usE 31 w' base (.slice (some ⟨w.heap.size, 0, none⟩) 0 c) [] ∧ w.grownBy w' none := by
  obtain ⟨i, hi, hz, hsz, hbt⟩ := info_parts usTy.info
  exact run_make_own w base 22 31 i _ usE.k usTy.und hi hz hsz .i64 .i64 c (by rw [hbt]; omega) (by unfold maxLen; omega) hb
set_option maxHeartbeats 1600000 in
theorem clist16_any (u : World) (G : Nat) (L : List Us) (v : Value) (w : World) (h : RBk u G w L v) :
    Calls Try.prog 17 #[.pointer (some ⟨G, 0, none⟩)] w fun e w' => ∃ v', e = .returned v' ∧ OwL usE 31 w' w.heap.size v' L ∧ Below w.heap.size w w' := by
  have hlen := h.ok.few
  obtain ⟨w1, hmk, ho1, hg1⟩ := make16 w w.heap.size L.length (Nat.le_refl _) (by omega)
  have B1 : Below w.heap.size w w1 := (Below.refl _ _).grown hg1 (Nat.le_refl _) (fun k hk => by cases hk)
  obtain ⟨A, cp, hv, hl⟩ := h.own.slice
  have c0 := h.cell
  rw [hv] at c0
  have HK1 := Lib.hid (h.keep B1)
  have c1 := HK1.out.cell
  rw [hv] at c1
  have HL := Lib.hid hl
  have HO1 := Lib.hid ho1
  have HB1 := Lib.hid B1
  have HLEN := Lib.hid hlen
  have HOK := Lib.hid h.ok
  clear h hv hl ho1 hg1 B1 hlen
  go_enter Try.func17, Try.ntmps17
  go_wp2_with fail
  go_loopw [3, 17] (fun v3 i wr => ∃ (k : Nat) (A' : Option Addr) (c' : Nat), k ≤ L.length ∧ i = .int .i64 k ∧ v3 = .slice A' k c' ∧ OwL usE 31 wr w.heap.size (.slice A' k c') (L.take k) ∧ Below w.heap.size w wr) (fun _ i _ => L.length - (intOf i).toNat)
  case atStart => exact ⟨0, _, _, Nat.zero_le _, rfl, rfl, HO1.out, HB1.out⟩
  case round =>
    obtain ⟨k, A', c', hk, rfl, rfl, ho, hb⟩ := hrel
    have HO := Lib.hid ho
    have HB := Lib.hid hb
    clear ho hb c0 c1 hmk HK1 HO1
    have hl16 : (L.length : Int) ≤ 16 := by have := HLEN.out; omega
    by_cases hlt : k < L.length
    · obtain ⟨B, o, rfl, hBl, d0, d1, d2, d3⟩ := us_at (HL.out.keep HB.out) hlt
      have hki : (k : Int) < L.length := by omega
      have HTK := Lib.hid (show L.take (k + 1) = L.take k ++ [L[k]] from by rw [List.take_add_one, List.getElem?_eq_getElem hlt]; rfl)
      have HTL := Lib.hid (show (L.take k).length = k by rw [List.length_take]; omega)
      have HXC := Lib.hid (HOK.out.each _ (List.getElem_mem hlt)).c32
      generalize L[k] = x at *
      have HCP := Lib.hid (fun W => copyof16_any x.c x.w x.n x.s W (Nat.le_trans HXC.out (by decide)))
      have hb2 := alloc_below wr (.cells #[.string x.c, .int .i64 x.w, .int .i64 x.n, .int .i64 x.s] 31)
      have HB2 := Lib.hid (HB.out.trans (hb2.mono HB.out.size))
      have HO2 := Lib.hid (HO.out.keep hb2)
      clear hb2
      go_wp2_with fail
      refine (HCP.out _).mono ?_
      rintro e w2 ⟨rfl, hb3⟩
      have HB3 := Lib.hid (HB2.out.trans (hb3.mono HB2.out.size))
      have HO3 := Lib.hid (HO2.out.keep hb3)
      have hlen : (L.take k).length + 1 ≤ 17 := by rw [HTL.out]; omega
      have ho3 : OwL usE 31 w2 w.heap.size (.slice A' (L.take k).length c') (L.take k) := by rw [HTL.out]; exact HO3.out
      obtain ⟨A2, c2, w4, hr, ho4, _, _, hb4⟩ := run_appL usTy (w2.alloc (.cells #[.string x.c, .int .i64 x.w, .int .i64 x.n, .int .i64 x.s] 31)) w.heap.size _ _ (ho3.alloc _) _ 1 [x] (one_el (E := usE) (T := 31) w2 x) (fun h => by cases h) (by simp only [List.length_singleton]; omega) (by simp only [List.length_singleton]; omega) (by have := HB3.out.size; simp; omega)
      rw [HTL.out, ← HTK.out] at ho4
      rw [HTL.out] at hr
      have HR := Lib.hid hr
      have HO4 := Lib.hid ho4
      have HB4 := Lib.hid ((HB3.out.alloc HB3.out.size (.cells #[.string x.c, .int .i64 x.w, .int .i64 x.n, .int .i64 x.s] 31)).trans hb4)
      clear hr ho4 hb4 hb3 ho3 hlen
      go_wp2_with (at_builtin; refine wpList_runL (.tmp 21) (.tmp 24) rfl rfl rfl rfl rfl HR.out ?_)
      go_roundw
      case rel => exact ⟨k + 1, A2, c2, by omega, by go_num, rfl, HO4.out, HB4.out⟩
      case measure => simp [intOf]; omega
    · obtain rfl : k = L.length := by omega
      rw [List.take_length] at HO
      go_wp2_with fail
      go_ret
      exact ⟨_, rfl, HO.out, HB.out⟩
end Go.Proofs.Ytbcanfhjdllaoaa
