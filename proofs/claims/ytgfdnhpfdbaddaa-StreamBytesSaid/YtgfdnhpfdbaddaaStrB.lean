/- Contracts of package stream: the keystream, block by block. -/
import Derived.Test.YtgfdnhpfdbaddaaStrA
import Derived.Test.YtgfdnhpfdbaddaaAesG
import Derived.Test.YtgfdnhpfdbaddaaChS
namespace Go.Proofs.Ytgfdnhpfdbaddaa
open Go.RowKit
/-- what the pad's block holds -/
def padk (n : Nat) (key : Nat → Nat) (N B : Nat) : Nat → Nat := enc n (ks n key) (cb N B)
theorem padk_by {n : Nat} {key : Nat → Nat} (hn : n = 4 ∨ n = 8) (hkey : By (4 * n) key) (N B : Nat) : By 16 (padk n key N B) := enc_by (fun j _ => ks_by (by omega) hkey j) (cb_by N B)
/-- a reader of the keystream: what it has captured -/
structure Str (w : World) (g n : Nat) (key : Nat → Nat) (N : Nat) (B : Int) (sK sN sB : Nat) : Prop where
  key : KeyAt w g n key
  cK : w.cell? ⟨sK, 0, none⟩ = some (.pointer (some ⟨g, 0, none⟩))
  cN : w.cell? ⟨sN, 0, none⟩ = some (.int .i64 (N : Nat))
  cB : w.cell? ⟨sB, 0, none⟩ = some (.int .i64 B)
  fB : w.frozen? ⟨sB, 0, none⟩ = false
  gK : g < sK
  gN : sK < sN
  gB : sN < sB
/-- the blocks that a reader changes -/
abbrev twoOf (g s k : Nat) : Prop := k = g ∨ k = s
theorem Str.keep {w w' : World} {g n : Nat} {key : Nat → Nat} {N : Nat} {B : Int} {sK sN sB : Nat} (h : Str w g n key N B sK sN sB) (hb : Below w.heap.size w w') : Str w' g n key N B sK sN sB :=
  have lt : sB < w.heap.size := block_lt h.cB
  have := h.gN
  have := h.gB
  ⟨h.key.keep hb, (hb.cell (p := ⟨sK, 0, none⟩) (by show sK < _; omega)).trans h.cK, (hb.cell (p := ⟨sN, 0, none⟩) (by show sN < _; omega)).trans h.cN, (hb.cell (p := ⟨sB, 0, none⟩) lt).trans h.cB, (World.frozen?_of_block (hb.block sB lt)).trans h.fB, h.gK, h.gN, h.gB⟩
theorem Str.drew {w : World} {g n : Nat} {key : Nat → Nat} {N : Nat} {B : Int} {sK sN sB : Nat} (h : Str w g n key N B sK sN sB) : Str w.drew g n key N B sK sN sB := ⟨h.key.of_block rfl, h.cK, h.cN, h.cB, h.fB, h.gK, h.gN, h.gB⟩
theorem Str.step {w : World} {g n : Nat} {key : Nat → Nat} {N : Nat} {B : Int} {sK sN sB : Nat} (h : Str w g n key N B sK sN sB) (v : Int) : Str (w.setCell ⟨sB, 0, none⟩ (.int .i64 v)) g n key N v sK sN sB :=
  have := h.gK
  have := h.gN
  have := h.gB
  have o (k : Nat) (hk : k ≠ sB) : (w.setCell ⟨sB, 0, none⟩ (.int .i64 v)).cell? ⟨k, 0, none⟩ = w.cell? ⟨k, 0, none⟩ := World.cell?_setCell_other w ⟨sB, 0, none⟩ ⟨k, 0, none⟩ _ (fun e => hk (congrArg Addr.block e).symm)
  ⟨h.key.of_block (Below.heap_setCell w ⟨sB, 0, none⟩ _ g (by show g ≠ sB; omega)), (o sK (by omega)).trans h.cK, (o sN (by omega)).trans h.cN, World.cell?_setCell_same w ⟨sB, 0, none⟩ _ h.cB, by rw [World.frozen?_setCell]; exact h.fB, h.gK, h.gN, h.gB⟩
theorem Str.enc {w w' : World} {g n : Nat} {key : Nat → Nat} {N : Nat} {B : Int} {sK sN sB : Nat} (h : Str w g n key N B sK sN sB) (hc : Chg g w w') (hk : KeyReady w' g n key) : Str w' g n key N B sK sN sB :=
  have lt : sB < w.heap.size := block_lt h.cB
  have := h.gK
  have := h.gN
  have := h.gB
  ⟨Or.inr hk, (hc.cell (by omega) (by omega)).trans h.cK, (hc.cell (by omega) (by omega)).trans h.cN, (hc.cell lt (by omega)).trans h.cB, (hc.frozen lt (by omega)).trans h.fB, h.gK, h.gN, h.gB⟩
/-- what a reader leaves -/
structure NextP (g n : Nat) (key : Nat → Nat) (N B : Nat) (sK sN sB : Nat) (w : World) (e : Ending) (w' : World) (st : Nat) : Prop where
  ret : e = .returned (.slice (some ⟨st, 0, none⟩) 16 16)
  new : w.heap.size ≤ st
  row : Arr w' st 0 16 (padk n key N B)
  str : ∃ B', (B < 9223372036854775807 → B' = ((B + 1 : Nat) : Int)) ∧ Str w' g n key N B' sK sN sB
  chg : ChgS (twoOf g sB) w w'
set_option maxRecDepth 100000 in
set_option maxHeartbeats 1600000 in
theorem next_any (g n : Nat) (key : Nat → Nat) (N B : Nat) (sK sN sB : Nat) (w : World) (hn : n = 4 ∨ n = 8) (hkey : By (4 * n) key) (hN : N ≤ 9223372036854775807) (hB : B ≤ 9223372036854775807) (h : Str w g n key N B sK sN sB) :
    Calls Try.prog 22 #[.pointer (some ⟨sN, 0, none⟩), .pointer (some ⟨sB, 0, none⟩), .pointer (some ⟨sK, 0, none⟩)] w fun e w' => ∃ st, NextP g n key N B sK sN sB w e w' st := by
  have H := Lib.hid h
  have HJ := Lib.hid (join_any N B w hN hB)
  have HN := Lib.hid hn
  have HY := Lib.hid hkey
  have h1 := h.cN
  have h2 := h.cB
  have hBi : (B : Int) ≤ 9223372036854775807 := by omega
  have hB0 : (0 : Int) ≤ (B : Int) := by omega
  clear h hn hkey
  go_enter Try.func22, Try.ntmps22
  go_wp2_with (first | (go_at_call 23; refine HJ.out.mono ?_; rintro e w1 ⟨rfl, h1⟩; have H1 := Lib.hid h1; have HM1 := Lib.hid (made16 w1); clear h1) | (refine wpList_storeB rfl 46 (.tmp 4) (.tmp 9) rfl w1.heap.size 0 16 _ _ rfl rfl HM1.out size16 ?_; intro w2 h3 h4; have HS2 := Lib.hid h3; have HB2 := Lib.hid ((H1.out.alloc H1.out.size _).trans (h4.below (Nat.le_trans H1.out.size (by simp)) H1.out.size)); have HR2 := Lib.hid (H.out.keep HB2.out); have c2 := HR2.out.cB; have f2 := HR2.out.fB; have HST := Lib.hid H1.out.size; clear h1 h2 h3 h4))
  have HB3 := Lib.hid (((ChgS.of_below (S := twoOf g sB) HB2.out).setCell (a := ⟨sB, 0, none⟩) (Or.inr rfl) (.int .i64 (wrap64 ((B : Int) + 1)))).drewN 1)
  have HR3 := Lib.hid (HR2.out.step (wrap64 ((B : Int) + 1)))
  have HSB := Lib.hid (show sB < w.heap.size from block_lt H.out.cB)
  have HA3 := Lib.hid (HS2.out.setOther (a := ⟨sB, 0, none⟩) (show w1.heap.size ≠ sB by have := HSB.out; have := HST.out; omega) (.int .i64 (wrap64 ((B : Int) + 1))))
  have HWR := Lib.hid (show B < 9223372036854775807 → wrap64 ((B : Int) + 1) = ((B + 1 : Nat) : Int) from fun h => by unfold wrap64; omega)
  generalize wrap64 ((B : Int) + 1) = bn at *
  generalize w2.setCell ⟨sB, 0, none⟩ (.int .i64 bn) = w3 at *
  generalize w1.heap.size = st1 at *
  have c3 := HR3.out.cK
  have hsa : ∀ W : World, (Instr.sliceAt 46 (.pointer (some ⟨st1, 0, none⟩)) none none none).run Try.prog W = .ok (.slice (some ⟨st1, 0, none⟩) 16 16) W := all_arr 46 16 st1 0 Try.underlying46 (by decide)
  have HGS := Lib.hid (show st1 ≠ g by have := HSB.out; have := HST.out; have := H.out.gK; have := H.out.gN; have := H.out.gB; omega)
  have HE := Lib.hid (enc_any g n key (cb N B) (some ⟨st1, 0, none⟩) 16 w3.drew HN.out HY.out (HR3.out.key.of_block rfl) (HA3.out.drew.slB (cb_by N B)) (fun B o hA => by have := HGS.out; injection hA with hA; injection hA with hA; omega))
  clear HJ HM1 c2 f2 hBi hB0 hN hB
  go_region_with (go_at_call 24; refine HE.out.mono ?_; rintro e w4 ⟨st, hb⟩; obtain ⟨rfl, h1, h2, h3, h4⟩ := hb; have H1' := Lib.hid h1; have H2' := Lib.hid h2; have H3' := Lib.hid (HR3.out.drew.enc h4 h3); have H4' := Lib.hid (HB3.out.trans (ChgS.of_chg h4 (Or.inl rfl))); clear h1 h2 h3 h4)
  all_goals
    go_wp2_with fail
    go_ret
    exact ⟨st, rfl, Nat.le_trans HB3.out.size H1'.out, H2'.out, ⟨bn, HWR.out, H3'.out⟩, H4'.out⟩
/-- the reader is made -/
theorem stream_any (g n : Nat) (key : Nat → Nat) (N B : Nat) (w : World) (hk : KeyAt w g n key) :
    Calls Try.prog 17 #[.pointer (some ⟨g, 0, none⟩), .int .i64 (N : Nat), .int .i64 (B : Nat)] w fun e w' => ∃ sK sN sB, e = .returned (.func (.func 22) #[] #[.pointer (some ⟨sN, 0, none⟩), .pointer (some ⟨sB, 0, none⟩), .pointer (some ⟨sK, 0, none⟩)]) ∧ w.heap.size ≤ sK ∧ Str w' g n key N B sK sN sB ∧ Below w.heap.size w w' := by
  have hmf : ∀ (fn : Fn) (first cap : Array Value) (w : World), (Instr.makeFunc fn first cap).run Try.prog w = .ok (.func fn first cap) w := fun _ _ _ _ => rfl
  have HK := Lib.hid hk
  clear hk
  go_enter Try.func17, Try.ntmps17
  go_wp2_with fail
  go_ret
  have h1 : (w.alloc (.cells #[.pointer (some ⟨g, 0, none⟩)] 35)).cell? ⟨w.heap.size, 0, none⟩ = some (.pointer (some ⟨g, 0, none⟩)) := (World.cell?_alloc_at _ _ _ _ rfl).trans rfl
  have e1 : (w.alloc (.cells #[.pointer (some ⟨g, 0, none⟩)] 35)).heap.size = w.heap.size + 1 := by simp
  have b1 := alloc_below w (.cells #[.pointer (some ⟨g, 0, none⟩)] 35)
  generalize w.alloc (.cells #[.pointer (some ⟨g, 0, none⟩)] 35) = w1 at *
  have h2 : (w1.alloc (.cells #[.int .i64 (N : Nat)] 3)).cell? ⟨w.heap.size + 1, 0, none⟩ = some (.int .i64 (N : Nat)) := by rw [← e1]; exact (World.cell?_alloc_at _ _ _ _ rfl).trans rfl
  have e2 : (w1.alloc (.cells #[.int .i64 (N : Nat)] 3)).heap.size = w.heap.size + 1 + 1 := by rw [← e1]; simp
  have b2 := alloc_below w1 (.cells #[.int .i64 (N : Nat)] 3)
  generalize w1.alloc (.cells #[.int .i64 (N : Nat)] 3) = w2 at *
  have h3 : (w2.alloc (.cells #[.int .i64 (B : Nat)] 3)).cell? ⟨w.heap.size + 1 + 1, 0, none⟩ = some (.int .i64 (B : Nat)) := by rw [← e2]; exact (World.cell?_alloc_at _ _ _ _ rfl).trans rfl
  have f3 : (w2.alloc (.cells #[.int .i64 (B : Nat)] 3)).frozen? ⟨w.heap.size + 1 + 1, 0, none⟩ = false := by rw [← e2]; exact World.frozen?_alloc_at _ _ _ _ rfl
  have b3 := alloc_below w2 (.cells #[.int .i64 (B : Nat)] 3)
  generalize w2.alloc (.cells #[.int .i64 (B : Nat)] 3) = w3 at *
  have b12 : Below w.heap.size w w2 := b1.trans (b2.mono (by omega))
  have b13 : Below w.heap.size w w3 := b12.trans (b3.mono (by omega))
  have hlt := HK.out.lt
  exact ⟨w.heap.size, w.heap.size + 1, w.heap.size + 1 + 1, rfl, Nat.le_refl _, ⟨HK.out.keep b13, ((b3.cell (p := ⟨w.heap.size, 0, none⟩) (by show w.heap.size < _; omega)).trans (b2.cell (p := ⟨w.heap.size, 0, none⟩) (by show w.heap.size < _; omega))).trans h1, (b3.cell (p := ⟨w.heap.size + 1, 0, none⟩) (by show w.heap.size + 1 < _; omega)).trans h2, h3, f3, hlt, Nat.lt_succ_self _, Nat.lt_succ_self _⟩, b13⟩
end Go.Proofs.Ytgfdnhpfdbaddaa
