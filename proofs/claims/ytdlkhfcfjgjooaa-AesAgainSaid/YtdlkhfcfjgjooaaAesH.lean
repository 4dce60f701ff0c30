/- Contracts of package aes: round keys, told. -/
import Derived.Test.YtdlkhfcfjgjooaaAesG
namespace Go.Proofs.Ytdlkhfcfjgjooaa
open Go.RowKit

theorem infoS : (Try.prog.info? 22).map (fun i => (i.zero, i.size, i.bytes)) = some (some (.slice none 0 0), 1, 24) := by kernel_rfl
theorem mkS (n : Nat) (h : n ≤ 1000000000000) (w : World) :
    (Instr.makeSlice 31 (.int .i64 (n : Int)) (.int .i64 (n : Int))).run Try.prog w = .ok (.slice (some ⟨w.heap.size, 0, none⟩) n n) (w.alloc (.cells (madeCells #[.slice none 0 0] n) 22)) :=
  run_make_row' _ _ _ 24 Try.underlying31 infoS rfl _ _ n (by omega) (by omega) w
theorem rowS_made (w : World) (n : Nat) : RowX (w.alloc (.cells (madeCells #[.slice none 0 0] n) 22)) w.heap.size 22 n (fun _ => .slice none 0 0) := by
  refine ⟨_, (0, 0), heap_alloc_new w _, by simp [madeCells], Or.inl rfl, fun i hi => ?_⟩
  have e : madeCells #[.slice none 0 0] n = (List.replicate n (Value.slice none 0 0)).toArray := by apply Array.ext'; rw [toList_madeCells_one]
  rw [e, List.getElem?_toArray, List.getElem?_replicate, if_pos hi]
/-- p[l:] of an array of bytes behind a pointer -/
theorem sl_from (t : TypeId) (n g o l : Nat) (hu : Try.prog.underlying t = some (.array n 5)) (hl : l < n) (li : Int) (el : li = (l : Nat)) (w : World) :
    (Instr.sliceAt t (.pointer (some ⟨g, o, none⟩)) (some (.int .i64 li)) none none).run Try.prog w = .ok (.slice (some ⟨g, o + l, none⟩) (n - l) (n - l)) w := by
  subst el
  have he : Try.prog.elem t = 5 := by simp [Program.elem, hu]
  have hn : Try.prog.arrayLen t = n := by simp [Program.arrayLen, hu]
  rw [run_sliceAt_array_l (h0 := by omega) (h1 := by rw [hn]; omega) (ht := by rw [hn, he]; exact hu), he, sizeU8]
  show Result.ok (slicedAt ⟨g, o, none⟩ _ _ _ 1) w = _
  rw [hn, Int.toNat_natCast]
  unfold slicedAt
  rw [if_neg (by omega), Go.WideShapes.add_plain, Nat.mul_one]
/-- rows of 16 bytes each, told by a row of slices -/
structure Rounds (w0 w : World) (L n k : Nat) (G : Nat → Nat) (S : Nat → Nat) : Prop where
  list : RowX w L 22 n (fun j => if j < k then .slice (some ⟨G j, 0, none⟩) 16 16 else .slice none 0 0)
  rows : ∀ j, j < k → RowB w (G j) 16 (fun t => S (16 * j + t))
  new : ∀ j, j < k → L < G j ∧ G j < w.heap.size
  apart : ∀ i j, i < j → j < k → G i < G j
  first : w0.heap.size ≤ L

def RoundsP (g n : Nat) (key : Nat → Nat) (w : World) (e : Ending) (w' : World) : Prop :=
  ∃ L G, e = .returned (.slice (some ⟨L, 0, none⟩) (n + 7) (n + 7)) ∧ Rounds w w' L (n + 7) (n + 7) G (ks n key) ∧ KeyReady w' g n key ∧ Chg g w w'
set_option maxRecDepth 100000 in
set_option maxHeartbeats 1600000 in
theorem rounds_any (g n : Nat) (key : Nat → Nat) (w : World) (hn : n = 4 ∨ n = 8) (hkey : By (4 * n) key) (hk : KeyAt w g n key) :
    Calls Try.prog 14 #[.pointer (some ⟨g, 0, none⟩)] w (RoundsP g n key w) := by
  have HO := Lib.hid (once_any g n key w hn hkey hk)
  have HN := Lib.hid hn
  have HY := Lib.hid hkey
  have hn8 : n ≤ 8 := by omega
  have hmf : ∀ (fn : Fn) (first cap : Array Value) (w : World), (Instr.makeFunc fn first cap).run Try.prog w = .ok (.func fn first cap) w := fun _ _ _ _ => rfl
  have hmk : ∀ W : World, (Instr.makeSlice 31 (.int .i64 ((n : Int) + 6 + 1)) (.int .i64 ((n : Int) + 6 + 1))).run Try.prog W = .ok (.slice (some ⟨W.heap.size, 0, none⟩) (n + 7) (n + 7)) (W.alloc (.cells (madeCells #[.slice none 0 0] (n + 7)) 22)) := fun W => by
    rw [show (n : Int) + 6 + 1 = ((n + 7 : Nat) : Int) by omega]; exact mkS (n + 7) (by omega) W
  clear hn hkey hk
  go_enter Try.func14, Try.ntmps14
  go_wp2_with (first | (go_at_call 24; refine HO.out.mono ?_; rintro e w1 ⟨rfl, h1, h2⟩; have HK1 := Lib.hid h1; have HC1 := Lib.hid h2; have hw1 := h1.words; clear h1 h2) | (go_at_call 26; refine (last_any g n _ hn8 hw1).mono ?_; rintro e w' ⟨rfl, rfl⟩))
  have HL1 := Lib.hid (rowS_made w1 (n + 7))
  have HK2 := Lib.hid (HK1.out.alloc (.cells (madeCells #[.slice none 0 0] (n + 7)) 22))
  have HC2 := Lib.hid (HC1.out.alloc (.cells (madeCells #[.slice none 0 0] (n + 7)) 22))
  have HSZ := Lib.hid (show w1.heap.size < (w1.alloc (.cells (madeCells #[.slice none 0 0] (n + 7)) 22)).heap.size by simp)
  have HF := Lib.hid (show w.heap.size ≤ w1.heap.size from HC1.out.size)
  have HLG := Lib.hid (Nat.ne_of_gt HK1.out.lt)
  have hm8 : ∀ W : World, (Instr.makeSlice 22 (.int .i64 16) (.int .i64 16)).run Try.prog W = .ok (.slice (some ⟨W.heap.size, 0, none⟩) 16 16) (W.alloc (.cells (madeCells #[.int .u8 0] 16) 5)) := mk8 16 (by decide)
  generalize hW : w1.alloc (.cells (madeCells #[.slice none 0 0] (n + 7)) 22) = Wm at *
  generalize w1.heap.size = L at *
  clear HK1 HC1 hw1 hW hmk hmf w1
  go_loopw [17] (fun v wr => ∃ (k : Nat) (G : Nat → Nat), k ≤ n + 7 ∧ v = .int .i64 (k : Nat) ∧ Rounds w wr L (n + 7) k G (ks n key) ∧ L < wr.heap.size ∧ KeyReady wr g n key ∧ Chg g w wr) (fun v _ => 20 - (intOf v).toNat)
  case atStart => exact ⟨0, fun _ => 0, Nat.zero_le _, rfl, ⟨HL1.out.congr fun j _ => (if_neg (Nat.not_lt_zero _)).symm, fun j hj => absurd hj (Nat.not_lt_zero _), fun j hj => absurd hj (Nat.not_lt_zero _), fun i j _ hj => absurd hj (Nat.not_lt_zero _), HF.out⟩, HSZ.out, HK2.out, HC2.out⟩
  case round =>
    obtain ⟨k, G, hk, rfl, h1, h2, h3, h4⟩ := hrel
    have H1 := Lib.hid h1
    have H2 := Lib.hid h2
    have H3 := Lib.hid h3
    have H4 := Lib.hid h4
    clear h1 h2 h3 h4
    by_cases hlt : k < n + 7
    · have hk15 : k < 15 := by omega
      have hki : (k : Int) < (n : Int) + 7 := by omega
      have hL1 := H1.out.list.alloc (.cells (madeCells #[.int .u8 0] 16) 5)
      have hc1 := hL1.cell hlt
      rw [if_neg (Nat.lt_irrefl k)] at hc1
      have hf1 := hL1.frozen hlt
      have HL2 := Lib.hid (hL1.set k (.slice (some ⟨wr.heap.size, 0, none⟩) 16 16))
      have HR2 := Lib.hid ((rowB_made wr 16).of_block (Below.heap_setCell (wr.alloc (.cells (madeCells #[.int .u8 0] 16) 5)) ⟨L, k, none⟩ (.slice (some ⟨wr.heap.size, 0, none⟩) 16 16) wr.heap.size (Nat.ne_of_gt H2.out)))
      have HB2 := Lib.hid (((Chg.refl L wr).alloc (.cells (madeCells #[.int .u8 0] 16) 5)).setCell (a := ⟨L, k, none⟩) (Or.inl rfl) (.slice (some ⟨wr.heap.size, 0, none⟩) 16 16))
      have HZ2 := Lib.hid (show ((wr.alloc (.cells (madeCells #[.int .u8 0] 16) 5)).setCell ⟨L, k, none⟩ (.slice (some ⟨wr.heap.size, 0, none⟩) 16 16)).heap.size = wr.heap.size + 1 by rw [size_setCell]; simp)
      have HK2b := Lib.hid ((H3.out.alloc (.cells (madeCells #[.int .u8 0] 16) 5)).chg ((Chg.refl L (wr.alloc (.cells (madeCells #[.int .u8 0] 16) 5))).setCell (a := ⟨L, k, none⟩) (Or.inl rfl) (.slice (some ⟨wr.heap.size, 0, none⟩) 16 16)) HLG.out.symm)
      clear hL1
      go_wp2_with fail
      generalize hW2 : (wr.alloc (.cells (madeCells #[.int .u8 0] 16) 5)).setCell ⟨L, k, none⟩ (.slice (some ⟨wr.heap.size, 0, none⟩) 16 16) = W2 at *
      clear hW2 hc1 hf1
      have hc2 := HL2.out.cell hlt
      rw [if_pos rfl] at hc2
      have HSS := Lib.hid ((HK2b.out.sch.sub (a := 16 * k) (m := 240 - 16 * k) (by omega) rfl).slB fun j hj => ks_by (by have := HN.out; omega) HY.out _)
      have hsl := sl_from 42 240 g 1 (16 * k) Try.underlying42 (by omega) (IntKind.i64.wrap ((k : Int) * 16)) (by rw [IntWalk.i64_in _ (by omega)]; omega)
      have hmin : 16 = Nat.min (240 - 16 * k) 16 := by show 16 = min (240 - 16 * k) 16; omega
      have HMI := Lib.hid hmin
      clear hmin
      obtain ⟨G', hG'⟩ : ∃ G', wr.heap.size = G' := ⟨_, rfl⟩
      have HG' := Lib.hid hG'
      rw [hG'] at HR2 hc2 HZ2 HL2 ⊢
      clear hG'
      go_region_law ((refine step_copyB rfl (.tmp 27) (.tmp 33) rfl _ _ _ _ _ _ rfl rfl G' 0 16 (fun _ => 0) (by first | exact HR2.out | exact HR2.out.drew) _ (by first | exact HSS.out | exact HSS.out.drewN 1) 16 HMI.out (fun _ => rfl) (Nat.le_refl _) G' W2 (by first | exact Below.refl _ _ | exact (Below.refl _ _).drew) (Nat.le_refl _) ?_); intro w5 hr5 hb5; have HR5 := Lib.hid hr5; have HB5 := Lib.hid hb5; clear hr5 hb5)
      all_goals
        have HS5 := Lib.hid (show W2.heap.size ≤ w5.heap.size from HB5.out.size)
        have HC5 := Lib.hid (show Chg g w w5 from (H4.out.thenNew HB2.out H1.out.first).thenNew (L := G') ⟨HB5.out.os, HB5.out.tape, HB5.out.output, HB5.out.size, fun j hj hn => HB5.out.block j (by have := HZ2.out; omega)⟩ (by have := HG'.out; have := H4.out.size; omega))
        have HK5 := Lib.hid (HK2b.out.of_block (HB5.out.block g (by have := H3.out.lt; have := HG'.out; omega)))
        have HX5 := Lib.hid (show Rounds w w5 L (n + 7) (k + 1) (fun j => if j = k then G' else G j) (ks n key) from by
          have hL := H2.out
          have hG := HG'.out
          have hZ := HZ2.out
          have hS := HS5.out
          refine ⟨(HL2.out.of_block (HB5.out.block L (by omega))).congr fun j _ => ?_, fun j hj => ?_, fun j hj => ?_, fun i j hij hj => ?_, H1.out.first⟩
          · by_cases e : j = k
            · subst e; rw [if_pos rfl, if_pos (Nat.lt_succ_self _), if_pos rfl]
            · rw [if_neg e]
              by_cases h : j < k
              · rw [if_pos h, if_pos (by omega), if_neg e]
              · rw [if_neg h, if_neg (by omega)]
          · by_cases e : j = k
            · subst e
              rw [if_pos rfl]
              exact HR5.out.congr fun t ht => by
                unfold putB
                rw [if_pos ⟨Nat.zero_le _, by omega⟩, Nat.sub_zero]
            · rw [if_neg e]
              have h1 := H1.out.new j (by omega)
              exact ((H1.out.rows j (by omega)).of_block (HB2.out.block (G j) h1.2 (Nat.ne_of_gt h1.1))).of_block (HB5.out.block (G j) (by omega))
          · by_cases e : j = k
            · rw [if_pos e]; exact ⟨by omega, by omega⟩
            · rw [if_neg e]
              have h1 := H1.out.new j (by omega)
              exact ⟨h1.1, by omega⟩
          · have hik : i < k := by omega
            rw [if_neg (Nat.ne_of_lt hik)]
            by_cases e : j = k
            · rw [if_pos e]; have h1 := H1.out.new i hik; omega
            · rw [if_neg e]; exact H1.out.apart i j hij (by omega))
        have HL5 := Lib.hid (show L < w5.heap.size by have := H2.out; have := HG'.out; have := HZ2.out; have := HS5.out; omega)
        clear hc2 hsl
        go_wp2_with fail
        go_roundw
        case rel => exact ⟨k + 1, _, by omega, by go_num, HX5.out, HL5.out, HK5.out, HC5.out⟩
        case measure => simp [intOf]; omega
    · obtain rfl : k = n + 7 := by omega
      have hki : ¬ ((n + 7 : Nat) : Int) < (n : Int) + 7 := by omega
      go_wp2_with fail
      go_ret
      exact ⟨L, G, rfl, H1.out, H3.out, H4.out⟩
end Go.Proofs.Ytdlkhfcfjgjooaa
