/- Contracts of package aes: the key in memory; words of the schedule. -/
import Derived.Test.YtgfdnhpfdbaddaaArr
import Derived.Test.YtgfdnhpfdbaddaaAes
import Derived.Test.YtgfdnhpfdbaddaaFldA
import Derived.Test.YtgfdnhpfdbaddaaOnceF
namespace Go.Proofs.Ytgfdnhpfdbaddaa
open Go.RowKit

/-- a key in block g -/
structure KeyMem (w : World) (g n : Nat) (d m : Int) (S B U D : Nat → Nat) : Prop where
  words : w.cell? ⟨g, 0, none⟩ = some (.int .i64 (n : Nat))
  sch : Arr w g 1 240 S
  once : OnceAt w g 241 d m
  box : Arr w g 244 256 B
  unbox : Arr w g 500 256 U
  dbl : Arr w g 756 256 D
namespace KeyMem
variable {w w' : World} {g n : Nat} {d m : Int} {S B U D : Nat → Nat}
theorem lt (h : KeyMem w g n d m S B U D) : g < w.heap.size := block_lt h.words
theorem of_block (h : KeyMem w g n d m S B U D) (e : w'.heap[g]? = w.heap[g]?) : KeyMem w' g n d m S B U D :=
  ⟨(World.cell?_of_block e).trans h.words, h.sch.of_block e, ⟨(World.cell?_of_block e).trans h.once.done, (World.cell?_of_block e).trans h.once.lock, (World.frozen?_of_block e).trans h.once.fdone, (World.frozen?_of_block e).trans h.once.flock⟩,
    h.box.of_block e, h.unbox.of_block e, h.dbl.of_block e⟩
theorem keep (h : KeyMem w g n d m S B U D) (hb : Below w.heap.size w w') : KeyMem w' g n d m S B U D := h.of_block (hb.block g h.lt)
theorem chg {K : Nat} (h : KeyMem w g n d m S B U D) (hc : Chg K w w') (hK : g ≠ K) : KeyMem w' g n d m S B U D := h.of_block (hc.block g h.lt hK)
theorem congr {S' B' U' D' : Nat → Nat} (h : KeyMem w g n d m S B U D) (h1 : ∀ j, j < 240 → S j = S' j) (h2 : ∀ j, j < 256 → B j = B' j) (h3 : ∀ j, j < 256 → U j = U' j) (h4 : ∀ j, j < 256 → D j = D' j) : KeyMem w g n d m S' B' U' D' :=
  ⟨h.words, h.sch.congr h1, h.once, h.box.congr h2, h.unbox.congr h3, h.dbl.congr h4⟩
theorem cell_apart {w : World} {g k j : Nat} (hkj : k ≠ j) (v : Value) : (w.setCell ⟨g, k, none⟩ v).cell? ⟨g, j, none⟩ = w.cell? ⟨g, j, none⟩ :=
  World.cell?_setCell_other w ⟨g, k, none⟩ ⟨g, j, none⟩ v (fun e => hkj (congrArg Addr.off e))
theorem once_apart {w : World} {g o k : Nat} {d m : Int} (h : OnceAt w g o d m) (h1 : k ≠ o) (h2 : k ≠ o + 1) (v : Value) : OnceAt (w.setCell ⟨g, k, none⟩ v) g o d m :=
  ⟨(cell_apart h1 v).trans h.done, (cell_apart h2 v).trans h.lock, by rw [World.frozen?_setCell]; exact h.fdone, by rw [World.frozen?_setCell]; exact h.flock⟩
theorem setSch (h : KeyMem w g n d m S B U D) {i k : Nat} (hi : i < 240) (hk : k = 1 + i) (x : Nat) {v : Value} (hv : v = .int .u8 (x : Nat)) : KeyMem (w.setCell ⟨g, k, none⟩ v) g n d m (fun j => if j = i then x else S j) B U D :=
  ⟨(cell_apart (by omega) v).trans h.words, h.sch.set hi hk x hv, once_apart h.once (by omega) (by omega) v, h.box.setApart (by omega) v, h.unbox.setApart (by omega) v, h.dbl.setApart (by omega) v⟩
theorem setBox (h : KeyMem w g n d m S B U D) {i k : Nat} (hi : i < 256) (hk : k = 244 + i) (x : Nat) {v : Value} (hv : v = .int .u8 (x : Nat)) : KeyMem (w.setCell ⟨g, k, none⟩ v) g n d m S (fun j => if j = i then x else B j) U D :=
  ⟨(cell_apart (by omega) v).trans h.words, h.sch.setApart (by omega) v, once_apart h.once (by omega) (by omega) v, h.box.set hi hk x hv, h.unbox.setApart (by omega) v, h.dbl.setApart (by omega) v⟩
theorem setUnbox (h : KeyMem w g n d m S B U D) {i k : Nat} (hi : i < 256) (hk : k = 500 + i) (x : Nat) {v : Value} (hv : v = .int .u8 (x : Nat)) : KeyMem (w.setCell ⟨g, k, none⟩ v) g n d m S B (fun j => if j = i then x else U j) D :=
  ⟨(cell_apart (by omega) v).trans h.words, h.sch.setApart (by omega) v, once_apart h.once (by omega) (by omega) v, h.box.setApart (by omega) v, h.unbox.set hi hk x hv, h.dbl.setApart (by omega) v⟩
theorem setDbl (h : KeyMem w g n d m S B U D) {i k : Nat} (hi : i < 256) (hk : k = 756 + i) (x : Nat) {v : Value} (hv : v = .int .u8 (x : Nat)) : KeyMem (w.setCell ⟨g, k, none⟩ v) g n d m S B U (fun j => if j = i then x else D j) :=
  ⟨(cell_apart (by omega) v).trans h.words, h.sch.setApart (by omega) v, once_apart h.once (by omega) (by omega) v, h.box.setApart (by omega) v, h.unbox.setApart (by omega) v, h.dbl.set hi hk x hv⟩
theorem setLock (h : KeyMem w g n d m S B U D) (m' : Int) {v : Value} (hv : v = .int .i32 m') : KeyMem (w.setCell ⟨g, 242, none⟩ v) g n d m' S B U D := by
  subst hv
  exact ⟨(cell_apart (by omega) _).trans h.words, h.sch.setApart (by omega) _, ⟨(cell_apart (by omega) _).trans h.once.done, World.cell?_setCell_same w ⟨g, 242, none⟩ _ h.once.lock, by rw [World.frozen?_setCell]; exact h.once.fdone, by rw [World.frozen?_setCell]; exact h.once.flock⟩,
    h.box.setApart (by omega) _, h.unbox.setApart (by omega) _, h.dbl.setApart (by omega) _⟩
theorem setDone (h : KeyMem w g n d m S B U D) (d' : Int) {v : Value} (hv : v = .int .u32 d') : KeyMem (w.setCell ⟨g, 241, none⟩ v) g n d' m S B U D := by
  subst hv
  exact ⟨(cell_apart (by omega) _).trans h.words, h.sch.setApart (by omega) _, ⟨World.cell?_setCell_same w ⟨g, 241, none⟩ _ h.once.done, (cell_apart (by omega) _).trans h.once.lock, by rw [World.frozen?_setCell]; exact h.once.fdone, by rw [World.frozen?_setCell]; exact h.once.flock⟩,
    h.box.setApart (by omega) _, h.unbox.setApart (by omega) _, h.dbl.setApart (by omega) _⟩
theorem drew (h : KeyMem w g n d m S B U D) : KeyMem w.drew g n d m S B U D := h.of_block rfl
theorem drewN (h : KeyMem w g n d m S B U D) (k : Nat) : KeyMem (w.drewN k) g n d m S B U D := h.of_block rfl
theorem alloc (h : KeyMem w g n d m S B U D) (o : Obj) : KeyMem (w.alloc o) g n d m S B U D := h.keep ((Below.refl _ _).alloc (Nat.le_refl _) o)
end KeyMem

theorem last_any (g n : Nat) (w : World) (hn : n ≤ 8) (hw : w.cell? ⟨g, 0, none⟩ = some (.int .i64 (n : Nat))) :
    Calls Try.prog 35 #[.pointer (some ⟨g, 0, none⟩)] w fun e w' => e = .returned (.int .i64 ((n + 6 : Nat) : Int)) ∧ w = w' := by
  go_enter Try.func35, Try.ntmps35
  go_wp2
  go_ret
  exact ⟨ret_int (by omega), rfl⟩

theorem size88 : (Try.prog.info? 92).map (·.size) = some 4 := by kernel_rfl
theorem size65 : (Try.prog.info? 72).map (·.size) = some 16 := by kernel_rfl
set_option maxRecDepth 100000 in
set_option maxHeartbeats 800000 in
theorem word_any (g i : Nat) (S : Nat → Nat) (w : World) (hi : i < 60) (hS : Arr w g 1 240 S) :
    Calls Try.prog 54 #[.pointer (some ⟨g, 0, none⟩), .int .i64 (i : Nat)] w fun e w' => e = .returned (aggB 4 (fun j => S (4 * i + j))) ∧ Below w.heap.size w w' := by
  have hsl := sl_arr 55 240 g 1 (4 * i) (4 * i + 4) Try.underlying55 (by omega) (by omega) (by omega) ((i : Int) * 4) (((i : Int) + 1) * 4) (by omega) (by omega)
  rw [show 4 * i + 4 - 4 * i = 4 by omega] at hsl
  have hpa := to_arr 92 4 5 Try.underlying92 (some ⟨g, 1 + 4 * i, none⟩) 4 (240 - 4 * i) (Nat.le_refl _)
  have HL := Lib.hid ((hS.alloc (.cells #[.int .u8 0, .int .u8 0, .int .u8 0, .int .u8 0] 92)).sub (a := 4 * i) (m := 4) (by omega) rfl)
  have HN := Lib.hid (arr_made w #[.int .u8 0, .int .u8 0, .int .u8 0, .int .u8 0] 92 4 (fun _ => 0) rfl)
  have HB := Lib.hid ((Chg.refl w.heap.size w).alloc (.cells #[.int .u8 0, .int .u8 0, .int .u8 0, .int .u8 0] 92))
  clear hS
  go_enter Try.func54, Try.ntmps54
  go_wp2_with (first | (refine wpList_loadB rfl 92 (.tmp 14) rfl g (1 + 4 * i) 4 rfl _ HL.out _ Try.underlying92 rfl size88 ?_) | (refine wpList_storeB rfl 92 (.tmp 4) (.tmp 15) rfl w.heap.size 0 4 _ _ rfl rfl HN.out size88 ?_; intro w2 h1 h2; have HR := Lib.hid h1; have HC := Lib.hid h2; clear h1 h2))
  exact bodyPost_ret (results_cellB rfl _ _ w.heap.size 0 4 _ rfl HR.out _ Try.underlying92 rfl size88) rfl ⟨rfl, (HB.out.trans HC.out).below (Nat.le_refl _) (Nat.le_refl _)⟩

/-- the words' bytes, by the box -/
theorem boxed_any (g : Nat) (B f : Nat → Nat) (w : World) (hB : Arr w g 244 256 B) (hf : By 4 f) :
    Calls Try.prog 55 #[.pointer (some ⟨g, 0, none⟩), aggB 4 f] w fun e w' => e = .returned (aggB 4 (fun j => B (f j))) ∧ Below w.heap.size w w' := by
  have HF := Lib.hid hf
  have HBX := Lib.hid ((hB.alloc (.cells (bytesL 4 f).toArray 92)).alloc (.cells #[.int .u8 0, .int .u8 0, .int .u8 0, .int .u8 0] 92))
  have HL := Lib.hid ((arr_made w _ 92 4 f rfl).alloc (.cells #[.int .u8 0, .int .u8 0, .int .u8 0, .int .u8 0] 92))
  have HN := Lib.hid (arr_made (w.alloc (.cells (bytesL 4 f).toArray 92)) #[.int .u8 0, .int .u8 0, .int .u8 0, .int .u8 0] 92 4 (fun _ => 0) rfl)
  have HC := Lib.hid (((Below.refl w.heap.size w).alloc (Nat.le_refl _) (.cells (bytesL 4 f).toArray 92)).alloc (by simp) (.cells #[.int .u8 0, .int .u8 0, .int .u8 0, .int .u8 0] 92))
  have hs1 : (w.alloc (.cells (bytesL 4 f).toArray 92)).heap.size = w.heap.size + 1 := by simp
  rw [hs1] at HN
  have HG := Lib.hid (hB.lt (by decide))
  clear hf hB hs1
  go_enter Try.func55, Try.ntmps55
  go_wp2_with ((refine wpList_loadB rfl 92 (.tmp 3) rfl w.heap.size 0 4 rfl _ HL.out _ Try.underlying92 rfl size88 ?_))
  generalize hW : (w.alloc (.cells (bytesL 4 f).toArray 92)).alloc (.cells #[.int .u8 0, .int .u8 0, .int .u8 0, .int .u8 0] 92) = W at *
  clear hW
  go_wp2_with fail
  go_loopw [8] (fun i wr => ∃ k : Nat, k ≤ 4 ∧ i = .int .i64 k ∧ Arr wr w.heap.size 0 4 (fun j => if j < k then B (f j) else f j) ∧ Arr wr (w.heap.size + 1) 0 4 (fun _ => 0) ∧ Arr wr g 244 256 B ∧ Below w.heap.size w wr) (fun i _ => 4 - (intOf i).toNat)
  case atStart => exact ⟨0, by decide, rfl, HL.out, HN.out, HBX.out, HC.out⟩
  case round =>
    obtain ⟨k, hk, rfl, h1, h2, h3, h4⟩ := hrel
    have H1 := Lib.hid h1
    have H2 := Lib.hid h2
    have H3 := Lib.hid h3
    have H4 := Lib.hid h4
    clear h1 h2 h3 h4
    by_cases hlt : k < 4
    · have hfk := HF.out k hlt
      obtain ⟨x, hx⟩ : ∃ x, f k = x := ⟨_, rfl⟩
      have hix := index_arr 92 4 f k x Try.underlying92 hlt hx
      rw [hx] at hfk
      have hc1 := H3.out.cell hfk rfl
      have hc2 := H1.out.cell hlt (Nat.zero_add k).symm
      have hf2 := H1.out.frozen hlt (Nat.zero_add k).symm
      rw [if_neg (Nat.lt_irrefl k), hx] at hc2
      have HX := Lib.hid hx
      clear hx
      go_wp2_with fail
      have hn2 : w.heap.size + 1 ≠ w.heap.size := by omega
      go_roundw
      case rel => exact ⟨k + 1, by omega, by go_num, (H1.out.set hlt (Nat.zero_add k).symm (B x) rfl).congr fun j _ => by
          by_cases e : j = k
          · subst e; rw [if_pos rfl, if_pos (Nat.lt_succ_self _), HX.out]
          · rw [if_neg e]
            by_cases h : j < k
            · rw [if_pos h, if_pos (by omega)]
            · rw [if_neg h, if_neg (by omega)], H2.out.setOther hn2 _, H3.out.setOther (Nat.ne_of_lt HG.out) _, H4.out.setCell (p := ⟨w.heap.size, k, none⟩) (Nat.le_refl _) _⟩
      case measure => simp [intOf]; omega
    · obtain rfl : k = 4 := by omega
      have HR := Lib.hid (H1.out.congr (f := fun j => B (f j)) fun j hj => by rw [if_pos hj])
      go_wp2_with (first | (refine wpList_loadB rfl 92 (.tmp 3) rfl w.heap.size 0 4 rfl _ HR.out _ Try.underlying92 rfl size88 ?_) | (refine wpList_storeB rfl 92 (.tmp 4) (.tmp 21) rfl (w.heap.size + 1) 0 4 _ _ rfl rfl H2.out size88 ?_; intro w2 h1 h2; have HR2 := Lib.hid h1; have HC2 := Lib.hid h2; clear h1 h2))
      exact bodyPost_ret (results_cellB rfl _ _ (w.heap.size + 1) 0 4 _ rfl HR2.out _ Try.underlying92 rfl size88) rfl ⟨rfl, H4.out.trans (HC2.out.below H4.out.size (Nat.le_succ _))⟩
end Go.Proofs.Ytgfdnhpfdbaddaa
