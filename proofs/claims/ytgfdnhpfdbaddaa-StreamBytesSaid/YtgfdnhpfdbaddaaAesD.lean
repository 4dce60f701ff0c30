/- Contracts of package aes: the first use of a key; the steps of a round. -/
import Derived.Test.YtgfdnhpfdbaddaaAesC
import Derived.Test.YtgfdnhpfdbaddaaArrM
namespace Go.Proofs.Ytgfdnhpfdbaddaa
open Go.RowKit

abbrev KeyReady (w : World) (g n : Nat) (key : Nat → Nat) : Prop := KeyMem w g n 1 0 (ks n key) box unbox dbl
/-- a key that was made, asked or not -/
def KeyAt (w : World) (g n : Nat) (key : Nat → Nat) : Prop := KeyMem w g n 0 0 (sch n key 0) (fun _ => 0) (fun _ => 0) (fun _ => 0) ∨ KeyReady w g n key
theorem KeyAt.of_block {w w' : World} {g n : Nat} {key : Nat → Nat} (h : KeyAt w g n key) (e : w'.heap[g]? = w.heap[g]?) : KeyAt w' g n key := h.imp (·.of_block e) (·.of_block e)
theorem KeyAt.lt {w : World} {g n : Nat} {key : Nat → Nat} (h : KeyAt w g n key) : g < w.heap.size := h.elim (·.lt) (·.lt)
theorem KeyAt.keep {w w' : World} {g n : Nat} {key : Nat → Nat} (h : KeyAt w g n key) (hb : Below w.heap.size w w') : KeyAt w' g n key := h.of_block (hb.block g h.lt)
theorem KeyAt.chg {w w' : World} {g n K : Nat} {key : Nat → Nat} (h : KeyAt w g n key) (hb : Chg K w w') (hK : g ≠ K) : KeyAt w' g n key := h.of_block (hb.block g h.lt hK)
theorem once_any (g n : Nat) (key : Nat → Nat) (w : World) (hn : n = 4 ∨ n = 8) (hkey : By (4 * n) key) (hk : KeyAt w g n key) :
    Calls Try.prog 32 #[.pointer (some ⟨g, 241, none⟩), .func (.func 33) #[.pointer (some ⟨g, 0, none⟩)] #[]] w fun e w' => e = .returned (.tuple #[]) ∧ KeyReady w' g n key ∧ Chg g w w' := by
  rcases hk with hk | hk
  · refine (do_first g 241 (.pointer (some ⟨g, 0, none⟩)) w hk.once (fun w1 => KeyMem w1 g n 0 1 (ks n key) box unbox dbl ∧ Chg g (w.setCell ⟨g, 242, none⟩ (.int .i32 1)) w1) (prepare_any g n key _ hn hkey (hk.setLock 1 rfl)) fun w1 h => h.1.once).mono ?_
    rintro e w' ⟨he, w1, ⟨h1, h2⟩, rfl⟩
    exact ⟨he, (h1.drew.setDone 1 rfl).setLock 0 rfl, ((((Chg.refl g w).setCell (a := ⟨g, 242, none⟩) (Or.inl rfl) _).trans h2).drew.setCell (a := ⟨g, 241, none⟩) (Or.inl rfl) _).setCell (a := ⟨g, 242, none⟩) (Or.inl rfl) _⟩
  · refine (do_done g 241 _ 0 w hk.once).mono ?_
    rintro e w' ⟨he, rfl⟩
    exact ⟨he, hk, Chg.refl _ _⟩

abbrev z16 : Array Value := #[.int .u8 0, .int .u8 0, .int .u8 0, .int .u8 0, .int .u8 0, .int .u8 0, .int .u8 0, .int .u8 0, .int .u8 0, .int .u8 0, .int .u8 0, .int .u8 0, .int .u8 0, .int .u8 0, .int .u8 0, .int .u8 0]
theorem made65 (w : World) : Arr (w.alloc (.cells #[.int .u8 0, .int .u8 0, .int .u8 0, .int .u8 0, .int .u8 0, .int .u8 0, .int .u8 0, .int .u8 0, .int .u8 0, .int .u8 0, .int .u8 0, .int .u8 0, .int .u8 0, .int .u8 0, .int .u8 0, .int .u8 0] 72)) w.heap.size 0 16 (fun _ => 0) := arr_made w _ _ 16 _ rfl
set_option maxHeartbeats 1600000 in
theorem add_any (g s r : Nat) (S f : Nat → Nat) (w : World) (hr : r ≤ 14) (hS : Arr w g 1 240 S) (hs : Arr w s 0 16 f) (hSb : By 240 S) (hf : By 16 f) :
    Calls Try.prog 34 #[.pointer (some ⟨g, 0, none⟩), .pointer (some ⟨s, 0, none⟩), .int .i64 (r : Nat)] w fun e w' => e = .returned (.tuple #[]) ∧ Arr w' s 0 16 (addk S r f) ∧ Chg s w w' := by
  have hsl := sl_arr 55 240 g 1 (16 * r) (16 * r + 16) Try.underlying55 (by omega) (by omega) (by omega) ((r : Int) * 16) (((r : Int) + 1) * 16) (by omega) (by omega)
  rw [show 16 * r + 16 - 16 * r = 16 by omega] at hsl
  have hpa := to_arr 72 16 5 Try.underlying72 (some ⟨g, 1 + 16 * r, none⟩) 16 (240 - 16 * r) (Nat.le_refl _)
  have HL := Lib.hid (hS.sub (a := 16 * r) (m := 16) (by omega) rfl)
  have HS := Lib.hid hs
  have HSB := Lib.hid hSb
  have HF := Lib.hid hf
  have HG := Lib.hid (hs.lt (by decide))
  clear hS hs hSb hf
  go_enter Try.func34, Try.ntmps34
  have HL0 := Lib.hid (HL.out.alloc (.cells z16 72))
  have HN0 := Lib.hid (made65 w)
  have HC0 := Lib.hid ((Chg.refl s w).alloc (.cells z16 72))
  have HS0 := Lib.hid (HS.out.alloc (.cells z16 72))
  go_wp2_with (first | (refine wpList_loadB rfl 72 (.tmp 18) rfl g (1 + 16 * r) 16 rfl _ HL.out _ Try.underlying72 rfl size65 ?_) | (refine wpList_storeB rfl 72 (.tmp 6) (.tmp 19) rfl w.heap.size 0 16 _ _ rfl rfl HN0.out size65 ?_; intro w2 h1 h2; have HR2 := Lib.hid h1; have HC2 := Lib.hid (HC0.out.thenNew h2 (Nat.le_refl _)); have HS2 := Lib.hid (HS0.out.chg h2 (Nat.ne_of_lt HG.out)); clear h1 h2) | (refine wpList_loadB rfl 72 (.tmp 6) rfl w.heap.size 0 16 rfl _ HR2.out _ Try.underlying72 rfl size65 ?_))
  clear HL0 HN0 HC0 HS0 HR2
  go_loopw [21] (fun v wr => ∃ k : Nat, k ≤ 16 ∧ v = .int .i64 k ∧ Arr wr s 0 16 (fun j => if j < k then addk S r f j else f j) ∧ Chg s w wr) (fun v _ => 16 - (intOf v).toNat)
  case atStart => exact ⟨0, by decide, rfl, HS2.out.congr fun j _ => (if_neg (Nat.not_lt_zero _)).symm, HC2.out⟩
  case round =>
    obtain ⟨k, hk, rfl, h1, h2⟩ := hrel
    have H1 := Lib.hid h1
    have H2 := Lib.hid h2
    clear h1 h2
    by_cases hlt : k < 16
    · obtain ⟨x, hx⟩ : ∃ x, S (16 * r + k) = x := ⟨_, rfl⟩
      have hix := index_arr 72 16 (fun j => S (16 * r + j)) k x Try.underlying72 hlt hx
      have hxl : x < 256 := by rw [← hx]; exact HSB.out _ (by omega)
      have hc := H1.out.cell hlt (Nat.zero_add k).symm
      have hf := H1.out.frozen hlt (Nat.zero_add k).symm
      rw [if_neg (Nat.lt_irrefl k)] at hc
      have hyl := HF.out k hlt
      have HX := Lib.hid (show addk S r f k = f k ^^^ x by unfold addk; rw [hx])
      have HM := Lib.hid (((H1.out.set hlt (Nat.zero_add k).symm (f k ^^^ x) rfl).congr fun j _ => upto_step f (addk S r f) k _ HX.out j).drew)
      have HC := Lib.hid ((H2.out.setCell (a := ⟨s, k, none⟩) (Or.inl rfl) (.int .u8 ((f k ^^^ x : Nat) : Int))).drew)
      clear hx
      generalize f k = y at *
      have hxy := x8 hyl hxl
      go_wp2_with fail
      go_region
      all_goals
        generalize (wr.setCell ⟨s, k, none⟩ (.int .u8 ((y ^^^ x : Nat) : Int))).drew = W at *
        clear hc hf
        go_wp2_with fail
        go_roundw
        case rel => exact ⟨k + 1, by omega, by go_num, HM.out, HC.out⟩
        case measure => simp [intOf]; omega
    · obtain rfl : k = 16 := by omega
      go_wp2_with fail
      go_end0
      exact ⟨rfl, H1.out.congr fun j hj => if_pos hj, H2.out⟩

set_option maxHeartbeats 1600000 in
theorem subst_any (g o s st : Nat) (T f : Nat → Nat) (w : World) (hst : st = 4 ∨ st = 12) (hT : Arr w g o 256 T) (hs : Arr w s 0 16 f) (hf : By 16 f) :
    Calls Try.prog 36 #[.pointer (some ⟨g, o, none⟩), .pointer (some ⟨s, 0, none⟩), .int .u64 (st : Nat)] w fun e w' => e = .returned (aggB 16 (subs T st f)) ∧ Below w.heap.size w w' := by
  have HT := Lib.hid ((hT.alloc (.cells z16 72)).alloc (.cells z16 72))
  have HS := Lib.hid ((hs.alloc (.cells z16 72)).alloc (.cells z16 72))
  have HF := Lib.hid hf
  have HG := Lib.hid (show s < w.heap.size ∧ g < w.heap.size from ⟨hs.lt (by decide), hT.lt (by decide)⟩)
  have hs1 : (w.alloc (.cells z16 72)).heap.size = w.heap.size + 1 := by simp
  have HO := Lib.hid ((made65 w).alloc (.cells z16 72))
  have hM := made65 (w.alloc (.cells z16 72))
  rw [hs1] at hM
  have HM := Lib.hid hM
  have HB := Lib.hid (((Below.refl w.heap.size w).alloc (Nat.le_refl _) (.cells z16 72)).alloc (by simp) (.cells z16 72))
  have HST := Lib.hid hst
  have hst2 : st < 256 := by omega
  clear hT hs hf hM hs1 hst
  go_enter Try.func36, Try.ntmps36
  go_wp2_with fail
  generalize hW : (w.alloc (.cells z16 72)).alloc (.cells z16 72) = W at *
  clear hW
  go_loopw [9] (fun v wr => ∃ k : Nat, k ≤ 16 ∧ v = .int .u64 k ∧ Arr wr (w.heap.size + 1) 0 16 (fun j => if j < k then subs T st f j else 0) ∧ Arr wr w.heap.size 0 16 (fun _ => 0) ∧ Arr wr g o 256 T ∧ Arr wr s 0 16 f ∧ Below w.heap.size w wr) (fun v _ => 16 - (intOf v).toNat)
  case atStart => exact ⟨0, by decide, rfl, HM.out.congr fun j _ => (if_neg (Nat.not_lt_zero _)).symm, HO.out, HT.out, HS.out, HB.out⟩
  case round =>
    obtain ⟨k, hk, rfl, h1, h2, h3, h4, h5⟩ := hrel
    have H1 := Lib.hid h1
    have H2 := Lib.hid h2
    have H3 := Lib.hid h3
    have H4 := Lib.hid h4
    have H5 := Lib.hid h5
    clear h1 h2 h3 h4 h5
    by_cases hlt : k < 16
    · obtain ⟨e, he⟩ : ∃ e, (k + st * (k % 4)) % 16 = e := ⟨_, rfl⟩
      have hel : e < 16 := by omega
      have hix : (IntKind.u64.wrap ((k : Int) + IntKind.u64.wrap ((st : Int) * ((k : Int) % 4)))).tmod 16 = (e : Nat) := by
        have hb : st * (k % 4) < 1024 := by rcases HST.out with h | h <;> subst h <;> omega
        obtain ⟨m, hm⟩ : ∃ m, st * (k % 4) = m := ⟨_, rfl⟩
        rw [hm] at hb he
        have h1 : (st : Int) * ((k : Int) % 4) = (m : Nat) := by rw [← hm]; simp
        have h2 : IntKind.u64.wrap ((m : Nat) : Int) = (m : Nat) := IntWalk.u64_in _ (by omega)
        rw [h1, h2, IntWalk.u64_in _ (by omega), Int.tmod_eq_emod_of_nonneg (by omega)]
        omega
      obtain ⟨x, hx⟩ : ∃ x, f e = x := ⟨_, rfl⟩
      have hxl : x < 256 := by rw [← hx]; exact HF.out e hel
      have hc1 := H4.out.cell hel (Nat.zero_add e).symm
      rw [hx] at hc1
      have hc2 := H3.out.cell hxl rfl
      have hc3 := H1.out.cell hlt (Nat.zero_add k).symm
      have hf3 := H1.out.frozen hlt (Nat.zero_add k).symm
      rw [if_neg (Nat.lt_irrefl k)] at hc3
      have HX := Lib.hid (show subs T st f k = T x by unfold subs; rw [he, hx])
      have HM1 := Lib.hid (((H1.out.set hlt (Nat.zero_add k).symm (T x) rfl).congr fun j _ => upto_step (fun _ => 0) (subs T st f) k _ HX.out j).drew)
      have HB1 := Lib.hid ((H5.out.setCell (p := ⟨w.heap.size + 1, k, none⟩) (Nat.le_succ _) (.int .u8 (T x : Nat))).drew)
      have HO1 := Lib.hid ((H2.out.setOther (a := ⟨w.heap.size + 1, k, none⟩) (Nat.ne_of_lt (Nat.lt_succ_self _)) (.int .u8 (T x : Nat))).drew)
      have HT1 := Lib.hid ((H3.out.setOther (a := ⟨w.heap.size + 1, k, none⟩) (Nat.ne_of_lt (Nat.lt_succ_of_lt HG.out.2)) (.int .u8 (T x : Nat))).drew)
      have HS1 := Lib.hid ((H4.out.setOther (a := ⟨w.heap.size + 1, k, none⟩) (Nat.ne_of_lt (Nat.lt_succ_of_lt HG.out.1)) (.int .u8 (T x : Nat))).drew)
      clear hx he
      generalize T x = y at *
      go_wp2_with fail
      go_region
      all_goals
        generalize (wr.setCell ⟨w.heap.size + 1, k, none⟩ (.int .u8 (y : Nat))).drew = W2 at *
        clear hc1 hc2 hc3 hf3 hix
        go_wp2_with fail
        go_roundw
        case rel => exact ⟨k + 1, by omega, by go_num, HM1.out, HO1.out, HT1.out, HS1.out, HB1.out⟩
        case measure => simp [intOf]; omega
    · obtain rfl : k = 16 := by omega
      have HR := Lib.hid (H1.out.congr (f := subs T st f) fun j hj => if_pos hj)
      go_wp2_with (first | (refine wpList_loadB rfl 72 (.tmp 7) rfl (w.heap.size + 1) 0 16 rfl _ HR.out _ Try.underlying72 rfl size65 ?_) | (refine wpList_storeB rfl 72 (.tmp 6) (.tmp 30) rfl w.heap.size 0 16 _ _ rfl rfl H2.out size65 ?_; intro w2 h1 h2; have HR2 := Lib.hid h1; have HC2 := Lib.hid h2; clear h1 h2))
      exact bodyPost_ret (results_cellB rfl _ _ w.heap.size 0 16 _ rfl HR2.out _ Try.underlying72 rfl size65) rfl ⟨rfl, H5.out.trans (HC2.out.below H5.out.size (Nat.le_refl _))⟩
end Go.Proofs.Ytgfdnhpfdbaddaa
