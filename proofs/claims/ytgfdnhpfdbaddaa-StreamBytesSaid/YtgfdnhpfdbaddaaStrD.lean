/- Contracts of package stream: Xor. -/
import Derived.Test.YtgfdnhpfdbaddaaStrC
import Derived.Test.YtgfdnhpfdbaddaaBits
namespace Go.Proofs.Ytgfdnhpfdbaddaa
open Go.RowKit
/-- bytes under a key, from a place on -/
def xorf (n : Nat) (key : Nat → Nat) (N T : Nat) (p : Nat → Nat) (j : Nat) : Nat := p j ^^^ padk n key N ((T + j) / 16) ((T + j) % 16)
theorem xorf_lt {n m N T : Nat} {key p : Nat → Nat} (hn : n = 4 ∨ n = 8) (hkey : By (4 * n) key) (hp : By m p) : By m (xorf n key N T p) := fun j hj => xor_lt8 (hp j hj) (padk_by hn hkey N _ _ (Nat.mod_lt _ (by decide)))
def xo (n : Nat) (key : Nat → Nat) (N T : Nat) (p : Nat → Nat) (k j : Nat) : Nat := if j < k then xorf n key N T p j else 0
/-- which block comes next -/
def nxb (T k : Nat) : Nat := if k = 0 then T / 16 else (T + k - 1) / 16 + 1
/-- a round's beginning -/
structure XorR (w0 : World) (g n : Nat) (key : Nat → Nat) (N T m : Nat) (p : Nat → Nat) (out sK sN sB : Nat) (wr : World) (k : Nat) (v : Value) : Prop where
  row : RowB wr out m (xo n key N T p k)
  str : ∃ B', B' = (nxb T k : Int) ∧ Str wr g n key N B' sK sN sB
  pad : (k = 0 ∧ v = .slice none 0 0) ∨ ∃ st, v = .slice (some ⟨st, 0, none⟩) 16 16 ∧ 0 < k ∧ out < st ∧ Arr wr st 0 16 (padk n key N ((T + k - 1) / 16))
  below : Below w0.heap.size w0 wr
theorem Str.setOut {w : World} {g n : Nat} {key : Nat → Nat} {N : Nat} {B : Int} {sK sN sB o k : Nat} (h : Str w g n key N B sK sN sB) (ho : sB < o) (v : Value) : Str (w.setCell ⟨o, k, none⟩ v) g n key N B sK sN sB :=
  have := h.gK
  have := h.gN
  have := h.gB
  have e (j : Nat) (hj : j < o) : (w.setCell ⟨o, k, none⟩ v).heap[j]? = w.heap[j]? := Below.heap_setCell w ⟨o, k, none⟩ v j (by show j ≠ o; omega)
  ⟨h.key.of_block (e g (by omega)), (World.cell?_of_block (e sK (by omega))).trans h.cK, (World.cell?_of_block (e sN (by omega))).trans h.cN, (World.cell?_of_block (e sB (by omega))).trans h.cB, (World.frozen?_of_block (e sB (by omega))).trans h.fB, h.gK, h.gN, h.gB⟩
/-- a round's end -/
theorem XorR.after {w0 wq : World} {g n N T m out sK sN sB k st x : Nat} {key p : Nat → Nat} (hrow : RowB wq out m (xo n key N T p k)) (hpad : Arr wq st 0 16 (padk n key N ((T + k) / 16))) (hstr : ∃ B', B' = (((T + k) / 16 + 1 : Nat) : Int) ∧ Str wq g n key N B' sK sN sB)
    (hb : Below w0.heap.size w0 wq) (ho : sB < out) (hw : w0.heap.size ≤ out) (hs : out < st) (hx : xorf n key N T p k = x) : XorR w0 g n key N T m p out sK sN sB ((wq.setCell ⟨out, k, none⟩ (.int .u8 (x : Nat))).drew) (k + 1) (.slice (some ⟨st, 0, none⟩) 16 16) := by
  refine ⟨((hrow.set k x _ rfl).congr fun j _ => ?_).drew, ?_, Or.inr ⟨st, rfl, Nat.succ_pos k, hs, ?_⟩, (hb.setCell (p := ⟨out, k, none⟩) hw _).drew⟩
  · unfold xo
    by_cases e : j = k
    · subst e; rw [if_pos rfl, if_pos (Nat.lt_succ_self _), hx]
    · rw [if_neg e]
      by_cases h : j < k
      · rw [if_pos h, if_pos (by omega)]
      · rw [if_neg h, if_neg (by omega)]
  · obtain ⟨B', rfl, h⟩ := hstr
    refine ⟨_, ?_, (h.setOut ho _).drew⟩
    unfold nxb
    rw [if_neg (Nat.succ_ne_zero k), show T + (k + 1) - 1 = T + k by omega]
  · rw [show T + (k + 1) - 1 = T + k by omega]
    exact (hpad.setOther (a := ⟨out, k, none⟩) (Nat.ne_of_gt hs) _).drew
set_option maxRecDepth 100000 in
theorem xor_arg (A P : Option Addr) (len cap m c : Nat) (N T : Int) (w : World) (hl : len ≤ 140737488351232) (h : wrong len N T) :
    Calls Try.prog 10 #[.slice A len cap, .int .i64 N, .int .i64 T, .slice P m c] w fun e w' => e = .returned (.tuple #[.slice none 0 0, .int .i64 1]) ∧ w = w' := by
  have HS := Lib.hid (keyfor_arg A len cap N T w hl h)
  clear h
  go_enter Try.func10, Try.ntmps10
  go_wp2_with (go_at_call 16; refine HS.out.mono ?_; rintro e w1 ⟨rfl, rfl⟩)
  go_ret2
  exact ⟨rfl, rfl⟩
set_option maxRecDepth 100000 in
theorem xor_long (A P : Option Addr) (len n cap m c N T : Nat) (key : Nat → Nat) (w : World) (hn : n = 4 ∨ n = 8) (hl : 4 * n = len) (hA : SlB w A len key) (hT : T ≤ 9223372036854775807) (hm : m ≤ 140737488351232) (h : 65536 < m ∨ 1099511627776 < T) :
    Calls Try.prog 10 #[.slice A len cap, .int .i64 (N : Nat), .int .i64 (T : Nat), .slice P m c] w fun e w' => e = .returned (.tuple #[.slice none 0 0, .int .i64 2]) ∧ Below w.heap.size w w' := by
  have HS := Lib.hid (keyfor_any A len n cap N T key w hn hl hA)
  clear hA hn hl
  by_cases h1 : 65536 < m
  · have hd : decide ((65536 : Int) < (m : Nat)) = true := by rw [decide_eq_true_eq]; omega
    clear h h1
    go_enter Try.func10, Try.ntmps10
    go_wp2_with (go_at_call 16; refine HS.out.mono ?_; rintro e w1 ⟨g, rfl, h1, h2, h3⟩; have H3 := Lib.hid h3; clear h1 h2 h3)
    go_ret2
    exact ⟨rfl, H3.out⟩
  · have hd : decide ((65536 : Int) < (m : Nat)) = false := by rw [decide_eq_false_iff_not]; omega
    have hd2 : decide ((1099511627776 : Int) < (T : Nat)) = true := by rw [decide_eq_true_eq]; omega
    clear h h1
    go_enter Try.func10, Try.ntmps10
    go_wp2_with (go_at_call 16; refine HS.out.mono ?_; rintro e w1 ⟨g, rfl, h1, h2, h3⟩; have H3 := Lib.hid h3; clear h1 h2 h3)
    go_ret2
    exact ⟨rfl, H3.out⟩
/-- what Xor leaves -/
def XorP (n : Nat) (key : Nat → Nat) (N T m : Nat) (p : Nat → Nat) (w : World) (e : Ending) (w' : World) : Prop :=
  ∃ st, e = .returned (.tuple #[.slice (some ⟨st, 0, none⟩) m m, .int .i64 0]) ∧ w.heap.size ≤ st ∧ RowB w' st m (xorf n key N T p) ∧ Below w.heap.size w w'
set_option maxRecDepth 100000 in
set_option maxHeartbeats 3200000 in
theorem xor_any (A P : Option Addr) (len n cap m c N T : Nat) (key p : Nat → Nat) (w : World) (hn : n = 4 ∨ n = 8) (hl : 4 * n = len) (hA : SlB w A len key) (hP : SlB w P m p) (hN : N ≤ 9223372036854775807) (hT : T ≤ 1099511627776) (hm : m ≤ 65536) :
    Calls Try.prog 10 #[.slice A len cap, .int .i64 (N : Nat), .int .i64 (T : Nat), .slice P m c] w (XorP n key N T m p w) := by
  have hmk : ∀ W : World, (Instr.makeSlice 22 (.int .i64 (m : Int)) (.int .i64 (m : Int))).run Try.prog W = .ok (.slice (some ⟨W.heap.size, 0, none⟩) m m) (W.alloc (.cells (madeCells #[.int .u8 0] m) 5)) := fun W => by
    obtain ⟨i, hi, hz, hsz, hb⟩ := info_parts info8
    have := run_make (P := Try.prog) W 22 5 i (.int .u8 0) Try.underlying22 hi hz .i64 .i64 (m : Int) (m : Int) (by omega) (by omega) (by rw [hb]; omega) (by omega)
    rw [this, hsz, Int.toNat_natCast, Nat.mul_one]
    rfl
  have HS := Lib.hid (keyfor_any A len n cap N T key w hn hl hA)
  have HY := Lib.hid (show By (4 * n) key from fun j hj => hA.byte (by omega))
  have HPY := Lib.hid (show By m p from fun j hj => hP.byte hj)
  have HP := Lib.hid hP
  have HN := Lib.hid hn
  have HNN := Lib.hid hN
  have HTT := Lib.hid hT
  have hd : decide ((65536 : Int) < (m : Nat)) = false := by rw [decide_eq_false_iff_not]; omega
  have hd2 : decide ((1099511627776 : Int) < (T : Nat)) = false := by rw [decide_eq_false_iff_not]; omega
  obtain ⟨b, hb⟩ : ∃ b, T / 16 = b := ⟨_, rfl⟩
  have hTi : (T : Int) ≤ 1099511627776 := by omega
  have hT0 : (0 : Int) ≤ (T : Nat) := by omega
  have hbi : (T : Int) / 16 = (b : Nat) := by omega
  have hmi : (m : Int) ≤ 65536 := by omega
  have HBB := Lib.hid (show b ≤ 9223372036854775807 by omega)
  have HB0 := Lib.hid hb
  clear hA hP hn hl hN hT hm hb
  go_enter Try.func10, Try.ntmps10
  go_wp2_with (first | (go_at_call 16; refine HS.out.mono ?_; rintro e w1 ⟨g, rfl, h1, h2, h3⟩; have H1 := Lib.hid h1; have H2 := Lib.hid h2; have H3 := Lib.hid h3; clear h1 h2 h3) | (go_at_call 17; refine (stream_any g n key N b w1 H2.out).mono ?_; rintro e w2 ⟨sK, sN, sB, rfl, h1, h2, h3⟩; have H4 := Lib.hid h1; have H5 := Lib.hid h2; have H6 := Lib.hid (H3.out.trans (h3.mono H3.out.size)); clear h1 h2 h3))
  have HOG := Lib.hid (show sB < w2.heap.size from block_lt H5.out.cB)
  have HXR := Lib.hid (show XorR w g n key N T m p w2.heap.size sK sN sB (w2.alloc (.cells (madeCells #[.int .u8 0] m) 5)) 0 (.slice none 0 0) from
    ⟨(rowB_made w2 m).congr fun j _ => (if_neg (Nat.not_lt_zero j)).symm, ⟨(b : Int), by unfold nxb; rw [if_pos rfl, HB0.out], H5.out.keep (alloc_below _ _)⟩, Or.inl ⟨rfl, rfl⟩, H6.out.alloc H6.out.size _⟩)
  have HOW := Lib.hid H6.out.size
  have HGG := Lib.hid H5.out.gK
  have HGN := Lib.hid H5.out.gN
  have HGB := Lib.hid H5.out.gB
  generalize w2.alloc (.cells (madeCells #[.int .u8 0] m) 5) = W at *
  generalize w2.heap.size = out at *
  clear hmk HS hd hd2 hbi HBB HB0 H2 H3 H4 H5 H6
  go_loopw [14, 44] (fun v14 v44 wr => ∃ k : Nat, k ≤ m ∧ v44 = .int .i64 (k : Nat) ∧ XorR w g n key N T m p out sK sN sB wr k v14) (fun _ v44 _ => m - (intOf v44).toNat)
  case atStart => exact ⟨0, Nat.zero_le _, rfl, HXR.out⟩
  case round =>
    obtain ⟨k, hk, rfl, hr⟩ := hrel
    have HR := Lib.hid hr
    clear hr HXR
    by_cases hlt : k < m
    · obtain ⟨e, he, hei⟩ : ∃ e, T + k = e ∧ (T : Int) + (k : Nat) = (e : Nat) := ⟨T + k, rfl, by omega⟩
      obtain ⟨q, hq, hqi⟩ : ∃ q, e % 16 = q ∧ (e : Int) % 16 = (q : Nat) := ⟨e % 16, rfl, by omega⟩
      have hq16 : q < 16 := by rw [← hq]; exact Nat.mod_lt _ (by decide)
      have hel : (e : Int) ≤ 1099511700000 := by omega
      have HE := Lib.hid he
      have HQ := Lib.hid hq
      have hki : (k : Int) < (m : Nat) := by omega
      have hk0 : (0 : Int) ≤ (k : Nat) := by omega
      have hq0 : (0 : Int) ≤ (q : Nat) := by omega
      have hqi16 : (q : Int) < 16 := by omega
      obtain ⟨PB, o, hPe, hPl, hPc⟩ := HP.out (by omega)
      have HPC := Lib.hid (hPc k hlt)
      have HPL := Lib.hid hPl
      clear hPc hPl HP he hq
      subst hPe
      obtain ⟨E, hE⟩ : ∃ E, e / 16 = E := ⟨_, rfl⟩
      have HEE := Lib.hid hE
      have HEM := Lib.hid (show E ≤ 9223372036854775807 by omega)
      have HEL := Lib.hid (show E < 9223372036854775807 by omega)
      clear hE
      by_cases hnew : k = 0 ∨ q = 0
      · have HSTR := Lib.hid (show Str wr g n key N (E : Nat) sK sN sB from by
          obtain ⟨B', h1, h2⟩ := HR.out.str
          have : nxb T k = E := by
            have := HE.out
            have := HQ.out
            have := HEE.out
            unfold nxb
            split <;> omega
          rw [this] at h1
          rw [← h1]
          exact h2)
        have HNX := Lib.hid (next_any g n key N E sK sN sB wr HN.out HY.out HNN.out HEM.out HSTR.out)
        have hb : (((k : Int) == 0) = true) ∨ (((k : Int) == 0) = false ∧ ((q : Int) == 0) = true) := by
          by_cases h : k = 0
          · exact Or.inl (by simp [h])
          · exact Or.inr ⟨by simp [h], by simp; omega⟩
        clear hnew
        rcases hb with hb1 | ⟨hb1, hb2⟩
        all_goals
          go_wp2_with (go_at_call 22; refine HNX.out.mono ?_; rintro e' w4 ⟨st, hx⟩; obtain ⟨rfl, h1, h2, h3, h4⟩ := hx; have H7 := Lib.hid h1; have HPad := Lib.hid h2; have HStr4 := Lib.hid h3; have H9 := Lib.hid h4; clear h1 h2 h3 h4)
          have HRow := Lib.hid (HR.out.row.of_block (H9.out.block out HR.out.row.lt (fun h => by have := HOG.out; have := HGG.out; have := HGN.out; have := HGB.out; rcases h with h | h <;> omega)))
          have HBel := Lib.hid (HR.out.below.trans (H9.out.below HR.out.below.size (fun j h => by have := H1.out; have := HGG.out; have := HGN.out; have := HGB.out; rcases h with h | h <;> omega)))
          have Hst := Lib.hid (Nat.lt_of_lt_of_le HR.out.row.lt H7.out)
          have HStr5 := Lib.hid (show ∃ B', B' = ((E + 1 : Nat) : Int) ∧ Str w4 g n key N B' sK sN sB from by
            obtain ⟨B', h1, h2⟩ := HStr4.out
            exact ⟨B', h1 HEL.out, h2⟩)
          clear HSTR HNX HStr4 H7 H9
          have hco := HRow.out.cell (i := k) hlt
          rw [show xo n key N T p k k = 0 from if_neg (Nat.lt_irrefl k)] at hco
          have hfo := HRow.out.frozen k
          have hcp := (HBel.out.cell (p := ⟨PB, o + k, none⟩) HPL.out).trans HPC.out.2
          have hcq := HPad.out.cell (j := q) hq16 (Nat.zero_add q).symm
          have hx8 := HPC.out.1
          have hy8 := padk_by HN.out HY.out N E q hq16
          have HXF := Lib.hid (show xorf n key N T p k = p k ^^^ padk n key N E q by unfold xorf; rw [HE.out, HEE.out, HQ.out])
          have HPad2 := Lib.hid (show Arr w4 st 0 16 (padk n key N ((T + k) / 16)) by rw [HE.out, HEE.out]; exact HPad.out)
          have HStr6 := Lib.hid (show ∃ B', B' = (((T + k) / 16 + 1 : Nat) : Int) ∧ Str w4 g n key N B' sK sN sB by rw [HE.out, HEE.out]; exact HStr5.out)
          have HAF := Lib.hid (XorR.after HRow.out HPad2.out HStr6.out HBel.out HOG.out HOW.out Hst.out HXF.out)
          generalize p k = x at *
          generalize padk n key N E q = y at *
          have b1 : bits BinOp.xor .u8 (x : Int) (y : Int) = ((x ^^^ y : Nat) : Int) := u8_xor_nat x y hx8 hy8
          clear HPad HStr5 HRow HXF HPad2 HStr6
          generalize x ^^^ y = z at *
          go_region
          all_goals
            generalize (w4.setCell ⟨out, k, none⟩ (.int .u8 (z : Nat))).drew = W1 at *
            clear hco hfo hcp hcq
            go_wp2_with fail
            go_roundw
            case rel => exact ⟨k + 1, by omega, by go_num, HAF.out⟩
            case measure => simp [intOf]; omega
      · have hb1 : ((k : Int) == 0) = false := by simp; omega
        have hb2 : ((q : Int) == 0) = false := by simp; omega
        have HPQ := Lib.hid (show ∃ st, u14 = .slice (some ⟨st, 0, none⟩) 16 16 ∧ out < st ∧ Arr wr st 0 16 (padk n key N E) from by
          rcases HR.out.pad with ⟨h, _⟩ | ⟨st, h1, h2, h3, h4⟩
          · exact absurd (Or.inl h) hnew
          · refine ⟨st, h1, h3, ?_⟩
            have : (T + k - 1) / 16 = E := by
              have := HE.out
              have := HQ.out
              have := HEE.out
              omega
            rw [← this]
            exact h4)
        have HSTR := Lib.hid (show ∃ B', B' = ((E + 1 : Nat) : Int) ∧ Str wr g n key N B' sK sN sB from by
          obtain ⟨B', h1, h2⟩ := HR.out.str
          have : nxb T k = E + 1 := by
            have := HE.out
            have := HQ.out
            have := HEE.out
            unfold nxb
            split <;> omega
          rw [this] at h1
          exact ⟨B', h1, h2⟩)
        obtain ⟨st, hu, Hst, HPad⟩ := HPQ.out
        subst hu
        have HPad := Lib.hid HPad
        have HStr5 := HSTR
        have HRow := Lib.hid HR.out.row
        have HBel := Lib.hid HR.out.below
        have Hst := Lib.hid Hst
        clear hnew HPQ HSTR
        have hco := HRow.out.cell (i := k) hlt
        rw [show xo n key N T p k k = 0 from if_neg (Nat.lt_irrefl k)] at hco
        have hfo := HRow.out.frozen k
        have hcp := (HBel.out.cell (p := ⟨PB, o + k, none⟩) HPL.out).trans HPC.out.2
        have hcq := HPad.out.cell (j := q) hq16 (Nat.zero_add q).symm
        have hx8 := HPC.out.1
        have hy8 := padk_by HN.out HY.out N E q hq16
        have HXF := Lib.hid (show xorf n key N T p k = p k ^^^ padk n key N E q by unfold xorf; rw [HE.out, HEE.out, HQ.out])
        have HPad2 := Lib.hid (show Arr wr st 0 16 (padk n key N ((T + k) / 16)) by rw [HE.out, HEE.out]; exact HPad.out)
        have HStr6 := Lib.hid (show ∃ B', B' = (((T + k) / 16 + 1 : Nat) : Int) ∧ Str wr g n key N B' sK sN sB by rw [HE.out, HEE.out]; exact HStr5.out)
        have HAF := Lib.hid (XorR.after HRow.out HPad2.out HStr6.out HBel.out HOG.out HOW.out Hst.out HXF.out)
        generalize p k = x at *
        generalize padk n key N E q = y at *
        have b1 : bits BinOp.xor .u8 (x : Int) (y : Int) = ((x ^^^ y : Nat) : Int) := u8_xor_nat x y hx8 hy8
        clear HPad HStr5 HRow HXF HPad2 HStr6
        generalize x ^^^ y = z at *
        go_wp2_with fail
        go_region
        all_goals
          generalize (wr.setCell ⟨out, k, none⟩ (.int .u8 (z : Nat))).drew = W1 at *
          clear hco hfo hcp hcq
          go_wp2_with fail
          go_roundw
          case rel => exact ⟨k + 1, by omega, by go_num, HAF.out⟩
          case measure => simp [intOf]; omega
    · obtain rfl : k = m := by omega
      have HF := Lib.hid (HR.out.row.congr (f := xorf n key N T p) fun j hj => if_pos hj)
      have HBel := Lib.hid HR.out.below
      go_wp2_with fail
      go_ret2
      exact ⟨out, rfl, HOW.out, HF.out, HBel.out⟩
end Go.Proofs.Ytgfdnhpfdbaddaa
