/- 13 texts in one, in their order. -/
import Derived.Test.YtniaelaolmjkaaaDoorPk3
import Derived.RangeFuncNested
import Derived.RangeFuncBound
import Derived.RangeFuncCalls
import Derived.RangeFuncLeaves
import Derived.Shelf.Abstract
import Derived.Shelf.RegionOpen
import Derived.OwnWalkIn
import Derived.TacticsInMore
import Derived.LoopNIn
import Derived.LoopIn
/- Contracts of package ffx: the input of a round's mask. -/
namespace Go.Proofs.YtniaelaolmjkaaaDoor
set_option maxRecDepth 100000
open Go.RowKit

/-- the input, its value's bytes behind the first q of them not yet laid -/
def finq (u n t : Nat) (T : Nat → Nat) (r x w q j : Nat) : Nat :=
  if j < 16 then fhd u n t j else if j < 16 + t then T (j - 16) else if j < finL t w - 1 - w then 0 else if j = finL t w - 1 - w then r else if finL t w - 1 - w + q < j then x / 256 ^ (finL t w - 1 - j) % 256 else 0
theorem finq_end (u n t : Nat) (T : Nat → Nat) (r x w j : Nat) : finq u n t T r x w 0 j = finp u n t T r x w j := by
  unfold finq finp
  split
  · rfl
  · split
    · rfl
    · split
      · rfl
      · split
        · rfl
        · rw [if_pos (by omega)]
theorem finq_start {u n t : Nat} {T : Nat → Nat} {r x w j : Nat} (hj : j < finL t w) : (if j = finL t w - 1 - w then r else putB 16 t T (putB 0 16 (fhd u n t) fun _ => 0) j) = finq u n t T r x w w j := by
  have := finL_ge t w
  unfold finq putB
  by_cases h1 : j < 16
  · rw [if_neg (by omega), if_neg (by omega), if_pos (by omega), if_pos h1, Nat.sub_zero]
  · rw [if_neg h1]
    by_cases h2 : j < 16 + t
    · rw [if_neg (by omega), if_pos (by omega), if_pos h2]
    · rw [if_neg h2]
      by_cases h3 : j < finL t w - 1 - w
      · rw [if_neg (by omega), if_neg (by omega), if_neg (by omega), if_pos h3]
      · rw [if_neg h3]
        by_cases h4 : j = finL t w - 1 - w
        · rw [if_pos h4, if_pos h4]
        · rw [if_neg h4, if_neg (by omega), if_neg (by omega), if_neg h4, if_neg (by omega)]
theorem finq_step {u n t : Nat} {T : Nat → Nat} {r x w q j : Nat} (hq : q + 1 ≤ w) : (if j = finL t w - 1 - w + (q + 1) then x / 256 ^ (w - (q + 1)) % 256 else finq u n t T r x w (q + 1) j) = finq u n t T r x w q j := by
  have := finL_ge t w
  unfold finq
  by_cases h : j = finL t w - 1 - w + (q + 1)
  · rw [if_pos h, if_neg (by omega), if_neg (by omega), if_neg (by omega), if_neg (by omega), if_pos (by omega), show finL t w - 1 - j = w - (q + 1) by omega]
  · rw [if_neg h]
    by_cases h1 : finL t w - 1 - w + q < j
    · rw [if_pos h1, if_pos (show finL t w - 1 - w + (q + 1) < j by omega)]
    · rw [if_neg h1, if_neg (show ¬ finL t w - 1 - w + (q + 1) < j by omega)]

set_option maxHeartbeats 1600000 in
theorem input_any (c g n : Nat) (key : Nat → Nat) (t : Nat) (T : Nat → Nat) (N r x k : Nat) (w : World) (hC : Cip w c g n key t T) (ht : t ≤ 16) (hN : 6 ≤ N) (hN2 : N ≤ 32) (hr : r ≤ 9) (hx : x ≤ 9223372036854775807) (hk : k ≤ 8) :
    Calls Tryd.prog 39 #[.pointer (some ⟨c, 0, none⟩), .int .i64 (N : Nat), .int .i64 (r : Nat), .int .i64 (x : Nat), .int .i64 (k : Nat)] w fun e w' => ∃ st, e = .returned (.slice (some ⟨st, 0, none⟩) (finL t k) (finL t k)) ∧ w.heap.size ≤ st ∧ RowB w' st (finL t k) (finp (N / 2) N t T r x k) ∧ Below w.heap.size w w' := by
  have HS := Lib.hid (sizes_any N 0 w (by omega) (by omega))
  obtain ⟨A, cap, h1, h2, h3, h4, _⟩ := hC.tw
  have hu : fd N 0 = N / 2 := rfl
  rw [hu] at HS
  obtain ⟨u, hu⟩ : ∃ u, N / 2 = u := ⟨_, rfl⟩
  obtain ⟨v, hv⟩ : ∃ v, fd N (0 + 1) = v := ⟨_, rfl⟩
  rw [hu, hv] at HS
  rw [hu]
  have hu16 : (u : Int) ≤ 16 := by omega
  have hN32 : (N : Int) ≤ 32 := by omega
  have ht16 : (t : Int) ≤ 16 := by omega
  have hk8 : (k : Int) ≤ 8 := by omega
  have hr9 : (r : Int) ≤ 9 := by omega
  have hcl := hC.lt
  obtain ⟨L, hL⟩ : ∃ L, finL t k = L := ⟨_, rfl⟩
  have hge := finL_ge t k
  have hle := finL_le ht hk
  rw [hL] at hge hle ⊢
  have hmk : ∀ W : World, (Instr.makeSlice 22 (.int .i64 (16 + ((t : Int) + 1 + (k : Int) + 16 - 1) / 16 * 16)) (.int .i64 (16 + ((t : Int) + 1 + (k : Int) + 16 - 1) / 16 * 16))).run Tryd.prog W = .ok (.slice (some ⟨W.heap.size, 0, none⟩) L L) (W.alloc (.cells (madeCells #[.int .u8 0] L) 5)) := fun W => by
    rw [show (16 + ((t : Int) + 1 + (k : Int) + 16 - 1) / 16 * 16) = ((L : Nat) : Int) by rw [← hL]; unfold finL; omega]
    exact mk8 L (by omega) W
  have hsa : ∀ W : World, (Instr.sliceAt 103 (.pointer (some ⟨w.heap.size, 0, none⟩)) none none none).run Tryd.prog W = .ok (.slice (some ⟨w.heap.size, 0, none⟩) 16 16) W := all_arr 103 16 w.heap.size 0 Tryd.underlying103 (by decide)
  have HM16 := Lib.hid (show 16 = Nat.min 16 L from (Nat.min_eq_left (by omega)).symm)
  have hf16 : 0 + 16 ≤ L := by omega
  have HMT := Lib.hid (show t = Nat.min t (L - 16) from (Nat.min_eq_left (by omega)).symm)
  have hft : 16 + t ≤ L := by omega
  have HH1 := lit_slB w 103 (0, 0) [1, 2, 1, 0, 0, 10, 10, u, 0, 0, 0, N, 0, 0, 0, t] fun j => by
    by_cases hj : j < 16
    · exact fhd_lt (u := u) (n := N) (t := t) (by omega) (by omega) (by omega) hj
    · rw [List.getD_eq_getElem?_getD, List.getElem?_eq_none (by simp; omega)]; decide
  have e1 : (w.alloc (.cells (List.map (fun x => Value.int .u8 ((x : Nat) : Int)) [1, 2, 1, 0, 0, 10, 10, u, 0, 0, 0, N, 0, 0, 0, t]).toArray 103 (0, 0))).heap.size = w.heap.size + 1 := by simp
  have b1 := (Below.refl w.heap.size w).alloc (Nat.le_refl _) (.cells (List.map (fun x => Value.int .u8 ((x : Nat) : Int)) [1, 2, 1, 0, 0, 10, 10, u, 0, 0, 0, N, 0, 0, 0, t]).toArray 103 (0, 0))
  have r2 := rowB_made (w.alloc (.cells (List.map (fun x => Value.int .u8 ((x : Nat) : Int)) [1, 2, 1, 0, 0, 10, 10, u, 0, 0, 0, N, 0, 0, 0, t]).toArray 103 (0, 0))) L
  rw [e1] at r2
  have HR2 := Lib.hid r2
  have HH2 := Lib.hid (HH1.keep ((Below.refl _ _).alloc (Nat.le_refl _) (.cells (madeCells #[.int .u8 0] L) 5)))
  have HB2 := Lib.hid (b1.alloc (by omega) (.cells (madeCells #[.int .u8 0] L) 5))
  have hLi : (16 : Int) ≤ (L : Nat) := by omega
  have hLn : L ≠ 16 := by omega
  obtain ⟨d, hd⟩ : ∃ d, L - 1 - k = d := ⟨_, rfl⟩
  have hdi : (L : Int) - 1 - (k : Int) = (d : Nat) := by omega
  have hdl : d ≤ L := by omega
  have hdn : L ≠ d := by omega
  have hdL : d < L := by omega
  have hdk : L - d = k + 1 := by omega
  have HD := Lib.hid hd
  clear hd
  have HL := Lib.hid hL
  clear hL HH1 e1 b1 r2
  go_enter Tryd.func39, Tryd.ntmps39
  go_wp2_with (first | (go_at_call 22; refine HS.out.mono ?_; rintro e w1 ⟨rfl, rfl⟩) | ((refine wpList_copyB rfl (.tmp 49) (.tmp 50) rfl _ _ _ _ _ _ rfl rfl (w.heap.size + 1) 0 L (fun _ => 0) HR2.out (fhd u N t) HH2.out 16 HM16.out (fun _ => rfl) hf16 w.heap.size w HB2.out (Nat.le_succ _) ?_); intro w3 hr3 hb3; have HR3 := Lib.hid hr3; have HB3 := Lib.hid hb3; have HT3 := Lib.hid (h2.keep hb3); have q3 := (hb3.cell (p := ⟨c, 1, none⟩) hcl).trans h1; clear hr3 hb3))
  go_region_law ((refine step_copyB rfl (.tmp 53) (.tmp 57) rfl _ _ _ _ _ _ rfl rfl (w.heap.size + 1) 16 L _ (HR3.out.drew) T (HT3.out.drewN 1) t HMT.out (fun _ => rfl) hft w.heap.size w HB3.out.drew (Nat.le_succ _) ?_); intro w4 hr4 hb4; have HR4 := Lib.hid hr4; have HB4 := Lib.hid hb4; obtain ⟨z4, c4⟩ : ∃ z : Nat, w4.cell? ⟨w.heap.size + 1, d, none⟩ = some (.int .u8 (z : Nat)) := ⟨_, hr4.cell hdL⟩; have f4 := hr4.frozen d; clear hr4 hb4)
  all_goals
    go_wp2_with fail
    have HR5 := Lib.hid ((HR4.out.set d r (.int .u8 (r : Nat)) rfl).congr (f := finq u N t T r x k k) fun j hj => by have h := finq_start (u := u) (n := N) (t := t) (T := T) (r := r) (x := x) (w := k) (j := j) (by rw [HL.out]; exact hj); rw [HL.out, show L - 1 - k = d from HD.out] at h; exact h)
    have HB5 := Lib.hid (HB4.out.setCell (p := ⟨w.heap.size + 1, d, none⟩) (Nat.le_succ _) (.int .u8 (r : Nat)))
    generalize w4.setCell ⟨w.heap.size + 1, d, none⟩ (.int .u8 (r : Nat)) = w5 at *
    clear HR4 HB4 HR3 HB3 HT3 HR2 HH2 HB2 q3 c4 f4
    go_loopw [3, 17] (fun v i wr => ∃ q : Nat, q ≤ k ∧ i = .int .i64 (q : Nat) ∧ v = .int .i64 ((x / 256 ^ (k - q) : Nat) : Int) ∧ RowB wr (w.heap.size + 1) L (finq u N t T r x k q) ∧ Below w.heap.size w wr) (fun _ i _ => (intOf i).toNat)
    case atStart => exact ⟨k, Nat.le_refl _, rfl, by rw [Nat.sub_self, Nat.pow_zero, Nat.div_one], HR5.out, HB5.out⟩
    case round =>
      obtain ⟨q, hq, rfl, rfl, hr6, hb6⟩ := hrel
      have HR6 := Lib.hid hr6
      have HB6 := Lib.hid hb6
      cases q with
      | zero =>
        go_wp2_with fail
        go_ret
        exact ⟨w.heap.size + 1, rfl, Nat.le_succ _, HR6.out.congr fun j _ => finq_end u N t T r x k j, HB6.out⟩
      | succ q =>
        have HST := Lib.hid fun j => finq_step (u := u) (n := N) (t := t) (T := T) (r := r) (x := x) (w := k) (q := q) (j := j) hq
        rw [HL.out, show L - 1 - k = d from HD.out] at HST
        obtain ⟨Q, hQ⟩ : ∃ Q, q + 1 = Q := ⟨_, rfl⟩
        rw [hQ] at HR6 HST ⊢
        have hQi : (Q : Int) ≤ 8 := by omega
        have hQ0 : (0 : Int) < (Q : Nat) := by omega
        have hQk : (Q : Int) < (k : Nat) + 1 := by omega
        obtain ⟨y, hy⟩ : ∃ y, x / 256 ^ (k - Q) = y := ⟨_, rfl⟩
        have hy2 : x / 256 ^ (k - q) = y / 256 := by rw [← hy, Nat.div_div_eq_div_mul, ← Nat.pow_succ, show k - q = k - Q + 1 by omega]
        have hyx : (y : Int) ≤ 9223372036854775807 := by have := Nat.div_le_self x (256 ^ (k - Q)); omega
        rw [hy] at HST ⊢
        have HY2 := Lib.hid hy2
        have HQ := Lib.hid hQ
        obtain ⟨z6, c6⟩ : ∃ z : Nat, wr.cell? ⟨w.heap.size + 1, d + Q, none⟩ = some (.int .u8 (z : Nat)) := ⟨_, hr6.cell (by omega)⟩
        have f6 := hr6.frozen (d + Q)
        have HKK := Lib.hid (show q ≤ k by omega)
        clear hr6 hb6 hy hy2 hQ hq
        go_wp2_with fail
        go_roundw
        case rel => exact ⟨q, HKK.out, by have := HQ.out; go_num, by rw [HY2.out]; go_num, (HR6.out.set (d + Q) (y % 256) _ (by go_num)).congr fun j _ => HST.out j, HB6.out.setCell (p := ⟨w.heap.size + 1, d + Q, none⟩) (Nat.le_succ _) _⟩
        case measure => simp [intOf]; omega
end Go.Proofs.YtniaelaolmjkaaaDoor
/- Contracts of package ffx: the library's chunks of a slice, of 16 bytes each. -/
namespace Go.Proofs.YtniaelaolmjkaaaDoor
set_option maxRecDepth 100000
open Go.RowKit Go.Shelf

attribute [local go_sem] Oper.semAt_some

/-- the two cells that the iterator has captured lie as they lay -/
def KpC (Bs Bn : Nat) (W W' : World) : Prop := W'.heap[Bs]? = W.heap[Bs]? ∧ W'.heap[Bn]? = W.heap[Bn]?
theorem KpC.trans {Bs Bn : Nat} {A B C : World} (h : KpC Bs Bn A B) (h' : KpC Bs Bn B C) : KpC Bs Bn A C := ⟨h'.1.trans h.1, h'.2.trans h.2⟩
/-- block k of a row -/
abbrev encC (B o k : Nat) : Array Value := #[.slice (some ⟨B, o + 16 * k, none⟩) 16 16]

set_option maxHeartbeats 2000000 in
theorem chunk1_in (n : Nat) (hn : 1 ≤ n) (l Bs Bn B o m cap : Nat) (hm : m ≤ 100000) (hc : 16 * m ≤ cap) (hcap : cap ≤ 140737488351232) (J Jx : List Nat → World → Prop) (W : World) (hJ : AbidesFrom W.heap.size J)
    (hY : ∀ pre x W1, J pre W1 → pre.length < m → x < m → YieldAt Fence.wide (n - 1) Tryd.prog l (encC B o x) W1 fun e W' =>
      (e = .returned (.bool true) ∧ J (pre ++ [x]) W' ∧ KpC Bs Bn W1 W') ∨ (e = .returned (.bool false) ∧ Jx (pre ++ [x]) W'))
    (h1 : W.cell? ⟨Bs, 0, none⟩ = some (.slice (some ⟨B, o, none⟩) (16 * m) cap)) (h2 : W.cell? ⟨Bn, 0, none⟩ = some (.int .i64 16)) (h0 : J [] W) :
    CallsIn Fence.wide n Tryd.prog 59 #[.func (.yield l) #[] #[], .pointer (some ⟨Bs, 0, none⟩), .pointer (some ⟨Bn, 0, none⟩)] W fun e W' => (∃ v, e = .returned v) ∧
      ((∃ ys, ys = List.range m ∧ J ys W') ∨ (∃ pre, (∃ k, k ≤ m ∧ pre = List.range k) ∧ Jx pre W')) := by
  have hf : Fence.wide.fn 59 := trivial
  have hro : Fence.wide.round = none := rfl
  refine callsIn_of_wp Tryd.func59 rfl hf ?_ hro
  simp only [Tryd.ntmps59, List.size_toArray, List.length_cons, List.length_nil, Nat.reduceAdd, Nat.reduceSub, Array.replicate_succ, Array.replicate_zero, List.push_toArray, List.append_toArray, List.nil_append, List.cons_append]
  gi_wp2
  gi_loopw [4] (fun i wr => ∃ k : Nat, k ≤ m ∧ i = .int .i64 ((16 * k : Nat) : Int) ∧ J (List.range k) wr ∧ KpC Bs Bn W wr)
    (fun i _ => 16 * m - (intOf i).toNat)
  case atStart => exact ⟨0, Nat.zero_le _, rfl, h0, rfl, rfl⟩
  case round =>
    obtain ⟨k, hk, rfl, hJs, hnx⟩ := hrel
    have c1 := (World.cell?_of_block (a := ⟨Bs, 0, none⟩) hnx.1).trans h1
    have c2 := (World.cell?_of_block (a := ⟨Bn, 0, none⟩) hnx.2).trans h2
    by_cases hlt : k < m
    · have hJd : J (List.range k) wr.drew := hJ _ wr wr.drew none hJs ⟨rfl, rfl, rfl, Nat.le_refl _, fun _ _ _ => rfl⟩ (fun r e => by cases e)
      obtain ⟨fn, tmps, assign, body, hy, hR⟩ := hY _ k wr.drew hJd (by rw [List.length_range]; exact hlt) hlt
      unfold encC at hy
      have d1 : wr.drew.cell? ⟨Bs, 0, none⟩ = _ := c1
      have d2 : wr.drew.cell? ⟨Bn, 0, none⟩ = _ := c2
      obtain ⟨q, hq⟩ : ∃ q, 16 * k = q := ⟨_, rfl⟩
      obtain ⟨M, hM⟩ : ∃ M, 16 * m = M := ⟨_, rfl⟩
      rw [hq] at hy ⊢
      rw [hM] at c1 d1 hc ⊢
      have hqM : q + 16 ≤ M := by omega
      have HQ := Lib.hid hq
      have HM := Lib.hid hM
      clear hq hM
      gi_wp2
      gi_region
      all_goals gi_wp2
      all_goals
        refine hR.mono ?_
        rintro e W3 (⟨rfl, hJ3, hk3⟩ | ⟨rfl, hJx3⟩)
        · have c3 : W3.cell? ⟨Bn, 0, none⟩ = _ := (World.cell?_of_block (a := ⟨Bn, 0, none⟩) hk3.2).trans d2
          gi_wp2
          go_roundw
          case rel => exact ⟨k + 1, by omega, by have := HQ.out; go_num, by rw [List.range_succ]; exact hJ3, hnx.1.symm ▸ hk3.1, hnx.2.symm ▸ hk3.2⟩
          case measure => have := HQ.out; have := HM.out; simp [intOf]; omega
        · gi_wp2
          refine bodyPost_ret (results_none rfl _ _ _) rfl ?_
          exact ⟨⟨_, rfl⟩, .inr ⟨_, ⟨k + 1, by omega, (List.range_succ).symm⟩, hJx3⟩⟩
    · obtain rfl : k = m := by omega
      gi_wp2
      go_end0
      exact ⟨⟨_, rfl⟩, .inl ⟨_, rfl, hJs⟩⟩

theorem chunk_stops (n : Nat) (hn : 1 ≤ n) (Bs Bn B o m cap : Nat) (hm : m ≤ 100000) (hc : 16 * m ≤ cap) (hcap : cap ≤ 140737488351232) (w : World)
    (h1 : w.cell? ⟨Bs, 0, none⟩ = some (.slice (some ⟨B, o, none⟩) (16 * m) cap)) (h2 : w.cell? ⟨Bn, 0, none⟩ = some (.int .i64 16)) :
    SeqStopsK Fence.wide n Tryd.prog 59 #[.pointer (some ⟨Bs, 0, none⟩), .pointer (some ⟨Bn, 0, none⟩)] (fun x : Fin m => encC B o x.1) (KpC Bs Bn) (fun ys => ys.map (·.1) = List.range m) (fun pre => ∃ k, k ≤ m ∧ pre.map (·.1) = List.range k) m w := fun l J Jx W hW hJ _ hY h0 => by
  refine (chunk1_in n hn l Bs Bn B o m cap hm hc hcap (fun ys V => ∃ zs : List (Fin m), zs.map (·.1) = ys ∧ J zs V) (fun ys V => ∃ zs : List (Fin m), zs.map (·.1) = ys ∧ Jx zs V) W ?_ ?_
    ((hW.cell (p := ⟨Bs, 0, none⟩) (block_lt h1)).trans h1) ((hW.cell (p := ⟨Bn, 0, none⟩) (block_lt h2)).trans h2) ⟨[], rfl, h0⟩).mono ?_
  · rintro s V V' row ⟨zs, rfl, hz⟩ hg hr
    exact ⟨zs, rfl, hJ zs V V' row hz hg hr⟩
  · rintro pre x W1 ⟨zs, rfl, hz⟩ hlen hx
    obtain ⟨fn, tmps, assign, body, hy, hR⟩ := hY zs ⟨x, hx⟩ W1 hz (by simpa using hlen)
    refine ⟨fn, tmps, assign, body, hy, hR.mono ?_⟩
    rintro e W' (⟨rfl, h3, h4⟩ | ⟨rfl, h3⟩)
    · exact Or.inl ⟨rfl, ⟨zs ++ [⟨x, hx⟩], by simp, h3⟩, h4⟩
    · exact Or.inr ⟨rfl, ⟨zs ++ [⟨x, hx⟩], by simp, h3⟩⟩
  · rintro e W' ⟨he, ⟨ys, rfl, zs, h3, h4⟩ | ⟨pre, ⟨k, hk, rfl⟩, zs, h3, h4⟩⟩
    · exact ⟨he, Or.inl ⟨zs, h3, h4⟩⟩
    · exact ⟨he, Or.inr ⟨zs, ⟨k, hk, h3⟩, h4⟩⟩

theorem chunk_any (A : Option Addr) (len cap : Nat) (w : World) :
    Calls Tryd.prog 51 #[.slice A len cap, .int .i64 16] w fun e w' => e = .returned (.func (.func 59) #[] #[.pointer (some ⟨w.heap.size, 0, none⟩), .pointer (some ⟨w.heap.size + 1, 0, none⟩)]) ∧
      w'.cell? ⟨w.heap.size, 0, none⟩ = some (.slice A len cap) ∧ w'.cell? ⟨w.heap.size + 1, 0, none⟩ = some (.int .i64 16) ∧ w'.heap.size = w.heap.size + 2 ∧ Below w.heap.size w w' := by
  have hmf : ∀ (fn : Fn) (first cap : Array Value) (w : World), (Instr.makeFunc fn first cap).run Tryd.prog w = .ok (.func fn first cap) w := fun _ _ _ _ => rfl
  go_enter Tryd.func51, Tryd.ntmps51
  go_wp2_with fail
  go_ret
  have e1 : (w.alloc (.cells #[.slice A len cap] 22)).heap.size = w.heap.size + 1 := by simp
  have hb := (Below.refl w.heap.size w).alloc (Nat.le_refl _) (.cells #[.slice A len cap] 22)
  have c1 : (w.alloc (.cells #[.slice A len cap] 22)).cell? ⟨w.heap.size, 0, none⟩ = some (.slice A len cap) := (World.cell?_alloc_at _ _ _ _ rfl).trans rfl
  generalize w.alloc (.cells #[.slice A len cap] 22) = w1 at *
  refine ⟨rfl, ?_, ?_, by simp [e1], hb.alloc (by omega) _⟩
  · exact ((Below.refl w1.heap.size w1).alloc (Nat.le_refl _) (.cells #[.int .i64 16] 3)).cell (p := ⟨w.heap.size, 0, none⟩) (by show w.heap.size < _; omega) |>.trans c1
  · exact (World.cell?_alloc_at _ _ _ _ e1.symm).trans rfl
end Go.Proofs.YtniaelaolmjkaaaDoor
/- Contracts of package ffx: a chain of blocks. -/
namespace Go.Proofs.YtniaelaolmjkaaaDoor
set_option maxRecDepth 100000
open Go.RowKit Go.Shelf

attribute [local go_sem] Oper.semAt_some

/-- what is behind the blocks of a list -/
def xchL (E : (Nat → Nat) → Nat → Nat) (p : Nat → Nat) (l : List Nat) : Nat → Nat := l.foldl (fun s x => E fun j => s j ^^^ p (16 * x + j)) fun _ => 0
theorem xchL_snoc (E : (Nat → Nat) → Nat → Nat) (p : Nat → Nat) (l : List Nat) (x : Nat) : xchL E p (l ++ [x]) = E fun j => xchL E p l j ^^^ p (16 * x + j) := by
  unfold xchL; rw [List.foldl_append]; rfl
theorem xchL_range (E : (Nat → Nat) → Nat → Nat) (p : Nat → Nat) : ∀ m, xchL E p (List.range m) = xch E p m
  | 0 => rfl
  | m + 1 => by rw [List.range_succ, xchL_snoc, xchL_range E p m]; rfl

theorem cells_block {w w' : World} {row : Option Nat} {b o L : Nat} {v : Value} (h : w.cell? ⟨b, o, none⟩ = some v) (hg : w.grownBy w' row) (hr : ∀ r, row = some r → L ≤ r ∧ ∃ ob : Obj, w.heap[r]? = some ob ∧ ob.isCells = false) : w'.heap[b]? = w.heap[b]? :=
  hg.block b (block_lt h) fun e => by
    obtain ⟨_, ob, h1, h2⟩ := hr b e.symm
    unfold World.cell? at h
    simp only [h1] at h
    cases ob <;> simp_all [Obj.isCells]

theorem cells_only {w : World} {b o : Nat} {v : Value} {ob : Obj} (h : w.cell? ⟨b, o, none⟩ = some v) (h1 : w.heap[b]? = some ob) (h2 : ob.isCells = false) : False := by
  unfold World.cell? at h
  simp only [h1] at h
  cases ob <;> simp_all [Obj.isCells]

/-- between two rounds of a chain: its blocks -/
structure ChI (w : World) (g n : Nat) (key p : Nat → Nat) (B o m : Nat) (S : Nat → Nat) (st : Nat) (W : World) : Prop where
  box : W.cell? ⟨w.heap.size + 2, 0, none⟩ = some (.slice (some ⟨st, 0, none⟩) 16 16)
  fz : W.frozen? ⟨w.heap.size + 2, 0, none⟩ = false
  row : Arr W st 0 16 S
  stn : st = w.heap.size + 1 ∨ w.heap.size + 5 ≤ st
  inp : SlB W (some ⟨B, o, none⟩) (16 * m) p
  key : KeyAt W g n key
  self : W.cell? ⟨w.heap.size, 0, none⟩ = some (.pointer (some ⟨g, 0, none⟩))
  chg : Chg g w W
  sz : w.heap.size + 5 ≤ W.heap.size
  byt : By 16 S
theorem ChI.grown {w W W' : World} {g n : Nat} {key p : Nat → Nat} {B o m : Nat} {S : Nat → Nat} {st : Nat} {row : Option Nat} (h : ChI w g n key p B o m S st W) (hm : 0 < m) (hg : W.grownBy W' row) (hr : ∀ r, row = some r → w.heap.size + 5 ≤ r ∧ ∃ ob : Obj, W.heap[r]? = some ob ∧ ob.isCells = false) :
    ChI w g n key p B o m S st W' := by
  obtain ⟨B', o', e', hB, hj⟩ := h.inp (by omega)
  cases e'
  have eB := cells_block (hj 0 (by omega)).2 hg hr
  refine ⟨(World.cell?_of_block (a := ⟨_, 0, none⟩) (cells_block h.box hg hr)).trans h.box, (World.frozen?_of_block (a := ⟨_, 0, none⟩) (cells_block h.box hg hr)).trans h.fz, h.row.of_block (cells_block (h.row 0 (by decide)).1 hg hr), h.stn,
    fun _ => ⟨B, o, rfl, Nat.lt_of_lt_of_le hB hg.size, fun j hj' => ⟨(hj j hj').1, (World.cell?_of_block (a := ⟨B, o + j, none⟩) eB).trans (hj j hj').2⟩⟩,
    h.key.of_block (cells_block h.key.words hg hr), (World.cell?_of_block (a := ⟨_, 0, none⟩) (cells_block h.self hg hr)).trans h.self,
    ⟨hg.os.trans h.chg.os, hg.tape.trans h.chg.tape, hg.output.trans h.chg.output, Nat.le_trans h.chg.size hg.size, fun k hk hn => (hg.block k (Nat.lt_of_lt_of_le hk h.chg.size) (fun e => by have := (hr k e.symm).1; omega)).trans (h.chg.block k hk hn)⟩, Nat.le_trans h.sz hg.size, h.byt⟩

theorem chi_start {w w4 : World} {g n : Nat} {key p : Nat → Nat} {B o m : Nat} (hk : KeyAt w g n key) (hA : SlB w (some ⟨B, o, none⟩) (16 * m) p)
    (hb : Below (w.heap.size + 3) (((w.alloc (.cells #[.pointer (some ⟨g, 0, none⟩)] 47)).alloc (.cells (madeCells #[.int .u8 0] 16) 5)).alloc (.cells #[.slice (some ⟨w.heap.size + 1, 0, none⟩) 16 16] 22)) w4)
    (hs : w4.heap.size = w.heap.size + 5) : ChI w g n key p B o m (fun _ => 0) (w.heap.size + 1) w4 := by
  have b1 := (Below.refl w.heap.size w).alloc (Nat.le_refl _) (.cells #[.pointer (some ⟨g, 0, none⟩)] 47)
  have e1 : (w.alloc (.cells #[.pointer (some ⟨g, 0, none⟩)] 47)).heap.size = w.heap.size + 1 := by simp
  have c1 : (w.alloc (.cells #[.pointer (some ⟨g, 0, none⟩)] 47)).cell? ⟨w.heap.size, 0, none⟩ = some (.pointer (some ⟨g, 0, none⟩)) := (World.cell?_alloc_at _ _ _ _ rfl).trans rfl
  generalize w.alloc (.cells #[.pointer (some ⟨g, 0, none⟩)] 47) = w1 at *
  have b2 := (Below.refl w1.heap.size w1).alloc (Nat.le_refl _) (.cells (madeCells #[.int .u8 0] 16) 5)
  have e2 : (w1.alloc (.cells (madeCells #[.int .u8 0] 16) 5)).heap.size = w.heap.size + 2 := by simp [e1]
  have r2 := rowB_made w1 16
  generalize w1.alloc (.cells (madeCells #[.int .u8 0] 16) 5) = w2 at *
  have b3 := (Below.refl w2.heap.size w2).alloc (Nat.le_refl _) (.cells #[.slice (some ⟨w.heap.size + 1, 0, none⟩) 16 16] 22)
  have c3 : (w2.alloc (.cells #[.slice (some ⟨w.heap.size + 1, 0, none⟩) 16 16] 22)).cell? ⟨w.heap.size + 2, 0, none⟩ = some (.slice (some ⟨w.heap.size + 1, 0, none⟩) 16 16) := (World.cell?_alloc_at _ _ _ _ e2.symm).trans rfl
  have f3 : (w2.alloc (.cells #[.slice (some ⟨w.heap.size + 1, 0, none⟩) 16 16] 22)).frozen? ⟨w.heap.size + 2, 0, none⟩ = false := by rw [← e2]; exact World.frozen?_alloc_at _ _ _ _ rfl
  generalize w2.alloc (.cells #[.slice (some ⟨w.heap.size + 1, 0, none⟩) 16 16] 22) = w3 at *
  rw [e1] at b2 r2
  rw [e2] at b3
  have bb : Below w.heap.size w w4 := ((b1.trans (b2.mono (by omega))).trans (b3.mono (by omega))).trans (hb.mono (by omega))
  have n1 : w.heap.size + 1 < w2.heap.size := by omega
  refine ⟨(hb.cell (p := ⟨w.heap.size + 2, 0, none⟩) (by show w.heap.size + 2 < _; omega)).trans c3, (World.frozen?_of_block (hb.block _ (by show w.heap.size + 2 < _; omega))).trans f3, ?_, Or.inl rfl, hA.keep bb, hk.keep bb, ?_, Chg.of_below bb, by omega, fun _ _ => by show 0 < 256; decide⟩
  · exact Arr.of_block (Arr.of_block (fun j hj => by rw [Nat.zero_add]; exact ⟨r2.cell hj, r2.frozen j⟩) (b3.block _ (by omega))) (hb.block _ (by omega))
  · exact (hb.cell (p := ⟨w.heap.size, 0, none⟩) (by show w.heap.size < _; omega)).trans ((b3.cell (p := ⟨w.heap.size, 0, none⟩) (by show w.heap.size < _; omega)).trans ((b2.cell (p := ⟨w.heap.size, 0, none⟩) (by show w.heap.size < _; omega)).trans c1))

/-- a block half added -/
def xpt (S p : Nat → Nat) (x k j : Nat) : Nat := if j < k then S j ^^^ p (16 * x + j) else S j

set_option maxHeartbeats 4000000 in
theorem chain_any (g n : Nat) (key p : Nat → Nat) (B o m cap : Nat) (w : World) (hn : n = 4 ∨ n = 8) (hkey : By (4 * n) key) (hk : KeyAt w g n key) (hm0 : 0 < m) (hm : m ≤ 100000) (hc : 16 * m ≤ cap) (hcap : cap ≤ 140737488351232)
    (hA : SlB w (some ⟨B, o, none⟩) (16 * m) p) (hBg : B ≠ g) :
    Calls Tryd.prog 38 #[.agg #[.pointer (some ⟨g, 0, none⟩)], .slice (some ⟨B, o, none⟩) (16 * m) cap] w fun e w' => ∃ st, e = .returned (.slice (some ⟨st, 0, none⟩) 16 16) ∧ w.heap.size ≤ st ∧ Arr w' st 0 16 (xch (enc n (ks n key)) p m) ∧ KeyAt w' g n key ∧ Chg g w w' := by
  refine (callsIn_wide (n := 6)).1 ?_
  have hf : Fence.wide.fn 38 := trivial
  have hro : Fence.wide.round = none := rfl
  have hmk : ∀ W : World, (Instr.makeSlice 22 (.int .i64 16) (.int .i64 16)).run Tryd.prog W = .ok (.slice (some ⟨W.heap.size, 0, none⟩) 16 16) (W.alloc (.cells (madeCells #[.int .u8 0] 16) 5)) := mk8 16 (by decide)
  refine callsIn_of_wp_marks Tryd.func38 rfl hf ?_ hro
  simp only [Tryd.ntmps38, List.size_toArray, List.length_cons, List.length_nil, Nat.reduceAdd, Nat.reduceSub, Array.replicate_succ, Array.replicate_zero, List.push_toArray, List.append_toArray, List.nil_append, List.cons_append]
  gi_wp2_with ((refine ⟨trivial, ?_⟩; gi_at_call 51; refine (callsIn_wide.2 (chunk_any _ _ _ _)).mono ?_; rintro e w4 ⟨rfl, h1, h2, h3, h4⟩))
  have hs3 : (((w.alloc (.cells #[.pointer (some ⟨g, 0, none⟩)] 47)).alloc (.cells (madeCells #[.int .u8 0] 16) 5)).alloc (.cells #[.slice (some ⟨w.heap.size + 1, 0, none⟩) 16 16] 22)).heap.size = w.heap.size + 3 := by simp
  rw [hs3] at h1 h2 h3 h4
  have HS := chi_start (p := p) (m := m) hk hA h4 h3
  refine wpIn_rangeFunc_ownG hro (by decide) (gf := 59) (lb := #[.pointer (some ⟨w.heap.size + 3, 0, none⟩), .pointer (some ⟨w.heap.size + 3 + 1, 0, none⟩)]) rfl trivial (enters_of Tryd.func59 (by kernel_rfl) rfl)
    (chunk_stops 5 (by decide) (w.heap.size + 3) (w.heap.size + 3 + 1) B o m cap hm hc hcap w4 h1 h2) (fun h k => h.trans k) (fun W l ob ob' hl _ _ _ => ⟨World.putObj_heap_other (by omega), World.putObj_heap_other (by omega)⟩) (Below.refl _ _) (fun _ => rfl)
    (fun pre W => ∃ st, ChI w g n key p B o m (xchL (enc n (ks n key)) p (pre.map (·.1))) st W) (fun _ _ _ => False)
    (fun s W W' row hs hg hr => by obtain ⟨st, h⟩ := hs; exact ⟨st, h.grown hm0 hg (fun r e => by have := hr r e; rw [h3] at this; exact this)⟩)
    (fun _ _ _ _ _ hs _ _ => hs)
    ⟨_, HS⟩
    (fun x => { tmps := #[.agg #[.pointer (some ⟨g, 0, none⟩)], .slice (some ⟨B, o, none⟩) (16 * m) cap, .pointer (some ⟨w.heap.size, 0, none⟩), undef, .slice none 0 0, .pointer (some ⟨w.heap.size + 2, 0, none⟩), .slice (some ⟨B, o + 16 * x.1, none⟩) 16 16, undef, undef, .slice (some ⟨w.heap.size + 1, 0, none⟩) 16 16, .slice (some ⟨B, o, none⟩) (16 * m) cap, .func (.func 59) #[] #[.pointer (some ⟨w.heap.size + 3, 0, none⟩), .pointer (some ⟨w.heap.size + 3 + 1, 0, none⟩)], .slice (some ⟨B, o + 16 * x.1, none⟩) 16 16, undef, undef, undef, undef, undef, undef, undef, undef, undef, undef, undef, undef, undef, undef, undef, undef, undef, undef, undef, undef, undef, undef, undef], defers := [] }) ?assign ?body ?done ?stop
  case assign =>
    intro l x W K hK
    gi_wp2
    exact hK
  case body =>
    rintro l pre x W ⟨st, hI⟩ _
    have HX := Lib.hid (show xchL (enc n (ks n key)) p ((pre ++ [x]).map (·.1)) = enc n (ks n key) fun j => xchL (enc n (ks n key)) p (pre.map (·.1)) j ^^^ p (16 * x.1 + j) from by
      rw [List.map_append, List.map_singleton, xchL_snoc])
    have hxm := x.2
    generalize xchL (enc n (ks n key)) p (pre.map (·.1)) = S at *
    generalize x.1 = xv at *
    obtain ⟨B', o', e', hB, hjs⟩ := hI.inp (by omega)
    cases e'
    obtain ⟨B', o', e', hBw, _⟩ := hA (by omega)
    cases e'
    have HI := Lib.hid hI
    have hBst : B ≠ st := by rcases HI.out.stn with h | h <;> omega
    have hgw := hk.lt
    gi_wp2
    gi_loopw [15] (fun i wr => ∃ k : Nat, k ≤ 16 ∧ i = .int .i64 k ∧ Arr wr st 0 16 (xpt S p xv k) ∧ Chg st W wr) (fun i _ => 16 - (intOf i).toNat)
    case atStart => exact ⟨0, Nat.zero_le _, rfl, hI.row, Chg.refl _ _⟩
    case round =>
      obtain ⟨k, hk16, rfl, hr, hcg⟩ := hrel
      have HC := Lib.hid hcg
      have HR := Lib.hid hr
      have hFs : w.heap.size + 2 ≠ st := by rcases HI.out.stn with h | h <;> omega
      have hbx : wr.cell? ⟨w.heap.size + 2, 0, none⟩ = _ := (hcg.cell (block_lt hI.box) hFs).trans hI.box
      by_cases hlt : k < 16
      · have hki : (k : Int) < 16 := by omega
        obtain ⟨y, hy⟩ : ∃ y, p (16 * xv + k) = y := ⟨_, rfl⟩
        obtain ⟨s, hs⟩ : ∃ s, S k = s := ⟨_, rfl⟩
        have hy8 : y < 256 := hy ▸ (hjs (16 * xv + k) (by omega)).1
        have hs8 : s < 256 := hs ▸ hI.byt k hlt
        have c1 : wr.cell? ⟨B, o + 16 * xv + k, none⟩ = some (.int .u8 (y : Nat)) := by
          rw [← hy, Nat.add_assoc]
          exact (hcg.cell hB hBst).trans (hjs (16 * xv + k) (by omega)).2
        have c2 : wr.cell? ⟨st, k, none⟩ = some (.int .u8 (s : Nat)) := by
          rw [hr.cell hlt (Nat.zero_add k).symm]; unfold xpt; rw [if_neg (Nat.lt_irrefl k), hs]
        have f2 := hr.frozen hlt (Nat.zero_add k).symm
        have b1 : bits BinOp.xor .u8 (s : Int) (y : Int) = ((s ^^^ y : Nat) : Int) := u8_xor_nat s y hs8 hy8
        have HN := Lib.hid ((hr.set hlt (Nat.zero_add k).symm (s ^^^ y) (v := .int .u8 ((s ^^^ y : Nat) : Int)) rfl).congr (f := xpt S p xv (k + 1)) fun j _ => by
          unfold xpt
          by_cases e : j = k
          · subst e; rw [if_pos rfl, if_pos (Nat.lt_succ_self _), hs, hy]
          · rw [if_neg e]
            by_cases h : j < k
            · rw [if_pos h, if_pos (by omega)]
            · rw [if_neg h, if_neg (by omega)])
        clear hy hs hr hcg
        gi_wp2
        go_roundw
        case rel => exact ⟨k + 1, by omega, by go_num, HN.out, HC.out.setCell (a := ⟨st, k, none⟩) (Or.inl rfl) _⟩
        case measure => simp [intOf]; omega
      · obtain rfl : k = 16 := by omega
        have hgst : g ≠ st := by rcases HI.out.stn with h | h <;> omega
        have hself : wr.cell? ⟨w.heap.size, 0, none⟩ = _ := (hcg.cell (g := w.heap.size) (block_lt hI.self) (by rcases HI.out.stn with h | h <;> omega)).trans hI.self
        have HBY := Lib.hid (show By 16 (fun j => S j ^^^ p (16 * xv + j)) from fun j hj => xor_lt8 (hI.byt j hj) (hjs (16 * xv + j) (by omega)).1)
        have HT := Lib.hid (hr.congr (f := fun j => S j ^^^ p (16 * xv + j)) fun j hj => by unfold xpt; rw [if_pos hj])
        have HKY := Lib.hid (hI.key.chg hcg hgst)
        clear hr
        gi_wp2_with ((refine ⟨trivial, ?_⟩; gi_at_call 52; refine (CallsIn.inRound l (callsIn_wide.2 (enc_any g n key _ (some ⟨st, 0, none⟩) 16 wr hn hkey HKY.out (HT.out.slB HBY.out) (fun B o e => by cases e; exact fun h => hgst h.symm)))).mono ?_; rintro e w5 ⟨st2, ⟨rfl, q1, q2, q3, q4⟩⟩; have hbx5 : w5.cell? ⟨w.heap.size + 2, 0, none⟩ = some (.slice (some ⟨st, 0, none⟩) 16 16) := (q4.cell (g := w.heap.size + 2) (block_lt hbx) (by omega)).trans hbx; have hfz5 : w5.frozen? ⟨w.heap.size + 2, 0, none⟩ = false := ((q4.frozen (g := w.heap.size + 2) (block_lt hbx) (by omega)).trans (hcg.frozen (block_lt hI.box) hFs)).trans hI.fz))
        have CS : ChgS (fun k => k = st ∨ k = g ∨ k = w.heap.size + 2) W (w5.setCell ⟨w.heap.size + 2, 0, none⟩ (.slice (some ⟨st2, 0, none⟩) 16 16)) := ((ChgS.of_chg hcg (Or.inl rfl)).trans (ChgS.of_chg q4 (Or.inr (Or.inl rfl)))).setCell (a := ⟨w.heap.size + 2, 0, none⟩) (Or.inr (Or.inr rfl)) _
        have hsz := hI.sz
        have hs5 : w.heap.size + 5 ≤ st2 := Nat.le_trans hsz (Nat.le_trans hcg.size q1)
        have CG : Chg g w (w5.setCell ⟨w.heap.size + 2, 0, none⟩ (.slice (some ⟨st2, 0, none⟩) 16 16)) := ((hI.chg.thenNew hcg (by rcases hI.stn with h | h <;> omega)).trans q4).setCell (a := ⟨w.heap.size + 2, 0, none⟩) (Or.inr (by show _ ≤ w.heap.size + 2; omega)) _
        refine ⟨⟨CS.size, fun k ob _ hk2 ho => (CS.block k (Array.getElem?_eq_some_iff.1 hk2).1 ?_).trans hk2⟩, ⟨CS.block _ (by omega) ?_, CS.block _ (by omega) ?_⟩, st2, ?_⟩
        · rintro (rfl | rfl | rfl)
          · exact cells_only (hI.row 0 (by decide)).1 hk2 ho
          · exact cells_only hI.key.words hk2 ho
          · exact cells_only hI.box hk2 ho
        · rintro (h | h | h)
          · rcases hI.stn with h' | h' <;> omega
          · omega
          · omega
        · rintro (h | h | h)
          · rcases hI.stn with h' | h' <;> omega
          · omega
          · omega
        · rw [HX.out]
          have hn2 : w.heap.size + 2 ≠ st2 := by omega
          refine ⟨World.cell?_setCell_same _ _ _ hbx5, by rw [World.frozen?_setCell]; exact hfz5, q2.setOther (a := ⟨w.heap.size + 2, 0, none⟩) (fun h => hn2 h.symm) _, Or.inr hs5, ?_, ?_, ?_, CG, by rw [size_setCell]; exact Nat.le_trans hsz (Nat.le_trans hcg.size q4.size), enc_by (fun j _ => ks_by (by omega) hkey j) HBY.out⟩
          · exact fun _ => ⟨B, o, rfl, Nat.lt_of_lt_of_le hB CS.size, fun j hj => ⟨(hjs j hj).1, (CS.cell (g := B) hB (by rintro (h | h | h) <;> omega)).trans (hjs j hj).2⟩⟩
          · exact KeyAt.of_block (Or.inr q3) (Below.heap_setCell w5 ⟨w.heap.size + 2, 0, none⟩ _ g (by show g ≠ w.heap.size + 2; omega))
          · exact (CS.cell (g := w.heap.size) (block_lt hI.self) (by rintro (h | h | h) <;> first | omega | (rcases hI.stn with h' | h' <;> omega))).trans hI.self
  case done =>
    rintro D ys W hD hys ⟨st, hI⟩ hK
    rw [hys, xchL_range] at hI
    have hbx := hI.box
    gi_wp2
    refine ⟨by simp, .inl ⟨_, _, rfl, run_takeDeferred hK, ?_⟩⟩
    have hI2 := hI.grown hm0 (grownBy_putObj' W D (.deferred none)) (fun r e => by cases e; exact ⟨by rw [h3] at hD; exact hD, _, hK, rfl⟩)
    exact ⟨_, results_tmp rfl _ _ _, st, rfl, by rcases hI2.stn with h | h <;> omega, hI2.row, hI2.key, hI2.chg⟩
  case stop =>
    rintro D c pre W _ _ h _
    exact h.elim
end Go.Proofs.YtniaelaolmjkaaaDoor
/- Contracts of package radix: modulus, Value, Digits. -/
namespace Go.Proofs.YtniaelaolmjkaaaDoor
open Go.RowKit

def mdE (m : Int) (f : Nat → Int) (n : Nat) : Int := if pw m ≠ 0 ∧ okN (pw m) f n = true then 0 else 1
def mdV (m : Int) (f : Nat → Int) (n : Nat) : Int := if mdE m f n = 0 then (pw m : Nat) else 0
theorem md_bad {m : Int} {f : Nat → Int} {n : Nat} (h : pw m = 0 ∨ okN (pw m) f n = false) : mdE m f n = 1 ∧ mdV m f n = 0 := by
  have e : mdE m f n = 1 := if_neg (by rintro ⟨h1, h2⟩; rcases h with h | h; exact h1 h; rw [h] at h2; cases h2)
  exact ⟨e, by unfold mdV; rw [e]; rfl⟩
theorem md_ok {m : Int} {f : Nat → Int} {n : Nat} (h : pw m ≠ 0) (h' : okN (pw m) f n = true) : mdE m f n = 0 ∧ mdV m f n = (pw m : Nat) := by
  have e : mdE m f n = 0 := if_pos ⟨h, h'⟩
  exact ⟨e, by unfold mdV; rw [e]; rfl⟩

set_option maxHeartbeats 400000 in
theorem modulus_any (m : Int) (A : Option Addr) (n c : Nat) (f : Nat → Int) (w : World) (hn : n ≤ 1000) (hp : Pws w)
    (hA : 0 < n → ∃ g, A = some ⟨g, 0, none⟩ ∧ ∀ i, i < n → w.cell? ⟨g, i, none⟩ = some (.int .i64 (f i))) :
    Calls Tryd.prog 32 #[.int .i64 m, .slice A n c] w fun e w' => e = .returned (.tuple #[.int .i64 (mdV m f n), .int .i64 (mdE m f n)]) ∧ w = w' := by
  have HC := Lib.hid (xpower_any m w hp)
  have HA := Lib.hid hA
  clear hA hp
  by_cases h : pw m = 0
  · have HZ := Lib.hid (md_bad (f := f) (n := n) (Or.inl h))
    rw [h] at HC
    clear h
    go_enter Tryd.func32, Tryd.ntmps32
    go_wp2_with fail
    refine HC.out.mono ?_
    rintro e w' ⟨rfl, rfl⟩
    go_wp2_with fail
    go_ret2
    exact ⟨by rw [HZ.out.1, HZ.out.2]; rfl, rfl⟩
  · have HG := Lib.hid (fun h' => md_ok (f := f) (n := n) h h')
    have HBad := Lib.hid (fun h' => md_bad (m := m) (f := f) (n := n) (Or.inr h'))
    have hle := pw_le m
    have hne : (((pw m : Nat) : Int) == 0) = false := by simp; omega
    clear h
    generalize pw m = p at *
    go_enter Tryd.func32, Tryd.ntmps32
    go_wp2_with fail
    refine HC.out.mono ?_
    rintro e w' ⟨rfl, rfl⟩
    go_wp2_with fail
    go_loop [15] (fun i => ∃ k : Nat, k ≤ n ∧ i = .int .i64 k ∧ okN p f k = true) (fun i => n - (intOf i).toNat)
    case atStart => exact ⟨0, Nat.zero_le _, rfl, rfl⟩
    case round =>
      obtain ⟨k, hk, rfl, hok⟩ := hrel
      have HOK := Lib.hid hok
      clear hok
      by_cases hlt : k < n
      · obtain ⟨g, rfl, hcell⟩ := HA.out (by omega)
        have hc := hcell k hlt
        clear hcell
        by_cases h1 : f k < 0
        · have HB := Lib.hid (HBad.out (okN_bad hlt (Or.inl h1)))
          generalize f k = y at *
          go_wp2_with fail
          go_ret2
          exact ⟨by rw [HB.out.1, HB.out.2]; rfl, rfl⟩
        · by_cases h2 : (p : Int) ≤ f k
          · have HB := Lib.hid (HBad.out (okN_bad hlt (Or.inr h2)))
            generalize f k = y at *
            go_wp2_with fail
            go_ret2
            exact ⟨by rw [HB.out.1, HB.out.2]; rfl, rfl⟩
          · have HN := Lib.hid (okN_step HOK.out (by omega) (by omega))
            generalize f k = y at *
            go_wp2_with fail
            go_round
            case rel => exact ⟨k + 1, by omega, by go_num, HN.out⟩
            case measure => simp [intOf]; omega
      · obtain rfl : k = n := by omega
        have HZ := Lib.hid (HG.out HOK.out)
        go_wp2_with fail
        go_ret2
        exact ⟨by rw [HZ.out.1, HZ.out.2]; rfl, rfl⟩
end Go.Proofs.YtniaelaolmjkaaaDoor
/- Numbers out of bytes, the most significant one first. -/
namespace Go.Proofs.YtniaelaolmjkaaaDoor
/-- the number of k bytes, the most significant one first -/
def numE (f : Nat → Nat) : Nat → Nat
  | 0 => 0
  | k + 1 => numE f k * 256 + f k
theorem numE_lt {f : Nat → Nat} : ∀ k, (∀ j, j < k → f j < 256) → numE f k < 256 ^ k
  | 0, _ => Nat.zero_lt_one
  | k + 1, h => by
    have h1 := numE_lt k (fun j hj => h j (by omega))
    have h2 := h k (Nat.lt_succ_self k)
    show numE f k * 256 + f k < _
    rw [Nat.pow_succ]
    omega
theorem numE_congr {f g : Nat → Nat} : ∀ k, (∀ j, j < k → f j = g j) → numE f k = numE g k
  | 0, _ => rfl
  | k + 1, h => by
    show numE f k * 256 + f k = numE g k * 256 + g k
    rw [numE_congr k (fun j hj => h j (by omega)), h k (Nat.lt_succ_self k)]
theorem numE_mono (f : Nat → Nat) (k : Nat) : ∀ m, k ≤ m → numE f k ≤ numE f m
  | 0, h => by obtain rfl : k = 0 := by omega
               exact Nat.le_refl _
  | m + 1, h => by
    rcases Nat.lt_or_ge k (m + 1) with h1 | h1
    · have := numE_mono f k m (by omega)
      show numE f k ≤ numE f m * 256 + f m
      omega
    · obtain rfl : k = m + 1 := by omega
      exact Nat.le_refl _
theorem shl_or (a c : Nat) (h : c < 256) : a * 256 ||| c = a * 256 + c := by
  have := Nat.shiftLeft_add_eq_or_of_lt (show c < 2 ^ 8 from h) a
  rw [Nat.shiftLeft_eq] at this
  exact this.symm
end Go.Proofs.YtniaelaolmjkaaaDoor
/- Contracts of package radix: Rest. -/
namespace Go.Proofs.YtniaelaolmjkaaaDoor
open Go.RowKit

theorem md_none (m : Int) : mdE m (fun _ => 0) 0 = (if pw m = 0 then 1 else 0) ∧ mdV m (fun _ => 0) 0 = ((pw m : Nat) : Int) := by
  by_cases h : pw m = 0
  · obtain ⟨e, v⟩ := md_bad (m := m) (f := fun _ => 0) (n := 0) (Or.inl h)
    rw [e, v, if_pos h, h]; exact ⟨rfl, rfl⟩
  · obtain ⟨e, v⟩ := md_ok (f := fun _ => 0) h (okN_zero _ _)
    rw [e, v, if_neg h]; exact ⟨rfl, rfl⟩
theorem rE_low {len : Nat} {m : Int} (h : pw m = 0) : rE len m = 1 := if_pos h
theorem rE_long {len : Nat} {m : Int} (h : pw m ≠ 0) (h' : 64 < len) : rE len m = 2 := by unfold rE; rw [if_neg h, if_pos h']
theorem rE_ok {len : Nat} {m : Int} (h : pw m ≠ 0) (h' : len ≤ 64) : rE len m = 0 := by unfold rE; rw [if_neg h, if_neg (by omega)]
theorem rV_bad {len : Nat} {b : Nat → Nat} {m : Int} (h : rE len m ≠ 0) : rV len b m = 0 := if_neg h
theorem rV_ok {len : Nat} {b : Nat → Nat} {m : Int} (h : rE len m = 0) : rV len b m = (restN (pw m) b len : Nat) := if_pos h

set_option maxHeartbeats 400000 in
theorem xrest_any (A : Option Addr) (len cap : Nat) (bs : Nat → Nat) (m : Int) (w : World) (hl : len ≤ 9223372036854775807) (hp : Pws w) (hA : SlB w A len bs) :
    Calls Tryd.prog 40 #[.slice A len cap, .int .i64 m] w fun e w' => e = .returned (.tuple #[.int .i64 (rV len bs m), .int .i64 (rE len m)]) ∧ ∃ n, w' = w.drewN n := by
  have HM := Lib.hid (modulus_any m none 0 0 (fun _ => 0) w (by omega) hp (fun h => absurd h (by omega)))
  rw [(md_none m).1, (md_none m).2] at HM
  have HA := Lib.hid hA
  clear hp hA
  by_cases h : pw m = 0
  · rw [if_pos h, h] at HM
    have HE := Lib.hid (rE_low (len := len) h)
    have HV := Lib.hid (rV_bad (len := len) (b := bs) (m := m) (by rw [HE.out]; decide))
    clear h
    go_enter Tryd.func40, Tryd.ntmps40
    go_wp2_with fail
    refine HM.out.mono ?_
    rintro e w' ⟨rfl, rfl⟩
    go_wp2_with fail
    go_ret2
    exact ⟨by rw [HE.out, HV.out]; rfl, 0, rfl⟩
  · rw [if_neg h] at HM
    by_cases h64 : 64 < len
    · have HE := Lib.hid (rE_long h h64)
      have HV := Lib.hid (rV_bad (len := len) (b := bs) (m := m) (by rw [HE.out]; decide))
      have h64' : (64 : Int) < len := by omega
      clear h
      go_enter Tryd.func40, Tryd.ntmps40
      go_wp2_with fail
      refine HM.out.mono ?_
      rintro e w' ⟨rfl, rfl⟩
      go_wp2_with fail
      go_ret2
      exact ⟨by rw [HE.out, HV.out]; rfl, 0, rfl⟩
    · have HE := Lib.hid (rE_ok (m := m) (len := len) h (by omega))
      have HV := Lib.hid (rV_ok (b := bs) HE.out)
      have h64' : (len : Int) ≤ 64 := by omega
      have hle := pw_le m
      have hpos : 0 < pw m := by omega
      have hpos' : (0 : Int) < (pw m : Nat) := by omega
      clear h
      generalize pw m = p at *
      go_enter Tryd.func40, Tryd.ntmps40
      go_wp2_with fail
      refine HM.out.mono ?_
      rintro e w' ⟨rfl, rfl⟩
      go_wp2_with fail
      go_loopw [8, 23] (fun r i wr => ∃ k : Nat, k ≤ len ∧ i = .int .i64 k ∧ r = .int .i64 (restN p bs k : Nat) ∧ ∃ n, wr = w.drewN n) (fun _ i _ => len - (intOf i).toNat)
      case atStart => exact ⟨0, Nat.zero_le _, rfl, rfl, 0, rfl⟩
      case round =>
        obtain ⟨k, hk, rfl, rfl, hn⟩ := hrel
        have HN := Lib.hid hn
        clear hn
        by_cases hlt : k < len
        · obtain ⟨B, o, rfl, hB, hcells⟩ := HA.out (by omega)
          obtain ⟨hx, hcell⟩ := hcells k hlt
          have hr := restN_lt hpos bs k
          have HS := Lib.hid (show restN p bs (k + 1) = (256 * restN p bs k + bs k) % p from rfl)
          have hc : wr.cell? ⟨B, o + k, none⟩ = some (.int .u8 (bs k : Nat)) := by
            obtain ⟨n, hn⟩ := HN.out
            rw [hn]; exact hcell
          clear hcell hcells
          generalize bs k = x at *
          generalize restN p bs k = r at *
          obtain ⟨q, hor, hq⟩ : ∃ q : Nat, bits .or .i64 ((r : Int) * 256) (x : Int) = (q : Nat) ∧ 256 * r + x = q := by
            have e := i64_or_nat (r * 256) x (by omega) (by omega)
            rw [shl_or r x hx] at e
            exact ⟨256 * r + x, by rw [show ((r : Int) * 256) = ((r * 256 : Nat) : Int) by omega, e]; omega, rfl⟩
          rw [hq] at HS
          clear hq
          go_wp2_with fail
          go_roundw
          case rel => exact ⟨k + 1, by omega, by go_num, by rw [HS.out]; go_num, HN.out⟩
          case measure => simp [intOf]; omega
        · obtain rfl : k = len := by omega
          go_wp2_with fail
          go_ret2
          exact ⟨by rw [HE.out, HV.out]; rfl, HN.out⟩
end Go.Proofs.YtniaelaolmjkaaaDoor
/- Contracts of package ffx: masks. -/
namespace Go.Proofs.YtniaelaolmjkaaaDoor
set_option maxRecDepth 100000
open Go.RowKit

/-- what a call of a cipher leaves -/
def CipP (c g n : Nat) (key : Nat → Nat) (t : Nat) (T : Nat → Nat) (v : Value) (w : World) (e : Ending) (w' : World) : Prop := e = .returned v ∧ Cip w' c g n key t T ∧ Chg g w w'

theorem Pws.cip {w w' : World} {c g n : Nat} {key : Nat → Nat} {t : Nat} {T : Nat → Nat} (h : Pws w) (hC : Cip w c g n key t T) (hn : n = 4 ∨ n = 8) (hc : Chg g w w') : Pws w' := fun i hi => by
  have hne : 0 ≠ g := fun e => by
    have h0 := h 0 (by decide)
    have hw := hC.key.words
    subst e
    rw [hw] at h0
    have h1 : ((n : Nat) : Int) = ((10 ^ (0 + 1) : Nat) : Int) := by injection h0 with h0; injection h0
    rcases hn with rfl | rfl <;> exact absurd h1 (by decide)
  exact (hc.cell h.lt hne).trans (h i hi)

set_option maxHeartbeats 1600000 in
theorem fmask_any (c g n : Nat) (key : Nat → Nat) (t : Nat) (T : Nat → Nat) (N r x : Nat) (w : World) (hp : Pws w) (hn : n = 4 ∨ n = 8) (hkey : By (4 * n) key) (hC : Cip w c g n key t T) (ht : t ≤ 16) (hT : By t T) (hN : 6 ≤ N) (hN2 : N ≤ 32) (hr : r ≤ 9) (hx : x ≤ 9223372036854775807) :
    Calls Tryd.prog 24 #[.pointer (some ⟨c, 0, none⟩), .int .i64 (N : Nat), .int .i64 (r : Nat), .int .i64 (x : Nat)] w (CipP c g n key t T (.int .i64 (fmk n key t T N r x : Nat)) w) := by
  have HS0 := Lib.hid fun w => sizes_any N 0 w (by omega) (by decide)
  have HSR := Lib.hid fun w => sizes_any N r w (by omega) (by omega)
  have hv : fd N (0 + 1) = N - N / 2 := rfl
  rw [hv] at HS0
  have HW := Lib.hid (xwidth_any ((N - N / 2 : Nat) : Int) w hp)
  rw [show wd ((N - N / 2 : Nat) : Int) = fw N from rfl] at HW
  have hfd := fd_le r hN hN2
  have hkl := fw_le N
  have hpw := pw_at (k := fd N r) (by omega) (by omega)
  have HV := Lib.hid fun (f : Nat → Nat) => show rV ((fw N + 3) / 4 * 4 + 4) f (fd N r : Nat) = (restN (10 ^ fd N r) f ((fw N + 3) / 4 * 4 + 4) : Nat) by
    have := ten_pos (fd N r)
    rw [rV_ok (rE_ok (by omega) (by omega)), hpw]
  have HFM := Lib.hid (show fmk n key t T N r x = restN (10 ^ fd N r) (xch (enc n (ks n key)) (finp (N / 2) N t T r x (fw N)) (finL t (fw N) / 16)) ((fw N + 3) / 4 * 4 + 4) from rfl)
  have HI := Lib.hid fun w (h : Cip w c g n key t T) => input_any c g n key t T N r x (fw N) w h ht hN hN2 hr hx hkl
  have HBY := Lib.hid (finp_by (u := N / 2) (n := N) (t := t) (T := T) (r := r) (x := x) (w := fw N) (by omega) (by omega) (by omega) hT (by omega))
  have hm1 := finL_mul t (fw N)
  have hm2 := finL_ge t (fw N)
  have hm3 := finL_le ht hkl
  have HCH := Lib.hid fun st w (h : KeyAt w g n key) (hs : SlB w (some ⟨st, 0, none⟩) (16 * (finL t (fw N) / 16)) (finp (N / 2) N t T r x (fw N))) (hne : st ≠ g) => chain_any g n key (finp (N / 2) N t T r x (fw N)) st 0 (finL t (fw N) / 16) (finL t (fw N)) w hn hkey h (by omega) (by omega) (by omega) (by omega) hs hne
  rw [hm1] at HCH
  generalize fw N = k at *
  generalize hL : finL t k = L at *
  have HXB := Lib.hid fun M (h : 16 * M ≤ L) => xch_by hn hkey HBY.out M h
  have HM1 := Lib.hid hm1
  obtain ⟨dl, hdl⟩ : ∃ dl, (k + 3) / 4 * 4 + 4 = dl := ⟨_, rfl⟩
  rw [hdl] at HV HFM
  have hdi : ((k : Int) + 4 - 1) / 4 * 4 + 4 = (dl : Nat) := by omega
  have hdl16 : dl ≤ 16 := by omega
  have hki : (k : Int) ≤ 8 := by omega
  have hNi : (N : Int) ≤ 32 := by omega
  have hc0 := hC.ptr
  have HC := Lib.hid hC
  have HP := Lib.hid hp
  have HN := Lib.hid hn
  clear hp hn hkey hC ht hT hN hN2 hr hx hv hpw hm1 hm2 hm3 hdl hL hkl
  go_enter Tryd.func24, Tryd.ntmps24
  go_wp2_with (first | (go_at_call 22; refine (HS0.out _).mono ?_; rintro e w1 ⟨rfl, rfl⟩) | (go_at_call 37; refine HW.out.mono ?_; rintro e w1 ⟨rfl, rfl⟩))
  go_region_with (first | (go_at_call 39; refine (HI.out _ (HC.out.drewN 1)).mono ?_; rintro e w3 ⟨st, rfl, h1, h2, h3⟩; have H1 := Lib.hid h1; have H2 := Lib.hid h2; have H3 := Lib.hid (show Below w.heap.size w w3 from ⟨h3.os, h3.tape, h3.output, h3.size, h3.block⟩); have hc3 : w3.cell? ⟨c, 0, none⟩ = _ := (h3.cell (p := ⟨c, 0, none⟩) HC.out.lt).trans hc0; have HC3 := Lib.hid ((HC.out.drewN 1).keep h3); have HP3 := Lib.hid ((HP.out.drewN 1).keep h3); clear h1 h2 h3) | (go_at_call 38; refine (HCH.out st w3 HC3.out.key (H2.out.slB0 (Nat.le_refl _) HBY.out) (Nat.ne_of_gt (Nat.lt_of_lt_of_le HC.out.key.lt H1.out))).mono ?_; rintro e w4 ⟨st2, rfl, h4, h5, h6, h7⟩; have H5 := Lib.hid h5; have HC4 := Lib.hid (HC3.out.chg h7 h6); have H7 := Lib.hid ((Chg.of_below (K := g) H3.out).trans h7); have HP4 := Lib.hid (HP3.out.cip HC3.out HN.out h7); clear h4 h5 h6 h7))
  all_goals
    go_wp2_with (first | (go_at_call 22; refine (HSR.out _).mono ?_; rintro e w1 ⟨rfl, rfl⟩) | (go_at_call 40; refine (xrest_any (some ⟨st2, 0, none⟩) dl 16 _ (fd N r : Nat) _ (by omega) HP4.out ((H5.out.slB (HXB.out _ (Nat.le_of_eq HM1.out))).low hdl16)).mono ?_; rintro e w5 ⟨rfl, z5, rfl⟩))
    go_ret
    exact ⟨by rw [HV.out, HFM.out]; rfl, HC4.out.drewN _, (H7.out.drewN _)⟩
end Go.Proofs.YtniaelaolmjkaaaDoor
/- Contracts of package radix: Value, Digits, Add, Sub. -/
namespace Go.Proofs.YtniaelaolmjkaaaDoor
open Go.RowKit

theorem xvalue_facts (s : ByteArray) : (s.size = 0 → vE s = 1 ∧ vV s = 0) ∧ (16 < s.size → vE s = 2 ∧ vV s = 0) ∧ (s.size ≠ 0 → s.size ≤ 16 → vE s = dnE s ∧ vV s = dnV s) := by
  refine ⟨fun h => ?_, fun h => ?_, fun h h' => ?_⟩
  · have e : vE s = 1 := if_pos h
    exact ⟨e, by unfold vV; rw [e]; rfl⟩
  · have e : vE s = 2 := by unfold vE; rw [if_neg (by omega), if_pos h]
    exact ⟨e, by unfold vV; rw [e]; rfl⟩
  · have e : vE s = dnE s := by unfold vE; rw [if_neg h, if_neg (by omega)]
    refine ⟨e, ?_⟩
    unfold vV dnV
    rw [e]
    split <;> simp_all

set_option maxHeartbeats 400000 in
theorem xvalue_any (s : ByteArray) (w : World) (hs : s.size ≤ maxLen) :
    Calls Tryd.prog 15 #[.string s] w fun e w' => e = .returned (.tuple #[.int .i64 (vV s), .int .i64 (vE s)]) ∧ ∃ n, w' = w.drewN n := by
  have HN := Lib.hid (number_any s w hs)
  obtain ⟨f1, f2, f3⟩ := xvalue_facts s
  unfold maxLen at hs
  by_cases h0 : s.size = 0
  · have e1 : s.toList = [] := by
      rw [ByteArray.toList_eq]; exact List.eq_nil_of_length_eq_zero (Array.length_toList.trans h0)
    have HZ := Lib.hid (f1 h0)
    clear h0 f1 f2 f3
    go_enter Tryd.func15, Tryd.ntmps15
    go_wp2_with fail
    go_ret2
    exact ⟨by rw [HZ.out.1, HZ.out.2]; rfl, 0, rfl⟩
  · have e1 := toList_of_size (s := s) (by omega)
    have e2 : ¬ s.toList = [] := by intro h; rw [h] at e1; cases e1
    by_cases h16 : 16 < s.size
    · have HZ := Lib.hid (f2 h16)
      clear h0 f1 f2 f3
      have h16' : (16 : Int) < s.size := by omega
      go_enter Tryd.func15, Tryd.ntmps15
      go_wp2_with fail
      go_ret2
      exact ⟨by rw [HZ.out.1, HZ.out.2]; rfl, 0, rfl⟩
    · have HZ := Lib.hid (f3 h0 (by omega))
      have h16' : (s.size : Int) ≤ 16 := by omega
      clear h0 f1 f2 f3
      go_enter Tryd.func15, Tryd.ntmps15
      go_wp2_with fail
      refine HN.out.mono ?_
      rintro e w' ⟨rfl, n, rfl⟩
      go_wp2_with fail
      go_ret2
      exact ⟨by rw [HZ.out.1, HZ.out.2]; rfl, n, rfl⟩

/-- what the guard of one or two numbers answers -/
theorem md_one (n m : Int) : mdE m (fun _ => n) 1 = gE n m ∧ mdV m (fun _ => n) 1 = if inP n m = true then ((pw m : Nat) : Int) else 0 := by
  by_cases h : inP n m = true
  · obtain ⟨e, v⟩ := md_ok (f := fun _ => n) (inP_pos h) (by rw [okN_in rfl, h])
    rw [e, v, gE_pos h, if_pos h]; exact ⟨rfl, rfl⟩
  · obtain ⟨e, v⟩ := md_bad (m := m) (f := fun _ => n) (n := 1) (Or.inr (by rw [okN_in rfl]; simpa using h))
    rw [e, v, gE_neg h, if_neg h]; exact ⟨rfl, rfl⟩
def pairI (a b : Int) (i : Nat) : Int := if i = 0 then a else b
theorem md_two (a b m : Int) : mdE m (pairI a b) 2 = tE a b m ∧ mdV m (pairI a b) 2 = if tE a b m = 0 then ((pw m : Nat) : Int) else 0 := by
  have hk : okN (pw m) (pairI a b) 2 = (inP a m && inP b m) := by
    rw [Bool.eq_iff_iff, okN_two, Bool.and_eq_true, inP_iff, inP_iff]; rfl
  by_cases h : inP a m = true ∧ inP b m = true
  · obtain ⟨e, v⟩ := md_ok (f := pairI a b) (inP_pos h.1) (by rw [hk, h.1, h.2]; rfl)
    rw [e, v, tE_pos h.1 h.2]; exact ⟨rfl, rfl⟩
  · obtain ⟨e, v⟩ := md_bad (m := m) (f := pairI a b) (n := 2) (Or.inr (by rw [hk]; simpa using h))
    rw [e, v, tE_neg h]; exact ⟨rfl, rfl⟩

set_option maxHeartbeats 400000 in
theorem xdigits_any (n m : Int) (w : World) (hn : n ≤ 9223372036854775807) (hp : Pws w) :
    Calls Tryd.prog 17 #[.int .i64 n, .int .i64 m] w fun e w' => e = .returned (.tuple #[.string (gV n m), .int .i64 (gE n m)]) ∧ Below w.heap.size w w' := by
  have HM := Lib.hid (modulus_any m (some ⟨w.heap.size, 0, none⟩) 1 1 (fun _ => n) (w.alloc (.cells #[.int .i64 n] 3)) (by omega) (hp.alloc _) (fun _ => ⟨_, rfl, fun i hi => by
    obtain rfl : i = 0 := by omega
    exact World.cell?_alloc_at _ _ _ _ rfl⟩))
  have HO := Lib.hid (md_one n m)
  have HB := Lib.hid ((Below.refl w.heap.size w).alloc (Nat.le_refl _) (.cells #[.int .i64 n] 3))
  rw [HO.out.1] at HM
  by_cases h : inP n m = true
  · rw [gE_pos h] at HM
    have HT := Lib.hid (text_any n m (w.alloc (.cells #[.int .i64 n] 3)) hn)
    rw [(text_in h).1, (text_in h).2] at HT
    have HE := Lib.hid (gE_pos h)
    clear hp h
    go_enter Tryd.func17, Tryd.ntmps17
    go_wp2_with fail
    refine HM.out.mono ?_
    rintro e w' ⟨rfl, rfl⟩
    go_wp2_with fail
    refine HT.out.mono ?_
    rintro e w' ⟨rfl, hb⟩
    go_wp2_with fail
    go_ret2
    exact ⟨by rw [HE.out]; rfl, HB.out.trans (hb.mono HB.out.size)⟩
  · rw [gE_neg h] at HM
    have HE := Lib.hid (gE_neg h)
    have HV := Lib.hid (gV_neg h)
    clear hp h
    go_enter Tryd.func17, Tryd.ntmps17
    go_wp2_with fail
    refine HM.out.mono ?_
    rintro e w' ⟨rfl, rfl⟩
    go_wp2_with fail
    go_ret2
    exact ⟨by rw [HE.out, HV.out]; rfl, HB.out⟩

theorem two_cells (w : World) (a b : Int) : ∀ i, i < 2 → (w.alloc (.cells #[.int .i64 a, .int .i64 b] 3)).cell? ⟨w.heap.size, i, none⟩ = some (.int .i64 (pairI a b i)) := fun i hi => by
  rcases (show i = 0 ∨ i = 1 by omega) with rfl | rfl
  · exact (World.cell?_alloc_at _ _ _ _ rfl).trans rfl
  · exact (World.cell?_alloc_at _ _ _ _ rfl).trans rfl

set_option maxHeartbeats 400000 in
theorem xadd_any (a b m : Int) (w : World) (hp : Pws w) :
    Calls Tryd.prog 16 #[.int .i64 a, .int .i64 b, .int .i64 m] w fun e w' => e = .returned (.tuple #[.int .i64 (aV a b m), .int .i64 (tE a b m)]) ∧ Below w.heap.size w w' := by
  have HM := Lib.hid (modulus_any m (some ⟨w.heap.size, 0, none⟩) 2 2 (pairI a b) (w.alloc (.cells #[.int .i64 a, .int .i64 b] 3)) (by omega) (hp.alloc _) (fun _ => ⟨_, rfl, two_cells w a b⟩))
  have HB := Lib.hid ((Below.refl w.heap.size w).alloc (Nat.le_refl _) (.cells #[.int .i64 a, .int .i64 b] 3))
  rw [(md_two a b m).1, (md_two a b m).2] at HM
  by_cases h : inP a m = true ∧ inP b m = true
  · have HV := Lib.hid (show aV a b m = (a + b) % (pw m : Int) by unfold aV; rw [if_pos (tE_pos h.1 h.2)])
    rw [tE_pos h.1 h.2, if_pos rfl] at HM
    have HE := Lib.hid (tE_pos h.1 h.2)
    obtain ⟨a0, a1⟩ := (inP_iff a m).1 h.1
    obtain ⟨b0, b1⟩ := (inP_iff b m).1 h.2
    have hle := pw_le m
    have hpos : (0 : Int) < (pw m : Nat) := by omega
    clear hp h
    generalize pw m = p at *
    go_enter Tryd.func16, Tryd.ntmps16
    go_wp2_with fail
    refine HM.out.mono ?_
    rintro e w' ⟨rfl, rfl⟩
    go_wp2_with fail
    go_ret2
    exact ⟨by rw [HE.out, HV.out]; rfl, HB.out⟩
  · have HV := Lib.hid (show aV a b m = 0 by unfold aV; rw [tE_neg h]; rfl)
    rw [tE_neg h] at HM
    have HE := Lib.hid (tE_neg h)
    clear hp h
    go_enter Tryd.func16, Tryd.ntmps16
    go_wp2_with fail
    refine HM.out.mono ?_
    rintro e w' ⟨rfl, rfl⟩
    go_wp2_with fail
    go_ret2
    exact ⟨by rw [HE.out, HV.out]; rfl, HB.out⟩

set_option maxHeartbeats 400000 in
theorem xsub_any (a b m : Int) (w : World) (hp : Pws w) :
    Calls Tryd.prog 30 #[.int .i64 a, .int .i64 b, .int .i64 m] w fun e w' => e = .returned (.tuple #[.int .i64 (sV a b m), .int .i64 (tE a b m)]) ∧ Below w.heap.size w w' := by
  have HM := Lib.hid (modulus_any m (some ⟨w.heap.size, 0, none⟩) 2 2 (pairI a b) (w.alloc (.cells #[.int .i64 a, .int .i64 b] 3)) (by omega) (hp.alloc _) (fun _ => ⟨_, rfl, two_cells w a b⟩))
  have HB := Lib.hid ((Below.refl w.heap.size w).alloc (Nat.le_refl _) (.cells #[.int .i64 a, .int .i64 b] 3))
  rw [(md_two a b m).1, (md_two a b m).2] at HM
  by_cases h : inP a m = true ∧ inP b m = true
  · have HV := Lib.hid (show sV a b m = (a - b + (pw m : Int)) % (pw m : Int) by unfold sV; rw [if_pos (tE_pos h.1 h.2)])
    rw [tE_pos h.1 h.2, if_pos rfl] at HM
    have HE := Lib.hid (tE_pos h.1 h.2)
    obtain ⟨a0, a1⟩ := (inP_iff a m).1 h.1
    obtain ⟨b0, b1⟩ := (inP_iff b m).1 h.2
    have hle := pw_le m
    have hpos : (0 : Int) < (pw m : Nat) := by omega
    clear hp h
    generalize pw m = p at *
    go_enter Tryd.func30, Tryd.ntmps30
    go_wp2_with fail
    refine HM.out.mono ?_
    rintro e w' ⟨rfl, rfl⟩
    go_wp2_with fail
    go_ret2
    exact ⟨by rw [HE.out, HV.out]; rfl, HB.out⟩
  · have HV := Lib.hid (show sV a b m = 0 by unfold sV; rw [tE_neg h]; rfl)
    rw [tE_neg h] at HM
    have HE := Lib.hid (tE_neg h)
    clear hp h
    go_enter Tryd.func30, Tryd.ntmps30
    go_wp2_with fail
    refine HM.out.mono ?_
    rintro e w' ⟨rfl, rfl⟩
    go_wp2_with fail
    go_ret2
    exact ⟨by rw [HE.out, HV.out]; rfl, HB.out⟩
end Go.Proofs.YtniaelaolmjkaaaDoor
/- Contracts of package ffx: halves of numerals. -/
namespace Go.Proofs.YtniaelaolmjkaaaDoor
set_option maxRecDepth 100000
open Go.RowKit

/-- the halves of numerals -/
def loS (s : ByteArray) : ByteArray := s.extract 0 (s.size / 2)
def hiS (s : ByteArray) : ByteArray := s.extract (s.size / 2) s.size
/-- what is wrong with numerals -/
def hE (s : ByteArray) : Int := if s.size < 6 ∨ 32 < s.size then 1 else if vE (loS s) ≠ 0 then vE (loS s) else vE (hiS s)

/-- what halves answers -/
def hV (s : ByteArray) : Array Value := if hE s = 0 then #[.int .i64 (vV (loS s)), .int .i64 (vV (hiS s)), .int .i64 0] else #[.int .i64 0, .int .i64 0, .int .i64 (hE s)]

theorem halves_bad (s : ByteArray) (w : World) (hs : s.size ≤ maxLen) (h : s.size < 6 ∨ 32 < s.size) :
    Calls Tryd.prog 28 #[.string s] w fun e w' => e = .returned (.tuple #[.int .i64 0, .int .i64 0, .int .i64 1]) ∧ w = w' := by
  have HWL := Lib.hid (wrongL_any (s.size : Nat) w)
  rw [show (decide (((s.size : Nat) : Int) < 6) || decide (32 < ((s.size : Nat) : Int))) = true by rw [Bool.or_eq_true, decide_eq_true_eq, decide_eq_true_eq]; omega] at HWL
  have hs' := hs
  unfold maxLen at hs'
  clear h hs
  go_enter Tryd.func28, Tryd.ntmps28
  go_wp2_with (go_at_call 21; refine HWL.out.mono ?_; rintro e w1 ⟨rfl, rfl⟩)
  exact bodyPost_ret (v := .tuple #[.int .i64 0, .int .i64 0, .int .i64 1]) (by simp [results, Tryd.results28, go_sem]) rfl ⟨rfl, rfl⟩
theorem halves_any (s : ByteArray) (w : World) (h1 : 6 ≤ s.size) (h2 : s.size ≤ 32) :
    Calls Tryd.prog 28 #[.string s] w fun e w' => e = .returned (.tuple (hV s)) ∧ ∃ n, w' = w.drewN n := by
  have HWL := Lib.hid (wrongL_any (s.size : Nat) w)
  rw [show (decide (((s.size : Nat) : Int) < 6) || decide (32 < ((s.size : Nat) : Int))) = false by rw [Bool.or_eq_false_iff, decide_eq_false_iff_not, decide_eq_false_iff_not]; omega] at HWL
  have HS := Lib.hid (sizes_any s.size 0 w (by omega) (by decide))
  rw [show fd s.size 0 = s.size / 2 from rfl] at HS
  have hl : (loS s).size ≤ maxLen := by unfold loS maxLen; rw [ByteArray.size_extract]; omega
  have hh : (hiS s).size ≤ maxLen := by unfold hiS maxLen; rw [ByteArray.size_extract]; omega
  have HV1 := Lib.hid (xvalue_any (loS s) w hl)
  have HV2 := Lib.hid fun W => xvalue_any (hiS s) W hh
  have hEq : hE s = if vE (loS s) ≠ 0 then vE (loS s) else vE (hiS s) := by unfold hE; rw [if_neg (by omega)]
  have HL := Lib.hid (show s.extract 0 (s.size / 2) = loS s from rfl)
  have HH := Lib.hid (show s.extract (s.size / 2) s.size = hiS s from rfl)
  have hVe : hV s = if hE s = 0 then #[.int .i64 (vV (loS s)), .int .i64 (vV (hiS s)), .int .i64 0] else #[.int .i64 0, .int .i64 0, .int .i64 (hE s)] := rfl
  obtain ⟨k, hk⟩ : ∃ k, s.size / 2 = k := ⟨_, rfl⟩
  rw [hk] at HS HL HH
  rw [← HL.out] at HV1
  rw [← HH.out] at HV2
  have hki : (k : Int) ≤ (s.size : Nat) := by omega
  have hki2 : k ≤ s.size := by omega
  have hsz : ((s.size : Nat) : Int) ≤ 32 := by omega
  rw [HL.out] at HV1
  rw [HH.out] at HV2
  generalize hV s = V at *
  generalize hE s = r at *
  generalize loS s = a at *
  generalize hiS s = b at *
  by_cases ha : vE a = 0
  · have g1 : (vE a != 0) = false := by rw [ha]; rfl
    rw [if_neg (by rw [ha]; decide)] at hEq
    by_cases hb : vE b = 0
    · have g2 : (vE b != 0) = false := by rw [hb]; rfl
      rw [show r = 0 from hEq.trans hb, if_pos rfl] at hVe
      have HF := Lib.hid hVe
      clear hk hl hh h1 h2 hEq hVe ha hb
      go_enter Tryd.func28, Tryd.ntmps28
      go_wp2_with (first | (go_at_call 21; refine HWL.out.mono ?_; rintro e w1 ⟨rfl, rfl⟩) | (go_at_call 22; refine HS.out.mono ?_; rintro e w1 ⟨rfl, rfl⟩) | (go_at_call 15; rw [HL.out]; refine HV1.out.mono ?_; rintro e w1 ⟨rfl, n1, rfl⟩) | (go_at_call 15; rw [HH.out]; refine (HV2.out _).mono ?_; rintro e w1 ⟨rfl, n2, rfl⟩))
      exact bodyPost_ret (v := .tuple #[.int .i64 (vV a), .int .i64 (vV b), .int .i64 0]) (by simp [results, Tryd.results28, go_sem]) rfl ⟨by rw [HF.out], n1 + n2, rfl⟩
    · have g2 : (vE b != 0) = true := by simpa using hb
      rw [hEq, if_neg hb] at hVe
      have HF := Lib.hid hVe
      clear hk hl hh h1 h2 hEq hVe ha hb
      go_enter Tryd.func28, Tryd.ntmps28
      go_wp2_with (first | (go_at_call 21; refine HWL.out.mono ?_; rintro e w1 ⟨rfl, rfl⟩) | (go_at_call 22; refine HS.out.mono ?_; rintro e w1 ⟨rfl, rfl⟩) | (go_at_call 15; rw [HL.out]; refine HV1.out.mono ?_; rintro e w1 ⟨rfl, n1, rfl⟩) | (go_at_call 15; rw [HH.out]; refine (HV2.out _).mono ?_; rintro e w1 ⟨rfl, n2, rfl⟩))
      exact bodyPost_ret (v := .tuple #[.int .i64 0, .int .i64 0, .int .i64 (vE b)]) (by simp [results, Tryd.results28, go_sem]) rfl ⟨by rw [HF.out], n1 + n2, rfl⟩
  · have g1 : (vE a != 0) = true := by simpa using ha
    rw [if_pos ha] at hEq
    rw [hEq, if_neg ha] at hVe
    have HF := Lib.hid hVe
    clear hk hl hh h1 h2 hEq hVe ha HV2
    go_enter Tryd.func28, Tryd.ntmps28
    go_wp2_with (first | (go_at_call 21; refine HWL.out.mono ?_; rintro e w1 ⟨rfl, rfl⟩) | (go_at_call 22; refine HS.out.mono ?_; rintro e w1 ⟨rfl, rfl⟩) | (go_at_call 15; rw [HL.out]; refine HV1.out.mono ?_; rintro e w1 ⟨rfl, n1, rfl⟩))
    exact bodyPost_ret (v := .tuple #[.int .i64 0, .int .i64 0, .int .i64 (vE a)]) (by simp [results, Tryd.results28, go_sem]) rfl ⟨by rw [HF.out], n1, rfl⟩

/-- two halves in one text -/
def fcat (N : Nat) (a b : Int) : ByteArray := gV a (fd N 0 : Nat) ++ gV b (fd N 1 : Nat)
theorem gV_size (n m : Int) (h : m ≤ 16) : (gV n m).size ≤ 16 := by
  unfold gV
  split
  · rw [strOf_size]; omega
  · decide
theorem join_any (N : Nat) (a b : Int) (w : World) (hp : Pws w) (hN : 6 ≤ N) (hN2 : N ≤ 32) (ha : a ≤ 9223372036854775807) (hb : b ≤ 9223372036854775807) :
    Calls Tryd.prog 29 #[.int .i64 (N : Nat), .int .i64 a, .int .i64 b] w fun e w' => e = .returned (.string (fcat N a b)) ∧ Below w.heap.size w w' := by
  have HS := Lib.hid (sizes_any N 0 w (by omega) (by decide))
  rw [Nat.zero_add] at HS
  have h0 := fd_le 0 hN hN2
  have h1 := fd_le 1 hN hN2
  have g0 := gV_size a (fd N 0 : Nat) (by omega)
  have g1 := gV_size b (fd N 1 : Nat) (by omega)
  have HD1 := Lib.hid (xdigits_any a (fd N 0 : Nat) w ha hp)
  have HD2 := Lib.hid fun W (h : Pws W) => xdigits_any b (fd N 1 : Nat) W hb h
  have HP := Lib.hid hp
  have HF := Lib.hid (show fcat N a b = gV a (fd N 0 : Nat) ++ gV b (fd N 1 : Nat) from rfl)
  generalize gV a (fd N 0 : Nat) = x at *
  generalize gV b (fd N 1 : Nat) = y at *
  generalize fd N 0 = k at *
  generalize fd N 1 = l at *
  clear hp hN hN2 ha hb h0 h1
  go_enter Tryd.func29, Tryd.ntmps29
  go_wp2_with (first | (go_at_call 22; refine HS.out.mono ?_; rintro e w1 ⟨rfl, rfl⟩) | (go_at_call 17; refine HD1.out.mono ?_; rintro e w2 ⟨rfl, h2⟩; have H2 := Lib.hid h2; clear HD1 h2) | (go_at_call 17; refine (HD2.out w2 (HP.out.keep H2.out)).mono ?_; rintro e w3 ⟨rfl, h3⟩; have H3 := Lib.hid h3; clear h3))
  go_ret
  exact ⟨by rw [HF.out]; rfl, H2.out.trans (H3.out.mono H2.out.size)⟩
end Go.Proofs.YtniaelaolmjkaaaDoor
/- Contracts of package ffx: Encrypt, Decrypt. -/
namespace Go.Proofs.YtniaelaolmjkaaaDoor
set_option maxRecDepth 100000
open Go.RowKit

/-- what is wrong with a text: too short or long, or no digits -/
def eE (s : ByteArray) : Int := if s.size < 6 ∨ 32 < s.size then 1 else hE s
/-- the encrypted numerals -/
def encV (M : Nat → Int → Int) (s : ByteArray) : ByteArray := if hE s = 0 then fcat s.size (fgo M s.size (vV (loS s)) (vV (hiS s)) 10).1 (fgo M s.size (vV (loS s)) (vV (hiS s)) 10).2 else ⟨#[]⟩
/-- the decrypted numerals -/
def decV (M : Nat → Int → Int) (s : ByteArray) : ByteArray := if hE s = 0 then fcat s.size (fbk M s.size 10 (vV (loS s)) (vV (hiS s))).1 (fbk M s.size 10 (vV (loS s)) (vV (hiS s))).2 else ⟨#[]⟩
theorem halves_in {s : ByteArray} (h1 : 6 ≤ s.size) (h2 : s.size ≤ 32) (h : hE s = 0) : vE (loS s) = 0 ∧ vE (hiS s) = 0 ∧ (loS s).size = fd s.size 0 ∧ (hiS s).size = fd s.size 1 ∧ inP (vV (loS s)) (fd s.size 0 : Nat) = true ∧ inP (vV (hiS s)) (fd s.size 1 : Nat) = true := by
  unfold hE at h
  rw [if_neg (by omega)] at h
  have hs0 : (loS s).size = fd s.size 0 := by show (s.extract 0 (s.size / 2)).size = s.size / 2; rw [ByteArray.size_extract]; omega
  have hs1 : (hiS s).size = fd s.size 1 := by show (s.extract (s.size / 2) s.size).size = s.size - s.size / 2; rw [ByteArray.size_extract]; omega
  by_cases ha : vE (loS s) = 0
  · rw [if_neg (by rw [ha]; decide)] at h
    exact ⟨ha, h, hs0, hs1, hs0 ▸ (back_text ha).1, hs1 ▸ (back_text h).1⟩
  · rw [if_pos ha] at h
    exact absurd h ha
theorem inP_le {a m : Int} (h : inP a m = true) : 0 ≤ a ∧ a ≤ 10000000000000000 := by
  have := (inP_iff a m).1 h
  have := pw_le m
  omega

theorem enc_bad (c : Nat) (s : ByteArray) (w : World) (hs : s.size ≤ maxLen) (h : s.size < 6 ∨ 32 < s.size) :
    Calls Tryd.prog 12 #[.pointer (some ⟨c, 0, none⟩), .string s] w fun e w' => e = .returned (.tuple #[.string ⟨#[]⟩, .int .i64 1]) ∧ w = w' := by
  have HH := Lib.hid (halves_bad s w hs h)
  clear h hs
  go_enter Tryd.func12, Tryd.ntmps12
  go_wp2_with (go_at_call 28; refine HH.out.mono ?_; rintro e w1 ⟨rfl, rfl⟩)
  go_ret2
  exact ⟨rfl, rfl⟩
theorem enc_form (c : Nat) (s : ByteArray) (w : World) (h1 : 6 ≤ s.size) (h2 : s.size ≤ 32) (h : hE s ≠ 0) :
    Calls Tryd.prog 12 #[.pointer (some ⟨c, 0, none⟩), .string s] w fun e w' => e = .returned (.tuple #[.string ⟨#[]⟩, .int .i64 (hE s)]) ∧ ∃ n, w' = w.drewN n := by
  have hh := halves_any s w h1 h2
  rw [show hV s = #[.int .i64 0, .int .i64 0, .int .i64 (hE s)] from if_neg h] at hh
  have HH := Lib.hid hh
  have g1 : (hE s != 0) = true := by simpa using h
  clear h h1 h2 hh
  go_enter Tryd.func12, Tryd.ntmps12
  go_wp2_with (go_at_call 28; refine HH.out.mono ?_; rintro e w1 ⟨rfl, n1, rfl⟩)
  go_ret2
  exact ⟨rfl, n1, rfl⟩

set_option maxHeartbeats 1600000 in
theorem fenc_any (c g n : Nat) (key : Nat → Nat) (t : Nat) (T : Nat → Nat) (s : ByteArray) (w : World) (hp : Pws w) (hn : n = 4 ∨ n = 8) (hkey : By (4 * n) key) (hC : Cip w c g n key t T) (ht : t ≤ 16) (hT : By t T) (h1 : 6 ≤ s.size) (h2 : s.size ≤ 32) (h : hE s = 0) :
    Calls Tryd.prog 12 #[.pointer (some ⟨c, 0, none⟩), .string s] w (CipP c g n key t T (.tuple #[.string (encV (fM n key t T s.size) s), .int .i64 0]) w) := by
  have hh := halves_any s w h1 h2
  rw [show hV s = #[.int .i64 (vV (loS s)), .int .i64 (vV (hiS s)), .int .i64 0] from if_pos h] at hh
  have HH := Lib.hid hh
  have HE := Lib.hid (show encV (fM n key t T s.size) s = fcat s.size (fgo (fM n key t T s.size) s.size (vV (loS s)) (vV (hiS s)) 10).1 (fgo (fM n key t T s.size) s.size (vV (loS s)) (vV (hiS s)) 10).2 from if_pos h)
  obtain ⟨_, _, _, _, i0, i1⟩ := halves_in h1 h2 h
  generalize vV (loS s) = a at *
  generalize vV (hiS s) = b at *
  have HM := Lib.hid (show MIn (fM n key t T s.size) s.size from fun k x => fM_in h1 h2 k x)
  have HGO := Lib.hid fun k => fgo_in HM.out i0 i1 k
  have HMK := Lib.hid fun r x (hr : r ≤ 9) (hx : x ≤ 9223372036854775807) W (hp : Pws W) (hC : Cip W c g n key t T) => fmask_any c g n key t T s.size r x W hp hn hkey hC ht hT h1 h2 hr hx
  have HSZ := Lib.hid fun r (hr : r ≤ 9) W => sizes_any s.size r W (by omega) (by omega)
  have HJ := Lib.hid fun a b W (hp : Pws W) ha hb => join_any s.size a b W hp h1 h2 ha hb
  have HP := Lib.hid hp
  have HC := Lib.hid hC
  have HN := Lib.hid hn
  have hsz : ((s.size : Nat) : Int) ≤ 32 := by omega
  clear hp hn hkey hC ht hT h1 h2 h hh i0 i1
  go_enter Tryd.func12, Tryd.ntmps12
  go_wp2_with (go_at_call 28; refine HH.out.mono ?_; rintro e w1 ⟨rfl, n1, rfl⟩)
  go_loopw [6, 7, 23] (fun u v i wr => ∃ k : Nat, k ≤ 10 ∧ i = .int .i64 (k : Nat) ∧ u = .int .i64 (fgo (fM n key t T s.size) s.size a b k).1 ∧ v = .int .i64 (fgo (fM n key t T s.size) s.size a b k).2 ∧ Pws wr ∧ Cip wr c g n key t T ∧ Chg g w wr) (fun _ _ i _ => 10 - (intOf i).toNat)
  case atStart => exact ⟨0, by decide, rfl, rfl, rfl, HP.out.drewN _, HC.out.drewN _, (Chg.refl _ _).drewN _⟩
  case round =>
    obtain ⟨k, hk, rfl, rfl, rfl, q1, q2, q3⟩ := hrel
    have Q1 := Lib.hid q1
    have Q2 := Lib.hid q2
    have Q3 := Lib.hid q3
    clear q1 q2 q3
    obtain ⟨i2, i3⟩ := HGO.out k
    have HNX := Lib.hid (show fgo (fM n key t T s.size) s.size a b (k + 1) = ((fgo (fM n key t T s.size) s.size a b k).2, aV (fgo (fM n key t T s.size) s.size a b k).1 (fM n key t T s.size k (fgo (fM n key t T s.size) s.size a b k).2) (fd s.size k : Nat)) from rfl)
    by_cases hlt : k < 10
    · have hki : (k : Int) < 10 := by omega
      have hb3 := inP_le i3
      generalize (fgo (fM n key t T s.size) s.size a b k).1 = u at *
      generalize (fgo (fM n key t T s.size) s.size a b k).2 = v at *
      obtain ⟨x, rfl⟩ := Int.eq_ofNat_of_zero_le hb3.1
      have HMK2 := Lib.hid (HMK.out k x (by omega) (by omega) wr Q1.out Q2.out)
      rw [show (fmk n key t T s.size k x : Int) = fM n key t T s.size k (x : Int) from rfl] at HMK2
      have HMI := Lib.hid (HM.out k x)
      have HSK := Lib.hid (HSZ.out k (by omega) wr)
      generalize fM n key t T s.size k (x : Int) = y at *
      generalize fd s.size k = z at *
      clear hb3 i2 i3
      go_wp2_with (first | (go_at_call 22; refine HSK.out.mono ?_; rintro e w1 ⟨rfl, rfl⟩) | (go_at_call 24; refine HMK2.out.mono ?_; rintro e w2 ⟨rfl, h1, h2⟩; have H1 := Lib.hid h1; have H2 := Lib.hid h2; have HP2 := Lib.hid (Q1.out.cip Q2.out HN.out h2); clear h1 h2) | (go_at_call 16; refine (xadd_any u y (z : Nat) w2 HP2.out).mono ?_; rintro e w3 ⟨rfl, h3⟩; have H3 := Lib.hid h3; clear h3))
      go_roundw
      case rel => exact ⟨k + 1, by omega, by go_num, by rw [HNX.out], by rw [HNX.out], HP2.out.keep H3.out, H1.out.keep H3.out, (Q3.out.trans H2.out).thenBelow H3.out⟩
      case measure => simp [intOf]; omega
    · obtain rfl : k = 10 := by omega
      have hb2 := inP_le i2
      have hb3 := inP_le i3
      generalize (fgo (fM n key t T s.size) s.size a b 10).1 = u at *
      generalize (fgo (fM n key t T s.size) s.size a b 10).2 = v at *
      have HJ2 := Lib.hid (HJ.out u v wr Q1.out (by omega) (by omega))
      clear hb2 hb3 i2 i3
      go_wp2_with (go_at_call 29; refine HJ2.out.mono ?_; rintro e w1 ⟨rfl, h1⟩; have H1 := Lib.hid h1; clear h1)
      go_ret2
      exact ⟨by rw [HE.out]; rfl, Q2.out.keep H1.out, Q3.out.thenBelow H1.out⟩
theorem dec_bad (c : Nat) (s : ByteArray) (w : World) (hs : s.size ≤ maxLen) (h : s.size < 6 ∨ 32 < s.size) :
    Calls Tryd.prog 14 #[.pointer (some ⟨c, 0, none⟩), .string s] w fun e w' => e = .returned (.tuple #[.string ⟨#[]⟩, .int .i64 1]) ∧ w = w' := by
  have HH := Lib.hid (halves_bad s w hs h)
  clear h hs
  go_enter Tryd.func14, Tryd.ntmps14
  go_wp2_with (go_at_call 28; refine HH.out.mono ?_; rintro e w1 ⟨rfl, rfl⟩)
  go_ret2
  exact ⟨rfl, rfl⟩
theorem dec_form (c : Nat) (s : ByteArray) (w : World) (h1 : 6 ≤ s.size) (h2 : s.size ≤ 32) (h : hE s ≠ 0) :
    Calls Tryd.prog 14 #[.pointer (some ⟨c, 0, none⟩), .string s] w fun e w' => e = .returned (.tuple #[.string ⟨#[]⟩, .int .i64 (hE s)]) ∧ ∃ n, w' = w.drewN n := by
  have hh := halves_any s w h1 h2
  rw [show hV s = #[.int .i64 0, .int .i64 0, .int .i64 (hE s)] from if_neg h] at hh
  have HH := Lib.hid hh
  have g1 : (hE s != 0) = true := by simpa using h
  clear h h1 h2 hh
  go_enter Tryd.func14, Tryd.ntmps14
  go_wp2_with (go_at_call 28; refine HH.out.mono ?_; rintro e w1 ⟨rfl, n1, rfl⟩)
  go_ret2
  exact ⟨rfl, n1, rfl⟩

set_option maxHeartbeats 1600000 in
theorem fdec_any (c g n : Nat) (key : Nat → Nat) (t : Nat) (T : Nat → Nat) (s : ByteArray) (w : World) (hp : Pws w) (hn : n = 4 ∨ n = 8) (hkey : By (4 * n) key) (hC : Cip w c g n key t T) (ht : t ≤ 16) (hT : By t T) (h1 : 6 ≤ s.size) (h2 : s.size ≤ 32) (h : hE s = 0) :
    Calls Tryd.prog 14 #[.pointer (some ⟨c, 0, none⟩), .string s] w (CipP c g n key t T (.tuple #[.string (decV (fM n key t T s.size) s), .int .i64 0]) w) := by
  have hh := halves_any s w h1 h2
  rw [show hV s = #[.int .i64 (vV (loS s)), .int .i64 (vV (hiS s)), .int .i64 0] from if_pos h] at hh
  have HH := Lib.hid hh
  have HE := Lib.hid (show decV (fM n key t T s.size) s = fcat s.size (fbk (fM n key t T s.size) s.size 10 (vV (loS s)) (vV (hiS s))).1 (fbk (fM n key t T s.size) s.size 10 (vV (loS s)) (vV (hiS s))).2 from if_pos h)
  obtain ⟨_, _, _, _, i0, i1⟩ := halves_in h1 h2 h
  generalize vV (loS s) = a at *
  generalize vV (hiS s) = b at *
  have HM := Lib.hid (show MIn (fM n key t T s.size) s.size from fun k x => fM_in h1 h2 k x)
  rw [show fd s.size 0 = fd s.size 10 from rfl] at i0
  rw [show fd s.size 1 = fd s.size (10 + 1) from rfl] at i1
  have HI := Lib.hid (show inP a (fd s.size 10 : Nat) = true ∧ inP b (fd s.size (10 + 1) : Nat) = true from ⟨i0, i1⟩)
  have HMK := Lib.hid fun r x (hr : r ≤ 9) (hx : x ≤ 9223372036854775807) W (hp : Pws W) (hC : Cip W c g n key t T) => fmask_any c g n key t T s.size r x W hp hn hkey hC ht hT h1 h2 hr hx
  have HSZ := Lib.hid fun r (hr : r ≤ 9) W => sizes_any s.size r W (by omega) (by omega)
  have HJ := Lib.hid fun a b W (hp : Pws W) ha hb => join_any s.size a b W hp h1 h2 ha hb
  have HP := Lib.hid hp
  have HC := Lib.hid hC
  have HN := Lib.hid hn
  have hsz : ((s.size : Nat) : Int) ≤ 32 := by omega
  clear hp hn hkey hC ht hT h1 h2 h hh i0 i1
  go_enter Tryd.func14, Tryd.ntmps14
  go_wp2_with (go_at_call 28; refine HH.out.mono ?_; rintro e w1 ⟨rfl, n1, rfl⟩)
  generalize hR : fbk (fM n key t T s.size) s.size 10 a b = R at *
  have HR := Lib.hid hR
  clear hR
  go_loopw [6, 7, 9] (fun u v i wr => ∃ (k : Nat) (p q : Int), k ≤ 10 ∧ i = .int .i64 ((k : Int) - 1) ∧ u = .int .i64 p ∧ v = .int .i64 q ∧ inP p (fd s.size k : Nat) = true ∧ inP q (fd s.size (k + 1) : Nat) = true ∧ fbk (fM n key t T s.size) s.size k p q = R ∧ Pws wr ∧ Cip wr c g n key t T ∧ Chg g w wr) (fun _ _ i _ => (intOf i + 1).toNat)
  case atStart => exact ⟨10, a, b, by decide, by go_num, rfl, rfl, HI.out.1, HI.out.2, HR.out, HP.out.drewN _, HC.out.drewN _, (Chg.refl _ _).drewN _⟩
  case round =>
    obtain ⟨k, p, q, hk, rfl, rfl, rfl, i2, i3, hfb, q1, q2, q3⟩ := hrel
    have Q1 := Lib.hid q1
    have Q2 := Lib.hid q2
    have Q3 := Lib.hid q3
    clear q1 q2 q3
    cases k with
    | zero =>
      have hz : ((0 : Nat) : Int) - 1 = -1 := rfl
      have hb2 := inP_le i2
      have hb3 := inP_le i3
      have HFB := Lib.hid (show (p, q) = R from hfb)
      have HJ2 := Lib.hid (HJ.out p q wr Q1.out (by omega) (by omega))
      clear hb2 hb3 i2 i3 hfb
      rw [hz]
      go_wp2_with (go_at_call 29; refine HJ2.out.mono ?_; rintro e w1 ⟨rfl, h1⟩; have H1 := Lib.hid h1; clear h1)
      go_ret2
      exact ⟨by rw [HE.out, ← HFB.out]; rfl, Q2.out.keep H1.out, Q3.out.thenBelow H1.out⟩
    | succ k =>
      have hz : ((k + 1 : Nat) : Int) - 1 = (k : Nat) := by omega
      have hki : (k : Int) ≤ 9 := by omega
      have hb2 := inP_le i2
      have HI3 := Lib.hid (show inP q (fd s.size k : Nat) = true by rw [← fd_two]; exact i3)
      have HI2 := Lib.hid i2
      have HFB := Lib.hid (show fbk (fM n key t T s.size) s.size k (sV q (fM n key t T s.size k p) (fd s.size k : Nat)) p = R from hfb)
      obtain ⟨x, rfl⟩ := Int.eq_ofNat_of_zero_le hb2.1
      have HMK2 := Lib.hid (HMK.out k x (by omega) (by omega) wr Q1.out Q2.out)
      rw [show (fmk n key t T s.size k x : Int) = fM n key t T s.size k (x : Int) from rfl] at HMK2
      have HMI := Lib.hid (HM.out k x)
      have HSK := Lib.hid (HSZ.out k (by omega) wr)
      have HKL := Lib.hid (show k ≤ 10 by omega)
      generalize fM n key t T s.size k (x : Int) = y at *
      have HZ := Lib.hid (show fd s.size k = fd s.size k from rfl)
      obtain ⟨z, hz2⟩ : ∃ z, fd s.size k = z := ⟨_, rfl⟩
      rw [hz2] at HFB HSK
      have HZZ := Lib.hid hz2
      clear hb2 i2 i3 hfb hz2 HZ
      rw [hz]
      go_wp2_with (first | (go_at_call 22; refine HSK.out.mono ?_; rintro e w1 ⟨rfl, rfl⟩) | (go_at_call 24; refine HMK2.out.mono ?_; rintro e w2 ⟨rfl, h1, h2⟩; have H1 := Lib.hid h1; have H2 := Lib.hid h2; have HP2 := Lib.hid (Q1.out.cip Q2.out HN.out h2); clear h1 h2) | (go_at_call 30; refine (xsub_any q y (z : Nat) w2 HP2.out).mono ?_; rintro e w3 ⟨rfl, h3⟩; have H3 := Lib.hid h3; clear h3))
      go_roundw
      case rel => exact ⟨k, _, _, HKL.out, by go_num, rfl, rfl, by rw [← HZZ.out]; exact sV_in HI3.out HMI.out, HI2.out, HFB.out, HP2.out.keep H3.out, H1.out.keep H3.out, (Q3.out.trans H2.out).thenBelow H3.out⟩
      case measure => simp [intOf]
end Go.Proofs.YtniaelaolmjkaaaDoor
/- Mathematics of layer 10: what is encrypted is decrypted. -/
namespace Go.Proofs.YtniaelaolmjkaaaDoor
open Go.RowKit

theorem vE_dig {s : ByteArray} (h1 : 1 ≤ s.size) (h2 : s.size ≤ 16) (hd : s.data.toList.all isDig = true) : vE s = 0 := by
  unfold vE
  rw [if_neg (by omega), if_neg (by omega)]
  have hf : faultOf s.data.toList = 0 := fault_ok hd (by rw [Array.length_toList]; show s.size ≤ 999; omega)
  have ha := acc_lt s hd s.size
  have ht := ten_le s.size (by omega)
  unfold dnE
  rw [if_neg (by rw [hf]; decide), if_neg (by omega), if_neg (by omega)]
theorem dig_vE {s : ByteArray} (h : vE s = 0) : s.data.toList.all isDig = true := by
  unfold vE at h
  by_cases h0 : s.size = 0
  · rw [if_pos h0] at h; cases h
  · rw [if_neg h0] at h
    by_cases h1 : 16 < s.size
    · rw [if_pos h1] at h; cases h
    · rw [if_neg h1] at h
      by_cases hf : faultOf s.data.toList = 0
      · exact (fault_zero hf).1
      · unfold dnE at h; rw [if_pos hf] at h; exact absurd h hf
theorem vE_four {s : ByteArray} (h1 : 1 ≤ s.size) (h2 : s.size ≤ 16) (h : vE s ≠ 0) : vE s = 4 := by
  by_cases hd : s.data.toList.all isDig = true
  · exact absurd (vE_dig h1 h2 hd) h
  · unfold vE
    rw [if_neg (by omega), if_neg (by omega)]
    have hf : faultOf s.data.toList = 4 := by unfold faultOf; rw [if_neg hd]
    unfold dnE
    rw [hf, if_pos (by decide)]
theorem lo_hi (s : ByteArray) : loS s ++ hiS s = s := by
  unfold loS hiS
  rw [ByteArray.extract_append_extract, Nat.zero_min, Nat.max_eq_right (Nat.div_le_self _ _)]
  exact ByteArray.extract_zero_size
theorem lo_size {s : ByteArray} : (loS s).size = fd s.size 0 := by show (s.extract 0 (s.size / 2)).size = s.size / 2; rw [ByteArray.size_extract]; omega
theorem hi_size {s : ByteArray} : (hiS s).size = fd s.size 1 := by show (s.extract (s.size / 2) s.size).size = s.size - s.size / 2; rw [ByteArray.size_extract]; omega
theorem dig_cat (a b : ByteArray) : (a ++ b).data.toList.all isDig = (a.data.toList.all isDig && b.data.toList.all isDig) := by
  rw [ByteArray.data_append, Array.toList_append, List.all_append]
/-- all right: a text of digits -/
theorem hE_zero {s : ByteArray} (h1 : 6 ≤ s.size) (h2 : s.size ≤ 32) : hE s = 0 ↔ s.data.toList.all isDig = true := by
  have f0 := fd_le 0 h1 h2
  have f1 := fd_le 1 h1 h2
  constructor
  · intro h
    obtain ⟨a, b, _⟩ := halves_in h1 h2 h
    rw [← lo_hi s, dig_cat, dig_vE a, dig_vE b]; rfl
  · intro h
    rw [← lo_hi s, dig_cat, Bool.and_eq_true] at h
    unfold hE
    rw [if_neg (by omega), vE_dig (by rw [lo_size]; omega) (by rw [lo_size]; omega) h.1, if_neg (by decide)]
    exact vE_dig (by rw [hi_size]; omega) (by rw [hi_size]; omega) h.2
theorem hE_four {s : ByteArray} (h1 : 6 ≤ s.size) (h2 : s.size ≤ 32) (h : hE s ≠ 0) : hE s = 4 := by
  have f0 := fd_le 0 h1 h2
  have f1 := fd_le 1 h1 h2
  unfold hE at h ⊢
  rw [if_neg (by omega)] at h ⊢
  by_cases ha : vE (loS s) = 0
  · rw [if_neg (by rw [ha]; decide)] at h ⊢
    exact vE_four (by rw [hi_size]; omega) (by rw [hi_size]; omega) h
  · rw [if_pos ha] at h ⊢
    exact vE_four (by rw [lo_size]; omega) (by rw [lo_size]; omega) h
/-- two values in one text, and its halves -/
theorem fcat_in {N : Nat} {a b : Int} (h1 : 6 ≤ N) (h2 : N ≤ 32) (ha : inP a (fd N 0 : Nat) = true) (hb : inP b (fd N 1 : Nat) = true) :
    (fcat N a b).size = N ∧ hE (fcat N a b) = 0 ∧ vV (loS (fcat N a b)) = a ∧ vV (hiS (fcat N a b)) = b := by
  obtain ⟨e0, v0, s0, _⟩ := back_value ha
  obtain ⟨e1, v1, s1, _⟩ := back_value hb
  have z0 : (gV a (fd N 0 : Nat)).size = fd N 0 := by omega
  have z1 : (gV b (fd N 1 : Nat)).size = fd N 1 := by omega
  have q0 : fd N 0 = N / 2 := rfl
  have q1 : fd N 1 = N - N / 2 := rfl
  have hsz : (fcat N a b).size = N := by unfold fcat; rw [ByteArray.size_append, z0, z1]; omega
  have hl : loS (fcat N a b) = gV a (fd N 0 : Nat) := by
    unfold loS
    rw [hsz]
    exact ByteArray.extract_append_eq_left (by rw [z0, q0])
  have hh : hiS (fcat N a b) = gV b (fd N 1 : Nat) := by
    unfold hiS
    rw [hsz]
    exact ByteArray.extract_append_eq_right (by rw [z0, q0]) (by rw [z0, z1]; omega)
  refine ⟨hsz, ?_, by rw [hl, v0], by rw [hh, v1]⟩
  unfold hE
  rw [hsz, if_neg (by omega), hl, hh, e0, if_neg (by decide), e1]
theorem fcat_self {s : ByteArray} (h1 : 6 ≤ s.size) (h2 : s.size ≤ 32) (h : hE s = 0) : fcat s.size (vV (loS s)) (vV (hiS s)) = s := by
  obtain ⟨a, b, c, d, _⟩ := halves_in h1 h2 h
  unfold fcat
  rw [← c, ← d, (back_text a).2.1, (back_text b).2.1, lo_hi]
theorem encV_in {M : Nat → Int → Int} {s : ByteArray} (hM : MIn M s.size) (h1 : 6 ≤ s.size) (h2 : s.size ≤ 32) (h : hE s = 0) : (encV M s).size = s.size ∧ hE (encV M s) = 0 ∧ decV M (encV M s) = s := by
  obtain ⟨_, _, _, _, i0, i1⟩ := halves_in h1 h2 h
  obtain ⟨j0, j1⟩ := fgo_in hM i0 i1 10
  obtain ⟨k0, k1, k2, k3⟩ := fcat_in h1 h2 (show inP _ (fd s.size 0 : Nat) = true from j0) (show inP _ (fd s.size 1 : Nat) = true from j1)
  have e : encV M s = fcat s.size (fgo M s.size (vV (loS s)) (vV (hiS s)) 10).1 (fgo M s.size (vV (loS s)) (vV (hiS s)) 10).2 := if_pos h
  rw [e]
  refine ⟨k0, k1, ?_⟩
  unfold decV
  rw [if_pos k1, k0, k2, k3, fbk_fgo hM i0 i1 10]
  exact fcat_self h1 h2 h
theorem decV_in {M : Nat → Int → Int} {s : ByteArray} (hM : MIn M s.size) (h1 : 6 ≤ s.size) (h2 : s.size ≤ 32) (h : hE s = 0) : (decV M s).size = s.size ∧ hE (decV M s) = 0 ∧ encV M (decV M s) = s := by
  obtain ⟨_, _, _, _, i0, i1⟩ := halves_in h1 h2 h
  obtain ⟨j0, j1⟩ := fbk_in hM 10 _ _ i0 i1
  obtain ⟨k0, k1, k2, k3⟩ := fcat_in h1 h2 j0 j1
  have e : decV M s = fcat s.size (fbk M s.size 10 (vV (loS s)) (vV (hiS s))).1 (fbk M s.size 10 (vV (loS s)) (vV (hiS s))).2 := if_pos h
  rw [e]
  refine ⟨k0, k1, ?_⟩
  unfold encV
  rw [if_pos k1, k0, k2, k3, fgo_fbk hM 10 _ _ i0 i1]
  exact fcat_self h1 h2 h
end Go.Proofs.YtniaelaolmjkaaaDoor
/- AES reckoned in numbers: for small cases, by the kernel. Nothing here hangs on the program. -/
namespace Go.Proofs.YtniaelaolmjkaaaDoor

/-- byte j of a number -/
def nb (N j : Nat) : Nat := N / 256 ^ j % 256
theorem nb_lt (N j : Nat) : nb N j < 256 := Nat.mod_lt _ (by decide)
/-- bytes, as a number -/
def npack : Nat → (Nat → Nat) → Nat
  | 0, _ => 0
  | m + 1, f => npack m f + f m * 256 ^ m
theorem npack_lt {f : Nat → Nat} : ∀ m, By m f → npack m f < 256 ^ m
  | 0, _ => Nat.zero_lt_one
  | m + 1, h => by
    have ih := npack_lt m (fun j hj => h j (by omega))
    have h1 : f m * 256 ^ m ≤ 255 * 256 ^ m := Nat.mul_le_mul_right _ (by have := h m (Nat.lt_succ_self m); omega)
    have e : 256 ^ (m + 1) = 256 * 256 ^ m := by rw [Nat.pow_succ, Nat.mul_comm]
    show npack m f + f m * 256 ^ m < _
    rw [e]
    omega
theorem nb_lo {A B m j : Nat} (hj : j < m) : nb (A + B * 256 ^ m) j = nb A j := by
  unfold nb
  have e : B * 256 ^ m = B * 256 ^ (m - j - 1) * 256 * 256 ^ j := by
    rw [Nat.mul_assoc, Nat.mul_assoc, ← Nat.pow_succ', ← Nat.pow_add]
    congr 2
    omega
  rw [e, Nat.add_mul_div_right _ _ (Nat.pow_pos (by decide)), Nat.add_mul_mod_self_right]
theorem nb_hi {A B m j : Nat} (hA : A < 256 ^ m) : nb (A + B * 256 ^ m) (m + j) = nb B j := by
  unfold nb
  rw [Nat.pow_add, ← Nat.div_div_eq_div_mul, Nat.add_mul_div_right _ _ (Nat.pow_pos (by decide)), Nat.div_eq_of_lt hA, Nat.zero_add]
theorem nb_npack {f : Nat → Nat} : ∀ m, By m f → ∀ j, j < m → nb (npack m f) j = f j
  | 0, _, _, hj => absurd hj (Nat.not_lt_zero _)
  | m + 1, h, j, hj => by
    show nb (npack m f + f m * 256 ^ m) j = f j
    by_cases e : j < m
    · rw [nb_lo e]
      exact nb_npack m (fun i hi => h i (by omega)) j e
    · obtain rfl : j = m := by omega
      have := nb_hi (B := f j) (j := 0) (npack_lt j (fun i hi => h i (by omega)))
      rw [Nat.add_zero] at this
      rw [this]
      unfold nb
      rw [Nat.pow_zero, Nat.div_one, Nat.mod_eq_of_lt (h j (Nat.lt_succ_self j))]
/-- a number, reckoned before it is used -/
def force (x : Nat) (k : Nat → Nat) : Nat :=
  match x with
  | 0 => k 0
  | m + 1 => k (m + 1)
theorem force_eq (x : Nat) (k : Nat → Nat) : force x k = k x := by cases x <;> rfl
/-- the box of each byte -/
def sbN : Nat := 2869618975290639062594974519597816386035077209210385677284518162336985023502962151465775969507961862820568736543004676439868535775640188584098917533413284844376797297285941524888791401501466624530423689326528054213168201056672989590893583853414110162539122864583953358348775951166211353578440977400428507475679327181038682772945817200201960445064847785221508011893952350688324234443749897213621340677040612747745615276448919507935121141307752692835344166708617454322778699219895865633266409040561742768581056182730443599545881830075941537620590442514083341749674612746994879540562701631131184186066652929592955206755
def sbx (a : Nat) : Nat := nb sbN a
set_option maxRecDepth 100000 in
theorem sbx_box {a : Nat} (h : a < 256) : box a = sbx a := by
  have key : ∀ a, a < 256 → gbox (gfast a) = sbx a := by decide +kernel
  unfold box
  rw [ginv_fast h]
  exact key a h
def wN (n S i j : Nat) : Nat :=
  nb S (4 * (i - n) + j) ^^^ (if i % n = 0 then sbx (nb S (4 * (i - 1) + (j + 1) % 4)) ^^^ (if j = 0 then gpow 2 (i / n - 1) else 0)
    else if n = 8 ∧ i % 8 = 4 then sbx (nb S (4 * (i - 1) + j)) else nb S (4 * (i - 1) + j))
theorem wN_nxt (n S i j : Nat) : wN n S i j = nxt n (nb S) i j := by
  unfold wN nxt kt
  rw [sbx_box (nb_lt _ _), sbx_box (nb_lt _ _)]
def sGo (n : Nat) : Nat → Nat → Nat → Nat
  | 0, _, S => S
  | f + 1, i, S => force (S + npack 4 (wN n S i) * 256 ^ (4 * i)) fun S' => sGo n f (i + 1) S'
theorem sGo_ok {n : Nat} {key : Nat → Nat} (hn : 0 < n) : ∀ f i S, n ≤ i → i + f ≤ 4 * (n + 7) → S < 256 ^ (4 * i) → (∀ x, x < 4 * i → nb S x = ks n key x) → ∀ x, x < 4 * (i + f) → nb (sGo n f i S) x = ks n key x
  | 0, _, _, _, _, _, h, x, hx => h x hx
  | f + 1, i, S, hi, hf, hS, h, x, hx => by
    show nb (force _ _) x = _
    rw [force_eq]
    have hw : By 4 (wN n S i) := fun j hj => by
      rw [wN_nxt]
      exact nxt_by hn hi hj (fun y _ => nb_lt S y)
    have hlt : S + npack 4 (wN n S i) * 256 ^ (4 * i) < 256 ^ (4 * (i + 1)) := by
      have h1 := npack_lt 4 hw
      have h2 : npack 4 (wN n S i) * 256 ^ (4 * i) ≤ (256 ^ 4 - 1) * 256 ^ (4 * i) := Nat.mul_le_mul_right _ (by omega)
      have e : 256 ^ (4 * (i + 1)) = 256 ^ 4 * 256 ^ (4 * i) := by rw [← Nat.pow_add, show 4 + 4 * i = 4 * (i + 1) by omega]
      rw [e]
      have e2 : 256 ^ 4 * 256 ^ (4 * i) = (256 ^ 4 - 1) * 256 ^ (4 * i) + 256 ^ (4 * i) := by
        conv => lhs; rw [show (256 ^ 4 : Nat) = (256 ^ 4 - 1) + 1 by decide, Nat.add_mul, Nat.one_mul]
      omega
    refine sGo_ok hn f (i + 1) _ (by omega) (by omega) hlt (fun y hy => ?_) x (by omega)
    by_cases e : y < 4 * i
    · rw [nb_lo e]
      exact h y e
    · obtain ⟨j, rfl⟩ : ∃ j, y = 4 * i + j := ⟨y - 4 * i, by omega⟩
      have hj : j < 4 := by omega
      rw [nb_hi hS, nb_npack 4 hw j hj, wN_nxt, ks_next hn hi (by omega) hj]
      exact nxt_congr hn hi hj h
def ksN (n K : Nat) : Nat := sGo n (3 * n + 28) n K
theorem ksN_ok {n : Nat} {key : Nat → Nat} (hn : 0 < n) (hkey : By (4 * n) key) {x : Nat} (hx : x < 16 * (n + 7)) : nb (ksN n (npack (4 * n) key)) x = ks n key x :=
  sGo_ok hn (3 * n + 28) n _ (Nat.le_refl n) (by omega) (npack_lt _ hkey) (fun y hy => by rw [nb_npack _ hkey y hy, ks_key hy]) x (by omega)
def rN (n S r s : Nat) : Nat := npack 16 fun i => (if r < n + 6 then mixc (subs sbx 4 (nb s)) i else subs sbx 4 (nb s) i) ^^^ nb S (16 * r + i)
def eGo (n S : Nat) : Nat → Nat → Nat → Nat
  | 0, _, s => s
  | f + 1, r, s => force (rN n S r s) fun s' => eGo n S f (r + 1) s'
theorem subs_box (s : Nat) : subs sbx 4 (nb s) = subs box 4 (nb s) := funext fun _ => (sbx_box (nb_lt _ _)).symm
theorem rN_by (n S r s : Nat) : By 16 fun i => (if r < n + 6 then mixc (subs sbx 4 (nb s)) i else subs sbx 4 (nb s) i) ^^^ nb S (16 * r + i) := fun i hi => by
  have h1 : By 16 (subs sbx 4 (nb s)) := fun _ _ => nb_lt _ _
  refine xor8 ?_ (nb_lt _ _)
  split
  · exact mixc_by h1 i hi
  · exact h1 i hi
theorem eGo_ok {n S : Nat} {T b : Nat → Nat} (hS : ∀ x, x < 16 * (n + 7) → nb S x = T x) : ∀ f r s, r + f = n + 6 → (∀ i, i < 16 → nb s i = est n T b r i) → ∀ i, i < 16 → nb (eGo n S f (r + 1) s) i = est n T b (n + 6) i
  | 0, r, s, hr, h, i, hi => by
    obtain rfl : r = n + 6 := by omega
    exact h i hi
  | f + 1, r, s, hr, h, i, hi => by
    show nb (force _ _) i = _
    rw [force_eq]
    refine eGo_ok hS f (r + 1) _ (by omega) (fun j hj => ?_) i hi
    rw [show rN n S (r + 1) s = npack 16 _ from rfl, nb_npack 16 (rN_by n S (r + 1) s) j hj, subs_box, hS _ (by omega)]
    have hs : Eq16 (subs box 4 (nb s)) (subs box 4 (est n T b r)) := subs_congr box 4 h
    show _ = (if r + 1 < n + 6 then mixc (subs box 4 (est n T b r)) else subs box 4 (est n T b r)) j ^^^ T (16 * (r + 1) + j)
    by_cases e : r + 1 < n + 6
    · rw [if_pos e, if_pos e, mixc_congr hs j hj]
    · rw [if_neg e, if_neg e, hs j hj]
def encN (n K b : Nat) : Nat := force (ksN n K) fun S => force (npack 16 fun i => nb b i ^^^ nb S i) fun s => eGo n S (n + 6) 1 s
/-- a block encrypted, in numbers -/
theorem encN_ok {n : Nat} {key b : Nat → Nat} (hn : 0 < n) (hkey : By (4 * n) key) (hb : By 16 b) {i : Nat} (hi : i < 16) : enc n (ks n key) b i = nb (encN n (npack (4 * n) key) (npack 16 b)) i := by
  unfold encN
  rw [force_eq, force_eq]
  refine (eGo_ok (T := ks n key) (b := b) (fun x hx => ksN_ok hn hkey hx) (n + 6) 0 _ (by omega) (fun j hj => ?_) i hi).symm
  rw [nb_npack 16 (fun j _ => xor8 (nb_lt _ _) (nb_lt _ _)) j hj, nb_npack 16 hb j hj, ksN_ok hn hkey (by omega)]
  show _ = b j ^^^ ks n key (16 * 0 + j)
  rw [Nat.mul_zero, Nat.zero_add]
end Go.Proofs.YtniaelaolmjkaaaDoor
/- The laws' small case of layer 10, in numbers. -/
namespace Go.Proofs.YtniaelaolmjkaaaDoor
open Go.RowKit
def K0 (j : Nat) : Nat := [43, 126, 21, 22, 40, 174, 210, 166, 171, 247, 21, 136, 9, 207, 79, 60].getD j 0
theorem K0_by (n : Nat) : By n K0 := fun j _ => by
  have h : ∀ j, j < 16 → K0 j < 256 := by decide
  by_cases hj : j < 16
  · exact h j hj
  · unfold K0
    rw [List.getD_eq_getElem?_getD, List.getElem?_eq_none (by simp; omega)]; decide
abbrev T0 : Nat → Nat := fun _ => 0
theorem npack_congr {f g : Nat → Nat} : ∀ m, (∀ j, j < m → f j = g j) → npack m f = npack m g
  | 0, _ => rfl
  | m + 1, h => by unfold npack; rw [npack_congr m fun j hj => h j (by omega), h m (by omega)]
/-- the encrypted header -/
def H0 : Nat := 38892413336801614448466428564510614870
theorem head0 : encN 4 (npack (4 * 4) K0) (npack 16 (fhd 5 10 0)) = H0 := by decide +kernel
theorem fw10 : fw 10 = 3 := by decide +kernel
theorem msk_num (k x : Nat) (hk : k < 256) : fmk 4 K0 0 T0 10 k x = restN 100000 (nb (encN 4 (npack (4 * 4) K0) (npack 16 fun j => nb H0 j ^^^ finp 5 10 0 T0 k x 3 (16 + j)))) 8 := by
  have hp : By 32 (finp 5 10 0 T0 k x 3) := finp_by (t := 0) (w := 3) (by decide) (by decide) (by decide) (fun j hj => absurd hj (Nat.not_lt_zero _)) hk
  have e : fd 10 k = 5 := by unfold fd; split <;> rfl
  unfold fmk
  rw [e, fw10]
  show restN 100000 (xch (enc 4 (ks 4 K0)) (finp 5 10 0 T0 k x 3) 2) 8 = _
  refine restN_congr 8 fun i hi => ?_
  have h1 : ∀ j, j < 16 → xch (enc 4 (ks 4 K0)) (finp 5 10 0 T0 k x 3) 1 j = nb H0 j := fun j hj => by
    show enc 4 (ks 4 K0) (fun j => 0 ^^^ finp 5 10 0 T0 k x 3 (16 * 0 + j)) j = _
    have e1 : npack 16 (fun j => 0 ^^^ finp 5 10 0 T0 k x 3 (16 * 0 + j)) = npack 16 (fhd 5 10 0) := npack_congr 16 fun j hj => by
      rw [Nat.zero_xor, Nat.mul_zero, Nat.zero_add]
      unfold finp
      rw [if_pos hj]
    rw [encN_ok (by decide) (K0_by _) (fun j hj => xor8 (by decide) (hp _ (by omega))) hj, e1, head0]
  show enc 4 (ks 4 K0) (fun j => xch (enc 4 (ks 4 K0)) (finp 5 10 0 T0 k x 3) 1 j ^^^ finp 5 10 0 T0 k x 3 (16 * 1 + j)) i = _
  have e2 : npack 16 (fun j => xch (enc 4 (ks 4 K0)) (finp 5 10 0 T0 k x 3) 1 j ^^^ finp 5 10 0 T0 k x 3 (16 * 1 + j)) = npack 16 fun j => nb H0 j ^^^ finp 5 10 0 T0 k x 3 (16 + j) := npack_congr 16 fun j hj => by rw [h1 j hj]
  rw [encN_ok (by decide) (K0_by _) (fun j hj => xor8 (by rw [h1 j hj]; exact nb_lt _ _) (hp _ (by omega))) (by omega), e2]
theorem msk0 : fM 4 K0 0 T0 10 0 56789 = 60536 := by
  show ((fmk 4 K0 0 T0 10 0 56789 : Nat) : Int) = _
  rw [msk_num _ _ (by decide)]
  decide +kernel
theorem msk1 : fM 4 K0 0 T0 10 1 61770 = 55248 := by
  show ((fmk 4 K0 0 T0 10 1 61770 : Nat) : Int) = _
  rw [msk_num _ _ (by decide)]
  decide +kernel
theorem msk2 : fM 4 K0 0 T0 10 2 12037 = 94867 := by
  show ((fmk 4 K0 0 T0 10 2 12037 : Nat) : Int) = _
  rw [msk_num _ _ (by decide)]
  decide +kernel
theorem msk3 : fM 4 K0 0 T0 10 3 56637 = 82370 := by
  show ((fmk 4 K0 0 T0 10 3 56637 : Nat) : Int) = _
  rw [msk_num _ _ (by decide)]
  decide +kernel
theorem msk4 : fM 4 K0 0 T0 10 4 94407 = 87727 := by
  show ((fmk 4 K0 0 T0 10 4 94407 : Nat) : Int) = _
  rw [msk_num _ _ (by decide)]
  decide +kernel
theorem msk5 : fM 4 K0 0 T0 10 5 44364 = 90358 := by
  show ((fmk 4 K0 0 T0 10 5 44364 : Nat) : Int) = _
  rw [msk_num _ _ (by decide)]
  decide +kernel
theorem msk6 : fM 4 K0 0 T0 10 6 84765 = 39560 := by
  show ((fmk 4 K0 0 T0 10 6 84765 : Nat) : Int) = _
  rw [msk_num _ _ (by decide)]
  decide +kernel
theorem msk7 : fM 4 K0 0 T0 10 7 83924 = 48570 := by
  show ((fmk 4 K0 0 T0 10 7 83924 : Nat) : Int) = _
  rw [msk_num _ _ (by decide)]
  decide +kernel
theorem msk8 : fM 4 K0 0 T0 10 8 33335 = 40410 := by
  show ((fmk 4 K0 0 T0 10 8 33335 : Nat) : Int) = _
  rw [msk_num _ _ (by decide)]
  decide +kernel
theorem msk9 : fM 4 K0 0 T0 10 9 24334 = 44149 := by
  show ((fmk 4 K0 0 T0 10 9 24334 : Nat) : Int) = _
  rw [msk_num _ _ (by decide)]
  decide +kernel
theorem go0 : fgo (fM 4 K0 0 T0 10) 10 1234 56789 0 = (1234, 56789) := rfl
theorem go1 : fgo (fM 4 K0 0 T0 10) 10 1234 56789 1 = (56789, 61770) := by
  unfold fgo
  rw [go0]
  show (_, aV 1234 (fM 4 K0 0 T0 10 0 56789) _) = _
  rw [msk0]
  decide +kernel
theorem go2 : fgo (fM 4 K0 0 T0 10) 10 1234 56789 2 = (61770, 12037) := by
  unfold fgo
  rw [go1]
  show (_, aV 56789 (fM 4 K0 0 T0 10 1 61770) _) = _
  rw [msk1]
  decide +kernel
theorem go3 : fgo (fM 4 K0 0 T0 10) 10 1234 56789 3 = (12037, 56637) := by
  unfold fgo
  rw [go2]
  show (_, aV 61770 (fM 4 K0 0 T0 10 2 12037) _) = _
  rw [msk2]
  decide +kernel
theorem go4 : fgo (fM 4 K0 0 T0 10) 10 1234 56789 4 = (56637, 94407) := by
  unfold fgo
  rw [go3]
  show (_, aV 12037 (fM 4 K0 0 T0 10 3 56637) _) = _
  rw [msk3]
  decide +kernel
theorem go5 : fgo (fM 4 K0 0 T0 10) 10 1234 56789 5 = (94407, 44364) := by
  unfold fgo
  rw [go4]
  show (_, aV 56637 (fM 4 K0 0 T0 10 4 94407) _) = _
  rw [msk4]
  decide +kernel
theorem go6 : fgo (fM 4 K0 0 T0 10) 10 1234 56789 6 = (44364, 84765) := by
  unfold fgo
  rw [go5]
  show (_, aV 94407 (fM 4 K0 0 T0 10 5 44364) _) = _
  rw [msk5]
  decide +kernel
theorem go7 : fgo (fM 4 K0 0 T0 10) 10 1234 56789 7 = (84765, 83924) := by
  unfold fgo
  rw [go6]
  show (_, aV 44364 (fM 4 K0 0 T0 10 6 84765) _) = _
  rw [msk6]
  decide +kernel
theorem go8 : fgo (fM 4 K0 0 T0 10) 10 1234 56789 8 = (83924, 33335) := by
  unfold fgo
  rw [go7]
  show (_, aV 84765 (fM 4 K0 0 T0 10 7 83924) _) = _
  rw [msk7]
  decide +kernel
theorem go9 : fgo (fM 4 K0 0 T0 10) 10 1234 56789 9 = (33335, 24334) := by
  unfold fgo
  rw [go8]
  show (_, aV 83924 (fM 4 K0 0 T0 10 8 33335) _) = _
  rw [msk8]
  decide +kernel
theorem go10 : fgo (fM 4 K0 0 T0 10) 10 1234 56789 10 = (24334, 77484) := by
  unfold fgo
  rw [go9]
  show (_, aV 33335 (fM 4 K0 0 T0 10 9 24334) _) = _
  rw [msk9]
  decide +kernel
def s0 : ByteArray := ⟨#[48, 49, 50, 51, 52, 53, 54, 55, 56, 57]⟩
def s1 : ByteArray := ⟨#[50, 52, 51, 51, 52, 55, 55, 52, 56, 52]⟩
theorem s0_lo : loS s0 = ⟨#[48, 49, 50, 51, 52]⟩ := by decide +kernel
theorem s0_hi : hiS s0 = ⟨#[53, 54, 55, 56, 57]⟩ := by decide +kernel
theorem s0_lv : vV (loS s0) = 1234 := by rw [s0_lo]; decide +kernel
theorem s0_hv : vV (hiS s0) = 56789 := by rw [s0_hi]; decide +kernel
theorem s0_ok : hE s0 = 0 := (hE_zero (by decide) (by decide)).2 (by decide)
theorem small_enc : encV (fM 4 K0 0 T0 10) s0 = s1 := by
  unfold encV
  rw [if_pos s0_ok, s0_lv, s0_hv, show s0.size = 10 from rfl, go10]
  decide +kernel
theorem small_dec : hE s1 = 0 ∧ decV (fM 4 K0 0 T0 10) s1 = s0 := by
  have h := encV_in (M := fM 4 K0 0 T0 10) (s := s0) (fun k x => fM_in (by decide) (by decide) k x) (by decide) (by decide) s0_ok
  rw [small_enc] at h
  exact h.2
end Go.Proofs.YtniaelaolmjkaaaDoor
