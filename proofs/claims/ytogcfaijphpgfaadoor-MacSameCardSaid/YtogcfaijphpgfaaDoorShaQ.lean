/- Contracts of package sha: the words of a block. -/
import Derived.Test.YtogcfaijphpgfaaDoorShaW
namespace Go.Proofs.YtogcfaijphpgfaaDoor
open Go.RowKit
theorem rowV_new {W : World} {c : Array Value} {t : TypeId} {n g : Nat} {f : Nat → Value} (hc : c = (valsL n f).toArray) (hg : g = W.heap.size) : RowV (W.alloc (.cells c t)) g t n f := by
  subst hg; exact rowV_made W c t n f hc
/-- p[l:] of an array of bytes behind a pointer -/
theorem sl_from (t : TypeId) (n g o l : Nat) (hu : Tryd.prog.underlying t = some (.array n 5)) (hl : l < n) (li : Int) (el : li = (l : Nat)) (w : World) :
    (Instr.sliceAt t (.pointer (some ⟨g, o, none⟩)) (some (.int .i64 li)) none none).run Tryd.prog w = .ok (.slice (some ⟨g, o + l, none⟩) (n - l) (n - l)) w := by
  subst el
  have he : Tryd.prog.elem t = 5 := by simp [Program.elem, hu]
  have hn : Tryd.prog.arrayLen t = n := by simp [Program.arrayLen, hu]
  rw [run_sliceAt_array_l (h0 := by omega) (h1 := by rw [hn]; omega) (ht := by rw [hn, he]; exact hu), he, sizeU8]
  show Result.ok (slicedAt ⟨g, o, none⟩ _ _ _ 1) w = _
  rw [hn, Int.toNat_natCast]
  unfold slicedAt
  rw [if_neg (by omega), Go.WideShapes.add_plain, Nat.mul_one]
/-- the first k words -/
def wz (b : Nat → Nat) (k j : Nat) : Nat := if j < k then be b (4 * j) else 0
theorem wz_step (b : Nat → Nat) (k j x : Nat) (hx : be b (4 * k) = x) : (if j = k then Value.int .u32 (x : Nat) else .int .u32 (wz b k j : Nat)) = .int .u32 (wz b (k + 1) j : Nat) := by
  subst hx
  unfold wz
  by_cases e : j = k
  · subst e; rw [if_pos rfl, if_pos (Nat.lt_succ_self _)]
  · rw [if_neg e]
    by_cases h : j < k
    · rw [if_pos h, if_pos (by omega)]
    · rw [if_neg h, if_neg (by omega)]
theorem wn_step (b : Nat → Nat) (n j x : Nat) (hx : x = (wn b n n + ls0 (wn b n (n + 1)) + wn b n (n + 9) + ls1 (wn b n (n + 14))) % 4294967296) : (if j = 16 + n then Value.int .u32 (x : Nat) else .int .u32 (wn b n j : Nat)) = .int .u32 (wn b (n + 1) j : Nat) := by
  subst hx
  rw [wn]
  by_cases e : j = 16 + n
  · rw [if_pos e, if_pos e]
  · rw [if_neg e, if_neg e]
theorem size64 : (Tryd.prog.info? 76).map (·.size) = some 64 := by kernel_rfl
/-- a result that is an array -/
theorem results_cellV {fn : Func} {p : Tmp} {ty : TypeId} (h : fn.results = #[.cell p ty]) (tmps : Array Value) (w : World) (b o n : Nat) (f : Nat → Value) (hp : tmps.getD p undef = .pointer (some ⟨b, o, none⟩)) (hc : ArrV w b o n f)
    (d : TypeDesc) (hu : Tryd.prog.underlying ty = some d) (hd : d.isRow = true) (hi : (Tryd.prog.info? ty).map (·.size) = some n) : (results fn tmps).run Tryd.prog w = .ok (.agg (valsL n f).toArray) w := by
  have hp' : tmps[p]?.getD undef = .pointer (some ⟨b, o, none⟩) := by simpa using hp
  have hl := run_loadVar_mid (P := Tryd.prog) w b o ty (valsL n f) d hc.range hu hd (by rw [valsL_length]; exact hi)
  simp [results, h, hp', asAddr, hl]
set_option maxRecDepth 100000 in
set_option maxHeartbeats 1600000 in
theorem stretch_any (g : Nat) (b : Nat → Nat) (w : World) (hb : By 64 b) (hB : Arr w g 8 64 b) :
    Calls Tryd.prog 43 #[.pointer (some ⟨g, 0, none⟩)] w fun e w' => e = .returned (.agg (valsL 64 fun j => .int .u32 (wn b 48 j : Nat)).toArray) ∧ Below w.heap.size w w' := by
  have HB := Lib.hid hB
  have HY := Lib.hid hb
  clear hB hb
  go_enter Tryd.func43, Tryd.ntmps43
  go_wp2_with fail
  go_loopw [10] (fun v wr => ∃ k : Nat, k ≤ 16 ∧ v = .int .i64 k ∧ RowV wr w.heap.size 76 64 (fun _ => .int .u32 0) ∧ RowV wr (w.heap.size + 1) 76 64 (fun j => .int .u32 (wz b k j : Nat)) ∧ Arr wr g 8 64 b ∧ Below w.heap.size w wr) (fun v _ => 16 - (intOf v).toNat)
  case atStart =>
    refine ⟨0, by decide, rfl, ?_, rowV_new rfl (by simp), (HB.out.alloc _).alloc _, ((Below.refl _ _).alloc (Nat.le_refl _) _).alloc (by simp) _⟩
    refine RowV.alloc ?_ _
    exact rowV_new rfl rfl
  case round =>
    obtain ⟨k, hk, rfl, h1, h2, h3, h4⟩ := hrel
    have H1 := Lib.hid h1
    have H2 := Lib.hid h2
    have H3 := Lib.hid h3
    have H4 := Lib.hid h4
    clear h1 h2 h3 h4
    by_cases hlt : k < 16
    · have hsl := sl_from 40 64 g 8 (4 * k) Tryd.underlying40 (by omega) ((k : Int) * 4) (by omega)
      have HS := Lib.hid (((H3.out.sub (a := 4 * k) (m := 64 - 4 * k) (by omega) rfl).slB (fun j hj => HY.out _ (by omega))))
      have hki : (k : Int) < 16 := by omega
      go_wp2_with fail
      refine (wordAt_any _ _ _ _ _ HS.out (by omega) (by omega)).mono ?_
      rintro e w2 ⟨rfl, n2, rfl⟩
      obtain ⟨x, hx⟩ : ∃ x, be b (4 * k) = x := ⟨_, rfl⟩
      have hx2 : be (fun j => b (4 * k + j)) 0 = x := hx
      rw [hx2]
      have HX := Lib.hid hx
      clear hx hx2
      have hc := (H2.out.drewN n2).cell (i := k) (by omega)
      have hf := (H2.out.drewN n2).frozen (i := k) (by omega)
      have HR := Lib.hid ((H2.out.drewN n2).set k (.int .u32 (x : Nat)))
      have HZ := Lib.hid ((H1.out.drewN n2).setOther (a := ⟨w.heap.size + 1, k, none⟩) (by simp) (.int .u32 (x : Nat)))
      have HW := Lib.hid ((drawn H4.out n2).setCell (p := ⟨w.heap.size + 1, k, none⟩) (Nat.le_succ _) (.int .u32 (x : Nat)))
      have HA := Lib.hid ((H3.out.drewN n2).setOther (a := ⟨w.heap.size + 1, k, none⟩) (by have := HB.out.lt (by decide); show g ≠ w.heap.size + 1; omega) (.int .u32 (x : Nat)))
      go_wp2_with fail
      go_roundw
      case rel => exact ⟨k + 1, by omega, by go_num, HZ.out, HR.out.congr fun j _ => wz_step b k j x HX.out, HA.out, HW.out⟩
      case measure => simp [intOf]; omega
    · obtain rfl : k = 16 := by omega
      have HR := Lib.hid (H2.out.congr (f := fun j => .int .u32 (wn b 0 j : Nat)) fun j _ => rfl)
      clear H2 hk hlt
      rw [show ((16 : Nat) : Int) = 16 from rfl]
      go_wp2_with fail
      generalize wr = wq at *
      go_loopw [5] (fun v wr => ∃ n : Nat, n ≤ 48 ∧ v = .int .i64 ((16 + n : Nat) : Int) ∧ RowV wr w.heap.size 76 64 (fun _ => .int .u32 0) ∧ RowV wr (w.heap.size + 1) 76 64 (fun j => .int .u32 (wn b n j : Nat)) ∧ Below w.heap.size w wr) (fun v _ => 64 - (intOf v).toNat)
      case atStart => exact ⟨0, Nat.zero_le _, rfl, H1.out, HR.out, H4.out⟩
      case round =>
        obtain ⟨n, hn, rfl, h1, h2, h3⟩ := hrel
        have G1 := Lib.hid h1
        have G2 := Lib.hid h2
        have G3 := Lib.hid h3
        clear h1 h2 h3 HR H1 H4
        by_cases hlt : n < 48
        · obtain ⟨t, ht⟩ : ∃ t, 16 + n = t := ⟨_, rfl⟩
          have ht1 : 16 ≤ t := by omega
          have ht2 : t < 64 := by omega
          have ci2 := G2.out.cell (i := t - 2) (by omega)
          have ci15 := G2.out.cell (i := t - 15) (by omega)
          have ci16 := G2.out.cell (i := t - 16) (by omega)
          have ci7 := G2.out.cell (i := t - 7) (by omega)
          have l2 := wn_lt HY.out n (t - 2)
          have l15 := wn_lt HY.out n (t - 15)
          have l16 := wn_lt HY.out n (t - 16)
          have l7 := wn_lt HY.out n (t - 7)
          have HE := Lib.hid (show (wn b n (t - 16) + ls0 (wn b n (t - 15)) + wn b n (t - 7) + ls1 (wn b n (t - 2))) % 4294967296 = (wn b n n + ls0 (wn b n (n + 1)) + wn b n (n + 9) + ls1 (wn b n (n + 14))) % 4294967296 by
            rw [show t - 16 = n by omega, show t - 15 = n + 1 by omega, show t - 7 = n + 9 by omega, show t - 2 = n + 14 by omega])
          have HN := Lib.hid ht
          have hf := G2.out.frozen (i := t) (by omega)
          have hc := G2.out.cell (i := t) (by omega)
          rw [ht]
          clear ht hn hlt
          generalize wn b n (t - 2) = x2 at *
          generalize wn b n (t - 15) = x15 at *
          generalize wn b n (t - 16) = x16 at *
          generalize wn b n (t - 7) = x7 at *
          go_wp2_with fail
          go_quiet (fail)
          have ci16 : (wr.drewN nq).cell? ⟨w.heap.size + 1, t - 16, none⟩ = some (.int .u32 (x16 : Nat)) := ci16
          have ci7 : (wr.drewN nq).cell? ⟨w.heap.size + 1, t - 7, none⟩ = some (.int .u32 (x7 : Nat)) := ci7
          have hc : (wr.drewN nq).cell? ⟨w.heap.size + 1, t, none⟩ = some (.int .u32 (wn b n t : Nat)) := hc
          have hf : (wr.drewN nq).frozen? ⟨w.heap.size + 1, t, none⟩ = false := hf
          have K1 := Lib.hid (G1.out.drewN nq)
          have K2 := Lib.hid (G2.out.drewN nq)
          have K3 := Lib.hid (drawn G3.out nq)
          clear G1 G2 G3
          generalize wr.drewN nq = w2 at *
          go_wp2_with fail
          refine (right_any 7 x15 _ l15 (by decide) (by decide)).mono ?_
          rintro e w3 ⟨rfl, rfl⟩
          go_wp2_with fail
          refine (right_any 18 x15 _ l15 (by decide) (by decide)).mono ?_
          rintro e w3 ⟨rfl, rfl⟩
          have hxa := u32_xor_nat _ _ (rr_lt (n := 7) l15) (rr_lt (n := 18) l15)
          have hxb : bits BinOp.xor .u32 ((rr 7 x15 ^^^ rr 18 x15 : Nat) : Int) ((x15 : Int) / 8) = ((ls0 x15 : Nat) : Int) := u32_xor_nat _ (x15 / 8) (xor32 (rr_lt l15) (rr_lt l15)) (by omega)
          have hl0 := ls0_lt l15
          generalize rr 7 x15 ^^^ rr 18 x15 = a1 at *
          generalize rr 7 x15 = a2 at *
          generalize rr 18 x15 = a3 at *
          generalize ls0 x15 = s0 at *
          go_wp2_with fail
          refine (right_any 17 x2 _ l2 (by decide) (by decide)).mono ?_
          rintro e w3 ⟨rfl, rfl⟩
          go_wp2_with fail
          refine (right_any 19 x2 _ l2 (by decide) (by decide)).mono ?_
          rintro e w3 ⟨rfl, rfl⟩
          have hxc := u32_xor_nat _ _ (rr_lt (n := 17) l2) (rr_lt (n := 19) l2)
          have hxd : bits BinOp.xor .u32 ((rr 17 x2 ^^^ rr 19 x2 : Nat) : Int) ((x2 : Int) / 1024) = ((ls1 x2 : Nat) : Int) := u32_xor_nat _ (x2 / 1024) (xor32 (rr_lt l2) (rr_lt l2)) (by omega)
          have hl1 := ls1_lt l2
          generalize rr 17 x2 ^^^ rr 19 x2 = a4 at *
          generalize rr 17 x2 = a5 at *
          generalize rr 19 x2 = a6 at *
          generalize ls1 x2 = s1 at *
          go_wp2_with fail
          go_region
          have hval : ((x16 : Int) + (s0 : Int) + (x7 : Int) + (s1 : Int)) % 4294967296 = (((x16 + s0 + x7 + s1) % 4294967296 : Nat) : Int) := by omega
          rw [hval]
          have R2 := Lib.hid ((K2.out.set t (.int .u32 ((x16 + s0 + x7 + s1) % 4294967296 : Nat))).drew)
          have R1 := Lib.hid ((K1.out.setOther (a := ⟨w.heap.size + 1, t, none⟩) (by simp) (.int .u32 ((x16 + s0 + x7 + s1) % 4294967296 : Nat))).drew)
          have R3 := Lib.hid (drawn (K3.out.setCell (p := ⟨w.heap.size + 1, t, none⟩) (Nat.le_succ _) (.int .u32 ((x16 + s0 + x7 + s1) % 4294967296 : Nat))) 1)
          have R3' := Lib.hid (show Below w.heap.size w (w2.setCell ⟨w.heap.size + 1, t, none⟩ (.int .u32 ((x16 + s0 + x7 + s1) % 4294967296 : Nat))).drew from R3.out)
          clear R3
          generalize (w2.setCell ⟨w.heap.size + 1, t, none⟩ (.int .u32 ((x16 + s0 + x7 + s1) % 4294967296 : Nat))).drew = w3 at *
          go_wp2_with fail
          go_roundw
          case rel => exact ⟨n + 1, by have := HN.out; omega, by rw [← HN.out]; go_num, R1.out, R2.out.congr fun j _ => by
              rw [← HN.out]
              exact wn_step b n j _ HE.out, R3'.out⟩
          case measure => have := HN.out; simp [intOf]; omega
        · obtain rfl : n = 48 := by omega
          have HL := Lib.hid G2.out.arr.range
          have HL1 := Lib.hid G1.out.arr
          clear hn hlt G1 G2
          go_wp2_with (first | (refine wpList_load_mid rfl 76 (.tmp 3) rfl (w.heap.size + 1) 0 rfl _ _ HL.out Tryd.underlying76 rfl (by rw [valsL_length]; exact size64) ?_) |
            (refine wpList_store_mid rfl 76 (.tmp 2) (.tmp 66) rfl w.heap.size 0 (valsL 64 fun j => Value.int .u32 (wn b 48 j : Nat)).toArray rfl rfl (HL1.out.there' _) (by rw [List.size_toArray, valsL_length]; exact size64) (all_oneCell_toArray (vals_one fun _ _ => rfl)) ?_))
          have HR := Lib.hid (HL1.out.setCells (fun j => Value.int .u32 (wn b 48 j : Nat)))
          have HC := Lib.hid (setCells_below w wr w.heap.size w.heap.size (Nat.le_refl _) (valsL 64 fun j => Value.int .u32 (wn b 48 j : Nat)) 0 G3.out)
          refine bodyPost_ret (results_cellV rfl _ _ w.heap.size 0 64 _ rfl HR.out _ Tryd.underlying76 rfl size64) rfl ⟨rfl, HC.out⟩
end Go.Proofs.YtogcfaijphpgfaaDoor
