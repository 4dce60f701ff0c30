/- PanChecks. -/
import Derived.Test.YtgpgleojkldndaaDoorLaw11a
import Derived.Test.YtgpgleojkldndaaDoorDigL
import Derived.Test.YtgpgleojkldndaaDoorOrdOps
import Derived.Test.YtgpgleojkldndaaDoorByte1
namespace Go.Proofs.YtgpgleojkldndaaDoor
open Go.RowKit

/-- of ten last digits one is right -/
theorem isV_last {s : ByteArray} (hz : shp s = true) (k d : Nat) (hk : s.size = k + 1) (hd : d < 10) : isV (s.extract 0 k ++ ⟨#[chr (48 + d)]⟩) = decide (luhnOf (s.extract 0 k) = (d : Int)) := by
  obtain ⟨hall, h1, h2⟩ := shp_parts hz
  have hzk : (s.extract 0 k).size = k := extract_size s k hk
  have hpd : (s.extract 0 k).data.toList.all isDig = true := by
    rw [ext_list, List.drop_zero, Nat.sub_zero]
    rw [List.all_eq_true] at hall ⊢
    exact fun x hx => hall x (List.mem_of_mem_take hx)
  generalize s.extract 0 k = t at *
  show isV (snoc t (chr (48 + d))) = _
  have hc : (chr (48 + d)).toNat = 48 + d := chr_toNat _ (by omega)
  have hs1 : (snoc t (chr (48 + d))).size = k + 1 := by rw [snoc_size, hzk]
  have hsd : (snoc t (chr (48 + d))).data.toList.all isDig = true := oct_snoc t d hpd hd
  have e1 : (snoc t (chr (48 + d))).extract 0 k = t := by
    apply ba_ext
    rw [ext_list, snoc_list, List.drop_zero, Nat.sub_zero]
    exact List.take_left' (by rw [Array.length_toList]; exact hzk)
  have hlt : k < (snoc t (chr (48 + d))).size := by omega
  have e2 : (snoc t (chr (48 + d)))[k] = chr (48 + d) := by
    have h := at_list (snoc t (chr (48 + d))) k hlt
    rw [snoc_list, List.getElem?_append_right (by rw [Array.length_toList]; exact Nat.le_of_eq hzk), Array.length_toList, show k - t.data.size = 0 by have : t.data.size = k := hzk; omega] at h
    exact (Option.some.inj h).symm
  unfold isV
  rw [shp_of hsd (by omega) (by omega), Bool.true_and, valid_last _ k hs1 (by omega)]
  rw [e1, e2, decide_eq_true (fault_ok hpd (by rw [Array.length_toList]; show t.size ≤ 999; omega)), hc]
  rw [show isDig (chr (48 + d)) = true by unfold isDig; rw [hc]; simp; omega, Bool.true_and, Bool.true_and, decide_eq_decide]
  omega

/-- how many of the last digits below d are right -/
def cntI (lu : Int) (d : Nat) : Int := if lu < d then 1 else 0
theorem cntI_in (lu : Int) (d : Nat) : 0 ≤ cntI lu d ∧ cntI lu d ≤ 1 := by unfold cntI; split <;> omega
theorem cntI_yes {lu : Int} {d : Nat} (h : lu = d) : cntI lu (d + 1) = cntI lu d + 1 := by
  unfold cntI; rw [if_pos (by omega), if_neg (by omega)]; rfl
theorem cntI_no {lu : Int} {d : Nat} (h : ¬ lu = d) : cntI lu (d + 1) = cntI lu d := by
  unfold cntI
  by_cases hx : lu < (d : Int)
  · rw [if_pos hx, if_pos (by omega)]
  · rw [if_neg hx, if_neg (by omega)]

theorem luhn_in (t : ByteArray) : 0 ≤ luhnOf t ∧ luhnOf t ≤ 9 := by unfold luhnOf; omega

--DEFS ck
def ckG (s t : ByteArray) (k d : Nat) (cr : UInt8) (bb : Bool) : Nat → Value → World → Prop
  | 0, v, _ => v = .string s
  | 1, v, _ => v = .string s
  | 2, v, _ => v = .int .i64 ((s.size : Nat) : Int)
  | 3, v, _ => v = .int .i64 (k : Nat)
  | 4, v, _ => v = .string t
  | 5, v, _ => v = .int .u8 ((48 + d : Nat) : Int)
  | 6, v, w => ∃ B, v = .slice (some ⟨B, 0, none⟩) 1 1 ∧ w.cell? ⟨B, 0, none⟩ = some (.int .u8 ((48 + d : Nat) : Int))
  | 7, v, _ => v = .string ⟨#[cr]⟩
  | 8, v, _ => v = .string (t ++ ⟨#[cr]⟩)
  | 9, v, _ => v = .bool bb
  | _, _, _ => True
theorem ckG_stays (s t : ByteArray) (k d : Nat) (cr : UInt8) (bb : Bool) : ∀ i v w w', ckG s t k d cr bb i v w → Below w.heap.size w w' → ckG s t k d cr bb i v w'
  | 0, _, _, _, h, _ => h
  | 1, _, _, _, h, _ => h
  | 2, _, _, _, h, _ => h
  | 3, _, _, _, h, _ => h
  | 4, _, _, _, h, _ => h
  | 5, _, _, _, h, _ => h
  | 6, v, w, w', h_, hb => by
    obtain ⟨B, h1, h2⟩ := h_; exact ⟨B, h1, (hb.cell (block_lt h2)).trans h2⟩
  | 7, _, _, _, h, _ => h
  | 8, _, _, _, h, _ => h
  | 9, _, _, _, h, _ => h
  | _ + 10, _, _, _, _, _ => trivial
--END DEFS ck
set_option maxRecDepth 100000 in
set_option maxHeartbeats 3200000 in
theorem checks11_any (s : ByteArray) (w : World) (hs : s.size ≤ maxLen) (hw : PT w) :
    Calls Tryd.prog 7 #[.string s] w fun e w' => e = .returned (.bool true) ∧ Below w.heap.size w w' := by
  have HW := Lib.hid hw
  have HS := Lib.hid hs
  clear hw
  unfold maxLen at hs
  cases hz : shp s with
  | false =>
    have HC := Lib.hid (show cutE s = 10 by unfold cutE; rw [hz]; rfl)
    have HV := Lib.hid (show isV s = false by unfold isV; rw [hz]; rfl)
    clear hz
    go_enter Tryd.func7, Tryd.ntmps7
    go_wp2_with fail
    refine (small11_any _ HW.out).mono ?_
    rintro e w1 ⟨rfl, hb1⟩
    have HB1 := Lib.hid hb1
    clear hb1
    go_wp2_with fail
    refine (cut11_any s _ HS.out (HW.out.keep HB1.out)).mono ?_
    rintro e w2 ⟨rfl, hb2⟩
    have HB2 := Lib.hid (HB1.out.trans (hb2.mono HB1.out.size))
    clear hb2
    rw [HC.out]
    go_wp2_with fail
    refine (isc_any s _ HS.out (HW.out.keep HB2.out)).mono ?_
    rintro e w3 ⟨rfl, hb3⟩
    have HB3 := Lib.hid (HB2.out.trans (hb3.mono HB2.out.size))
    clear hb3
    rw [HV.out]
    go_wp2_with fail
    go_ret
    exact ⟨rfl, HB3.out⟩
  | true =>
    have HC := Lib.hid (show cutE s = 0 by unfold cutE; rw [hz]; rfl)
    obtain ⟨hall, h1, h2⟩ := shp_parts hz
    obtain ⟨k, hk⟩ : ∃ k, s.size = k + 1 := ⟨s.size - 1, by omega⟩
    have hzk : (s.extract 0 k).size = k := extract_size s k hk
    have HL := Lib.hid (show ∀ d, d < 10 → isV (s.extract 0 k ++ ⟨#[chr (48 + d)]⟩) = decide (luhnOf (s.extract 0 k) = (d : Int)) from fun d hd => isV_last hz k d hk hd)
    have hlu := luhn_in (s.extract 0 k)
    have hk18 : k ≤ 18 := by omega
    have HSU := Lib.hid (show ∀ W : World, (binOp .sub 3 (.int .i64 ((s.size : Nat) : Int)) (.int .i64 1)).run Tryd.prog W = .ok (.int .i64 (k : Nat)) W from fun W => by
      go_simp
      rw [IntWalk.i64_in _ (by omega)])
    have HLN := Lib.hid (show ∀ W : World, (Builtin.len_ #[9] 3 #[.string s]).run Tryd.prog W = .ok (.int .i64 ((s.size : Nat) : Int)) W from fun W => by go_simp)
    have hks : k ≤ s.size := by omega
    have HSL := Lib.hid (show ∀ W : World, (Instr.sliceAt 9 (.string s) none (some (.int .i64 (k : Nat))) none).run Tryd.prog W = .ok (.string (s.extract 0 k)) W from fun W => run_str_lo s k hks W)
    clear hz hall h1 h2 hk hks
    generalize s.extract 0 k = t at *
    generalize luhnOf t = lu at *
    go_enter Tryd.func7, Tryd.ntmps7
    go_wp2_with fail
    refine (small11_any _ HW.out).mono ?_
    rintro e w1 ⟨rfl, hb1⟩
    have HB1 := Lib.hid hb1
    clear hb1
    go_wp2_with fail
    refine (cut11_any s _ HS.out (HW.out.keep HB1.out)).mono ?_
    rintro e w2 ⟨rfl, hb2⟩
    have HB2 := Lib.hid (HB1.out.trans (hb2.mono HB1.out.size))
    clear hb2
    rw [HC.out]
    generalize pB s = a at *
    generalize pM s = b at *
    generalize pL s = c at *
    go_wp2_with fail
    go_loopw [8, 9] (fun n i wr => ∃ d : Nat, d ≤ 10 ∧ i = .int .u8 (48 + d : Nat) ∧ n = .int .i64 (cntI lu d) ∧ Below w.heap.size w wr) (fun _ i _ => 58 - (intOf i).toNat)
    case atStart => exact ⟨0, by omega, rfl, by unfold cntI; rw [if_neg (by omega)], HB2.out⟩
    case round =>
      obtain ⟨d, hd, rfl, rfl, hb⟩ := hrel
      have HB3 := Lib.hid hb
      clear hb
      by_cases hlt : d < 10
      · have hle : decide (((48 + d : Nat) : Int) ≤ 57) = true := by simp; omega
        obtain ⟨bb, hbb⟩ : ∃ bb, decide (lu = (d : Int)) = bb := ⟨_, rfl⟩
        obtain ⟨cr, hcr⟩ : ∃ cr, chr (48 + d) = cr := ⟨_, rfl⟩
        have HCV := Lib.hid (show ∀ (W : World) (B : Nat), W.cell? ⟨B, 0, none⟩ = some (.int .u8 ((48 + d : Nat) : Int)) → (convert 33 9 (.slice (some ⟨B, 0, none⟩) 1 1)).run Tryd.prog W = .ok (.string ⟨#[cr]⟩) W from
          fun W B h => by rw [← hcr]; exact conv1c _ W B h)
        have HS := HSU
        have HN := HLN
        have HLX := HL
        have HL := HSL
        have HA := Lib.hid (show ∀ W : World, (binOp .add 9 (.string t) (.string ⟨#[cr]⟩)).run Tryd.prog W = .ok (.string (t ++ ⟨#[cr]⟩)) W from fun W => by
          go_simp
          omega)
        have hzt : (t ++ (⟨#[cr]⟩ : ByteArray)).size ≤ maxLen := by rw [ByteArray.size_append, hzk]; show k + 1 ≤ _; unfold maxLen; omega
        have HI := Lib.hid (show ∀ W : World, Below wr.drew.heap.size wr.drew W → Calls Tryd.prog 12 #[.string (t ++ ⟨#[cr]⟩)] W fun e w' => e = .returned (.bool bb) ∧ Below W.heap.size W w' from fun W hW =>
          (isc_any _ W hzt ((HW.out.keep HB3.out).keep (below_of_drew hW))).mono fun e w' h => ⟨by rw [h.1, ← hcr, HLX.out d hlt, hbb], h.2⟩)
        have HBB := Lib.hid hbb
        have HK := Lib.hid hzk
        clear hcr hzt hbb hzk
        go_wp2_with fail
        refine wp_region_any (by kernel_rfl) ?_
        change wpAny _ _ _ _ _ _ _ wr.drew
        refine ord.wpAny_ord [[], [], [1], [2], [0, 3], [], [5], [6], [4, 7], [8]] [(0, 30), (1, 31), (2, 32), (3, 33), (4, 34), (5, 35), (6, 36), (7, 37), (8, 38), (9, 39)] (ckG s t k d cr bb) (by kernel_rfl) (by kernel_rfl) (ckG_stays _ _ _ _ _ _) ((ord.steps_cons ?_ (ord.steps_cons ?_ (ord.steps_cons ?_ (ord.steps_cons ?_ (ord.steps_cons ?_ (ord.steps_cons ?_ (ord.steps_cons ?_ (ord.steps_cons ?_ (ord.steps_cons ?_ (ord.steps_cons ?_ ord.steps_nil))))))))))) ?_
        --STEPS ck
        · intro o ho x w hb hG
          obtain rfl := Option.some.inj ho
          clear ho
          refine Or.inl ⟨ord.want0 rfl, ?_⟩
          exact ord.makes_move rfl ⟨Below.refl _ _, rfl⟩
        · intro o ho x w hb hG
          obtain rfl := Option.some.inj ho
          clear ho
          refine Or.inl ⟨ord.want0 rfl, ?_⟩
          exact ord.makes_move rfl ⟨Below.refl _ _, rfl⟩
        · intro o ho x w hb hG
          obtain rfl := Option.some.inj ho
          clear ho
          have h31 : x 1 = .string s := hG (1, 31) (List.mem_of_getElem? (i := 1) rfl) rfl
          refine Or.inl ⟨ord.want0 rfl, ?_⟩
          exact ord.makes_len rfl rfl h31 (HN.out w) ⟨Below.refl _ _, rfl⟩
        · intro o ho x w hb hG
          obtain rfl := Option.some.inj ho
          clear ho
          have h32 : x 2 = .int .i64 ((s.size : Nat) : Int) := hG (2, 32) (List.mem_of_getElem? (i := 2) rfl) rfl
          refine Or.inl ⟨ord.want0 rfl, ?_⟩
          exact ord.makes_bin rfl h32 rfl (by exact HS.out w) ⟨Below.refl _ _, rfl⟩
        · intro o ho x w hb hG
          obtain rfl := Option.some.inj ho
          clear ho
          have h30 : x 0 = .string s := hG (0, 30) (List.mem_of_getElem? (i := 0) rfl) rfl
          have h33 : x 3 = .int .i64 (k : Nat) := hG (3, 33) (List.mem_of_getElem? (i := 3) rfl) rfl
          refine Or.inl ⟨ord.want0 rfl, ?_⟩
          exact ord.makes_slice rfl h30 (rfl) (congrArg some h33) (rfl) (by exact HL.out w) ⟨Below.refl _ _, rfl⟩
        · intro o ho x w hb hG
          obtain rfl := Option.some.inj ho
          clear ho
          refine Or.inl ⟨ord.want0 rfl, ?_⟩
          exact ord.makes_move rfl ⟨Below.refl _ _, rfl⟩
        · intro o ho x w hb hG
          obtain rfl := Option.some.inj ho
          clear ho
          have h35 : x 5 = .int .u8 ((48 + d : Nat) : Int) := hG (5, 35) (List.mem_of_getElem? (i := 5) rfl) rfl
          refine Or.inl ⟨ord.want0 rfl, ?_⟩
          exact ord.makes_build1 rfl h35 (run_byte1 w _) ⟨(Below.refl _ _).alloc (Nat.le_refl _) _, _, rfl, (World.cell?_alloc_at _ _ _ _ rfl).trans rfl⟩
        · intro o ho x w hb hG
          obtain rfl := Option.some.inj ho
          clear ho
          have h36 : ckG s t k d cr bb 6 (x 6) w := hG (6, 36) (List.mem_of_getElem? (i := 6) rfl) rfl
          refine Or.inl ⟨ord.want0 rfl, ?_⟩
          obtain ⟨B, hv, hc⟩ := h36
          exact ord.makes_conv rfl hv (HCV.out w B hc) ⟨Below.refl _ _, rfl⟩
        · intro o ho x w hb hG
          obtain rfl := Option.some.inj ho
          clear ho
          have h34 : x 4 = .string t := hG (4, 34) (List.mem_of_getElem? (i := 4) rfl) rfl
          have h37 : x 7 = .string ⟨#[cr]⟩ := hG (7, 37) (List.mem_of_getElem? (i := 7) rfl) rfl
          refine Or.inl ⟨ord.want0 rfl, ?_⟩
          exact ord.makes_bin rfl h34 h37 (by exact HA.out w) ⟨Below.refl _ _, rfl⟩
        · intro o ho x w hb hG
          obtain rfl := Option.some.inj ho
          clear ho
          have h38 : x 8 = .string (t ++ ⟨#[cr]⟩) := hG (8, 38) (List.mem_of_getElem? (i := 8) rfl) rfl
          refine Or.inl ⟨ord.want0 rfl, ?_⟩
          exact ord.makes_call1 Tryd.func12 (by kernel_rfl) (by kernel_rfl) rfl h38 (HI.out w hb) (fun e w' h => ⟨_, h.1, h.2, rfl⟩)
        --END STEPS ck
        · intro x w6 hb hG
          have e0 : x 9 = .bool bb := hG (9, 39) (List.mem_of_getElem? (i := 9) rfl)
          clear hG
          have HB6 := Lib.hid (HB3.out.trans ((below_of_drew hb).mono HB3.out.size))
          clear hb
          simp only [ord.puts, ord.put', List.set_cons_zero, List.set_cons_succ, if_true]
          rw [e0]
          clear e0
          have hci := cntI_in lu d
          cases bb with
          | true =>
            have HCY := Lib.hid (cntI_yes (of_decide_eq_true HBB.out))
            generalize cntI lu d = ci at *
            go_wp2_with fail
            go_roundw
            case rel => exact ⟨d + 1, by omega, by go_num, by rw [HCY.out], HB6.out⟩
            case measure => simp [intOf]; omega
          | false =>
            have HCY := Lib.hid (cntI_no (of_decide_eq_false HBB.out))
            generalize cntI lu d = ci at *
            go_wp2_with fail
            go_roundw
            case rel => exact ⟨d + 1, by omega, by go_num, by rw [HCY.out], HB6.out⟩
            case measure => simp [intOf]; omega
      · obtain rfl : d = 10 := by omega
        have hif : cntI lu 10 = 1 := by unfold cntI; exact if_pos (by omega)
        rw [hif]
        go_wp2_with fail
        go_ret
        exact ⟨rfl, HB3.out⟩
end Go.Proofs.YtgpgleojkldndaaDoor
