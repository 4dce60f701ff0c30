/- The reference of layer 11: a version's digits. -/
import Derived.Test.YtgpgleojkldndaaDoorPanR
import Derived.Test.YtgpgleojkldndaaDoorOrd
import Derived.Test.YtgpgleojkldndaaDoorOrdOps
import Derived.Test.YtgpgleojkldndaaDoorByte1
namespace Go.Proofs.YtgpgleojkldndaaDoor
open Go.RowKit

theorem text_low (n : Nat) (h : n < 10) (w : World) :
    Calls Tryd.prog 31 #[.int .i64 n] w fun e w' => e = .returned (.string (itoaB n)) ∧ Below w.heap.size w w' := by
  have HI := Lib.hid (show itoaB n = ⟨#[chr (48 + n)]⟩ by rw [itoaB_nat, Lib.decDigits_one h]; rfl)
  have hcv := conv1 (48 + n) w
  rw [show ((48 : Int) + n).toNat = 48 + n by omega] at hcv
  go_enter Tryd.func31, Tryd.ntmps31
  go_wp2_with fail
  go_ret
  exact ⟨by rw [HI.out]; rfl, (Below.refl w.heap.size w).alloc (Nat.le_refl _) _⟩

--DEFS tx
def txG (n q r : Nat) (tn : ByteArray) (cr : UInt8) : Nat → Value → World → Prop
  | 0, v, _ => v = .int .i64 (n : Nat)
  | 1, v, _ => v = .int .i64 (q : Nat)
  | 2, v, _ => v = .string tn
  | 3, v, _ => v = .int .i64 (n : Nat)
  | 4, v, _ => v = .int .i64 (r : Nat)
  | 5, v, _ => v = .int .i64 ((48 + r : Nat) : Int)
  | 6, v, _ => v = .int .u8 ((48 + r : Nat) : Int)
  | 7, v, w => ∃ B, v = .slice (some ⟨B, 0, none⟩) 1 1 ∧ w.cell? ⟨B, 0, none⟩ = some (.int .u8 ((48 + r : Nat) : Int))
  | 8, v, _ => v = .string ⟨#[cr]⟩
  | 9, v, _ => v = .string (tn ++ ⟨#[cr]⟩)
  | 10, v, _ => v = .string (tn ++ ⟨#[cr]⟩)
  | _, _, _ => True
theorem txG_stays (n q r : Nat) (tn : ByteArray) (cr : UInt8) : ∀ i v w w', txG n q r tn cr i v w → Below w.heap.size w w' → txG n q r tn cr i v w'
  | 0, _, _, _, h, _ => h
  | 1, _, _, _, h, _ => h
  | 2, _, _, _, h, _ => h
  | 3, _, _, _, h, _ => h
  | 4, _, _, _, h, _ => h
  | 5, _, _, _, h, _ => h
  | 6, _, _, _, h, _ => h
  | 7, v, w, w', h_, hb => by
    obtain ⟨B, h1, h2⟩ := h_; exact ⟨B, h1, (hb.cell (block_lt h2)).trans h2⟩
  | 8, _, _, _, h, _ => h
  | 9, _, _, _, h, _ => h
  | 10, _, _, _, h, _ => h
  | _ + 11, _, _, _, _, _ => trivial
--END DEFS tx
set_option maxRecDepth 100000 in
set_option maxHeartbeats 1600000 in
theorem text_step (n q r : Nat) (cr : UInt8) (h10 : 10 ≤ n) (hn : n < 1000) (hq : n / 10 = q) (hr : n % 10 = r) (hcr : chr (48 + r) = cr) (tn : ByteArray) (ht : tn.size ≤ 100)
    (hT : ∀ W, Calls Tryd.prog 31 #[.int .i64 (q : Nat)] W fun e w' => e = .returned (.string tn) ∧ Below W.heap.size W w') (w : World) :
    Calls Tryd.prog 31 #[.int .i64 n] w fun e w' => e = .returned (.string (tn ++ ⟨#[cr]⟩)) ∧ Below w.heap.size w w' := by
  have hr9 : r ≤ 9 := by omega
  have HT := Lib.hid hT
  have HCV := Lib.hid (show ∀ (W : World) (B : Nat), W.cell? ⟨B, 0, none⟩ = some (.int .u8 ((48 + r : Nat) : Int)) → (convert 33 9 (.slice (some ⟨B, 0, none⟩) 1 1)).run Tryd.prog W = .ok (.string ⟨#[cr]⟩) W from
    fun W B h => by rw [← hcr]; exact conv1c _ W B h)
  have hq2 : (n : Int).tdiv 10 = (q : Nat) := by rw [Int.tdiv_eq_ediv_of_nonneg (by omega)]; omega
  have hr2 : (n : Int).tmod 10 = (r : Nat) := by rw [Int.tmod_eq_emod_of_nonneg (by omega)]; omega
  have HQ := Lib.hid (show ∀ W : World, (binOp .quo 3 (.int .i64 (n : Nat)) (.int .i64 10)).run Tryd.prog W = .ok (.int .i64 (q : Nat)) W from fun W => by
    go_simp
    exact IntWalk.i64_in _ (by omega))
  have HR := Lib.hid (show ∀ W : World, (binOp .rem 3 (.int .i64 (n : Nat)) (.int .i64 10)).run Tryd.prog W = .ok (.int .i64 (r : Nat)) W from fun W => by go_simp)
  have HS := Lib.hid (show ∀ W : World, (binOp .add 3 (.int .i64 48) (.int .i64 (r : Nat))).run Tryd.prog W = .ok (.int .i64 ((48 + r : Nat) : Int)) W from fun W => by
    go_simp
    exact IntWalk.i64_in _ (by omega))
  have HC := Lib.hid (show ∀ W : World, (convert 3 5 (.int .i64 ((48 + r : Nat) : Int))).run Tryd.prog W = .ok (.int .u8 ((48 + r : Nat) : Int)) W from fun W => by
    go_simp
    exact IntWalk.u8_in _ (by omega))
  have hz : (tn ++ (⟨#[cr]⟩ : ByteArray)).size ≤ 101 := by rw [ByteArray.size_append]; show tn.size + 1 ≤ 101; omega
  have HA := Lib.hid (show ∀ W : World, (binOp .add 9 (.string tn) (.string ⟨#[cr]⟩)).run Tryd.prog W = .ok (.string (tn ++ ⟨#[cr]⟩)) W from fun W => by
    go_simp
    omega)
  clear hT hq hr hcr hq2 hr2 hz ht
  have hn10 : ¬ (n : Int) < 10 := by omega
  go_enter Tryd.func31, Tryd.ntmps31
  go_wp2_with fail
  refine wp_region_any (by kernel_rfl) ?_
  change wpAny _ _ _ _ _ _ _ w.drew
  refine ord.wpAny_ord [[], [0], [1], [], [3], [4], [5], [6], [7], [2, 8], [9]] [(0, 10), (1, 11), (2, 12), (3, 13), (4, 14), (5, 15), (6, 16), (7, 17), (8, 18), (9, 19), (10, 2)] (txG n q r tn cr) (by kernel_rfl) (by kernel_rfl) (txG_stays _ _ _ _ _) ((ord.steps_cons ?_ (ord.steps_cons ?_ (ord.steps_cons ?_ (ord.steps_cons ?_ (ord.steps_cons ?_ (ord.steps_cons ?_ (ord.steps_cons ?_ (ord.steps_cons ?_ (ord.steps_cons ?_ (ord.steps_cons ?_ (ord.steps_cons ?_ ord.steps_nil)))))))))))) ?_
  --STEPS tx
  · intro o ho x w hb hG
    obtain rfl := Option.some.inj ho
    clear ho
    refine Or.inl ⟨ord.want0 rfl, ?_⟩
    exact ord.makes_move rfl ⟨Below.refl _ _, rfl⟩
  · intro o ho x w hb hG
    obtain rfl := Option.some.inj ho
    clear ho
    have h10 : x 0 = .int .i64 (n : Nat) := hG (0, 10) (List.mem_of_getElem? (i := 0) rfl) rfl
    refine Or.inl ⟨ord.want0 rfl, ?_⟩
    exact ord.makes_bin rfl h10 rfl (by exact HQ.out w) ⟨Below.refl _ _, rfl⟩
  · intro o ho x w hb hG
    obtain rfl := Option.some.inj ho
    clear ho
    have h11 : x 1 = .int .i64 (q : Nat) := hG (1, 11) (List.mem_of_getElem? (i := 1) rfl) rfl
    refine Or.inl ⟨ord.want0 rfl, ?_⟩
    exact ord.makes_call1 Tryd.func31 (by kernel_rfl) (by kernel_rfl) rfl h11 (HT.out w) (fun e w' h => ⟨_, h.1, h.2, rfl⟩)
  · intro o ho x w hb hG
    obtain rfl := Option.some.inj ho
    clear ho
    refine Or.inl ⟨ord.want0 rfl, ?_⟩
    exact ord.makes_move rfl ⟨Below.refl _ _, rfl⟩
  · intro o ho x w hb hG
    obtain rfl := Option.some.inj ho
    clear ho
    have h13 : x 3 = .int .i64 (n : Nat) := hG (3, 13) (List.mem_of_getElem? (i := 3) rfl) rfl
    refine Or.inl ⟨ord.want0 rfl, ?_⟩
    exact ord.makes_bin rfl h13 rfl (by exact HR.out w) ⟨Below.refl _ _, rfl⟩
  · intro o ho x w hb hG
    obtain rfl := Option.some.inj ho
    clear ho
    have h14 : x 4 = .int .i64 (r : Nat) := hG (4, 14) (List.mem_of_getElem? (i := 4) rfl) rfl
    refine Or.inl ⟨ord.want0 rfl, ?_⟩
    exact ord.makes_bin rfl rfl h14 (by exact HS.out w) ⟨Below.refl _ _, rfl⟩
  · intro o ho x w hb hG
    obtain rfl := Option.some.inj ho
    clear ho
    have h15 : x 5 = .int .i64 ((48 + r : Nat) : Int) := hG (5, 15) (List.mem_of_getElem? (i := 5) rfl) rfl
    refine Or.inl ⟨ord.want0 rfl, ?_⟩
    exact ord.makes_conv rfl h15 (HC.out w) ⟨Below.refl _ _, rfl⟩
  · intro o ho x w hb hG
    obtain rfl := Option.some.inj ho
    clear ho
    have h16 : x 6 = .int .u8 ((48 + r : Nat) : Int) := hG (6, 16) (List.mem_of_getElem? (i := 6) rfl) rfl
    refine Or.inl ⟨ord.want0 rfl, ?_⟩
    exact ord.makes_build1 rfl h16 (run_byte1 w _) ⟨(Below.refl _ _).alloc (Nat.le_refl _) _, _, rfl, (World.cell?_alloc_at _ _ _ _ rfl).trans rfl⟩
  · intro o ho x w hb hG
    obtain rfl := Option.some.inj ho
    clear ho
    have h17 : txG n q r tn cr 7 (x 7) w := hG (7, 17) (List.mem_of_getElem? (i := 7) rfl) rfl
    refine Or.inl ⟨ord.want0 rfl, ?_⟩
    obtain ⟨B, hv, hc⟩ := h17
    exact ord.makes_conv rfl hv (HCV.out w B hc) ⟨Below.refl _ _, rfl⟩
  · intro o ho x w hb hG
    obtain rfl := Option.some.inj ho
    clear ho
    have h12 : x 2 = .string tn := hG (2, 12) (List.mem_of_getElem? (i := 2) rfl) rfl
    have h18 : x 8 = .string ⟨#[cr]⟩ := hG (8, 18) (List.mem_of_getElem? (i := 8) rfl) rfl
    refine Or.inl ⟨ord.want0 rfl, ?_⟩
    exact ord.makes_bin rfl h12 h18 (by exact HA.out w) ⟨Below.refl _ _, rfl⟩
  · intro o ho x w hb hG
    obtain rfl := Option.some.inj ho
    clear ho
    have h19 : x 9 = .string (tn ++ ⟨#[cr]⟩) := hG (9, 19) (List.mem_of_getElem? (i := 9) rfl) rfl
    refine Or.inl ⟨ord.want0 rfl, ?_⟩
    exact ord.makes_assign rfl ⟨Below.refl _ _, h19⟩
  --END STEPS tx
  · intro x w6 hb hG
    have e0 : x 10 = .string (tn ++ ⟨#[cr]⟩) := hG (10, 2) (List.mem_of_getElem? (i := 10) rfl)
    clear hG
    simp only [ord.puts, ord.put', List.set_cons_zero, List.set_cons_succ, if_true]
    rw [e0]
    go_wp2_with fail
    go_ret
    exact ⟨rfl, (Below.refl w.heap.size w).drew.trans hb⟩

theorem rtext11_any {v : Int} (h1 : 0 ≤ v) (h2 : v ≤ 999) (w : World) :
    Calls Tryd.prog 31 #[.int .i64 v] w fun e w' => e = .returned (.string (itoaB v)) ∧ Below w.heap.size w w' := by
  obtain ⟨n, rfl⟩ : ∃ n : Nat, v = n := ⟨v.toNat, by omega⟩
  by_cases ha : n < 10
  · exact text_low n ha w
  · have step : ∀ m : Nat, 10 ≤ m → itoaB m = itoaB (m / 10 : Nat) ++ ⟨#[chr (48 + m % 10)]⟩ := fun m hm => by
      rw [itoaB_nat, itoaB_nat, Lib.decDigits, dif_neg (by omega)]
      apply ba_ext
      rw [app_list]
      rfl
    by_cases hb : n < 100
    · rw [step n (by omega)]
      exact text_step n (n / 10) (n % 10) _ (by omega) (by omega) rfl rfl rfl _ (Nat.le_trans (itoaB_size _ (by omega) (by omega)) (by decide)) (fun W => text_low (n / 10) (by omega) W) w
    · rw [step n (by omega)]
      refine text_step n (n / 10) (n % 10) _ (by omega) (by omega) rfl rfl rfl _ (Nat.le_trans (itoaB_size _ (by omega) (by omega)) (by decide)) (fun W => ?_) w
      rw [step (n / 10) (by omega)]
      exact text_step (n / 10) (n / 10 / 10) (n / 10 % 10) _ (by omega) (by omega) rfl rfl rfl _ (Nat.le_trans (itoaB_size _ (by omega) (by omega)) (by decide)) (fun W => text_low (n / 10 / 10) (by omega) W) W
end Go.Proofs.YtgpgleojkldndaaDoor
