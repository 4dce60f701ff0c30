/- 9 texts in one, in their order: what the cards need of them. -/
import Derived.Test.YthmlcmlpmolmoaaGreatDoorSk7
namespace Go.Proofs.YthmlcmlpmolmoaaGreatDoor
set_option maxRecDepth 100000
open Go.RowKit
theorem text13_low (n : Nat) (h : n < 10) (w : World) :
    Calls Tryz.prog 76 #[.int .i64 n] w fun e w' => e = .returned (.string (itoaB n)) ∧ Below w.heap.size w w' := by
  have HI := Lib.hid (show itoaB n = ⟨#[chr (48 + n)]⟩ by rw [itoaB_nat, Lib.decDigits_one h]; rfl)
  have hcv := conv1 (48 + n) w
  rw [show ((48 : Int) + n).toNat = 48 + n by omega] at hcv
  go_enter Tryz.func76, Tryz.ntmps76
  go_wp2_with fail
  go_ret
  exact ⟨by rw [HI.out]; rfl, (Below.refl w.heap.size w).alloc (Nat.le_refl _) _⟩
def tyG (n q r : Nat) (tn : ByteArray) (cr : UInt8) : Nat → Value → World → Prop
  | 0, v, _ => v = .int .i64 (n : Nat)
  | 1, v, _ => v = .int .i64 (q : Nat)
  | 2, v, _ => v = .string tn
  | 3, v, _ => v = .int .i64 (n : Nat)
  | 4, v, _ => v = .int .i64 (r : Nat)
  | 5, v, _ => v = .int .i64 ((48 + r : Nat) : Int)
  | 6, v, _ => v = .int .u8 ((48 + r : Nat) : Int)
  | 7, v, w => ∃ B, v = .slice (some ⟨B, 0, none⟩) 1 1 ∧ w.cell? ⟨B, 0, none⟩ = some (.int .u8 ((48 + r : Nat) : Int))
  | 8, v, _ => v = .string ⟨#[cr]⟩
  | 9, v, _ => v = .string (tn ++ ⟨#[cr]⟩)
  | 10, v, _ => v = .string (tn ++ ⟨#[cr]⟩)
  | _, _, _ => True
theorem tyG_stays (n q r : Nat) (tn : ByteArray) (cr : UInt8) : ∀ i v w w', tyG n q r tn cr i v w → Below w.heap.size w w' → tyG n q r tn cr i v w'
  | 0, _, _, _, h, _ => h
  | 1, _, _, _, h, _ => h
  | 2, _, _, _, h, _ => h
  | 3, _, _, _, h, _ => h
  | 4, _, _, _, h, _ => h
  | 5, _, _, _, h, _ => h
  | 6, _, _, _, h, _ => h
  | 7, v, w, w', h_, hb => by
    obtain ⟨B, h1, h2⟩ := h_; exact ⟨B, h1, (hb.cell (block_lt h2)).trans h2⟩
  | 8, _, _, _, h, _ => h
  | 9, _, _, _, h, _ => h
  | 10, _, _, _, h, _ => h
  | _ + 11, _, _, _, _, _ => trivial
set_option maxRecDepth 100000 in
set_option maxHeartbeats 1600000 in
theorem text13_step (n q r : Nat) (cr : UInt8) (h10 : 10 ≤ n) (hn : n < 1000) (hq : n / 10 = q) (hr : n % 10 = r) (hcr : chr (48 + r) = cr) (tn : ByteArray) (ht : tn.size ≤ 100)
    (hT : ∀ W, Calls Tryz.prog 76 #[.int .i64 (q : Nat)] W fun e w' => e = .returned (.string tn) ∧ Below W.heap.size W w') (w : World) :
    Calls Tryz.prog 76 #[.int .i64 n] w fun e w' => e = .returned (.string (tn ++ ⟨#[cr]⟩)) ∧ Below w.heap.size w w' := by
  have hr9 : r ≤ 9 := by omega
  have HT := Lib.hid hT
  have HCV := Lib.hid (show ∀ (W : World) (B : Nat), W.cell? ⟨B, 0, none⟩ = some (.int .u8 ((48 + r : Nat) : Int)) → (convert 22 9 (.slice (some ⟨B, 0, none⟩) 1 1)).run Tryz.prog W = .ok (.string ⟨#[cr]⟩) W from
    fun W B h => by rw [← hcr]; exact conv1c _ W B h)
  have hq2 : (n : Int).tdiv 10 = (q : Nat) := by rw [Int.tdiv_eq_ediv_of_nonneg (by omega)]; omega
  have hr2 : (n : Int).tmod 10 = (r : Nat) := by rw [Int.tmod_eq_emod_of_nonneg (by omega)]; omega
  have HQ := Lib.hid (show ∀ W : World, (binOp .quo 3 (.int .i64 (n : Nat)) (.int .i64 10)).run Tryz.prog W = .ok (.int .i64 (q : Nat)) W from fun W => by
    go_simp
    exact IntWalk.i64_in _ (by omega))
  have HR := Lib.hid (show ∀ W : World, (binOp .rem 3 (.int .i64 (n : Nat)) (.int .i64 10)).run Tryz.prog W = .ok (.int .i64 (r : Nat)) W from fun W => by go_simp)
  have HS := Lib.hid (show ∀ W : World, (binOp .add 3 (.int .i64 48) (.int .i64 (r : Nat))).run Tryz.prog W = .ok (.int .i64 ((48 + r : Nat) : Int)) W from fun W => by
    go_simp
    exact IntWalk.i64_in _ (by omega))
  have HC := Lib.hid (show ∀ W : World, (convert 3 5 (.int .i64 ((48 + r : Nat) : Int))).run Tryz.prog W = .ok (.int .u8 ((48 + r : Nat) : Int)) W from fun W => by
    go_simp
    exact IntWalk.u8_in _ (by omega))
  have hz : (tn ++ (⟨#[cr]⟩ : ByteArray)).size ≤ 101 := by rw [ByteArray.size_append]; show tn.size + 1 ≤ 101; omega
  have HA := Lib.hid (show ∀ W : World, (binOp .add 9 (.string tn) (.string ⟨#[cr]⟩)).run Tryz.prog W = .ok (.string (tn ++ ⟨#[cr]⟩)) W from fun W => by
    go_simp
    omega)
  clear hT hq hr hcr hq2 hr2 hz ht
  have hn10 : ¬ (n : Int) < 10 := by omega
  go_enter Tryz.func76, Tryz.ntmps76
  go_wp2_with fail
  refine wp_region_any (by kernel_rfl) ?_
  change wpAny _ _ _ _ _ _ _ w.drew
  refine ord.wpAny_ord [[], [0], [1], [], [3], [4], [5], [6], [7], [2, 8], [9]] [(0, 10), (1, 11), (2, 12), (3, 13), (4, 14), (5, 15), (6, 16), (7, 17), (8, 18), (9, 19), (10, 2)] (tyG n q r tn cr) (by kernel_rfl) (by kernel_rfl) (tyG_stays _ _ _ _ _) ((ord.steps_cons ?_ (ord.steps_cons ?_ (ord.steps_cons ?_ (ord.steps_cons ?_ (ord.steps_cons ?_ (ord.steps_cons ?_ (ord.steps_cons ?_ (ord.steps_cons ?_ (ord.steps_cons ?_ (ord.steps_cons ?_ (ord.steps_cons ?_ ord.steps_nil)))))))))))) ?_
  · intro o ho x w hb hG
    obtain rfl := Option.some.inj ho
    clear ho
    refine Or.inl ⟨ord.want0 rfl, ?_⟩
    exact ord.makes_move rfl ⟨Below.refl _ _, rfl⟩
  · intro o ho x w hb hG
    obtain rfl := Option.some.inj ho
    clear ho
    have h10 : x 0 = .int .i64 (n : Nat) := hG (0, 10) (List.mem_of_getElem? (i := 0) rfl) rfl
    refine Or.inl ⟨ord.want0 rfl, ?_⟩
    exact ord.makes_bin rfl h10 rfl (by exact HQ.out w) ⟨Below.refl _ _, rfl⟩
  · intro o ho x w hb hG
    obtain rfl := Option.some.inj ho
    clear ho
    have h11 : x 1 = .int .i64 (q : Nat) := hG (1, 11) (List.mem_of_getElem? (i := 1) rfl) rfl
    refine Or.inl ⟨ord.want0 rfl, ?_⟩
    exact ord.makes_call1 Tryz.func76 (by kernel_rfl) (by kernel_rfl) rfl h11 (HT.out w) (fun e w' h => ⟨_, h.1, h.2, rfl⟩)
  · intro o ho x w hb hG
    obtain rfl := Option.some.inj ho
    clear ho
    refine Or.inl ⟨ord.want0 rfl, ?_⟩
    exact ord.makes_move rfl ⟨Below.refl _ _, rfl⟩
  · intro o ho x w hb hG
    obtain rfl := Option.some.inj ho
    clear ho
    have h13 : x 3 = .int .i64 (n : Nat) := hG (3, 13) (List.mem_of_getElem? (i := 3) rfl) rfl
    refine Or.inl ⟨ord.want0 rfl, ?_⟩
    exact ord.makes_bin rfl h13 rfl (by exact HR.out w) ⟨Below.refl _ _, rfl⟩
  · intro o ho x w hb hG
    obtain rfl := Option.some.inj ho
    clear ho
    have h14 : x 4 = .int .i64 (r : Nat) := hG (4, 14) (List.mem_of_getElem? (i := 4) rfl) rfl
    refine Or.inl ⟨ord.want0 rfl, ?_⟩
    exact ord.makes_bin rfl rfl h14 (by exact HS.out w) ⟨Below.refl _ _, rfl⟩
  · intro o ho x w hb hG
    obtain rfl := Option.some.inj ho
    clear ho
    have h15 : x 5 = .int .i64 ((48 + r : Nat) : Int) := hG (5, 15) (List.mem_of_getElem? (i := 5) rfl) rfl
    refine Or.inl ⟨ord.want0 rfl, ?_⟩
    exact ord.makes_conv rfl h15 (HC.out w) ⟨Below.refl _ _, rfl⟩
  · intro o ho x w hb hG
    obtain rfl := Option.some.inj ho
    clear ho
    have h16 : x 6 = .int .u8 ((48 + r : Nat) : Int) := hG (6, 16) (List.mem_of_getElem? (i := 6) rfl) rfl
    refine Or.inl ⟨ord.want0 rfl, ?_⟩
    exact ord.makes_build1 rfl h16 (run_byte1 w _) ⟨(Below.refl _ _).alloc (Nat.le_refl _) _, _, rfl, (World.cell?_alloc_at _ _ _ _ rfl).trans rfl⟩
  · intro o ho x w hb hG
    obtain rfl := Option.some.inj ho
    clear ho
    have h17 : tyG n q r tn cr 7 (x 7) w := hG (7, 17) (List.mem_of_getElem? (i := 7) rfl) rfl
    refine Or.inl ⟨ord.want0 rfl, ?_⟩
    obtain ⟨B, hv, hc⟩ := h17
    exact ord.makes_conv rfl hv (HCV.out w B hc) ⟨Below.refl _ _, rfl⟩
  · intro o ho x w hb hG
    obtain rfl := Option.some.inj ho
    clear ho
    have h12 : x 2 = .string tn := hG (2, 12) (List.mem_of_getElem? (i := 2) rfl) rfl
    have h18 : x 8 = .string ⟨#[cr]⟩ := hG (8, 18) (List.mem_of_getElem? (i := 8) rfl) rfl
    refine Or.inl ⟨ord.want0 rfl, ?_⟩
    exact ord.makes_bin rfl h12 h18 (by exact HA.out w) ⟨Below.refl _ _, rfl⟩
  · intro o ho x w hb hG
    obtain rfl := Option.some.inj ho
    clear ho
    have h19 : x 9 = .string (tn ++ ⟨#[cr]⟩) := hG (9, 19) (List.mem_of_getElem? (i := 9) rfl) rfl
    refine Or.inl ⟨ord.want0 rfl, ?_⟩
    exact ord.makes_assign rfl ⟨Below.refl _ _, h19⟩
  · intro x w6 hb hG
    have e0 : x 10 = .string (tn ++ ⟨#[cr]⟩) := hG (10, 2) (List.mem_of_getElem? (i := 10) rfl)
    clear hG
    simp only [ord.puts, ord.put', List.set_cons_zero, List.set_cons_succ, if_true]
    rw [e0]
    go_wp2_with fail
    go_ret
    exact ⟨rfl, (Below.refl w.heap.size w).drew.trans hb⟩
theorem rtext13_any {v : Int} (h1 : 0 ≤ v) (h2 : v ≤ 999) (w : World) :
    Calls Tryz.prog 76 #[.int .i64 v] w fun e w' => e = .returned (.string (itoaB v)) ∧ Below w.heap.size w w' := by
  obtain ⟨n, rfl⟩ : ∃ n : Nat, v = n := ⟨v.toNat, by omega⟩
  by_cases ha : n < 10
  · exact text13_low n ha w
  · have step : ∀ m : Nat, 10 ≤ m → itoaB m = itoaB (m / 10 : Nat) ++ ⟨#[chr (48 + m % 10)]⟩ := fun m hm => by
      rw [itoaB_nat, itoaB_nat, Lib.decDigits, dif_neg (by omega)]
      apply ba_ext
      rw [app_list]
      rfl
    by_cases hb : n < 100
    · rw [step n (by omega)]
      exact text13_step n (n / 10) (n % 10) _ (by omega) (by omega) rfl rfl rfl _ (Nat.le_trans (itoaB_size _ (by omega) (by omega)) (by decide)) (fun W => text13_low (n / 10) (by omega) W) w
    · rw [step n (by omega)]
      refine text13_step n (n / 10) (n % 10) _ (by omega) (by omega) rfl rfl rfl _ (Nat.le_trans (itoaB_size _ (by omega) (by omega)) (by decide)) (fun W => ?_) w
      rw [step (n / 10) (by omega)]
      exact text13_step (n / 10) (n / 10 / 10) (n / 10 % 10) _ (by omega) (by omega) rfl rfl rfl _ (Nat.le_trans (itoaB_size _ (by omega) (by omega)) (by decide)) (fun W => text13_low (n / 10 / 10) (by omega) W) W
end Go.Proofs.YthmlcmlpmolmoaaGreatDoor
namespace Go.Proofs.YthmlcmlpmolmoaaGreatDoor
set_option maxRecDepth 100000
open Go.RowKit
def lab5 (a b c d e : ByteArray) (j : Nat) : ByteArray := if j = 0 then a else if j = 1 then b else if j = 2 then c else if j = 3 then d else e
theorem lab5_key (n : Nat) (key : Nat → Nat) (t : Nat) (s : ByteArray) (v : Nat) : fkF n key (lab5 bTenant (itoaB t) s bVersion (itoaB v)) 5 = keyF n key t s v := by
  unfold keyF ownF
  simp only [fkF, fkN, lab5, lab2, lab3, if_true, if_neg (show ¬ (1 : Nat) = 0 by decide), if_neg (show ¬ (2 : Nat) = 0 by decide), if_neg (show ¬ (3 : Nat) = 0 by decide), if_neg (show ¬ (4 : Nat) = 0 by decide), if_neg (show ¬ (2 : Nat) = 1 by decide), if_neg (show ¬ (3 : Nat) = 1 by decide), if_neg (show ¬ (4 : Nat) = 1 by decide), if_neg (show ¬ (3 : Nat) = 2 by decide), if_neg (show ¬ (4 : Nat) = 2 by decide), if_neg (show ¬ (4 : Nat) = 3 by decide)]
theorem lab5_size {a b c d e : ByteArray} {K : Nat} (ha : a.size ≤ K) (hb : b.size ≤ K) (hc : c.size ≤ K) (hd : d.size ≤ K) (he : e.size ≤ K) (j : Nat) : (lab5 a b c d e j).size ≤ K := by
  unfold lab5
  split
  · exact ha
  · split
    · exact hb
    · split
      · exact hc
      · split
        · exact hd
        · exact he
theorem sls5 (w : World) (a b c d e : ByteArray) : SlS (w.alloc (.cells #[.string a, .string b, .string c, .string d, .string e] 9)) (some ⟨w.heap.size, 0, none⟩) 5 (lab5 a b c d e) := fun _ =>
  ⟨w.heap.size, 0, rfl, by simp, fun j hj => by
    rcases (show j = 0 ∨ j = 1 ∨ j = 2 ∨ j = 3 ∨ j = 4 by omega) with rfl | rfl | rfl | rfl | rfl
    · exact (World.cell?_alloc_at _ _ _ _ rfl).trans rfl
    · exact (World.cell?_alloc_at _ _ _ _ rfl).trans rfl
    · exact (World.cell?_alloc_at _ _ _ _ rfl).trans rfl
    · exact (World.cell?_alloc_at _ _ _ _ rfl).trans rfl
    · exact (World.cell?_alloc_at _ _ _ _ rfl).trans rfl⟩
end Go.Proofs.YthmlcmlpmolmoaaGreatDoor
namespace Go.Proofs.YthmlcmlpmolmoaaGreatDoor
open Go.RowKit
theorem sshl_lt (n x : Nat) (hx : x < 4294967296) (h1 : 1 ≤ n) : x * 2 ^ (32 - n) < 9223372036854775808 := by
  have hp : 2 ^ (32 - n) ≤ 2 ^ 31 := Nat.pow_le_pow_right (by decide) (by omega)
  calc x * 2 ^ (32 - n) ≤ x * 2 ^ 31 := Nat.mul_le_mul_left _ hp
    _ < _ := by omega
theorem rr_i64 (n x : Nat) (hx : x < 4294967296) (h1 : 1 ≤ n) : bits BinOp.or .i64 ((x : Int) / 2 ^ n) ((wrap64 ((x : Int) * 2 ^ (32 - n))).tmod 4294967296) = ((rr n x : Nat) : Int) := by
  have hl := sshl_lt n x hx h1
  have e1 : (x : Int) / 2 ^ n = ((x / 2 ^ n : Nat) : Int) := by simp
  have e2 : (x : Int) * 2 ^ (32 - n) = ((x * 2 ^ (32 - n) : Nat) : Int) := by simp
  have e3 : wrap64 ((x * 2 ^ (32 - n) : Nat) : Int) = ((x * 2 ^ (32 - n) : Nat) : Int) := by unfold wrap64; omega
  rw [e1, e2, e3, Int.tmod_eq_emod_of_nonneg (by omega), show ((x * 2 ^ (32 - n) : Nat) : Int) % 4294967296 = ((x * 2 ^ (32 - n) % 4294967296 : Nat) : Int) by omega]
  have hx2 : x / 2 ^ n ≤ x := Nat.div_le_self _ _
  rw [i64_or_nat _ _ (by omega) (by omega)]
  rfl
theorem rright_any (n x : Nat) (w : World) (hx : x < 4294967296) (h1 : 1 ≤ n) (h2 : n ≤ 31) :
    Calls Tryz.prog 208 #[.int .i64 x, .int .i64 n] w fun e w' => e = .returned (.int .i64 (rr n x : Nat)) ∧ ∃ n, w' = w.drewN n := by
  have hn1 : (1 : Int) ≤ n := by omega
  have hn2 : (n : Int) ≤ 31 := by omega
  have HR := Lib.hid (rr_i64 n x hx h1)
  go_enter Tryz.func208, Tryz.ntmps208
  go_wp2_with fail
  go_quiet (fail)
  go_wp2_with fail
  go_ret
  exact ⟨ret_int HR.out, nq, rfl⟩
abbrev ints (f : Nat → Nat) (j : Nat) : Value := .int .i64 (f j : Nat)
theorem arrV_new {W : World} {c : Array Value} {t : TypeId} {n g : Nat} {f : Nat → Value} (hc : c = (valsL n f).toArray) (hg : g = W.heap.size) : ArrV (W.alloc (.cells c t)) g 0 n f := by
  subst hg; exact arrV_made W c t n f hc
theorem words_lit : (#[.int .i64 1116352408, .int .i64 1899447441, .int .i64 3049323471, .int .i64 3921009573, .int .i64 961987163, .int .i64 1508970993, .int .i64 2453635748, .int .i64 2870763221, .int .i64 3624381080, .int .i64 310598401, .int .i64 607225278, .int .i64 1426881987, .int .i64 1925078388, .int .i64 2162078206, .int .i64 2614888103, .int .i64 3248222580, .int .i64 3835390401, .int .i64 4022224774, .int .i64 264347078, .int .i64 604807628, .int .i64 770255983, .int .i64 1249150122, .int .i64 1555081692, .int .i64 1996064986, .int .i64 2554220882, .int .i64 2821834349, .int .i64 2952996808, .int .i64 3210313671, .int .i64 3336571891, .int .i64 3584528711, .int .i64 113926993, .int .i64 338241895, .int .i64 666307205, .int .i64 773529912, .int .i64 1294757372, .int .i64 1396182291, .int .i64 1695183700, .int .i64 1986661051, .int .i64 2177026350, .int .i64 2456956037, .int .i64 2730485921, .int .i64 2820302411, .int .i64 3259730800, .int .i64 3345764771, .int .i64 3516065817, .int .i64 3600352804, .int .i64 4094571909, .int .i64 275423344, .int .i64 430227734, .int .i64 506948616, .int .i64 659060556, .int .i64 883997877, .int .i64 958139571, .int .i64 1322822218, .int .i64 1537002063, .int .i64 1747873779, .int .i64 1955562222, .int .i64 2024104815, .int .i64 2227730452, .int .i64 2361852424, .int .i64 2428436474, .int .i64 2756734187, .int .i64 3204031479, .int .i64 3329325298] : Array Value) = (valsL 64 (ints kc)).toArray := by kernel_rfl
theorem first_lit : (#[.int .i64 1779033703, .int .i64 3144134277, .int .i64 1013904242, .int .i64 2773480762, .int .i64 1359893119, .int .i64 2600822924, .int .i64 528734635, .int .i64 1541459225] : Array Value) = (valsL 8 (ints (at8 st0))).toArray := rfl
set_option maxRecDepth 100000 in
theorem words_any (w : World) : Calls Tryz.prog 180 #[] w fun e w' => e = .returned (.slice (some ⟨w.heap.size, 0, none⟩) 64 64) ∧ ArrV w' w.heap.size 0 64 (ints kc) ∧ Below w.heap.size w w' := by
  go_enter Tryz.func180, Tryz.ntmps180
  go_wp2_with fail
  go_ret
  exact ⟨rfl, arrV_new words_lit rfl, (Below.refl _ _).alloc (Nat.le_refl _) _⟩
set_option maxRecDepth 100000 in
theorem first_any (w : World) : Calls Tryz.prog 181 #[] w fun e w' => e = .returned (.slice (some ⟨w.heap.size, 0, none⟩) 8 8) ∧ ArrV w' w.heap.size 0 8 (ints (at8 st0)) ∧ Below w.heap.size w w' := by
  go_enter Tryz.func181, Tryz.ntmps181
  go_wp2_with fail
  go_ret
  exact ⟨rfl, arrV_new first_lit rfl, (Below.refl _ _).alloc (Nat.le_refl _) _⟩
end Go.Proofs.YthmlcmlpmolmoaaGreatDoor
namespace Go.Proofs.YthmlcmlpmolmoaaGreatDoor
open Go.RowKit
theorem infoI : (Tryz.prog.info? 3).map (fun i => (i.zero, i.size, i.bytes)) = some (some (.int .i64 0), 1, 8) := by kernel_rfl
def OwnI (w : World) (base : Nat) (v : Value) (n : Nat) (f : Nat → Nat) : Prop := w.ownsRow base 3 1 v n (valsL n (ints f))
namespace OwnI
variable {w w' : World} {base n : Nat} {v : Value} {f f' : Nat → Nat}
theorem nil (w : World) (base : Nat) (f : Nat → Nat) : OwnI w base (.slice none 0 0) 0 f := World.ownsRow_nil w base _ 1
theorem alloc (h : OwnI w base v n f) (o : Obj) : OwnI (w.alloc o) base v n f := World.ownsRow.alloc h o
theorem drewN (h : OwnI w base v n f) (k : Nat) : OwnI (w.drewN k) base v n f := h
theorem drew (h : OwnI w base v n f) : OwnI w.drew base v n f := h
theorem congr (h : OwnI w base v n f) (e : ∀ j, j < n → f j = f' j) : OwnI w base v n f' := by
  have : valsL n (ints f) = valsL n (ints f') := valsL_congr fun j hj => by show Value.int _ _ = Value.int _ _; rw [e j hj]
  unfold OwnI at *; rw [← this]; exact h
theorem keep (h : OwnI w base v n f) (hb : Below w.heap.size w w') : OwnI w' base v n f := by
  rcases h with ⟨h1, h2 | ⟨g, cap, cur, e, hg, hh, r⟩⟩
  · exact ⟨h1, Or.inl h2⟩
  · exact ⟨h1, Or.inr ⟨g, cap, cur, e, hg, (hb.block g (Array.getElem?_eq_some_iff.1 hh).1).trans hh, r⟩⟩
theorem slice (h : OwnI w base v n f) : ∃ A c, v = .slice A n c ∧ n ≤ c ∧ c ≤ maxLen ∧ (0 < n → ∃ g, A = some ⟨g, 0, none⟩ ∧ base ≤ g ∧ ArrV w g 0 n (ints f)) ∧ (A = none → n = 0 ∧ c = 0) := by
  rcases h.2 with ⟨rfl, hn⟩ | ⟨g, cap, cur, rfl, hg, hh, h1, h2, h3, h4⟩
  · subst hn; exact ⟨none, 0, rfl, Nat.le_refl _, by unfold maxLen; omega, fun h => absurd h (Nat.lt_irrefl _), fun _ => ⟨rfl, rfl⟩⟩
  · refine ⟨_, cap, rfl, h1, h2, fun _ => ⟨g, rfl, hg, fun j hj => ?_⟩, fun h => by cases h⟩
    have e := congrArg (fun l => l[j]?) h4
    simp only [Nat.mul_one, List.getElem?_take, if_pos hj] at e
    rw [valsL_at hj] at e
    have e' : cur[j]? = some (ints f j) := by simpa using e
    rw [Nat.zero_add]
    exact ⟨by simp [World.cell?, hh, e'], by simp [World.frozen?, hh]⟩
end OwnI
theorem ints_snoc (n : Nat) (f : Nat → Nat) (x : Nat) (hx : x = f n) : valsL n (ints f) ++ [.int .i64 (x : Nat)] = valsL (n + 1) (ints f) := by
  subst hx
  unfold valsL; rw [List.range_succ, List.map_append]; rfl
theorem step_app1I {ops : Array Oper} {o : Oper} {a : Act} {w : World} {K : Act → World → Prop} {Q : Exit → Act → World → Prop} {E : Prop} (hgd : o.guard = none) (s x : Operand)
    (ho : o.op = .call { callee := .builtin .append, args := #[s, x], argTypes := #[201, 201] })
    (base : Nat) (v : Value) (n : Nat) (f : Nat → Nat) (hs : a.eval s = v) (hown : OwnI w base v n f)
    (g y : Nat) (hx : a.eval x = .slice (some ⟨g, 0, none⟩) 1 1) (hc : w.cell? ⟨g, 0, none⟩ = some (.int .i64 (y : Nat))) (hn : n ≤ 1000000000000) (hbase : base ≤ w.heap.size) (hy : y = f n)
    (h : ∀ v' w', OwnI w' base v' (n + 1) f → Below base w w' → K (a.put o.dst v') w') :
    if Region.wanted o (yielded ops a.tmps) = true then Oper.wp Tryz.prog o a w K Q else E := by
  have hw : Region.wanted o (yielded ops a.tmps) = true := by simp [Region.wanted, hgd]
  rw [if_pos hw]
  obtain ⟨i, hi, hz, hsz, hb⟩ := info_parts infoI
  refine wp_append_own w s x 201 ho base 3 i (.int .i64 0) 1 8 Tryz.underlying201 hi hz hsz hb rfl (by decide) v n _ hs hown ⟨g, 0, none⟩ 1 1 [.int .i64 (y : Nat)] hx rfl ?_ ?_ (by unfold maxLen; omega) (by omega) hbase ?_
  · intro j u hj
    match j, hj with
    | 0, hj => simp at hj; subst hj; exact hc
  · intro u hu; simp at hu; subst hu; rfl
  · intro v' w' h1 h2 _
    rw [ints_snoc n f y hy] at h1
    exact h v' w' h1 ((Below.refl base w).grown h2 hbase fun k hk => (hown.lt k hk).1)
theorem wn_stable (b : Nat → Nat) (n : Nat) : ∀ d j, j < 16 + n → wn b (n + d) j = wn b n j
  | 0, _, _ => rfl
  | d + 1, j, hj => by
    show wn b ((n + d) + 1) j = _
    rw [wn, if_neg (by omega)]
    exact wn_stable b n d j hj
theorem wn_first (b : Nat → Nat) (j : Nat) (hj : j < 16) : wn b 48 j = be b (4 * j) := by
  rw [show (48 : Nat) = 0 + 48 from rfl, wn_stable b 0 48 j (by omega), wn, if_pos hj]
theorem wn_next (b : Nat → Nat) (t : Nat) (h1 : 16 ≤ t) (h2 : t < 64) : wn b 48 t = (wn b 48 (t - 16) + ls0 (wn b 48 (t - 15)) + wn b 48 (t - 7) + ls1 (wn b 48 (t - 2))) % 4294967296 := by
  obtain ⟨n, rfl⟩ : ∃ n, t = 16 + n := ⟨t - 16, by omega⟩
  have e1 : wn b 48 (16 + n) = wn b (n + 1) (16 + n) := by
    rw [show (48 : Nat) = (n + 1) + (47 - n) by omega]; exact wn_stable b (n + 1) (47 - n) _ (by omega)
  have e2 : ∀ j, j < 16 + n → wn b 48 j = wn b n j := fun j hj => by
    conv => lhs; rw [show (48 : Nat) = n + (48 - n) by omega]
    exact wn_stable b n (48 - n) j hj
  rw [e1, wn, if_pos rfl, e2 (16 + n - 16) (by omega), e2 (16 + n - 15) (by omega), e2 (16 + n - 7) (by omega), e2 (16 + n - 2) (by omega),
    show 16 + n - 16 = n by omega, show 16 + n - 15 = n + 1 by omega, show 16 + n - 7 = n + 9 by omega, show 16 + n - 2 = n + 14 by omega]
end Go.Proofs.YthmlcmlpmolmoaaGreatDoor
namespace Go.Proofs.YthmlcmlpmolmoaaGreatDoor
open Go.RowKit
namespace ord
section
variable {P : Program} {ops : Array Oper} {o : Oper} {a : Act} {w : World} {N : Value → World → Prop}
theorem makes_indexAddr {t : TypeId} {x i : Operand} {vx vi u : Value} (ho : o.op = .indexAddr t x i) (hx : a.eval x = vx) (hi : a.eval i = vi) (hrun : (Instr.indexAt t vx vi).run P w = .ok u w) (hN : N u w) : makes P o a w N := by
  unfold makes
  have : (execOp a.eval o).run P w = .ok (.value u) w := by
    simp only [execOp, ho, hx, hi, Sem.run_bind]
    rw [hrun]; rfl
  rw [this]; exact hN
theorem makes_load {t : TypeId} {x : Operand} {vx u : Value} (ho : o.op = .load t x) (hx : a.eval x = vx) (hrun : (Instr.loadAt t vx).run P w = .ok u w) (hN : N u w) : makes P o a w N := by
  unfold makes
  have : (execOp a.eval o).run P w = .ok (.value u) w := by
    simp only [execOp, ho, hx, Sem.run_bind]
    rw [hrun]; rfl
  rw [this]; exact hN
end
end ord
theorem run_idx8 (B o n c q : Nat) (hq : q < n) (w : World) : (Instr.indexAt 22 (.slice (some ⟨B, o, none⟩) n c) (.int .i64 (q : Nat))).run Tryz.prog w = .ok (.pointer (some ⟨B, o + q, none⟩)) w := by
  have hq2 : (q : Int) < n := by omega
  go_simp
theorem run_load8 (p : Addr) (x : Nat) (w : World) (h : w.cell? p = some (.int .u8 (x : Nat))) : (Instr.loadAt 5 (.pointer (some p))).run Tryz.prog w = .ok (.int .u8 (x : Nat)) w := by
  go_simp
theorem run_conv8 (x : Nat) (hx : x < 256) (w : World) : (convert 5 3 (.int .u8 (x : Nat))).run Tryz.prog w = .ok (.int .i64 (x : Nat)) w := by
  have h2 : IntKind.i64.wrap (x : Int) = (x : Nat) := IntWalk.i64_in _ (by omega)
  go_simp
end Go.Proofs.YthmlcmlpmolmoaaGreatDoor
namespace Go.Proofs.YthmlcmlpmolmoaaGreatDoor
open Go.RowKit
theorem run_addI (x y : Operand) (a b : Int) (c : Nat) (h : a + b = (c : Nat)) (hc : c < 9223372036854775808) (w : World) :
    (do eqGuard .add 3 x y (.int .i64 a) (.int .i64 b); binOp .add 3 (.int .i64 a) (.int .i64 b) : Sem Value).run Tryz.prog w = .ok (.int .i64 (c : Nat)) w := by
  have h2 : IntKind.i64.wrap (c : Int) = (c : Nat) := IntWalk.i64_in _ (by omega)
  go_simp
theorem run_mulI (x y : Operand) (a b : Int) (c : Nat) (h : a * b = (c : Nat)) (hc : c < 9223372036854775808) (w : World) :
    (do eqGuard .mul 3 x y (.int .i64 a) (.int .i64 b); binOp .mul 3 (.int .i64 a) (.int .i64 b) : Sem Value).run Tryz.prog w = .ok (.int .i64 (c : Nat)) w := by
  have h2 : IntKind.i64.wrap (c : Int) = (c : Nat) := IntWalk.i64_in _ (by omega)
  go_simp
theorem run_quoI (x y : Operand) (a b c : Nat) (h : a / b = c) (hb : 0 < b) (ha : a < 9223372036854775808) (w : World) :
    (do eqGuard .quo 3 x y (.int .i64 (a : Nat)) (.int .i64 (b : Nat)); binOp .quo 3 (.int .i64 (a : Nat)) (.int .i64 (b : Nat)) : Sem Value).run Tryz.prog w = .ok (.int .i64 (c : Nat)) w := by
  have h3 : ¬ b = 0 := by omega
  have h4 : ((a : Int).tdiv b) = (c : Nat) := by rw [Int.tdiv_eq_ediv_of_nonneg (by omega), ← h]; simp
  have h2 : IntKind.i64.wrap (c : Int) = (c : Nat) := IntWalk.i64_in _ (by have := Nat.div_le_self a b; omega)
  go_simp
theorem run_int1 (w : World) (z : Nat) : (Instr.buildSlice 201 1 #[(0, .int .i64 (z : Nat))]).run Tryz.prog w = .ok (.slice (some ⟨w.heap.size, 0, none⟩) 1 1) (w.alloc (.cells #[.int .i64 (z : Nat)] 3)) := by go_simp
theorem wpList_app1I {ops : Array Oper} {rest : List Oper} {o : Oper} {a : Act} {Q : Exit → Act → World → Prop} {w : World} (hgd : o.guard = none) (s x : Operand)
    (ho : o.op = .call { callee := .builtin .append, args := #[s, x], argTypes := #[201, 201] })
    (base : Nat) (v : Value) (n : Nat) (f : Nat → Nat) (hs : a.eval s = v) (hown : OwnI w base v n f)
    (g y : Nat) (hx : a.eval x = .slice (some ⟨g, 0, none⟩) 1 1) (hc : w.cell? ⟨g, 0, none⟩ = some (.int .i64 (y : Nat))) (hn : n ≤ 1000000000000) (hbase : base ≤ w.heap.size) (hy : y = f n)
    (h : ∀ v' w', OwnI w' base v' (n + 1) f → Below base w w' → wpList Tryz.prog ops Q rest (a.put o.dst v') w') : wpList Tryz.prog ops Q (o :: rest) a w := by
  obtain ⟨i, hi, hz, hsz, hb⟩ := info_parts infoI
  refine wpList_append_own w hgd s x 201 ho base 3 i (.int .i64 0) 1 8 Tryz.underlying201 hi hz hsz hb rfl (by decide) v n _ hs hown ⟨g, 0, none⟩ 1 1 [.int .i64 (y : Nat)] hx rfl ?_ ?_ (by unfold maxLen; omega) (by omega) hbase ?_
  · intro j u hj
    match j, hj with
    | 0, hj => simp at hj; subst hj; exact hc
  · intro u hu; simp at hu; subst hu; rfl
  · intro v' w' h1 h2 _
    rw [ints_snoc n f y hy] at h1
    exact h v' w' h1 ((Below.refl base w).grown h2 hbase fun k hk => (hown.lt k hk).1)
end Go.Proofs.YthmlcmlpmolmoaaGreatDoor
namespace Go.Proofs.YthmlcmlpmolmoaaGreatDoor
open Go.RowKit
def blkG (sv : Value) (B o c k q0 q1 q2 q3 b0 b1 b2 b3 y0 y1 y2 z1 z2 z3 : Nat) : Nat → Value → World → Prop
  | 0, v, _ => v = sv
  | 1, v, _ => v = .slice (some ⟨B, o, none⟩) 64 c
  | 2, v, _ => v = .int .i64 (k : Nat)
  | 3, v, _ => v = .int .i64 (q0 : Nat)
  | 4, v, _ => v = .pointer (some ⟨B, o + q0, none⟩)
  | 5, v, _ => v = .int .u8 (b0 : Nat)
  | 6, v, _ => v = .int .i64 (b0 : Nat)
  | 7, v, _ => v = .int .i64 (y0 : Nat)
  | 8, v, _ => v = .slice (some ⟨B, o, none⟩) 64 c
  | 9, v, _ => v = .int .i64 (k : Nat)
  | 10, v, _ => v = .int .i64 (q0 : Nat)
  | 11, v, _ => v = .int .i64 (q1 : Nat)
  | 12, v, _ => v = .pointer (some ⟨B, o + q1, none⟩)
  | 13, v, _ => v = .int .u8 (b1 : Nat)
  | 14, v, _ => v = .int .i64 (b1 : Nat)
  | 15, v, _ => v = .int .i64 (y1 : Nat)
  | 16, v, _ => v = .int .i64 (z1 : Nat)
  | 17, v, _ => v = .slice (some ⟨B, o, none⟩) 64 c
  | 18, v, _ => v = .int .i64 (k : Nat)
  | 19, v, _ => v = .int .i64 (q0 : Nat)
  | 20, v, _ => v = .int .i64 (q2 : Nat)
  | 21, v, _ => v = .pointer (some ⟨B, o + q2, none⟩)
  | 22, v, _ => v = .int .u8 (b2 : Nat)
  | 23, v, _ => v = .int .i64 (b2 : Nat)
  | 24, v, _ => v = .int .i64 (y2 : Nat)
  | 25, v, _ => v = .int .i64 (z2 : Nat)
  | 26, v, _ => v = .slice (some ⟨B, o, none⟩) 64 c
  | 27, v, _ => v = .int .i64 (k : Nat)
  | 28, v, _ => v = .int .i64 (q0 : Nat)
  | 29, v, _ => v = .int .i64 (q3 : Nat)
  | 30, v, _ => v = .pointer (some ⟨B, o + q3, none⟩)
  | 31, v, _ => v = .int .u8 (b3 : Nat)
  | 32, v, _ => v = .int .i64 (b3 : Nat)
  | 33, v, _ => v = .int .i64 (z3 : Nat)
  | 34, v, w => ∃ g, v = .slice (some ⟨g, 0, none⟩) 1 1 ∧ w.cell? ⟨g, 0, none⟩ = some (.int .i64 (z3 : Nat))
  | _, _, _ => True
theorem blkG_stays (sv : Value) (B o c k q0 q1 q2 q3 b0 b1 b2 b3 y0 y1 y2 z1 z2 z3 : Nat) : ∀ i v w w', blkG sv B o c k q0 q1 q2 q3 b0 b1 b2 b3 y0 y1 y2 z1 z2 z3 i v w → Below w.heap.size w w' → blkG sv B o c k q0 q1 q2 q3 b0 b1 b2 b3 y0 y1 y2 z1 z2 z3 i v w'
  | 0, _, _, _, h, _ => h
  | 1, _, _, _, h, _ => h
  | 2, _, _, _, h, _ => h
  | 3, _, _, _, h, _ => h
  | 4, _, _, _, h, _ => h
  | 5, _, _, _, h, _ => h
  | 6, _, _, _, h, _ => h
  | 7, _, _, _, h, _ => h
  | 8, _, _, _, h, _ => h
  | 9, _, _, _, h, _ => h
  | 10, _, _, _, h, _ => h
  | 11, _, _, _, h, _ => h
  | 12, _, _, _, h, _ => h
  | 13, _, _, _, h, _ => h
  | 14, _, _, _, h, _ => h
  | 15, _, _, _, h, _ => h
  | 16, _, _, _, h, _ => h
  | 17, _, _, _, h, _ => h
  | 18, _, _, _, h, _ => h
  | 19, _, _, _, h, _ => h
  | 20, _, _, _, h, _ => h
  | 21, _, _, _, h, _ => h
  | 22, _, _, _, h, _ => h
  | 23, _, _, _, h, _ => h
  | 24, _, _, _, h, _ => h
  | 25, _, _, _, h, _ => h
  | 26, _, _, _, h, _ => h
  | 27, _, _, _, h, _ => h
  | 28, _, _, _, h, _ => h
  | 29, _, _, _, h, _ => h
  | 30, _, _, _, h, _ => h
  | 31, _, _, _, h, _ => h
  | 32, _, _, _, h, _ => h
  | 33, _, _, _, h, _ => h
  | 34, v, w, w', h_, hb => by
    obtain ⟨g, h1, h2⟩ := h_; exact ⟨g, h1, (hb.cell (p := ⟨g, 0, none⟩) (block_lt h2)).trans h2⟩
  | _ + 35, _, _, _, _, _ => trivial
set_option maxRecDepth 100000 in
set_option maxHeartbeats 3200000 in
theorem block_any (A : Option Addr) (c : Nat) (b : Nat → Nat) (w : World) (hA : SlB w A 64 b) :
    Calls Tryz.prog 183 #[.slice A 64 c] w fun e w' => ∃ v, e = .returned v ∧ OwnI w' w.heap.size v 64 (wn b 48) ∧ Below w.heap.size w w' := by
  have HY := Lib.hid (show ∀ j, j < 64 → b j < 256 from fun j hj => hA.byte hj)
  obtain ⟨B, o, rfl, hB, hc⟩ := hA (by decide)
  have HCL := Lib.hid (show ∀ j, j < 64 → w.cell? ⟨B, o + j, none⟩ = some (.int .u8 (b j : Nat)) from fun j hj => (hc j hj).2)
  have HBL := Lib.hid hB
  clear hc hB hA
  go_enter Tryz.func183, Tryz.ntmps183
  go_wp2_with fail
  go_loopw [3, 4] (fun v t wr => ∃ k : Nat, k ≤ 64 ∧ t = .int .i64 k ∧ OwnI wr w.heap.size v k (wn b 48) ∧ Below w.heap.size w wr) (fun _ t _ => 64 - (intOf t).toNat)
  case atStart => exact ⟨0, Nat.zero_le _, rfl, OwnI.nil _ _ _, Below.refl _ _⟩
  case round =>
    obtain ⟨k, hk, rfl, h1, h2⟩ := hrel
    have H1 := Lib.hid h1
    have H2 := Lib.hid h2
    clear h1 h2
    by_cases hlt : k < 64
    · have hki : (k : Int) < 64 := by omega
      have hsz := H2.out.size
      by_cases h16 : k < 16
      · have hk16 : (k : Int) < 16 := by omega
        obtain ⟨q0, hq0⟩ : ∃ q, q = 4 * k := ⟨_, rfl⟩
        obtain ⟨q1, hq1⟩ : ∃ q, q = q0 + 1 := ⟨_, rfl⟩
        obtain ⟨q2, hq2⟩ : ∃ q, q = q0 + 2 := ⟨_, rfl⟩
        obtain ⟨q3, hq3⟩ : ∃ q, q = q0 + 3 := ⟨_, rfl⟩
        have a0 : (4 : Int) * (k : Nat) = (q0 : Nat) ∧ True := ⟨by omega, trivial⟩
        have a1 : (q0 : Int) + 1 = (q1 : Nat) ∧ True := ⟨by omega, trivial⟩
        have a2 : (q0 : Int) + 2 = (q2 : Nat) ∧ True := ⟨by omega, trivial⟩
        have a3 : (q0 : Int) + 3 = (q3 : Nat) ∧ True := ⟨by omega, trivial⟩
        have m0 : q0 < 64 := by omega
        have m1 : q1 < 64 := by omega
        have m2 : q2 < 64 := by omega
        have m3 : q3 < 64 := by omega
        have cell : ∀ j, j < 64 → wr.cell? ⟨B, o + j, none⟩ = some (.int .u8 (b j : Nat)) := fun j hj => (H2.out.cell (p := ⟨B, o + j, none⟩) HBL.out).trans (HCL.out j hj)
        have c0 := cell q0 (by omega)
        have c1 := cell q1 (by omega)
        have c2 := cell q2 (by omega)
        have c3 := cell q3 (by omega)
        have l0 := HY.out q0 (by omega)
        have l1 := HY.out q1 (by omega)
        have l2 := HY.out q2 (by omega)
        have l3 := HY.out q3 (by omega)
        have CE := Lib.hid (show ∀ w', Below wr.drew.heap.size wr.drew w' → w'.cell? ⟨B, o + q0, none⟩ = some (.int .u8 (b q0 : Nat)) ∧ w'.cell? ⟨B, o + q1, none⟩ = some (.int .u8 (b q1 : Nat)) ∧ w'.cell? ⟨B, o + q2, none⟩ = some (.int .u8 (b q2 : Nat)) ∧ w'.cell? ⟨B, o + q3, none⟩ = some (.int .u8 (b q3 : Nat)) from fun w' hb =>
          ⟨(hb.cell (p := ⟨B, o + q0, none⟩) (Nat.lt_of_lt_of_le HBL.out hsz)).trans c0, (hb.cell (p := ⟨B, o + q1, none⟩) (Nat.lt_of_lt_of_le HBL.out hsz)).trans c1, (hb.cell (p := ⟨B, o + q2, none⟩) (Nat.lt_of_lt_of_le HBL.out hsz)).trans c2, (hb.cell (p := ⟨B, o + q3, none⟩) (Nat.lt_of_lt_of_le HBL.out hsz)).trans c3⟩)
        have HV := Lib.hid (show wn b 48 k = b q0 * 16777216 + b q1 * 65536 + b q2 * 256 + b q3 by rw [wn_first b k h16, hq1, hq2, hq3, hq0]; rfl)
        clear hq0 hq1 hq2 hq3 cell c0 c1 c2 c3
        generalize b q0 = b0 at *
        generalize b q1 = b1 at *
        generalize b q2 = b2 at *
        generalize b q3 = b3 at *
        obtain ⟨y0, hy0⟩ : ∃ y, y = b0 * 16777216 := ⟨_, rfl⟩
        obtain ⟨y1, hy1⟩ : ∃ y, y = b1 * 65536 := ⟨_, rfl⟩
        obtain ⟨y2, hy2⟩ : ∃ y, y = b2 * 256 := ⟨_, rfl⟩
        obtain ⟨z1, hz1⟩ : ∃ z, z = y0 + y1 := ⟨_, rfl⟩
        obtain ⟨z2, hz2⟩ : ∃ z, z = z1 + y2 := ⟨_, rfl⟩
        obtain ⟨z3, hz3⟩ : ∃ z, z = z2 + b3 := ⟨_, rfl⟩
        have d0 : (b0 : Int) * 16777216 = (y0 : Nat) ∧ True := ⟨by omega, trivial⟩
        have d1 : (b1 : Int) * 65536 = (y1 : Nat) ∧ True := ⟨by omega, trivial⟩
        have d2 : (b2 : Int) * 256 = (y2 : Nat) ∧ True := ⟨by omega, trivial⟩
        have d3 : (y0 : Int) + (y1 : Nat) = (z1 : Nat) ∧ True := ⟨by omega, trivial⟩
        have d4 : (z1 : Int) + (y2 : Nat) = (z2 : Nat) ∧ True := ⟨by omega, trivial⟩
        have d5 : (z2 : Int) + (b3 : Nat) = (z3 : Nat) ∧ True := ⟨by omega, trivial⟩
        have lz : y0 < 4294967296 ∧ y1 < 4294967296 ∧ y2 < 4294967296 ∧ z1 < 4294967296 ∧ z2 < 4294967296 ∧ z3 < 4294967296 := by omega
        have HV2 := Lib.hid (show z3 = wn b 48 k by rw [HV.out]; omega)
        clear hy0 hy1 hy2 hz1 hz2 hz3 HV
        go_wp2_with fail
        refine ord.wp_region_ordT 35 [[], [], [], [2], [1, 3], [4], [5], [6], [], [], [9], [10], [8, 11], [12], [13], [14], [7, 15], [], [], [18], [19], [17, 20], [21], [22], [23], [16, 24], [], [], [27], [28], [26, 29], [30], [31], [25, 32], [33]] [(0, 15), (1, 16), (2, 17), (3, 18), (4, 19), (5, 20), (6, 21), (7, 22), (8, 23), (9, 24), (10, 25), (11, 26), (12, 27), (13, 28), (14, 29), (15, 30), (16, 31), (17, 32), (18, 33), (19, 34), (20, 35), (21, 36), (22, 37), (23, 38), (24, 39), (25, 40), (26, 41), (27, 42), (28, 43), (29, 44), (30, 45), (31, 46), (32, 47), (33, 48), (34, 49)] (blkG u3 B o c k q0 q1 q2 q3 b0 b1 b2 b3 y0 y1 y2 z1 z2 z3) (by kernel_rfl) (by kernel_rfl) (by kernel_rfl) (blkG_stays _ _ _ _ _ _ _ _ _ _ _ _ _ _ _ _ _ _ _) ((ord.steps_cons ?_ (ord.steps_cons ?_ (ord.steps_cons ?_ (ord.steps_cons ?_ (ord.steps_cons ?_ (ord.steps_cons ?_ (ord.steps_cons ?_ (ord.steps_cons ?_ (ord.steps_cons ?_ (ord.steps_cons ?_ (ord.steps_cons ?_ (ord.steps_cons ?_ (ord.steps_cons ?_ (ord.steps_cons ?_ (ord.steps_cons ?_ (ord.steps_cons ?_ (ord.steps_cons ?_ (ord.steps_cons ?_ (ord.steps_cons ?_ (ord.steps_cons ?_ (ord.steps_cons ?_ (ord.steps_cons ?_ (ord.steps_cons ?_ (ord.steps_cons ?_ (ord.steps_cons ?_ (ord.steps_cons ?_ (ord.steps_cons ?_ (ord.steps_cons ?_ (ord.steps_cons ?_ (ord.steps_cons ?_ (ord.steps_cons ?_ (ord.steps_cons ?_ (ord.steps_cons ?_ (ord.steps_cons ?_ (ord.steps_cons ?_ ord.steps_nil)))))))))))))))))))))))))))))))))))) ?_
        · intro o ho x w hb hG
          obtain rfl := Option.some.inj ho
          clear ho
          refine Or.inl ⟨ord.want0 rfl, ?_⟩
          exact ord.makes_move rfl ⟨Below.refl _ _, rfl⟩
        · intro o ho x w hb hG
          obtain rfl := Option.some.inj ho
          clear ho
          refine Or.inl ⟨ord.want0 rfl, ?_⟩
          exact ord.makes_move rfl ⟨Below.refl _ _, rfl⟩
        · intro o ho x w hb hG
          obtain rfl := Option.some.inj ho
          clear ho
          refine Or.inl ⟨ord.want0 rfl, ?_⟩
          exact ord.makes_move rfl ⟨Below.refl _ _, rfl⟩
        · intro o ho x w hb hG
          obtain rfl := Option.some.inj ho
          clear ho
          have h17 : x 2 = .int .i64 (k : Nat) := hG (2, 17) (List.mem_of_getElem? (i := 2) rfl) rfl
          refine Or.inl ⟨ord.want0 rfl, ?_⟩
          exact ord.makes_bin rfl rfl h17 (by exact run_mulI _ _ 4 k _ a0.1 (by omega) w) ⟨Below.refl _ _, rfl⟩
        · intro o ho x w hb hG
          obtain rfl := Option.some.inj ho
          clear ho
          have h16 : x 1 = .slice (some ⟨B, o, none⟩) 64 c := hG (1, 16) (List.mem_of_getElem? (i := 1) rfl) rfl
          have h18 : x 3 = .int .i64 (q0 : Nat) := hG (3, 18) (List.mem_of_getElem? (i := 3) rfl) rfl
          refine Or.inl ⟨ord.want0 rfl, ?_⟩
          exact ord.makes_indexAddr rfl h16 h18 (by exact run_idx8 B o 64 c q0 m0 w) ⟨Below.refl _ _, rfl⟩
        · intro o ho x w hb hG
          obtain rfl := Option.some.inj ho
          clear ho
          have h19 : x 4 = .pointer (some ⟨B, o + q0, none⟩) := hG (4, 19) (List.mem_of_getElem? (i := 4) rfl) rfl
          refine Or.inl ⟨ord.want0 rfl, ?_⟩
          exact ord.makes_load rfl h19 (by exact run_load8 _ b0 w (CE.out w hb).1) ⟨Below.refl _ _, rfl⟩
        · intro o ho x w hb hG
          obtain rfl := Option.some.inj ho
          clear ho
          have h20 : x 5 = .int .u8 (b0 : Nat) := hG (5, 20) (List.mem_of_getElem? (i := 5) rfl) rfl
          refine Or.inl ⟨ord.want0 rfl, ?_⟩
          exact ord.makes_conv rfl h20 (by exact run_conv8 b0 l0 w) ⟨Below.refl _ _, rfl⟩
        · intro o ho x w hb hG
          obtain rfl := Option.some.inj ho
          clear ho
          have h21 : x 6 = .int .i64 (b0 : Nat) := hG (6, 21) (List.mem_of_getElem? (i := 6) rfl) rfl
          refine Or.inl ⟨ord.want0 rfl, ?_⟩
          exact ord.makes_bin rfl h21 rfl (by exact run_mulI _ _ b0 16777216 _ d0.1 (by omega) w) ⟨Below.refl _ _, rfl⟩
        · intro o ho x w hb hG
          obtain rfl := Option.some.inj ho
          clear ho
          refine Or.inl ⟨ord.want0 rfl, ?_⟩
          exact ord.makes_move rfl ⟨Below.refl _ _, rfl⟩
        · intro o ho x w hb hG
          obtain rfl := Option.some.inj ho
          clear ho
          refine Or.inl ⟨ord.want0 rfl, ?_⟩
          exact ord.makes_move rfl ⟨Below.refl _ _, rfl⟩
        · intro o ho x w hb hG
          obtain rfl := Option.some.inj ho
          clear ho
          have h24 : x 9 = .int .i64 (k : Nat) := hG (9, 24) (List.mem_of_getElem? (i := 9) rfl) rfl
          refine Or.inl ⟨ord.want0 rfl, ?_⟩
          exact ord.makes_bin rfl rfl h24 (by exact run_mulI _ _ 4 k q0 a0.1 (by omega) w) ⟨Below.refl _ _, rfl⟩
        · intro o ho x w hb hG
          obtain rfl := Option.some.inj ho
          clear ho
          have h25 : x 10 = .int .i64 (q0 : Nat) := hG (10, 25) (List.mem_of_getElem? (i := 10) rfl) rfl
          refine Or.inl ⟨ord.want0 rfl, ?_⟩
          exact ord.makes_bin rfl h25 rfl (by exact run_addI _ _ q0 1 q1 a1.1 (by omega) w) ⟨Below.refl _ _, rfl⟩
        · intro o ho x w hb hG
          obtain rfl := Option.some.inj ho
          clear ho
          have h23 : x 8 = .slice (some ⟨B, o, none⟩) 64 c := hG (8, 23) (List.mem_of_getElem? (i := 8) rfl) rfl
          have h26 : x 11 = .int .i64 (q1 : Nat) := hG (11, 26) (List.mem_of_getElem? (i := 11) rfl) rfl
          refine Or.inl ⟨ord.want0 rfl, ?_⟩
          exact ord.makes_indexAddr rfl h23 h26 (by exact run_idx8 B o 64 c q1 m1 w) ⟨Below.refl _ _, rfl⟩
        · intro o ho x w hb hG
          obtain rfl := Option.some.inj ho
          clear ho
          have h27 : x 12 = .pointer (some ⟨B, o + q1, none⟩) := hG (12, 27) (List.mem_of_getElem? (i := 12) rfl) rfl
          refine Or.inl ⟨ord.want0 rfl, ?_⟩
          exact ord.makes_load rfl h27 (by exact run_load8 _ b1 w (CE.out w hb).2.1) ⟨Below.refl _ _, rfl⟩
        · intro o ho x w hb hG
          obtain rfl := Option.some.inj ho
          clear ho
          have h28 : x 13 = .int .u8 (b1 : Nat) := hG (13, 28) (List.mem_of_getElem? (i := 13) rfl) rfl
          refine Or.inl ⟨ord.want0 rfl, ?_⟩
          exact ord.makes_conv rfl h28 (by exact run_conv8 b1 l1 w) ⟨Below.refl _ _, rfl⟩
        · intro o ho x w hb hG
          obtain rfl := Option.some.inj ho
          clear ho
          have h29 : x 14 = .int .i64 (b1 : Nat) := hG (14, 29) (List.mem_of_getElem? (i := 14) rfl) rfl
          refine Or.inl ⟨ord.want0 rfl, ?_⟩
          exact ord.makes_bin rfl h29 rfl (by exact run_mulI _ _ b1 65536 _ d1.1 (by omega) w) ⟨Below.refl _ _, rfl⟩
        · intro o ho x w hb hG
          obtain rfl := Option.some.inj ho
          clear ho
          have h22 : x 7 = .int .i64 (y0 : Nat) := hG (7, 22) (List.mem_of_getElem? (i := 7) rfl) rfl
          have h30 : x 15 = .int .i64 (y1 : Nat) := hG (15, 30) (List.mem_of_getElem? (i := 15) rfl) rfl
          refine Or.inl ⟨ord.want0 rfl, ?_⟩
          exact ord.makes_bin rfl h22 h30 (by exact run_addI _ _ y0 y1 z1 d3.1 (by omega) w) ⟨Below.refl _ _, rfl⟩
        · intro o ho x w hb hG
          obtain rfl := Option.some.inj ho
          clear ho
          refine Or.inl ⟨ord.want0 rfl, ?_⟩
          exact ord.makes_move rfl ⟨Below.refl _ _, rfl⟩
        · intro o ho x w hb hG
          obtain rfl := Option.some.inj ho
          clear ho
          refine Or.inl ⟨ord.want0 rfl, ?_⟩
          exact ord.makes_move rfl ⟨Below.refl _ _, rfl⟩
        · intro o ho x w hb hG
          obtain rfl := Option.some.inj ho
          clear ho
          have h33 : x 18 = .int .i64 (k : Nat) := hG (18, 33) (List.mem_of_getElem? (i := 18) rfl) rfl
          refine Or.inl ⟨ord.want0 rfl, ?_⟩
          exact ord.makes_bin rfl rfl h33 (by exact run_mulI _ _ 4 k q0 a0.1 (by omega) w) ⟨Below.refl _ _, rfl⟩
        · intro o ho x w hb hG
          obtain rfl := Option.some.inj ho
          clear ho
          have h34 : x 19 = .int .i64 (q0 : Nat) := hG (19, 34) (List.mem_of_getElem? (i := 19) rfl) rfl
          refine Or.inl ⟨ord.want0 rfl, ?_⟩
          exact ord.makes_bin rfl h34 rfl (by exact run_addI _ _ q0 2 q2 a2.1 (by omega) w) ⟨Below.refl _ _, rfl⟩
        · intro o ho x w hb hG
          obtain rfl := Option.some.inj ho
          clear ho
          have h32 : x 17 = .slice (some ⟨B, o, none⟩) 64 c := hG (17, 32) (List.mem_of_getElem? (i := 17) rfl) rfl
          have h35 : x 20 = .int .i64 (q2 : Nat) := hG (20, 35) (List.mem_of_getElem? (i := 20) rfl) rfl
          refine Or.inl ⟨ord.want0 rfl, ?_⟩
          exact ord.makes_indexAddr rfl h32 h35 (by exact run_idx8 B o 64 c q2 m2 w) ⟨Below.refl _ _, rfl⟩
        · intro o ho x w hb hG
          obtain rfl := Option.some.inj ho
          clear ho
          have h36 : x 21 = .pointer (some ⟨B, o + q2, none⟩) := hG (21, 36) (List.mem_of_getElem? (i := 21) rfl) rfl
          refine Or.inl ⟨ord.want0 rfl, ?_⟩
          exact ord.makes_load rfl h36 (by exact run_load8 _ b2 w (CE.out w hb).2.2.1) ⟨Below.refl _ _, rfl⟩
        · intro o ho x w hb hG
          obtain rfl := Option.some.inj ho
          clear ho
          have h37 : x 22 = .int .u8 (b2 : Nat) := hG (22, 37) (List.mem_of_getElem? (i := 22) rfl) rfl
          refine Or.inl ⟨ord.want0 rfl, ?_⟩
          exact ord.makes_conv rfl h37 (by exact run_conv8 b2 l2 w) ⟨Below.refl _ _, rfl⟩
        · intro o ho x w hb hG
          obtain rfl := Option.some.inj ho
          clear ho
          have h38 : x 23 = .int .i64 (b2 : Nat) := hG (23, 38) (List.mem_of_getElem? (i := 23) rfl) rfl
          refine Or.inl ⟨ord.want0 rfl, ?_⟩
          exact ord.makes_bin rfl h38 rfl (by exact run_mulI _ _ b2 256 _ d2.1 (by omega) w) ⟨Below.refl _ _, rfl⟩
        · intro o ho x w hb hG
          obtain rfl := Option.some.inj ho
          clear ho
          have h31 : x 16 = .int .i64 (z1 : Nat) := hG (16, 31) (List.mem_of_getElem? (i := 16) rfl) rfl
          have h39 : x 24 = .int .i64 (y2 : Nat) := hG (24, 39) (List.mem_of_getElem? (i := 24) rfl) rfl
          refine Or.inl ⟨ord.want0 rfl, ?_⟩
          exact ord.makes_bin rfl h31 h39 (by exact run_addI _ _ z1 y2 z2 d4.1 (by omega) w) ⟨Below.refl _ _, rfl⟩
        · intro o ho x w hb hG
          obtain rfl := Option.some.inj ho
          clear ho
          refine Or.inl ⟨ord.want0 rfl, ?_⟩
          exact ord.makes_move rfl ⟨Below.refl _ _, rfl⟩
        · intro o ho x w hb hG
          obtain rfl := Option.some.inj ho
          clear ho
          refine Or.inl ⟨ord.want0 rfl, ?_⟩
          exact ord.makes_move rfl ⟨Below.refl _ _, rfl⟩
        · intro o ho x w hb hG
          obtain rfl := Option.some.inj ho
          clear ho
          have h42 : x 27 = .int .i64 (k : Nat) := hG (27, 42) (List.mem_of_getElem? (i := 27) rfl) rfl
          refine Or.inl ⟨ord.want0 rfl, ?_⟩
          exact ord.makes_bin rfl rfl h42 (by exact run_mulI _ _ 4 k q0 a0.1 (by omega) w) ⟨Below.refl _ _, rfl⟩
        · intro o ho x w hb hG
          obtain rfl := Option.some.inj ho
          clear ho
          have h43 : x 28 = .int .i64 (q0 : Nat) := hG (28, 43) (List.mem_of_getElem? (i := 28) rfl) rfl
          refine Or.inl ⟨ord.want0 rfl, ?_⟩
          exact ord.makes_bin rfl h43 rfl (by exact run_addI _ _ q0 3 q3 a3.1 (by omega) w) ⟨Below.refl _ _, rfl⟩
        · intro o ho x w hb hG
          obtain rfl := Option.some.inj ho
          clear ho
          have h41 : x 26 = .slice (some ⟨B, o, none⟩) 64 c := hG (26, 41) (List.mem_of_getElem? (i := 26) rfl) rfl
          have h44 : x 29 = .int .i64 (q3 : Nat) := hG (29, 44) (List.mem_of_getElem? (i := 29) rfl) rfl
          refine Or.inl ⟨ord.want0 rfl, ?_⟩
          exact ord.makes_indexAddr rfl h41 h44 (by exact run_idx8 B o 64 c q3 m3 w) ⟨Below.refl _ _, rfl⟩
        · intro o ho x w hb hG
          obtain rfl := Option.some.inj ho
          clear ho
          have h45 : x 30 = .pointer (some ⟨B, o + q3, none⟩) := hG (30, 45) (List.mem_of_getElem? (i := 30) rfl) rfl
          refine Or.inl ⟨ord.want0 rfl, ?_⟩
          exact ord.makes_load rfl h45 (by exact run_load8 _ b3 w (CE.out w hb).2.2.2) ⟨Below.refl _ _, rfl⟩
        · intro o ho x w hb hG
          obtain rfl := Option.some.inj ho
          clear ho
          have h46 : x 31 = .int .u8 (b3 : Nat) := hG (31, 46) (List.mem_of_getElem? (i := 31) rfl) rfl
          refine Or.inl ⟨ord.want0 rfl, ?_⟩
          exact ord.makes_conv rfl h46 (by exact run_conv8 b3 l3 w) ⟨Below.refl _ _, rfl⟩
        · intro o ho x w hb hG
          obtain rfl := Option.some.inj ho
          clear ho
          have h40 : x 25 = .int .i64 (z2 : Nat) := hG (25, 40) (List.mem_of_getElem? (i := 25) rfl) rfl
          have h47 : x 32 = .int .i64 (b3 : Nat) := hG (32, 47) (List.mem_of_getElem? (i := 32) rfl) rfl
          refine Or.inl ⟨ord.want0 rfl, ?_⟩
          exact ord.makes_bin rfl h40 h47 (by exact run_addI _ _ z2 b3 z3 d5.1 (by omega) w) ⟨Below.refl _ _, rfl⟩
        · intro o ho x w hb hG
          obtain rfl := Option.some.inj ho
          clear ho
          have h48 : x 33 = .int .i64 (z3 : Nat) := hG (33, 48) (List.mem_of_getElem? (i := 33) rfl) rfl
          refine Or.inl ⟨ord.want0 rfl, ?_⟩
          exact ord.makes_build1 rfl h48 (run_int1 w z3) ⟨(Below.refl _ _).alloc (Nat.le_refl _) _, _, rfl, (World.cell?_alloc_at _ _ _ _ rfl).trans rfl⟩
        · intro x w5 hb hG
          have e0 : x 0 = u3 := hG (0, 15) (List.mem_of_getElem? (i := 0) rfl)
          obtain ⟨g, e34, hc34⟩ : ∃ g, x 34 = .slice (some ⟨g, 0, none⟩) 1 1 ∧ w5.cell? ⟨g, 0, none⟩ = some (.int .i64 (z3 : Nat)) := hG (34, 49) (List.mem_of_getElem? (i := 34) rfl)
          clear hG
          simp only [ord.puts, ord.put', List.set_cons_zero, List.set_cons_succ, if_true]
          rw [e0, e34]
          simp only [List.drop_succ_cons, List.drop_zero]
          have hsz5 : w.heap.size ≤ w5.heap.size := Nat.le_trans hsz hb.size
          have HO := Lib.hid (H1.out.keep hb)
          have HB5 := Lib.hid (H2.out.trans (hb.mono hsz))
          have HC5 := Lib.hid hc34
          clear hb hc34
          go_wp2_with (refine wpList_app1I rfl (.tmp 15) (.tmp 49) rfl w.heap.size _ k _ rfl HO.out g z3 rfl HC5.out (by omega) hsz5 HV2.out ?_; intro v' w' h1 h2; have HO6 := Lib.hid h1; have HB6 := Lib.hid (HB5.out.trans h2); clear h1 h2)
          go_roundw
          case rel => exact ⟨k + 1, by omega, by go_num, HO6.out, HB6.out⟩
          case measure => simp [intOf]; omega
      · have hk16 : (16 : Int) ≤ k := by omega
        have h16n : 16 ≤ k := by omega
        obtain ⟨A3, c3, rfl, hc3, hc3m, hrow, hnil⟩ := H1.out.slice
        obtain ⟨g3, rfl, hg3, hrow⟩ := hrow (by omega)
        have HR := Lib.hid hrow
        have c2 : wr.cell? ⟨g3, k - 2, none⟩ = some (.int .i64 (wn b 48 (k - 2) : Nat)) := hrow.cell (by omega) (Nat.zero_add _).symm
        have c15 : wr.cell? ⟨g3, k - 15, none⟩ = some (.int .i64 (wn b 48 (k - 15) : Nat)) := hrow.cell (by omega) (Nat.zero_add _).symm
        have l2 := wn_lt HY.out 48 (k - 2)
        have l15 := wn_lt HY.out 48 (k - 15)
        have HV := Lib.hid (wn_next b k h16n hlt)
        obtain ⟨x2, hx2⟩ : ∃ x, wn b 48 (k - 2) = x := ⟨_, rfl⟩
        obtain ⟨x15, hx15⟩ : ∃ x, wn b 48 (k - 15) = x := ⟨_, rfl⟩
        rw [hx2] at c2 l2 HV
        rw [hx15] at c15 l15 HV
        clear hrow hx2 hx15
        go_wp2_with fail
        refine (rright_any 7 x15 _ l15 (by decide) (by decide)).mono ?_
        rintro e wa ⟨rfl, na, rfl⟩
        go_wp2_with fail
        refine (rright_any 18 x15 _ l15 (by decide) (by decide)).mono ?_
        rintro e wb ⟨rfl, nb, rfl⟩
        have HOa := Lib.hid ((H1.out.drewN na).drewN nb)
        have HBa := Lib.hid (drawn (drawn H2.out na) nb)
        have HRa := Lib.hid ((HR.out.drewN na).drewN nb)
        have c2 : ((wr.drewN na).drewN nb).cell? ⟨g3, k - 2, none⟩ = some (.int .i64 (x2 : Nat)) := c2
        clear H1 H2 HR c15
        generalize (wr.drewN na).drewN nb = wb at *
        have a7 := rr_lt (n := 7) l15
        have a18 := rr_lt (n := 18) l15
        have hxa := i64_xor_nat (rr 7 x15) (rr 18 x15) (by omega) (by omega)
        have hxb : bits BinOp.xor .i64 ((rr 7 x15 ^^^ rr 18 x15 : Nat) : Int) ((x15 : Int) / 8) = ((ls0 x15 : Nat) : Int) := i64_xor_nat _ (x15 / 8) (by have := xor32 a7 a18; omega) (by omega)
        have hl0 := ls0_lt l15
        generalize rr 7 x15 ^^^ rr 18 x15 = b1 at *
        generalize rr 7 x15 = b2 at *
        generalize rr 18 x15 = b3 at *
        generalize ls0 x15 = s0 at *
        go_wp2_with fail
        refine (rright_any 17 x2 _ l2 (by decide) (by decide)).mono ?_
        rintro e wc ⟨rfl, na, rfl⟩
        go_wp2_with fail
        refine (rright_any 19 x2 _ l2 (by decide) (by decide)).mono ?_
        rintro e wd ⟨rfl, nb, rfl⟩
        have HOb := Lib.hid ((HOa.out.drewN na).drewN nb)
        have HBb := Lib.hid (drawn (drawn HBa.out na) nb)
        have HRb := Lib.hid ((HRa.out.drewN na).drewN nb)
        clear HOa HBa HRa c2
        generalize (wb.drewN na).drewN nb = wd at *
        have a17 := rr_lt (n := 17) l2
        have a19 := rr_lt (n := 19) l2
        have hxc := i64_xor_nat (rr 17 x2) (rr 19 x2) (by omega) (by omega)
        have hxd : bits BinOp.xor .i64 ((rr 17 x2 ^^^ rr 19 x2 : Nat) : Int) ((x2 : Int) / 1024) = ((ls1 x2 : Nat) : Int) := i64_xor_nat _ (x2 / 1024) (by have := xor32 a17 a19; omega) (by omega)
        have hl1 := ls1_lt l2
        generalize rr 17 x2 ^^^ rr 19 x2 = b4 at *
        generalize rr 17 x2 = b5 at *
        generalize rr 19 x2 = b6 at *
        generalize ls1 x2 = s1 at *
        have c16 : wd.cell? ⟨g3, k - 16, none⟩ = some (.int .i64 (wn b 48 (k - 16) : Nat)) := HRb.out.cell (by omega) (Nat.zero_add _).symm
        have c7 : wd.cell? ⟨g3, k - 7, none⟩ = some (.int .i64 (wn b 48 (k - 7) : Nat)) := HRb.out.cell (by omega) (Nat.zero_add _).symm
        have l16 := wn_lt HY.out 48 (k - 16)
        have l7 := wn_lt HY.out 48 (k - 7)
        obtain ⟨x16, hx16⟩ : ∃ x, wn b 48 (k - 16) = x := ⟨_, rfl⟩
        obtain ⟨x7, hx7⟩ : ∃ x, wn b 48 (k - 7) = x := ⟨_, rfl⟩
        obtain ⟨i16, hi16⟩ : ∃ i, k - 16 = i := ⟨_, rfl⟩
        obtain ⟨i7, hi7⟩ : ∃ i, k - 7 = i := ⟨_, rfl⟩
        have j16 : (k : Int) - 16 = i16 := by omega
        have j7 : (k : Int) - 7 = i7 := by omega
        have j16w : IntKind.i64.wrap (i16 : Int) = i16 := IntWalk.i64_in _ (by omega)
        have j7w : IntKind.i64.wrap (i7 : Int) = i7 := IntWalk.i64_in _ (by omega)
        have j16k : (i16 : Int) < k := by omega
        have j7k : (i7 : Int) < k := by omega
        rw [hx16] at c16 l16 HV
        rw [hi16] at c16
        rw [hx7] at c7 l7 HV
        rw [hi7] at c7
        obtain ⟨z, hz⟩ : ∃ z, (x16 + s0 + x7 + s1) % 4294967296 = z := ⟨_, rfl⟩
        rw [hz] at HV
        clear hx16 hx7 hi16 hi7
        obtain ⟨v1, hv1⟩ : ∃ v, v = x16 + s0 := ⟨_, rfl⟩
        obtain ⟨v2, hv2⟩ : ∃ v, v = v1 + x7 := ⟨_, rfl⟩
        obtain ⟨v3, hv3⟩ : ∃ v, v = v2 + s1 := ⟨_, rfl⟩
        have e1 : (x16 : Int) + s0 = v1 := by omega
        have e2 : (v1 : Int) + x7 = v2 := by omega
        have e3 : (v2 : Int) + s1 = v3 := by omega
        have f1 : IntKind.i64.wrap (v1 : Int) = v1 := IntWalk.i64_in _ (by omega)
        have f2 : IntKind.i64.wrap (v2 : Int) = v2 := IntWalk.i64_in _ (by omega)
        have f3 : IntKind.i64.wrap (v3 : Int) = v3 := IntWalk.i64_in _ (by omega)
        have e4 : (v3 : Int).tmod 4294967296 = z := by rw [Int.tmod_eq_emod_of_nonneg (by omega)]; omega
        have hsz5 := HBb.out.size
        have HZ := Lib.hid HV.out.symm
        clear hz hv1 hv2 hv3 HV hsz
        have hk64 : k ≤ 1000000000000 := by omega
        have hcell : ((wd.alloc (.cells #[.int .i64 z] 3)).drew).cell? ⟨wd.heap.size, 0, none⟩ = some (.int .i64 z) := World.cell?_alloc_at _ _ _ _ rfl
        have hsz2 : w.heap.size ≤ ((wd.alloc (.cells #[.int .i64 z] 3)).drew).heap.size := by show _ ≤ (wd.heap.push _).size; simp; omega
        go_wp2_with fail
        go_region_law (refine step_app1I rfl (.tmp 77) (.tmp 94) rfl w.heap.size _ k _ rfl ((HOb.out.alloc _).drew) wd.heap.size z rfl hcell hk64 hsz2 HZ.out ?_; intro v' w' hown' hb')
        all_goals
          have HO6 := Lib.hid hown'
          have HB6 := Lib.hid (((HBb.out.alloc HBb.out.size _).drew).trans hb')
          clear hown' hb' hcell hsz2
          go_wp2_with fail
          go_roundw
          case rel => exact ⟨k + 1, by omega, by go_num, HO6.out, HB6.out⟩
          case measure => simp [intOf]; omega
    · obtain rfl : k = 64 := by omega
      go_wp2_with fail
      go_ret
      exact ⟨_, rfl, H1.out, H2.out⟩
end Go.Proofs.YthmlcmlpmolmoaaGreatDoor
namespace Go.Proofs.YthmlcmlpmolmoaaGreatDoor
open Go.RowKit
theorem wpList_appNI {ops : Array Oper} {rest : List Oper} {o : Oper} {a : Act} {Q : Exit → Act → World → Prop} {w : World} (hgd : o.guard = none) (s x : Operand)
    (ho : o.op = .call { callee := .builtin .append, args := #[s, x], argTypes := #[201, 201] })
    (base : Nat) (v : Value) (f : Nat → Nat) (hs : a.eval s = v) (hown : OwnI w base v 0 f)
    (g m c : Nat) (hx : a.eval x = .slice (some ⟨g, 0, none⟩) m c) (hc : ArrV w g 0 m (ints f)) (hn : m ≤ 1000000000000) (hbase : base ≤ w.heap.size)
    (h : ∀ v' w', OwnI w' base v' m f → Below base w w' → wpList Tryz.prog ops Q rest (a.put o.dst v') w') : wpList Tryz.prog ops Q (o :: rest) a w := by
  obtain ⟨i, hi, hz, hsz, hb⟩ := info_parts infoI
  refine wpList_append_own w hgd s x 201 ho base 3 i (.int .i64 0) 1 8 Tryz.underlying201 hi hz hsz hb rfl (by decide) v 0 _ hs hown ⟨g, 0, none⟩ m c (valsL m (ints f)) hx (by simp [valsL]) ?_ ?_ (by unfold maxLen; omega) (by omega) hbase ?_
  · intro j u hj
    obtain ⟨hjm, rfl⟩ := valsL_get hj
    rw [Go.WideShapes.add_plain]
    exact (hc j hjm).1
  · exact vals_one fun _ _ => rfl
  · intro v' w' h1 h2 _
    rw [Nat.zero_add, show valsL 0 (ints f) ++ valsL m (ints f) = valsL m (ints f) from rfl] at h1
    exact h v' w' h1 ((Below.refl base w).grown h2 hbase fun k hk => (hown.lt k hk).1)
theorem own_emptyI (w : World) (base : Nat) (f : Nat → Nat) (hb : base ≤ w.heap.size) : OwnI (w.alloc (.cells #[] 3)) base (.slice (some ⟨w.heap.size, 0, none⟩) 0 0) 0 f :=
  World.ownsRow_made w #[] 0 hb (by unfold maxLen; omega) rfl
structure StepMem (w0 w : World) (gs gh gw gk : Nat) (s h : S8) (W : Nat → Nat) : Prop where
  st : ArrV w gs 0 8 (ints (at8 s))
  hh : ArrV w gh 0 8 (ints (at8 h))
  ww : ArrV w gw 0 64 (ints W)
  kk : ArrV w gk 0 64 (ints kc)
  bl : Below w0.heap.size w0 w
theorem StepMem.drewN {w0 w : World} {gs gh gw gk : Nat} {s h : S8} {W : Nat → Nat} (m : StepMem w0 w gs gh gw gk s h W) (n : Nat) : StepMem w0 (w.drewN n) gs gh gw gk s h W := ⟨m.st, m.hh, m.ww, m.kk, drawn m.bl n⟩
theorem step_new (w : World) (a b c d e f g h : Nat) (s : S8) (ha : a = s.a) (hb : s.b = b) (hc : s.c = c) (hd : s.d = d) (he : e = s.e) (hf : s.f = f) (hg : s.g = g) (hh : s.h = h) :
    ArrV (w.alloc (.cells #[.int .i64 (a : Nat), .int .i64 (b : Nat), .int .i64 (c : Nat), .int .i64 (d : Nat), .int .i64 (e : Nat), .int .i64 (f : Nat), .int .i64 (g : Nat), .int .i64 (h : Nat)] 3)) w.heap.size 0 8 (ints (at8 s)) := by
  subst ha hb hc hd he hf hg hh
  exact arrV_new rfl rfl
set_option maxRecDepth 100000 in
set_option maxHeartbeats 3200000 in
theorem step_any (gh ch gw cw gk ck : Nat) (s : S8) (W : Nat → Nat) (w : World) (hs : s.ok) (hW : ∀ j, j < 64 → W j < 4294967296) (h1 : ArrV w gh 0 8 (ints (at8 s))) (h2 : ArrV w gw 0 64 (ints W)) (h3 : ArrV w gk 0 64 (ints kc)) :
    Calls Tryz.prog 182 #[.slice (some ⟨gh, 0, none⟩) 8 ch, .slice (some ⟨gw, 0, none⟩) 64 cw, .slice (some ⟨gk, 0, none⟩) 64 ck] w fun e w' => ∃ g c, e = .returned (.slice (some ⟨g, 0, none⟩) 8 c) ∧ ArrV w' g 0 8 (ints (at8 (add8 s (rs W s 64)))) ∧ Below w.heap.size w w' := by
  have HS := Lib.hid hs
  have HWL := Lib.hid hW
  have HH := Lib.hid h1
  have HWA := Lib.hid h2
  have HK := Lib.hid h3
  clear hs hW h1 h2 h3
  have HE := Lib.hid (own_emptyI w w.heap.size (at8 s) (Nat.le_refl _))
  have HHa := Lib.hid (HH.out.alloc (.cells #[] 3))
  have HBa := Lib.hid ((Below.refl w.heap.size w).alloc (Nat.le_refl _) (.cells #[] 3))
  go_enter Tryz.func182, Tryz.ntmps182
  go_wp2_with (refine wpList_appNI rfl (.tmp 17) (.tmp 18) rfl w.heap.size _ (at8 s) rfl HE.out gh 8 ch rfl HHa.out (by decide) HBa.out.size ?_; intro v1 w1 h1 h2; obtain ⟨A1, c1, rfl, _, _, hr, _⟩ := h1.slice; obtain ⟨gs1, rfl, _, hr⟩ := hr (by decide); have HM1 := Lib.hid (show StepMem w w1 gs1 gh gw gk s s W from ⟨hr, HH.out.keep (HBa.out.trans h2), HWA.out.keep (HBa.out.trans h2), HK.out.keep (HBa.out.trans h2), HBa.out.trans h2⟩); clear hr h1 h2)
  clear HE HHa HBa HH HWA HK
  go_loopw [7, 8] (fun v t wr => ∃ (k gs cs : Nat), k ≤ 64 ∧ t = .int .i64 k ∧ v = .slice (some ⟨gs, 0, none⟩) 8 cs ∧ StepMem w wr gs gh gw gk (rs W s k) s W) (fun _ t _ => 64 - (intOf t).toNat)
  case atStart => exact ⟨0, gs1, c1, Nat.zero_le _, rfl, rfl, HM1.out⟩
  case round =>
    obtain ⟨k, gs, cs, hk, rfl, rfl, hm⟩ := hrel
    have H1 := Lib.hid hm
    clear hm HM1
    by_cases hlt : k < 64
    · have hsok := rs_ok (W := W) HS.out k
      have HXa := Lib.hid (show (rs W s (k + 1)).a = (((rs W s k).h + bs1 (rs W s k).e + chn (rs W s k).e (rs W s k).f (rs W s k).g + kc k + W k) + (bs0 (rs W s k).a + maj (rs W s k).a (rs W s k).b (rs W s k).c)) % 4294967296 from rfl)
      have HXb := Lib.hid (show (rs W s (k + 1)).b = (rs W s k).a from rfl)
      have HXc := Lib.hid (show (rs W s (k + 1)).c = (rs W s k).b from rfl)
      have HXd := Lib.hid (show (rs W s (k + 1)).d = (rs W s k).c from rfl)
      have HXe := Lib.hid (show (rs W s (k + 1)).e = ((rs W s k).d + ((rs W s k).h + bs1 (rs W s k).e + chn (rs W s k).e (rs W s k).f (rs W s k).g + kc k + W k)) % 4294967296 from rfl)
      have HXf := Lib.hid (show (rs W s (k + 1)).f = (rs W s k).e from rfl)
      have HXg := Lib.hid (show (rs W s (k + 1)).g = (rs W s k).f from rfl)
      have HXh := Lib.hid (show (rs W s (k + 1)).h = (rs W s k).g from rfl)
      have la' := hsok.a
      have lb' := hsok.b
      have lc' := hsok.c
      have ld' := hsok.d
      have le' := hsok.e
      have lf' := hsok.f
      have lg' := hsok.g
      have lh' := hsok.h
      have lk := kc_lt k
      have lw := HWL.out k hlt
      clear hsok
      have HCa := Lib.hid (show ∀ w', StepMem w w' gs gh gw gk (rs W s k) s W → w'.cell? ⟨gs, 0, none⟩ = some (.int .i64 ((rs W s k).a : Nat)) from fun w' m => m.st.cell (j := 0) (by decide) rfl)
      have HCb := Lib.hid (show ∀ w', StepMem w w' gs gh gw gk (rs W s k) s W → w'.cell? ⟨gs, 1, none⟩ = some (.int .i64 ((rs W s k).b : Nat)) from fun w' m => m.st.cell (j := 1) (by decide) rfl)
      have HCc := Lib.hid (show ∀ w', StepMem w w' gs gh gw gk (rs W s k) s W → w'.cell? ⟨gs, 2, none⟩ = some (.int .i64 ((rs W s k).c : Nat)) from fun w' m => m.st.cell (j := 2) (by decide) rfl)
      have HCd := Lib.hid (show ∀ w', StepMem w w' gs gh gw gk (rs W s k) s W → w'.cell? ⟨gs, 3, none⟩ = some (.int .i64 ((rs W s k).d : Nat)) from fun w' m => m.st.cell (j := 3) (by decide) rfl)
      have HCe := Lib.hid (show ∀ w', StepMem w w' gs gh gw gk (rs W s k) s W → w'.cell? ⟨gs, 4, none⟩ = some (.int .i64 ((rs W s k).e : Nat)) from fun w' m => m.st.cell (j := 4) (by decide) rfl)
      have HCf := Lib.hid (show ∀ w', StepMem w w' gs gh gw gk (rs W s k) s W → w'.cell? ⟨gs, 5, none⟩ = some (.int .i64 ((rs W s k).f : Nat)) from fun w' m => m.st.cell (j := 5) (by decide) rfl)
      have HCg := Lib.hid (show ∀ w', StepMem w w' gs gh gw gk (rs W s k) s W → w'.cell? ⟨gs, 6, none⟩ = some (.int .i64 ((rs W s k).g : Nat)) from fun w' m => m.st.cell (j := 6) (by decide) rfl)
      have HCh := Lib.hid (show ∀ w', StepMem w w' gs gh gw gk (rs W s k) s W → w'.cell? ⟨gs, 7, none⟩ = some (.int .i64 ((rs W s k).h : Nat)) from fun w' m => m.st.cell (j := 7) (by decide) rfl)
      have HCw := Lib.hid (show ∀ w', StepMem w w' gs gh gw gk (rs W s k) s W → w'.cell? ⟨gw, k, none⟩ = some (.int .i64 (W k : Nat)) from fun w' m => m.ww.cell hlt (Nat.zero_add _).symm)
      have HCk := Lib.hid (show ∀ w', StepMem w w' gs gh gw gk (rs W s k) s W → w'.cell? ⟨gk, k, none⟩ = some (.int .i64 (kc k : Nat)) from fun w' m => m.kk.cell hlt (Nat.zero_add _).symm)
      generalize (rs W s k).a = xa at *
      generalize (rs W s k).b = xb at *
      generalize (rs W s k).c = xc at *
      generalize (rs W s k).d = xd at *
      generalize (rs W s k).e = xe at *
      generalize (rs W s k).f = xf at *
      generalize (rs W s k).g = xg at *
      generalize (rs W s k).h = xh at *
      generalize kc k = xk at *
      generalize hww : W k = xw at *
      clear hww
      have HTE := Lib.hid fun (n : Nat) (h1 : 1 ≤ n) (h2 : n ≤ 31) w => rright_any n xe w le' h1 h2
      have HTA := Lib.hid fun (n : Nat) (h1 : 1 ≤ n) (h2 : n ≤ 31) w => rright_any n xa w la' h1 h2
      have ce := HCe.out wr H1.out
      have ca := HCa.out wr H1.out
      have cf := HCf.out wr H1.out
      have cg := HCg.out wr H1.out
      have p1 := i64_and_nat xe xf (by omega) (by omega)
      have ln : 4294967295 - xe < 4294967296 := by omega
      have p2 : IntKind.i64.wrap (4294967295 - (xe : Int)) = ((4294967295 - xe : Nat) : Int) := by rw [IntWalk.i64_in _ (by omega)]; omega
      have p3 := i64_and_nat (4294967295 - xe) xg (by omega) (by omega)
      have b1 := and32' (a := xe) lf'
      have b2 := and32' (a := 4294967295 - xe) lg'
      have p4 : bits BinOp.or .i64 ((xe &&& xf : Nat) : Int) ((4294967295 - xe &&& xg : Nat) : Int) = ((chn xe xf xg : Nat) : Int) := by rw [← chn_or le']; exact i64_or_nat _ _ (by omega) (by omega)
      have lc := chn_lt (e := xe) lf' lg'
      generalize chn xe xf xg = cc at *
      generalize xe &&& xf = v2 at *
      generalize 4294967295 - xe &&& xg = v3 at *
      generalize 4294967295 - xe = v4 at *
      go_wp2_with fail
      go_quiet (fail)
      have H2 := Lib.hid (H1.out.drewN nq)
      clear H1 ce ca cf cg p1 p2 p3 p4
      generalize wr.drewN nq = W2 at *
      have ch' := HCh.out W2 H2.out
      have cw' := HCw.out W2 H2.out
      have ck' := HCk.out W2 H2.out
      have a6 := rr_lt (n := 6) le'
      have a11 := rr_lt (n := 11) le'
      have a25 := rr_lt (n := 25) le'
      have q1 := i64_xor_nat (rr 6 xe) (rr 11 xe) (by omega) (by omega)
      have a611 := xor32 a6 a11
      have q2 : bits BinOp.xor .i64 ((rr 6 xe ^^^ rr 11 xe : Nat) : Int) ((rr 25 xe : Nat) : Int) = ((bs1 xe : Nat) : Int) := i64_xor_nat _ _ (by omega) (by omega)
      have R6 := Lib.hid (HTE.out 6 (by decide) (by decide))
      have R11 := Lib.hid (HTE.out 11 (by decide) (by decide))
      have R25 := Lib.hid (HTE.out 25 (by decide) (by decide))
      have lb := bs1_lt le'
      generalize bs1 xe = s1 at *
      generalize rr 6 xe ^^^ rr 11 xe = v2 at *
      generalize rr 6 xe = r6 at *
      generalize rr 11 xe = r11 at *
      generalize rr 25 xe = r25 at *
      obtain ⟨X1, hX1⟩ : ∃ X, X = xh + s1 := ⟨_, rfl⟩
      obtain ⟨X2, hX2⟩ : ∃ X, X = X1 + cc := ⟨_, rfl⟩
      obtain ⟨X3, hX3⟩ : ∃ X, X = X2 + xk := ⟨_, rfl⟩
      obtain ⟨X, hX⟩ : ∃ X, X = X3 + xw := ⟨_, rfl⟩
      have e1 : (xh : Int) + s1 = X1 := by omega
      have e2 : (X1 : Int) + cc = X2 := by omega
      have e3 : (X2 : Int) + xk = X3 := by omega
      have e4 : (X3 : Int) + xw = X := by omega
      have f1 : IntKind.i64.wrap (X1 : Int) = X1 := IntWalk.i64_in _ (by omega)
      have f2 : IntKind.i64.wrap (X2 : Int) = X2 := IntWalk.i64_in _ (by omega)
      have f3 : IntKind.i64.wrap (X3 : Int) = X3 := IntWalk.i64_in _ (by omega)
      have f4 : IntKind.i64.wrap (X : Int) = X := IntWalk.i64_in _ (by omega)
      have lX : X < 42949672960 := by omega
      have HXX := Lib.hid (show xh + s1 + cc + xk + xw = X by omega)
      clear hX1 hX2 hX3 hX
      go_wp2_with fail
      go_quiet ((go_at_call 208; first | (with_reducible exact Calls.quiet_of (R6.out _)) | (with_reducible exact Calls.quiet_of (R11.out _)) | (with_reducible exact Calls.quiet_of (R25.out _))))
      have H3 := Lib.hid (H2.out.drewN nq)
      clear H2 ch' cw' ck' q1 q2 R6 R11 R25 e1 e2 e3 e4 f1 f2 f3 f4 HTE
      generalize W2.drewN nq = W3 at *
      have cb := HCb.out W3 H3.out
      have cc' := HCc.out W3 H3.out
      have q1 := i64_and_nat xa xb (by omega) (by omega)
      have q2 := i64_and_nat xa xc (by omega) (by omega)
      have q4 := i64_and_nat xb xc (by omega) (by omega)
      have t1 := and32 (b := xb) la'
      have t2 := and32 (b := xc) la'
      have t4 := and32 (b := xc) lb'
      have q3 := i64_or_nat (xa &&& xb) (xa &&& xc) (by omega) (by omega)
      have t3 := or32 t1 t2
      have q5 : bits BinOp.or .i64 (((xa &&& xb) ||| (xa &&& xc) : Nat) : Int) ((xb &&& xc : Nat) : Int) = ((maj xa xb xc : Nat) : Int) := by rw [← maj_or]; exact i64_or_nat _ _ (by omega) (by omega)
      have lm := maj_lt (c := xc) la' lb'
      generalize maj xa xb xc = mm at *
      generalize (xa &&& xb) ||| (xa &&& xc) = v5 at *
      generalize xa &&& xb = v6 at *
      generalize xa &&& xc = v7 at *
      generalize xb &&& xc = v8 at *
      go_wp2_with fail
      go_quiet (fail)
      have H4 := Lib.hid (H3.out.drewN nq)
      clear H3 cb cc' q1 q2 q3 q4 q5
      generalize W3.drewN nq = W4 at *
      go_wp2_with fail
      refine (HTA.out 2 (by decide) (by decide) _).mono ?_
      rintro e Wa ⟨rfl, na, rfl⟩
      have H5 := Lib.hid (H4.out.drewN na)
      clear H4
      generalize W4.drewN na = Wa at *
      go_wp2_with fail
      refine (HTA.out 13 (by decide) (by decide) _).mono ?_
      rintro e Wb ⟨rfl, nb, rfl⟩
      have H6 := Lib.hid (H5.out.drewN nb)
      clear H5
      generalize Wa.drewN nb = Wb at *
      have a2 := rr_lt (n := 2) la'
      have a13 := rr_lt (n := 13) la'
      have a22 := rr_lt (n := 22) la'
      have q1 := i64_xor_nat (rr 2 xa) (rr 13 xa) (by omega) (by omega)
      have a213 := xor32 a2 a13
      have q2 : bits BinOp.xor .i64 ((rr 2 xa ^^^ rr 13 xa : Nat) : Int) ((rr 22 xa : Nat) : Int) = ((bs0 xa : Nat) : Int) := i64_xor_nat _ _ (by omega) (by omega)
      have R22 := Lib.hid (HTA.out 22 (by decide) (by decide))
      have lb0 := bs0_lt la'
      generalize bs0 xa = s0 at *
      generalize rr 2 xa ^^^ rr 13 xa = v2 at *
      generalize rr 2 xa = r2 at *
      generalize rr 13 xa = r13 at *
      generalize rr 22 xa = r22 at *
      go_wp2_with fail
      refine (R22.out _).mono ?_
      rintro e Wc ⟨rfl, nc, rfl⟩
      have H7 := Lib.hid (H6.out.drewN nc)
      clear H6 HTA
      generalize Wb.drewN nc = Wc at *
      obtain ⟨Y, hY⟩ : ∃ Y, Y = s0 + mm := ⟨_, rfl⟩
      have e1 : (s0 : Int) + mm = Y := by omega
      have lY : Y < 8589934592 := by omega
      have HYY := Lib.hid hY
      clear hY
      go_wp2_with fail
      obtain ⟨XY, hXY⟩ : ∃ Z, Z = X + Y := ⟨_, rfl⟩
      obtain ⟨z1, hz1⟩ : ∃ Z, Z = XY % 4294967296 := ⟨_, rfl⟩
      obtain ⟨DX, hDX⟩ : ∃ Z, Z = xd + X := ⟨_, rfl⟩
      obtain ⟨z2, hz2⟩ : ∃ Z, Z = DX % 4294967296 := ⟨_, rfl⟩
      have e1 : (X : Int) + Y = XY := by omega
      have e2 : (xd : Int) + X = DX := by omega
      have f1 : IntKind.i64.wrap (XY : Int) = XY := IntWalk.i64_in _ (by omega)
      have f2 : IntKind.i64.wrap (DX : Int) = DX := IntWalk.i64_in _ (by omega)
      have e3 : (XY : Int).tmod 4294967296 = z1 := by rw [Int.tmod_eq_emod_of_nonneg (by omega)]; omega
      have e4 : (DX : Int).tmod 4294967296 = z2 := by rw [Int.tmod_eq_emod_of_nonneg (by omega)]; omega
      have f3 : IntKind.i64.wrap (z1 : Int) = z1 := IntWalk.i64_in _ (by omega)
      have f4 : IntKind.i64.wrap (z2 : Int) = z2 := IntWalk.i64_in _ (by omega)
      have HZ1 := Lib.hid (show z1 = (rs W s (k + 1)).a by rw [HXa.out]; have h1 := HXX.out; have h2 := HYY.out; omega)
      have HZ2 := Lib.hid (show z2 = (rs W s (k + 1)).e by rw [HXe.out]; have h1 := HXX.out; omega)
      have H8 := Lib.hid (show StepMem w Wc.drew gs gh gw gk (rs W s k) s W from H7.out.drewN 1)
      have cb : Wc.drew.cell? ⟨gs, 1, none⟩ = some (.int .i64 (xb : Nat)) := HCb.out _ H8.out
      have cc' : Wc.drew.cell? ⟨gs, 2, none⟩ = some (.int .i64 (xc : Nat)) := HCc.out _ H8.out
      have cd : Wc.drew.cell? ⟨gs, 3, none⟩ = some (.int .i64 (xd : Nat)) := HCd.out _ H8.out
      have cf : Wc.drew.cell? ⟨gs, 5, none⟩ = some (.int .i64 (xf : Nat)) := HCf.out _ H8.out
      have cg : Wc.drew.cell? ⟨gs, 6, none⟩ = some (.int .i64 (xg : Nat)) := HCg.out _ H8.out
      clear hXY hz1 hDX hz2 H7
      refine wp_region_still_tail 24 (by kernel_rfl) (by kernel_rfl) ?_
      change wpStill _ _ Wc.drew (fun a' => wpList _ _ _ _ a' Wc.drew) _ _
      generalize Wc.drew = Wd at *
      simp only [List.take_succ_cons, List.take_zero, List.drop_succ_cons, List.drop_zero]
      repeat still_step
      refine wpStill_nil ?_
      go_wp2_with fail
      have HN := Lib.hid (step_new Wd z1 xa xb xc z2 xe xf xg (rs W s (k + 1)) HZ1.out HXb.out HXc.out HXd.out HZ2.out HXf.out HXg.out HXh.out)
      have H9 := Lib.hid (show StepMem w (Wd.alloc (.cells #[.int .i64 (z1 : Nat), .int .i64 (xa : Nat), .int .i64 (xb : Nat), .int .i64 (xc : Nat), .int .i64 (z2 : Nat), .int .i64 (xe : Nat), .int .i64 (xf : Nat), .int .i64 (xg : Nat)] 3)) Wd.heap.size gh gw gk (rs W s (k + 1)) s W from
        ⟨HN.out, H8.out.hh.alloc _, H8.out.ww.alloc _, H8.out.kk.alloc _, H8.out.bl.alloc H8.out.bl.size _⟩)
      go_roundw
      case rel => exact ⟨k + 1, _, _, by omega, by go_num, rfl, H9.out⟩
      case measure => simp [intOf]; omega
    · obtain rfl : k = 64 := by omega
      have TOK := Lib.hid (rs_ok (W := W) HS.out 64)
      generalize hT : rs W s 64 = T at *
      have HTT := Lib.hid hT
      clear hT
      have HA := Lib.hid (at8_add s T)
      have HBL := Lib.hid H1.out.bl
      have HSG := Lib.hid (show ∀ w', Below wr.heap.size wr w' → ArrV w' gs 0 8 (ints (at8 T)) from fun w' h => H1.out.st.keep h)
      have HHG := Lib.hid (show ∀ w', Below wr.heap.size wr w' → ArrV w' gh 0 8 (ints (at8 s)) from fun w' h => H1.out.hh.keep h)
      rw [show ((64 : Nat) : Int) = 64 from rfl]
      clear H1
      go_wp2_with fail
      obtain ⟨W1, hW1⟩ : ∃ W1, W1 = wr := ⟨_, rfl⟩
      subst hW1
      go_loopw [15, 16] (fun v t wx => ∃ k : Nat, k ≤ 8 ∧ t = .int .i64 k ∧ OwnI wx W1.heap.size v k (at8 (add8 s T)) ∧ Below W1.heap.size W1 wx) (fun _ t _ => 8 - (intOf t).toNat)
      case atStart => exact ⟨0, Nat.zero_le _, rfl, OwnI.nil _ _ _, Below.refl _ _⟩
      case round =>
        obtain ⟨k, hk, rfl, h1, h2⟩ := hrel
        have G1 := Lib.hid h1
        have G2 := Lib.hid h2
        clear h1 h2
        by_cases hlt8 : k < 8
        · have hki : (k : Int) < 8 := by omega
          have ch' : wr.cell? ⟨gh, k, none⟩ = some (.int .i64 (at8 s k : Nat)) := (HHG.out wr G2.out).cell hlt8 (Nat.zero_add _).symm
          have cs' : wr.cell? ⟨gs, k, none⟩ = some (.int .i64 (at8 T k : Nat)) := (HSG.out wr G2.out).cell hlt8 (Nat.zero_add _).symm
          have l1 := at8_lt HS.out k
          have l2 := at8_lt TOK.out k
          obtain ⟨z, hz⟩ : ∃ z, z = at8 (add8 s T) k := ⟨_, rfl⟩
          have hz2 : z = (at8 s k + at8 T k) % 4294967296 := by rw [hz]; exact HA.out k hlt8
          have HZ := Lib.hid hz
          generalize at8 s k = y1 at *
          generalize at8 T k = y2 at *
          obtain ⟨y, hy⟩ : ∃ y, y = y1 + y2 := ⟨_, rfl⟩
          have e1 : (y1 : Int) + y2 = y := by omega
          have f1 : IntKind.i64.wrap (y : Int) = y := IntWalk.i64_in _ (by omega)
          have e2 : (y : Int).tmod 4294967296 = z := by rw [Int.tmod_eq_emod_of_nonneg (by omega)]; omega
          have f2 : IntKind.i64.wrap (z : Int) = z := IntWalk.i64_in _ (by omega)
          have hszw := G2.out.size
          have hk8 : k ≤ 1000000000000 := by omega
          clear hz hz2 hy
          have hcell : ((wr.alloc (.cells #[.int .i64 z] 3)).drew).cell? ⟨wr.heap.size, 0, none⟩ = some (.int .i64 z) := World.cell?_alloc_at _ _ _ _ rfl
          have hsz2 : W1.heap.size ≤ ((wr.alloc (.cells #[.int .i64 z] 3)).drew).heap.size := by show _ ≤ (wr.heap.push _).size; simp; omega
          go_wp2_with fail
          go_region_law (refine step_app1I rfl (.tmp 124) (.tmp 135) rfl W1.heap.size _ k _ rfl ((G1.out.alloc _).drew) wr.heap.size z rfl hcell hk8 hsz2 HZ.out ?_; intro v' w' hown' hb')
          all_goals
            have HO6 := Lib.hid hown'
            have HB6 := Lib.hid (((G2.out.alloc G2.out.size _).drew).trans hb')
            clear hown' hb' hcell hsz2
            go_wp2_with fail
            go_roundw
            case rel => exact ⟨k + 1, by omega, by go_num, HO6.out, HB6.out⟩
            case measure => simp [intOf]; omega
        · obtain rfl : k = 8 := by omega
          obtain ⟨A9, c9, rfl, _, _, hr9, _⟩ := G1.out.slice
          obtain ⟨g9, rfl, _, hr9⟩ := hr9 (by decide)
          have HR9 := Lib.hid hr9
          clear hr9
          go_wp2_with fail
          go_ret
          exact ⟨g9, c9, rfl, by rw [HTT.out]; exact HR9.out, HBL.out.trans (G2.out.mono HBL.out.size)⟩
end Go.Proofs.YthmlcmlpmolmoaaGreatDoor
namespace Go.Proofs.YthmlcmlpmolmoaaGreatDoor
open Go.RowKit
namespace ord
section
variable {P : Program} {ops : Array Oper} {o : Oper} {a : Act} {w : World} {N : Value → World → Prop}
theorem makes_build4 {t : TypeId} {len i1 i2 i3 i4 : Nat} {o1 o2 o3 o4 : Operand} {v1 v2 v3 v4 u : Value} {w' : World} (ho : o.op = .buildSlice t len #[(i1, o1), (i2, o2), (i3, o3), (i4, o4)]) (h1 : a.eval o1 = v1) (h2 : a.eval o2 = v2) (h3 : a.eval o3 = v3) (h4 : a.eval o4 = v4)
    (hrun : (Instr.buildSlice t len #[(i1, v1), (i2, v2), (i3, v3), (i4, v4)]).run P w = .ok u w') (hN : N u w') : makes P o a w N := makes_build ho (by simp [h1, h2, h3, h4]) hrun hN
end
end ord
theorem run_idxI (g n c q : Nat) (hq : q < n) (w : World) : (Instr.indexAt 201 (.slice (some ⟨g, 0, none⟩) n c) (.int .i64 (q : Nat))).run Tryz.prog w = .ok (.pointer (some ⟨g, q, none⟩)) w := by
  have hq2 : (q : Int) < n := by omega
  go_simp
theorem run_loadI (p : Addr) (x : Nat) (w : World) (h : w.cell? p = some (.int .i64 (x : Nat))) : (Instr.loadAt 3 (.pointer (some p))).run Tryz.prog w = .ok (.int .i64 (x : Nat)) w := by
  go_simp
theorem run_convI8 (x d : Nat) (hd : d = x % 256) (w : World) : (convert 3 5 (.int .i64 (x : Nat))).run Tryz.prog w = .ok (.int .u8 (d : Nat)) w := by
  have h2 : IntKind.u8.wrap (x : Int) = (d : Nat) := by simp [IntKind.wrap, IntKind.bits, IntKind.signed]; omega
  go_simp
theorem run_bytes4 (w : World) (a b c d : Nat) : (Instr.buildSlice 22 4 #[(0, .int .u8 (a : Nat)), (1, .int .u8 (b : Nat)), (2, .int .u8 (c : Nat)), (3, .int .u8 (d : Nat))]).run Tryz.prog w =
    .ok (.slice (some ⟨w.heap.size, 0, none⟩) 4 4) (w.alloc (.cells #[.int .u8 (a : Nat), .int .u8 (b : Nat), .int .u8 (c : Nat), .int .u8 (d : Nat)] 5)) := by go_simp
end Go.Proofs.YthmlcmlpmolmoaaGreatDoor
