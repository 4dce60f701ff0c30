/- Layer 4's laws: the small case. -/
import Derived.Test.YtdlkhfcfjgjooaaAesH
import Derived.Test.YtdlkhfcfjgjooaaAesS
import Derived.Test.YtdlkhfcfjgjooaaLR
import Derived.Test.YtdlkhfcfjgjooaaOrdOps
namespace Go.Proofs.Ytdlkhfcfjgjooaa
open Go.RowKit

def RowP (s : Nat) (w : World) (e : Ending) (w' : World) : Prop := ∃ A c, e = .returned (.slice A 16 c) ∧ SlB w' A 16 (fun i => s * i) ∧ w.heap.size ≤ (A.map (·.block)).getD 0 ∧ Below w.heap.size w w'
set_option maxHeartbeats 800000 in
theorem row_any (s : Nat) (hs : s ≤ 17) (w : World) :
    Calls Try.prog 20 #[.int .i64 0, .int .i64 16, .int .i64 (s : Nat)] w (RowP s w) := by
  have HB := Lib.hid fun (i : Nat) (hi : i < 16) => (show s * i < 256 from Nat.lt_of_le_of_lt (Nat.mul_le_mul hs (show i ≤ 15 by omega)) (by decide))
  go_enter Try.func20, Try.ntmps20
  go_wp2_with fail
  go_loopw [7, 8] (fun v7 v8 wr => ∃ (k c : Nat) (A : Option Addr), k ≤ 16 ∧ v8 = .int .i64 (k : Nat) ∧ v7 = .slice A k c ∧ OwnB wr w.heap.size (.slice A k c) k (fun i => s * i) ∧ Below w.heap.size w wr) (fun _ v8 _ => 16 - (intOf v8).toNat)
  case atStart => exact ⟨0, 0, none, by decide, rfl, rfl, OwnB.nil _ _ _, Below.refl _ _⟩
  case round =>
    obtain ⟨k, c, A, hk, rfl, rfl, h1, h2⟩ := hrel
    have H1 := Lib.hid h1
    have H2 := Lib.hid h2
    clear h1 h2
    by_cases hlt : k < 16
    · have hx := HB.out k hlt
      obtain ⟨x, hx2⟩ : ∃ x, s * k = x := ⟨_, rfl⟩
      have hxi : (k : Int) * (s : Nat) = (x : Nat) := by rw [← hx2, Nat.mul_comm]; simp
      have HX := Lib.hid hx2
      rw [hx2] at hx
      have HBL := Lib.hid fun j (hj : j < k) => HB.out j (by omega)
      clear hx2
      go_wp2_with (at_builtin; go_must (refine wpList_appO rfl (.tmp 14) (.tmp 21) rfl w.heap.size _ k (fun i => s * i) rfl (H1.out.alloc _) (some ⟨wr.heap.size, 0, none⟩) 1 1 (fun _ => x) rfl (one_slB wr _ x hx) (fun h => by cases h) (by omega) (Nat.le_trans H2.out.size (by simp)) HBL.out (fun _ _ => hx) ?_); intro A2 c2 w2 ho2 _ _ hb2; have HO2 := Lib.hid (ho2.congr (g := fun i => s * i) fun j hj => by
        unfold catB
        by_cases h : j < k
        · rw [if_pos h]
        · rw [if_neg h, ← HX.out, show j = k by omega]); have HB2 := Lib.hid ((H2.out.alloc H2.out.size _).trans hb2); clear ho2 hb2)
      go_roundw
      case rel => exact ⟨k + 1, c2, A2, by omega, by go_num, rfl, HO2.out, HB2.out⟩
      case measure => simp [intOf]; omega
    · obtain rfl : k = 16 := by omega
      obtain ⟨T, cT, hv, hT1, hT2, hT3⟩ := OwnB.rowX H1.out (by decide)
      cases hv
      have HT := Lib.hid (hT3.slB fun j hj => HB.out j hj)
      have HN := Lib.hid hT1
      clear hT1 hT2 hT3
      go_wp2_with fail
      go_ret
      exact ⟨_, _, rfl, HT.out, HN.out, H2.out⟩
theorem row1 (w : World) : Calls Try.prog 20 #[.int .i64 0, .int .i64 16, .int .i64 1] w (RowP 1 w) := row_any 1 (by decide) w
theorem row17 (w : World) : Calls Try.prog 20 #[.int .i64 0, .int .i64 16, .int .i64 17] w (RowP 17 w) := row_any 17 (by decide) w
theorem small_str : strOf 16 (enc 4 (ks 4 (fun j => 1 * j)) (fun i => 17 * i)) = ⟨#[105, 196, 224, 216, 106, 123, 4, 48, 216, 205, 183, 128, 112, 180, 197, 90]⟩ := by
  rw [show (fun j => 1 * j) = (fun j : Nat => j) from funext fun j => Nat.one_mul j, strOf_congr 16 _ _ enc_small]
  rfl
theorem makes_call3 {P : Program} {o : Oper} {a : Act} {w : World} {N : Value → World → Prop} {F : FuncId} {fn : Func} {o1 o2 o3 : Operand} {ts : Array TypeId} {v1 v2 v3 : Value} {post : Ending → World → Prop} (hf : P.funcs[F]? = some fn) (hname : (fn.name == "runtime.NumGoroutine") = false) (hb : fn.body.isNone = false)
    (ho : o.op = .call { callee := .value (.func F), args := #[o1, o2, o3], argTypes := ts }) (h1 : a.eval o1 = v1) (h2 : a.eval o2 = v2) (h3 : a.eval o3 = v3)
    (hc : Calls P F #[v1, v2, v3] w post) (hN : ∀ e w', post e w' → ∃ v, e = .returned v ∧ N v w') : ord.makes P o a w N := ord.makes_call hf hname hb ho (by simp [h1, h2, h3]) hc hN
theorem str_same {w : World} (s : ByteArray) : (do eqGuard .eql 9 (.const (.string s)) (.const (.string s)) (.string s) (.string s); binOp .eql 9 (.string s) (.string s) : Sem Value).run Try.prog w = .ok (.bool true) w := by
  go_simp
--DEFS sm4
def smallG (st sd : Nat) : Nat → Value → World → Prop
  | 0, v, _ => v = .int .i64 0
  | 1, v, _ => v = .bool true
  | 2, v, _ => v = .bool true
  | 3, v, _ => v = .slice (some ⟨st, 0, none⟩) 16 16
  | 4, v, _ => v = .string ⟨#[105, 196, 224, 216, 106, 123, 4, 48, 216, 205, 183, 128, 112, 180, 197, 90]⟩
  | 5, v, _ => v = .bool true
  | 6, v, _ => v = .bool true
  | 7, v, _ => v = .bool true
  | 8, v, _ => v = .int .i64 0
  | 9, v, _ => v = .bool true
  | 10, v, _ => v = .bool true
  | 11, v, _ => v = .bool true
  | 12, v, _ => v = .slice (some ⟨sd, 0, none⟩) 16 16
  | 13, v, _ => v = .string (strOf 16 (fun i => 17 * i))
  | 14, v, w => ∃ A c, v = .slice A 16 c ∧ SlB w A 16 (fun i => 17 * i)
  | 15, v, _ => v = .string (strOf 16 (fun i => 17 * i))
  | 16, v, _ => v = .bool true
  | 17, v, _ => v = .bool true
  | 18, v, _ => v = .bool true
  | _, _, _ => True
theorem smallG_stays (st sd : Nat) : ∀ i v w w', smallG st sd i v w → Below w.heap.size w w' → smallG st sd i v w'
  | 0, _, _, _, h, _ => h
  | 1, _, _, _, h, _ => h
  | 2, _, _, _, h, _ => h
  | 3, _, _, _, h, _ => h
  | 4, _, _, _, h, _ => h
  | 5, _, _, _, h, _ => h
  | 6, _, _, _, h, _ => h
  | 7, _, _, _, h, _ => h
  | 8, _, _, _, h, _ => h
  | 9, _, _, _, h, _ => h
  | 10, _, _, _, h, _ => h
  | 11, _, _, _, h, _ => h
  | 12, _, _, _, h, _ => h
  | 13, _, _, _, h, _ => h
  | 14, v, w, w', h_, hb => by
    obtain ⟨A, c, h1, h2⟩ := h_; exact ⟨A, c, h1, h2.keep hb⟩
  | 15, _, _, _, h, _ => h
  | 16, _, _, _, h, _ => h
  | 17, _, _, _, h, _ => h
  | 18, _, _, _, h, _ => h
  | _ + 19, _, _, _, _, _ => trivial
--END DEFS sm4
set_option maxRecDepth 100000 in
set_option maxHeartbeats 1600000 in
theorem small_any (w : World) : Calls Try.prog 8 #[] w fun e w' => e = .returned (.bool true) ∧ Below w.heap.size w w' := by
  have HKY := Lib.hid (show By (4 * 4) (fun j => 1 * j) from fun j hj => by show 1 * j < 256; omega)
  have HPY := Lib.hid (show By 16 (fun i => 17 * i) from fun j hj => by show 17 * j < 256; omega)
  have HSB := Lib.hid (show By (16 * (4 + 7)) (ks 4 (fun j => 1 * j)) from fun j _ => ks_by (by decide) HKY.out j)
  have HEB := Lib.hid (enc_by HSB.out HPY.out)
  have HDE := Lib.hid (dec_enc HSB.out HPY.out)
  go_enter Try.func8, Try.ntmps8
  go_wp2_with (first | (go_at_call 20; (first | ((with_reducible refine (row1 w).mono ?_); rintro e w1 ⟨A1, c1, rfl, h1, _, h2⟩; have H1 := Lib.hid h1; have H2 := Lib.hid h2; clear h1 h2) | ((with_reducible refine (row17 w2).mono ?_); rintro e w3 ⟨A3, c3, rfl, h1, h2, h3⟩; have H6 := Lib.hid h1; have H7 := Lib.hid h2; have H8 := Lib.hid h3; clear h1 h2 h3))) | (go_at_call 10; go_must (refine (new_any A1 4 c1 _ w1 (Or.inl rfl) H1.out).mono ?_); rintro e w2 ⟨g, rfl, h1, h2, h3⟩; have H3 := Lib.hid h1; have H4 := Lib.hid h2; have H5 := Lib.hid (H2.out.trans (h3.mono H2.out.size)); clear h1 h2 h3) | (go_at_call 16; go_must (refine (enc_any g 4 _ _ A3 c3 w3 (Or.inl rfl) HKY.out (H4.out.keep H8.out) H6.out (fun B o hA => by have := H7.out; have := H4.out.lt; subst hA; simp at this; omega)).mono ?_); rintro e w4 ⟨st, hb⟩; obtain ⟨rfl, h1, h2, h3, h4⟩ := hb; have H9 := Lib.hid h1; have H10 := Lib.hid h2; have H11 := Lib.hid h3; have H12 := Lib.hid h4; clear h1 h2 h3 h4))
  refine (dec_any g 4 _ _ (some ⟨st, 0, none⟩) 16 w4 (Or.inl rfl) HKY.out (Or.inr H11.out) (H10.out.slB HEB.out) (fun B o hA => by have := H9.out; have := H4.out.lt; have := H8.out.size; injection hA with hA; injection hA with hA; omega)).mono ?_
  rintro e w5 ⟨sd, hb⟩
  obtain ⟨rfl, h1, h2, _, h4⟩ := hb
  have HST := Lib.hid (show st ≠ g by have := H9.out; have := H4.out.lt; have := H8.out.size; omega)
  have HRE := Lib.hid (H10.out.chg h4 HST.out)
  have HRD := Lib.hid (h2.congr (f := fun i => 17 * i) fun j hj => HDE.out j hj)
  have HB5 := Lib.hid (show Below w.heap.size w w5 from
    (H5.out.trans ((H8.out.mono H5.out.size))).trans ((H12.out.trans h4).below (Nat.le_trans H5.out.size H8.out.size) (Nat.le_trans H2.out.size H3.out)))
  clear h1 h2 h4
  have HST4 := Lib.hid small_str
  have HSc := Lib.hid (HRE.out.drew.slB HEB.out)
  have HSp := Lib.hid (HRD.out.drew.slB HPY.out)
  generalize enc 4 (ks 4 (fun j => 1 * j)) (fun i => 17 * i) = fc at *
  go_wp2_with fail
  refine wp_region_any (by kernel_rfl) ?_
  change wpAny _ _ _ _ _ _ _ w5.drew
  refine ord.wpAny_ord [[], [0], [1], [2], [3, 2], [4, 2], [2, 5], [6], [7], [8, 7], [7, 9], [10], [11], [12, 11], [11], [14, 11], [13, 15, 11], [11, 16], [17]] [(0, 30), (1, 31), (2, 32), (3, 33), (4, 34), (5, 35), (6, 36), (7, 37), (8, 38), (9, 39), (10, 40), (11, 41), (12, 42), (13, 43), (14, 44), (15, 45), (16, 46), (17, 47), (18, 0)] (smallG st sd) (by kernel_rfl) (by kernel_rfl) (smallG_stays _ _) ((ord.steps_cons ?_ (ord.steps_cons ?_ (ord.steps_cons ?_ (ord.steps_cons ?_ (ord.steps_cons ?_ (ord.steps_cons ?_ (ord.steps_cons ?_ (ord.steps_cons ?_ (ord.steps_cons ?_ (ord.steps_cons ?_ (ord.steps_cons ?_ (ord.steps_cons ?_ (ord.steps_cons ?_ (ord.steps_cons ?_ (ord.steps_cons ?_ (ord.steps_cons ?_ (ord.steps_cons ?_ (ord.steps_cons ?_ (ord.steps_cons ?_ ord.steps_nil)))))))))))))))))))) ?_
  --STEPS sm4
  · intro o ho x w hb hG
    obtain rfl := Option.some.inj ho
    clear ho
    refine Or.inl ⟨ord.want0 rfl, ?_⟩
    exact ord.makes_move rfl ⟨Below.refl _ _, rfl⟩
  · intro o ho x w hb hG
    obtain rfl := Option.some.inj ho
    clear ho
    have h30 : x 0 = .int .i64 0 := hG (0, 30) (List.mem_of_getElem? (i := 0) rfl) rfl
    refine Or.inl ⟨ord.want0 rfl, ?_⟩
    exact ord.makes_bin rfl h30 rfl (by go_simp) ⟨Below.refl _ _, rfl⟩
  · intro o ho x w hb hG
    obtain rfl := Option.some.inj ho
    clear ho
    have h31 : x 1 = .bool true := hG (1, 31) (List.mem_of_getElem? (i := 1) rfl) rfl
    refine Or.inl ⟨ord.want0 rfl, ?_⟩
    exact ord.makes_move rfl ⟨Below.refl _ _, h31⟩
  · intro o ho x w hb hG
    obtain rfl := Option.some.inj ho
    clear ho
    have h32 : x 2 = .bool true := hG (2, 32) (List.mem_of_getElem? (i := 2) rfl) rfl
    refine Or.inl ⟨ord.wantG rfl rfl h32, ?_⟩
    exact ord.makes_move rfl ⟨Below.refl _ _, rfl⟩
  · intro o ho x w hb hG
    obtain rfl := Option.some.inj ho
    clear ho
    have h33 : x 3 = .slice (some ⟨st, 0, none⟩) 16 16 := hG (3, 33) (List.mem_of_getElem? (i := 3) rfl) rfl
    have h32 : x 2 = .bool true := hG (2, 32) (List.mem_of_getElem? (i := 2) rfl) rfl
    refine Or.inl ⟨ord.wantG rfl rfl h32, ?_⟩
    exact ord.makes_conv rfl h33 (by rw [← HST4.out]; exact convSl (HSc.out.keep hb) (Nat.le_refl 16)) ⟨Below.refl _ _, rfl⟩
  · intro o ho x w hb hG
    obtain rfl := Option.some.inj ho
    clear ho
    have h34 : x 4 = .string ⟨#[105, 196, 224, 216, 106, 123, 4, 48, 216, 205, 183, 128, 112, 180, 197, 90]⟩ := hG (4, 34) (List.mem_of_getElem? (i := 4) rfl) rfl
    have h32 : x 2 = .bool true := hG (2, 32) (List.mem_of_getElem? (i := 2) rfl) rfl
    refine Or.inl ⟨ord.wantG rfl rfl h32, ?_⟩
    exact ord.makes_bin rfl h34 rfl (by exact str_same _) ⟨Below.refl _ _, rfl⟩
  · intro o ho x w hb hG
    obtain rfl := Option.some.inj ho
    clear ho
    have h32 : x 2 = .bool true := hG (2, 32) (List.mem_of_getElem? (i := 2) rfl) rfl
    have h35 : x 5 = .bool true := hG (5, 35) (List.mem_of_getElem? (i := 5) rfl) rfl
    refine Or.inl ⟨ord.want0 rfl, ?_⟩
    exact ord.makes_pick rfl h32 ⟨Below.refl _ _, h35⟩
  · intro o ho x w hb hG
    obtain rfl := Option.some.inj ho
    clear ho
    have h36 : x 6 = .bool true := hG (6, 36) (List.mem_of_getElem? (i := 6) rfl) rfl
    refine Or.inl ⟨ord.want0 rfl, ?_⟩
    exact ord.makes_move rfl ⟨Below.refl _ _, h36⟩
  · intro o ho x w hb hG
    obtain rfl := Option.some.inj ho
    clear ho
    have h37 : x 7 = .bool true := hG (7, 37) (List.mem_of_getElem? (i := 7) rfl) rfl
    refine Or.inl ⟨ord.wantG rfl rfl h37, ?_⟩
    exact ord.makes_move rfl ⟨Below.refl _ _, rfl⟩
  · intro o ho x w hb hG
    obtain rfl := Option.some.inj ho
    clear ho
    have h38 : x 8 = .int .i64 0 := hG (8, 38) (List.mem_of_getElem? (i := 8) rfl) rfl
    have h37 : x 7 = .bool true := hG (7, 37) (List.mem_of_getElem? (i := 7) rfl) rfl
    refine Or.inl ⟨ord.wantG rfl rfl h37, ?_⟩
    exact ord.makes_bin rfl h38 rfl (by go_simp) ⟨Below.refl _ _, rfl⟩
  · intro o ho x w hb hG
    obtain rfl := Option.some.inj ho
    clear ho
    have h37 : x 7 = .bool true := hG (7, 37) (List.mem_of_getElem? (i := 7) rfl) rfl
    have h39 : x 9 = .bool true := hG (9, 39) (List.mem_of_getElem? (i := 9) rfl) rfl
    refine Or.inl ⟨ord.want0 rfl, ?_⟩
    exact ord.makes_pick rfl h37 ⟨Below.refl _ _, h39⟩
  · intro o ho x w hb hG
    obtain rfl := Option.some.inj ho
    clear ho
    have h40 : x 10 = .bool true := hG (10, 40) (List.mem_of_getElem? (i := 10) rfl) rfl
    refine Or.inl ⟨ord.want0 rfl, ?_⟩
    exact ord.makes_move rfl ⟨Below.refl _ _, h40⟩
  · intro o ho x w hb hG
    obtain rfl := Option.some.inj ho
    clear ho
    have h41 : x 11 = .bool true := hG (11, 41) (List.mem_of_getElem? (i := 11) rfl) rfl
    refine Or.inl ⟨ord.wantG rfl rfl h41, ?_⟩
    exact ord.makes_move rfl ⟨Below.refl _ _, rfl⟩
  · intro o ho x w hb hG
    obtain rfl := Option.some.inj ho
    clear ho
    have h42 : x 12 = .slice (some ⟨sd, 0, none⟩) 16 16 := hG (12, 42) (List.mem_of_getElem? (i := 12) rfl) rfl
    have h41 : x 11 = .bool true := hG (11, 41) (List.mem_of_getElem? (i := 11) rfl) rfl
    refine Or.inl ⟨ord.wantG rfl rfl h41, ?_⟩
    exact ord.makes_conv rfl h42 (convSl (HSp.out.keep hb) (Nat.le_refl 16)) ⟨Below.refl _ _, rfl⟩
  · intro o ho x w hb hG
    obtain rfl := Option.some.inj ho
    clear ho
    have h41 : x 11 = .bool true := hG (11, 41) (List.mem_of_getElem? (i := 11) rfl) rfl
    refine Or.inl ⟨ord.wantG rfl rfl h41, ?_⟩
    exact makes_call3 Try.func20 (by kernel_rfl) (by kernel_rfl) rfl rfl rfl rfl (row17 w) (fun e w' h => by obtain ⟨A, c, rfl, h1, _, h2⟩ := h; exact ⟨_, rfl, h2, A, c, rfl, h1⟩)
  · intro o ho x w hb hG
    obtain rfl := Option.some.inj ho
    clear ho
    have h44 : smallG st sd 14 (x 14) w := hG (14, 44) (List.mem_of_getElem? (i := 14) rfl) rfl
    have h41 : x 11 = .bool true := hG (11, 41) (List.mem_of_getElem? (i := 11) rfl) rfl
    refine Or.inl ⟨ord.wantG rfl rfl h41, ?_⟩
    obtain ⟨A, c, h1, h2⟩ := h44
    exact ord.makes_conv rfl h1 (convSl h2 (Nat.le_refl 16)) ⟨Below.refl _ _, rfl⟩
  · intro o ho x w hb hG
    obtain rfl := Option.some.inj ho
    clear ho
    have h43 : x 13 = .string (strOf 16 (fun i => 17 * i)) := hG (13, 43) (List.mem_of_getElem? (i := 13) rfl) rfl
    have h45 : x 15 = .string (strOf 16 (fun i => 17 * i)) := hG (15, 45) (List.mem_of_getElem? (i := 15) rfl) rfl
    have h41 : x 11 = .bool true := hG (11, 41) (List.mem_of_getElem? (i := 11) rfl) rfl
    refine Or.inl ⟨ord.wantG rfl rfl h41, ?_⟩
    exact ord.makes_bin rfl h43 h45 (by exact str_same _) ⟨Below.refl _ _, rfl⟩
  · intro o ho x w hb hG
    obtain rfl := Option.some.inj ho
    clear ho
    have h41 : x 11 = .bool true := hG (11, 41) (List.mem_of_getElem? (i := 11) rfl) rfl
    have h46 : x 16 = .bool true := hG (16, 46) (List.mem_of_getElem? (i := 16) rfl) rfl
    refine Or.inl ⟨ord.want0 rfl, ?_⟩
    exact ord.makes_pick rfl h41 ⟨Below.refl _ _, h46⟩
  · intro o ho x w hb hG
    obtain rfl := Option.some.inj ho
    clear ho
    have h47 : x 17 = .bool true := hG (17, 47) (List.mem_of_getElem? (i := 17) rfl) rfl
    refine Or.inl ⟨ord.want0 rfl, ?_⟩
    exact ord.makes_assign rfl ⟨Below.refl _ _, h47⟩
  --END STEPS sm4
  · intro x w6 hb hG
    have e0 : x 18 = .bool true := hG (18, 0) (List.mem_of_getElem? (i := 18) rfl)
    clear hG
    simp only [ord.puts, ord.put', List.set_cons_zero, List.set_cons_succ, if_true]
    rw [e0]
    go_wp2_with fail
    go_ret
    exact ⟨rfl, HB5.out.drew.trans (hb.mono HB5.out.drew.size)⟩
end Go.Proofs.Ytdlkhfcfjgjooaa
