/- Law ShaEmpty: parts without bytes change nothing (layer 5). -/
import Derived.Test.YtcmhnelonainhaaDoorLaw05c
namespace Go.Proofs.YtcmhnelonainhaaDoor
open Go.RowKit
/-- an own row of slices, its cells given by a function -/
def OwnS (w : World) (base : Nat) (v : Value) (k : Nat) (X : Nat → Value) : Prop := w.ownsRow base 22 1 v k (valsL k X)
namespace OwnS
variable {w w' : World} {base k : Nat} {v : Value} {X Y : Nat → Value}
theorem nil (w : World) (base : Nat) (X : Nat → Value) : OwnS w base (.slice none 0 0) 0 X := World.ownsRow_nil w base _ 1
theorem alloc (h : OwnS w base v k X) (o : Obj) : OwnS (w.alloc o) base v k X := World.ownsRow.alloc h o
theorem drewN (h : OwnS w base v k X) (m : Nat) : OwnS (w.drewN m) base v k X := h
theorem congr (h : OwnS w base v k X) (e : ∀ j, j < k → X j = Y j) : OwnS w base v k Y := by
  unfold OwnS at *; rw [← valsL_congr e]; exact h
theorem keep (h : OwnS w base v k X) (hb : Below w.heap.size w w') : OwnS w' base v k X := by
  rcases h with ⟨h1, h2 | ⟨g, cap, cur, e, hg, hh, r⟩⟩
  · exact ⟨h1, Or.inl h2⟩
  · exact ⟨h1, Or.inr ⟨g, cap, cur, e, hg, (hb.block g (Array.getElem?_eq_some_iff.1 hh).1).trans hh, r⟩⟩
theorem slice (h : OwnS w base v k X) (hk : 0 < k) : ∃ g c, v = .slice (some ⟨g, 0, none⟩) k c ∧ k ≤ c ∧ base ≤ g ∧ g < w.heap.size ∧ ∀ j, j < k → w.cell? ⟨g, j, none⟩ = some (X j) := by
  have hown := h
  rcases hown.2 with ⟨rfl, hn⟩ | ⟨g, cap, cur, rfl, hg, hh, h1, r⟩
  · omega
  · refine ⟨g, cap, rfl, h1, hg, (Array.getElem?_eq_some_iff.1 hh).1, fun j hj => ?_⟩
    rw [hown.cellAt j (by omega), valsL_at hj]
end OwnS
theorem infoSl : (Tryd.prog.info? 22).map (fun i => (i.zero, i.size, i.bytes)) = some (some (.slice none 0 0), 1, 24) := by kernel_rfl
theorem valsL_snoc (k : Nat) (X : Nat → Value) : valsL k X ++ [X k] = valsL (k + 1) X := by unfold valsL; rw [List.range_succ, List.map_append]; rfl
/-- append of one slice -/
theorem wpList_appV {ops : Array Oper} {rest : List Oper} {o : Oper} {a : Act} {Q : Exit → Act → World → Prop} {w : World} (hgd : o.guard = none) (s x : Operand)
    (ho : o.op = .call { callee := .builtin .append, args := #[s, x], argTypes := #[28, 28] })
    (base : Nat) (v : Value) (k : Nat) (X : Nat → Value) (hs : a.eval s = v) (h : OwnS w base v k X)
    (T : Nat) (hx : a.eval x = .slice (some ⟨T, 0, none⟩) 1 1) (hX : w.cell? ⟨T, 0, none⟩ = some (X k)) (h1 : (X k).oneCell' = true) (hk : k ≤ 1000) (hbase : base ≤ w.heap.size)
    (hq : ∀ v' w', OwnS w' base v' (k + 1) X → Below base w w' → wpList Tryd.prog ops Q rest (a.put o.dst v') w') : wpList Tryd.prog ops Q (o :: rest) a w := by
  obtain ⟨i, hi, hz, hsz, hb⟩ := info_parts infoSl
  refine wpList_append_own w hgd s x 28 ho base 22 i (.slice none 0 0) 1 24 Tryd.underlying28 hi hz hsz hb rfl (by decide) v k _ hs h ⟨T, 0, none⟩ 1 1 [X k] hx rfl ?_ ?_ (by unfold maxLen; omega) (by omega) hbase ?_
  · intro j u hj
    match j, hj with
    | 0, hj => simp at hj; subst hj; exact hX
  · intro u hu; simp at hu; subst hu; exact h1
  · intro v' w' h1 h2 _
    refine hq v' w' ?_ ((Below.refl base w).grown h2 hbase fun k hk => (h.lt k hk).1)
    unfold OwnS
    rw [← valsL_snoc]
    exact h1
namespace ord
theorem makes_len {P : Program} {o : Oper} {a : Act} {w : World} {N : Value → World → Prop} {s : Operand} {t ty : TypeId} {vs u : Value} (ho : o.op = .call { callee := .builtin .len, args := #[s], argTypes := #[t] }) (ht : o.type = ty) (hs : a.eval s = vs)
    (hrun : (Builtin.len_ #[t] ty #[vs]).run P w = .ok u w) (hN : N u w) : makes P o a w N := by
  unfold makes
  have : (execOp a.eval o).run P w = .ok (.value u) w := by
    simp [execOp, ho, ht, resolve, invoke, builtin, hs, hrun, Result.andThen]
  rw [this]; exact hN
end ord
theorem run_len8 (A : Option Addr) (n c : Nat) (w : World) : (Builtin.len_ #[22] 3 #[.slice A n c]).run Tryd.prog w = .ok (.int .i64 (n : Int)) w := by go_simp
--DEFS emp
def empG (g m cp d n : Nat) (f : Nat → Nat) : Nat → Value → World → Prop
  | 0, v, _ => v = .bool true
  | 1, v, _ => v = .bool true
  | 2, v, _ => v = .slice (some ⟨g, 0, none⟩) (m + 2) cp
  | 3, v, w => ∃ d', v = .slice (some ⟨d', 0, none⟩) 32 32 ∧ Arr w d' 0 32 (sha n f)
  | 4, v, _ => v = .string (strOf 32 (sha n f))
  | 5, v, _ => v = .slice (some ⟨d, 0, none⟩) 32 32
  | 6, v, _ => v = .string (strOf 32 (sha n f))
  | 7, v, _ => v = .bool true
  | 8, v, _ => v = .bool true
  | 9, v, _ => v = .bool true
  | 10, v, _ => v = .slice (some ⟨d, 0, none⟩) 32 32
  | 11, v, _ => v = .int .i64 32
  | 12, v, _ => v = .bool true
  | 13, v, _ => v = .bool true
  | 14, v, _ => v = .bool true
  | _, _, _ => True
theorem empG_stays (g m cp d n : Nat) (f : Nat → Nat) : ∀ i v w w', empG g m cp d n f i v w → Below w.heap.size w w' → empG g m cp d n f i v w'
  | 0, _, _, _, h, _ => h
  | 1, _, _, _, h, _ => h
  | 2, _, _, _, h, _ => h
  | 3, v, w, w', h_, hb => by
    obtain ⟨d1, h1, h2⟩ := h_; exact ⟨d1, h1, h2.keep hb⟩
  | 4, _, _, _, h, _ => h
  | 5, _, _, _, h, _ => h
  | 6, _, _, _, h, _ => h
  | 7, _, _, _, h, _ => h
  | 8, _, _, _, h, _ => h
  | 9, _, _, _, h, _ => h
  | 10, _, _, _, h, _ => h
  | 11, _, _, _, h, _ => h
  | 12, _, _, _, h, _ => h
  | 13, _, _, _, h, _ => h
  | 14, _, _, _, h, _ => h
  | _ + 15, _, _, _, _, _ => trivial
--END DEFS emp
/-- nil slices, and one of bytes -/
def eX (m : Nat) (A : Option Addr) (n c : Nat) (j : Nat) : Value := if j = m then .slice A n c else .slice none 0 0
theorem eX_one (m : Nat) (A : Option Addr) (n c j : Nat) : (eX m A n c j).oneCell' = true := by unfold eX; split <;> rfl
def oneOf {α : Type} (m : Nat) (x y : α) (j : Nat) : α := if j = m then x else y
theorem offs_one (m n : Nat) : ∀ k, offs 0 (oneOf m n 0) k = if m < k then n else 0
  | 0 => rfl
  | k + 1 => by
    show offs 0 (oneOf m n 0) k + oneOf m n 0 k = _
    rw [offs_one m n k]
    unfold oneOf
    by_cases e : k = m
    · rw [if_pos e, if_neg (by omega), if_pos (by omega), Nat.zero_add]
    · rw [if_neg e]
      by_cases h : m < k
      · rw [if_pos h, if_pos (by omega), Nat.add_zero]
      · rw [if_neg h, if_neg (by omega)]
theorem sumE_any (W W2 : World) (g m cap : Nat) (A : Option Addr) (n c : Nat) (f : Nat → Nat) (hm : m ≤ 7) (hn : n ≤ 16384) (hc : n ≤ c) (hb : Below W.heap.size W W2) (hX : ∀ j, j < m + 2 → W2.cell? ⟨g, j, none⟩ = some (eX m A n c j)) (hA : SlB W2 A n f) (ht : GT W2) :
    Calls Tryd.prog 12 #[.slice (some ⟨g, 0, none⟩) (m + 2 : Nat) cap] W2 (Dig W n f) := by
  have eo : offs 0 (oneOf m n 0) (m + 2) = n := by rw [offs_one, if_pos (by omega)]
  refine (sum_any g (m + 2) cap (oneOf m A none) (oneOf m n 0) (oneOf m c 0) (fun _ => f) f W2 (by omega) (by omega) (by omega) ⟨fun j hj => ?_, fun j hj => ?_⟩ (fun i hi => ?_) (fun i hi j hj => ?_) (fun j hj => hA.byte (by omega)) ht).mono fun e w' h => (Dig.of h hb).as eo fun _ _ => rfl
  · rw [hX j hj]; unfold eX oneOf
    by_cases e : j = m
    · simp only [if_pos e]
    · simp only [if_neg e]
  · unfold oneOf
    by_cases e : j = m
    · simp only [if_pos e]; exact hA
    · simp only [if_neg e]; exact SlB.none0 _ _
  · unfold oneOf
    by_cases e : i = m
    · simp only [if_pos e]; exact hc
    · simp only [if_neg e]; exact Nat.le_refl _
  · rw [offs_one]
    unfold oneOf at hj
    by_cases e : i = m
    · rw [if_neg (by omega), Nat.zero_add]
    · rw [if_neg e] at hj; omega
set_option maxHeartbeats 800000 in
theorem empty_any (A : Option Addr) (n c : Nat) (f : Nat → Nat) (z : Int) (w : World) (hn : n ≤ 16384) (hc : n ≤ c) (hA : SlB w A n f) (ht : GT w) :
    Calls Tryd.prog 9 #[.slice A n c, .int .i64 z] w fun e w' => e = .returned (.bool true) ∧ Below w.heap.size w w' := by
  have HA := Lib.hid hA
  have HT := Lib.hid ht
  clear hA ht
  have hd : decide (16384 < (n : Int)) = false := by simp; omega
  obtain ⟨m, hm⟩ : ∃ m : Nat, (m : Int) = z % 8 := ⟨(z % 8).toNat, by omega⟩
  have hm7 : m ≤ 7 := by omega
  have hb7 : bits BinOp.and .i64 z 7 = (m : Nat) := (i64_mask 3 7 (by decide) (by decide) z).trans hm.symm
  have HM := Lib.hid hm
  clear hm
  go_enter Tryd.func9, Tryd.ntmps9
  go_wp2_with fail
  refine (small_any _ HT.out).mono ?_
  rintro e w1 ⟨rfl, hb1⟩
  have HB1 := Lib.hid hb1
  clear hb1
  go_wp2_with fail
  go_loopw [6, 7] (fun v6 v7 wr => ∃ (k : Nat), k ≤ m ∧ v7 = .int .i64 (k : Nat) ∧ OwnS wr w1.heap.size v6 k (eX m A n c) ∧ Below w1.heap.size w1 wr) (fun _ v7 _ => m - (intOf v7).toNat)
  case atStart => exact ⟨0, Nat.zero_le _, rfl, OwnS.nil _ _ _, Below.refl _ _⟩
  case round =>
    obtain ⟨k, hk, rfl, h1, h2⟩ := hrel
    have H1 := Lib.hid h1
    have H2 := Lib.hid h2
    clear h1 h2
    by_cases hlt : k < m
    · have HE := Lib.hid (show eX m A n c k = .slice none 0 0 from if_neg (by omega))
      go_wp2_with (at_builtin; go_must (refine wpList_appV rfl (.tmp 20) (.tmp 21) rfl w1.heap.size _ k (eX m A n c) rfl (H1.out.alloc _) wr.heap.size rfl (((World.cell?_alloc_at _ _ _ _ rfl).trans rfl).trans (congrArg some HE.out.symm)) (eX_one _ _ _ _ _) (by omega) (Nat.le_trans H2.out.size (by simp)) ?_); intro v2 w2 ho2 hb2; have HO2 := Lib.hid ho2; have HB2 := Lib.hid ((H2.out.alloc H2.out.size _).trans hb2); clear ho2 hb2)
      go_roundw
      case rel => exact ⟨k + 1, by omega, by go_num, HO2.out, HB2.out⟩
      case measure => simp [intOf]; omega
    · obtain rfl : k = m := by omega
      have HE := Lib.hid (show eX k A n c k = .slice A n c from if_pos rfl)
      have HE2 := Lib.hid (show eX k A n c (k + 1) = .slice none 0 0 from if_neg (by omega))
      go_wp2_with (at_builtin; first | (refine wpList_appV rfl (.tmp 23) (.tmp 25) rfl w1.heap.size _ k (eX k A n c) rfl (H1.out.alloc _) wr.heap.size rfl (((World.cell?_alloc_at _ _ _ _ rfl).trans rfl).trans (congrArg some HE.out.symm)) (eX_one _ _ _ _ _) (by omega) (Nat.le_trans H2.out.size (by simp)) ?_; intro v2 w2 ho2 hb2; have HO2 := Lib.hid ho2; have HB2 := Lib.hid ((H2.out.alloc H2.out.size _).trans hb2); clear ho2 hb2) | (refine wpList_appV rfl (.tmp 26) (.tmp 27) rfl w1.heap.size _ (k + 1) (eX k A n c) rfl (HO2.out.alloc _) w2.heap.size rfl (((World.cell?_alloc_at _ _ _ _ rfl).trans rfl).trans (congrArg some HE2.out.symm)) (eX_one _ _ _ _ _) (by omega) (Nat.le_trans HB2.out.size (by simp)) ?_; intro v3 w3 ho3 hb3; obtain ⟨g, cp, rfl, hcp, hg, hgl, hcs⟩ := ho3.slice (by omega); have HC3 := Lib.hid hcs; have HG := Lib.hid hgl; have HB3 := Lib.hid (HB1.out.trans (((HB2.out.alloc HB2.out.size _).trans hb3).mono HB1.out.size)); clear ho3 hb3 hcp hg hgl hcs))
      refine (sum1_any w3 A n c f (by omega) hc (HA.out.keep HB3.out) (HT.out.keep HB3.out)).mono ?_
      rintro e w4 ⟨d, rfl, h1, h2, h3⟩
      have HD := Lib.hid h2
      have HB4 := Lib.hid (HB3.out.trans (h3.mono HB3.out.size))
      have HCC := Lib.hid (show ∀ w', Below w4.heap.size w4 w' → ∀ j, j < k + 2 → w'.cell? ⟨g, j, none⟩ = some (eX k A n c j) from fun w' hb j hj => ((hb.cell (p := ⟨g, j, none⟩) (Nat.lt_of_lt_of_le HG.out h3.size)).trans (h3.cell (p := ⟨g, j, none⟩) HG.out)).trans (HC3.out j hj))
      clear h1 h2 h3
      have HCV := Lib.hid (show ∀ w', Below w4.heap.size w4 w' → (convert 22 9 (.slice (some ⟨d, 0, none⟩) 32 32)).run Tryd.prog w' = .ok (.string (strOf 32 (sha n f))) w' from fun w' hb => convSl (cap := 32) ((HD.out.keep hb).slB fun j _ => sha_lt _ _ j) (Nat.le_refl 32))
      have HSE := Lib.hid (show ∀ w', Below w4.heap.size w4 w' → Calls Tryd.prog 12 #[.slice (some ⟨g, 0, none⟩) (k + 2 : Nat) cp] w' (Dig w' n f) from fun w' hb => sumE_any w' w' g k cp A n c f hm7 hn hc (Below.refl _ _) (HCC.out w' hb) (HA.out.keep (HB4.out.trans (hb.mono HB4.out.size))) (HT.out.keep (HB4.out.trans (hb.mono HB4.out.size))))
      go_wp2_with fail
      refine wp_region_any (by kernel_rfl) ?_
      change wpAny _ _ _ _ _ _ _ w4.drew
      refine ord.wpAny_ord [[], [0], [1], [2, 1], [3, 1], [1], [5, 1], [4, 6, 1], [1, 7], [8], [9], [10, 9], [11, 9], [9, 12], [13]] [(0, 32), (1, 33), (2, 34), (3, 35), (4, 36), (5, 37), (6, 38), (7, 39), (8, 40), (9, 41), (10, 42), (11, 43), (12, 44), (13, 45), (14, 4)] (empG g k cp d n f) (by kernel_rfl) (by kernel_rfl) (empG_stays _ _ _ _ _ _) (ord.steps_cons ?_ (ord.steps_cons ?_ (ord.steps_cons ?_ (ord.steps_cons ?_ (ord.steps_cons ?_ (ord.steps_cons ?_ (ord.steps_cons ?_ (ord.steps_cons ?_ (ord.steps_cons ?_ (ord.steps_cons ?_ (ord.steps_cons ?_ (ord.steps_cons ?_ (ord.steps_cons ?_ (ord.steps_cons ?_ (ord.steps_cons ?_ ord.steps_nil))))))))))))))) ?_
      --STEPS emp
      · intro o ho x w hb hG
        obtain rfl := Option.some.inj ho
        clear ho
        refine Or.inl ⟨ord.want0 rfl, ?_⟩
        exact ord.makes_move rfl ⟨Below.refl _ _, rfl⟩
      · intro o ho x w hb hG
        obtain rfl := Option.some.inj ho
        clear ho
        have h32 : x 0 = .bool true := hG (0, 32) (List.mem_of_getElem? (i := 0) rfl) rfl
        refine Or.inl ⟨ord.want0 rfl, ?_⟩
        exact ord.makes_move rfl ⟨Below.refl _ _, h32⟩
      · intro o ho x w hb hG
        obtain rfl := Option.some.inj ho
        clear ho
        have h33 : x 1 = .bool true := hG (1, 33) (List.mem_of_getElem? (i := 1) rfl) rfl
        refine Or.inl ⟨ord.wantG rfl rfl h33, ?_⟩
        exact ord.makes_move rfl ⟨Below.refl _ _, rfl⟩
      · intro o ho x w hb hG
        obtain rfl := Option.some.inj ho
        clear ho
        have h34 : x 2 = .slice (some ⟨g, 0, none⟩) (k + 2) cp := hG (2, 34) (List.mem_of_getElem? (i := 2) rfl) rfl
        have h33 : x 1 = .bool true := hG (1, 33) (List.mem_of_getElem? (i := 1) rfl) rfl
        refine Or.inl ⟨ord.wantG rfl rfl h33, ?_⟩
        exact ord.makes_call1 Tryd.func12 (by kernel_rfl) (by kernel_rfl) rfl h34 (HSE.out w (of_drew hb)) (fun e w' h => by obtain ⟨d1, he, _, h2, h4⟩ := h; exact ⟨_, he, h4, d1, rfl, h2⟩)
      · intro o ho x w hb hG
        obtain rfl := Option.some.inj ho
        clear ho
        have h35 : empG g k cp d n f 3 (x 3) w := hG (3, 35) (List.mem_of_getElem? (i := 3) rfl) rfl
        have h33 : x 1 = .bool true := hG (1, 33) (List.mem_of_getElem? (i := 1) rfl) rfl
        refine Or.inl ⟨ord.wantG rfl rfl h33, ?_⟩
        obtain ⟨d1, hv, hs⟩ := h35
        exact ord.makes_conv rfl hv (convSl (cap := 32) (hs.slB fun j _ => sha_lt _ _ j) (Nat.le_refl 32)) ⟨Below.refl _ _, rfl⟩
      · intro o ho x w hb hG
        obtain rfl := Option.some.inj ho
        clear ho
        have h33 : x 1 = .bool true := hG (1, 33) (List.mem_of_getElem? (i := 1) rfl) rfl
        refine Or.inl ⟨ord.wantG rfl rfl h33, ?_⟩
        exact ord.makes_move rfl ⟨Below.refl _ _, rfl⟩
      · intro o ho x w hb hG
        obtain rfl := Option.some.inj ho
        clear ho
        have h37 : x 5 = .slice (some ⟨d, 0, none⟩) 32 32 := hG (5, 37) (List.mem_of_getElem? (i := 5) rfl) rfl
        have h33 : x 1 = .bool true := hG (1, 33) (List.mem_of_getElem? (i := 1) rfl) rfl
        refine Or.inl ⟨ord.wantG rfl rfl h33, ?_⟩
        exact ord.makes_conv rfl h37 (HCV.out w (of_drew hb)) ⟨Below.refl _ _, rfl⟩
      · intro o ho x w hb hG
        obtain rfl := Option.some.inj ho
        clear ho
        have h36 : x 4 = .string (strOf 32 (sha n f)) := hG (4, 36) (List.mem_of_getElem? (i := 4) rfl) rfl
        have h38 : x 6 = .string (strOf 32 (sha n f)) := hG (6, 38) (List.mem_of_getElem? (i := 6) rfl) rfl
        have h33 : x 1 = .bool true := hG (1, 33) (List.mem_of_getElem? (i := 1) rfl) rfl
        refine Or.inl ⟨ord.wantG rfl rfl h33, ?_⟩
        exact ord.makes_bin rfl h36 h38 (by exact str_same2 _ _ _ _) ⟨Below.refl _ _, rfl⟩
      · intro o ho x w hb hG
        obtain rfl := Option.some.inj ho
        clear ho
        have h33 : x 1 = .bool true := hG (1, 33) (List.mem_of_getElem? (i := 1) rfl) rfl
        have h39 : x 7 = .bool true := hG (7, 39) (List.mem_of_getElem? (i := 7) rfl) rfl
        refine Or.inl ⟨ord.want0 rfl, ?_⟩
        exact ord.makes_pick rfl h33 ⟨Below.refl _ _, h39⟩
      · intro o ho x w hb hG
        obtain rfl := Option.some.inj ho
        clear ho
        have h40 : x 8 = .bool true := hG (8, 40) (List.mem_of_getElem? (i := 8) rfl) rfl
        refine Or.inl ⟨ord.want0 rfl, ?_⟩
        exact ord.makes_move rfl ⟨Below.refl _ _, h40⟩
      · intro o ho x w hb hG
        obtain rfl := Option.some.inj ho
        clear ho
        have h41 : x 9 = .bool true := hG (9, 41) (List.mem_of_getElem? (i := 9) rfl) rfl
        refine Or.inl ⟨ord.wantG rfl rfl h41, ?_⟩
        exact ord.makes_move rfl ⟨Below.refl _ _, rfl⟩
      · intro o ho x w hb hG
        obtain rfl := Option.some.inj ho
        clear ho
        have h42 : x 10 = .slice (some ⟨d, 0, none⟩) 32 32 := hG (10, 42) (List.mem_of_getElem? (i := 10) rfl) rfl
        have h41 : x 9 = .bool true := hG (9, 41) (List.mem_of_getElem? (i := 9) rfl) rfl
        refine Or.inl ⟨ord.wantG rfl rfl h41, ?_⟩
        exact ord.makes_len rfl rfl h42 (run_len8 _ _ _ _) ⟨Below.refl _ _, rfl⟩
      · intro o ho x w hb hG
        obtain rfl := Option.some.inj ho
        clear ho
        have h43 : x 11 = .int .i64 32 := hG (11, 43) (List.mem_of_getElem? (i := 11) rfl) rfl
        have h41 : x 9 = .bool true := hG (9, 41) (List.mem_of_getElem? (i := 9) rfl) rfl
        refine Or.inl ⟨ord.wantG rfl rfl h41, ?_⟩
        exact ord.makes_bin rfl h43 rfl (by go_simp) ⟨Below.refl _ _, rfl⟩
      · intro o ho x w hb hG
        obtain rfl := Option.some.inj ho
        clear ho
        have h41 : x 9 = .bool true := hG (9, 41) (List.mem_of_getElem? (i := 9) rfl) rfl
        have h44 : x 12 = .bool true := hG (12, 44) (List.mem_of_getElem? (i := 12) rfl) rfl
        refine Or.inl ⟨ord.want0 rfl, ?_⟩
        exact ord.makes_pick rfl h41 ⟨Below.refl _ _, h44⟩
      · intro o ho x w hb hG
        obtain rfl := Option.some.inj ho
        clear ho
        have h45 : x 13 = .bool true := hG (13, 45) (List.mem_of_getElem? (i := 13) rfl) rfl
        refine Or.inl ⟨ord.want0 rfl, ?_⟩
        exact ord.makes_assign rfl ⟨Below.refl _ _, h45⟩
      --END STEPS emp
      · intro x w6 hb hG
        have e0 : x 14 = .bool true := hG (14, 4) (List.mem_of_getElem? (i := 14) rfl)
        clear hG
        simp only [ord.puts, ord.put', List.set_cons_zero, List.set_cons_succ, if_true]
        rw [e0]
        go_wp2_with fail
        go_ret
        exact ⟨rfl, HB4.out.drew.trans (hb.mono HB4.out.drew.size)⟩
theorem empty_all (A : Option Addr) (n c : Nat) (f : Nat → Nat) (z : Int) (w : World) (hn : n ≤ 140737488351232) (hc : n ≤ c) (hA : SlB w A n f) (ht : GT w) :
    Calls Tryd.prog 9 #[.slice A n c, .int .i64 z] w fun e w' => e = .returned (.bool true) ∧ Below w.heap.size w w' := by
  by_cases h1 : 16384 < n
  · have hd : decide (16384 < (n : Int)) = true := by simp; omega
    have HT := Lib.hid ht
    clear hA ht
    go_enter Tryd.func9, Tryd.ntmps9
    go_wp2_with fail
    refine (small_any _ HT.out).mono ?_
    rintro e w1 ⟨rfl, hb1⟩
    have HB1 := Lib.hid hb1
    clear hb1
    go_wp2_with fail
    go_ret
    exact ⟨rfl, HB1.out⟩
  · exact empty_any A n c f z w (by omega) hc hA ht
end Go.Proofs.YtcmhnelonainhaaDoor
