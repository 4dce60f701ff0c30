/- 15 texts in one, in their order: what the cards need of them. -/
import Derived.Test.YthmlcmlpmolmoaaGreatDoorRows
import Derived.WalkKit
import Derived.ProofKit
import Derived.OpenShut
import Derived.Deep.DeepHandedRow
import Derived.Lib.LaidTab
import Derived.Below
import Derived.SizedLaws
import Derived.WalkSpells
import Derived.WalkLawsBesides
import Derived.Lib.Hide
import Derived.Deep.QuietTactic
import Derived.BigQuiet
import Derived.Deep.OwnRows
import Derived.OwnWalk
import Derived.StillTailTactics
import Derived.Deep.RegionLaw
import Derived.Deep.RegionWith
import Derived.Lib.BitFns
import Derived.Laws.BitsAllLaws
import Derived.Laws.AppendOwnNone
import Derived.Laws.CopyOwn
import Derived.Lib.SmallJoins
namespace Go.Proofs.YthmlcmlpmolmoaaGreatDoor.kit
open Go.ChangeShapes Go.WideShapes Go.ChangeAt Go.RowKit
section
variable {H : Type} {enc : TypeId × Value → H} {P : Program} {W W' : World}
theorem all_stay (hl : laidOutB P = true) {sp : Nat → Bool} :
    ∀ (ts : List TypeId) (vs : List Value) (ds : List (DataW H)) (ps : List MemPlace), (∀ t ∈ ts, P.readableRec t = true ∧ t < P.types.size) →
      DataW.TrodAll enc P W 0 (fun _ => true) true ts vs ds ps → (∀ p ∈ ps, W.sameAt W' p) → (∀ p ∈ ps, sp p.block = true) → DataW.TrodAll enc P W' 0 sp true ts vs ds ps
  | [], [], [], _, _, h, _, _ => h
  | t :: ts, v :: vs, d :: ds, ps, hr, h, hs, hp => by
    obtain ⟨p, q, h1, h2, rfl⟩ := h
    have ht := hr t (List.mem_cons_self ..)
    exact ⟨p, q, WideElems.Trod_stays hl ht.1 ht.2 h1 (fun x hx => hs x (List.mem_append_left _ hx)) (fun x hx => hp x (List.mem_append_left _ hx)),
      all_stay hl ts vs ds q (fun t' h' => hr t' (List.mem_cons_of_mem _ h')) h2 (fun x hx => hs x (List.mem_append_right _ hx)) (fun x hx => hp x (List.mem_append_right _ hx)), rfl⟩
  | [], _ :: _, _, _, _, h, _, _ => h.elim
  | [], [], _ :: _, _, _, h, _, _ => h.elim
  | _ :: _, [], _, _, _, h, _, _ => h.elim
  | _ :: _, _ :: _, [], _, _, h, _, _ => h.elim
theorem law_post {f : Func} {s : ChangeSpec} {fresh handsOn again : Bool} {args : Array Value} {ds gs : List (DataW H)} {before : List MemPlace} {tb : TypeId}
    (hrt : f.resultTypes = #[tb]) (hb : P.underlying tb = some .bool) (hv : s.vars = []) (hs : s.fn H (ds ++ gs) = { results := [.lit (.bool true)], args := ds })
    (hl : laidOutB P = true) (hr : ∀ t ∈ f.params.toList, P.readableRec t = true ∧ t < P.types.size)
    (hW : DataW.Whole enc P f.params.toList s.vars false W args.toList ds gs before) (hB : Below W.heap.size W W') :
    s.post enc P f false fresh handsOn again W args (.bool true) W' := by
  have hlt : ∀ p ∈ before, p.block < W.heap.size := fun p hp => hW.lt p hp
  have hW0 := hW
  obtain ⟨p, q, hA, hV, hpq, hz, _⟩ := hW
  rw [hv] at hV
  obtain ⟨rfl, rfl⟩ := trodVars_none hV
  obtain rfl : before = p := by rw [hpq, List.append_nil]
  have hsame : ∀ x ∈ before, W.sameAt W' x := fun x hx => hB.same (hlt x hx)
  have hres : ∀ (b : Nat) (sp : Nat → Bool) (hd : Bool), DataW.TrodAll enc P W' b sp hd f.resultTypes.toList ((Value.bool true).resultList f.resultTypes.size) (s.fn H (ds ++ [])).results [] := by
    intro b sp hd
    rw [hs, hrt]
    exact ⟨[], [], ⟨1, by simp [DataW.trod, hb, Value.cells]⟩, rfl, rfl⟩
  have hargs : ∀ sp : Nat → Bool, (∀ x ∈ before, sp x.block = true) → DataW.TrodAll enc P W' 0 sp true f.params.toList args.toList (s.fn H (ds ++ [])).args before := by
    intro sp hsp
    rw [hs]
    exact all_stay hl _ _ _ _ hr hA hsame hsp
  have hvars : ∀ sp : Nat → Bool, DataW.TrodVars enc P W' sp s.vars (s.fn H (ds ++ [])).vars [] := by
    intro sp
    rw [hv, hs]
    rfl
  refine ⟨ds, [], before, [], before, [], hW0, hres _ _ _, hargs _ (fun x hx => by simpa using hlt x hx), hvars _, World.keptBut_mono (fun x hx => ⟨hx, Or.inr (Or.inl hx)⟩) (hB.frame (· ∈ before)), fun _ => ?_⟩
  have hall := trodAll_append (hargs (fun _ => true) (fun _ _ => rfl)) (hres 0 (fun _ => true) true)
  refine ⟨ok_one hrt rfl (okWide_bool_mk hb true), _, _, _, ⟨_, [], hall, hvars _, rfl, ?_, fun h => by cases h⟩, fun x hx _ => by simpa using hx⟩
  intro b off hx
  have hx' : MemPlace.cell b off ∈ before := by simpa using hx
  rw [hB.frozen (hlt _ hx')]
  exact hz b off hx'
end
end Go.Proofs.YthmlcmlpmolmoaaGreatDoor.kit
namespace Go.Proofs.YthmlcmlpmolmoaaGreatDoor
open Go.RowKit
def chr (n : Nat) : UInt8 := UInt8.ofNat n
theorem chr_toNat (n : Nat) (h : n < 256) : (chr n).toNat = n := by unfold chr; rw [UInt8.toNat_ofNat']; omega
theorem conv1 (x : Int) (w : World) : (convert 22 9 (.slice (some ⟨w.heap.size, 0, none⟩) 1 1)).run Tryz.prog (w.alloc (.cells #[.int .u8 x] 5)) =
    .ok (.string ⟨#[chr x.toNat]⟩) (w.alloc (.cells #[.int .u8 x] 5)) :=
  run_convert_bytes_arg _ _ _ Tryz.underlying22 Tryz.underlying5 _ 0 1 1 [x] rfl (fun i hi => by
    obtain rfl : i = 0 := by omega
    exact (World.cell?_alloc_at _ _ _ _ rfl).trans rfl) _ Tryz.underlying9
theorem info8 : (Tryz.prog.info? 5).map (fun i => (i.zero, i.size, i.bytes)) = some (some (.int .u8 0), 1, 1) := by kernel_rfl
theorem mk8 (n : Nat) (h : n ≤ 281474976710656) (w : World) :
    (Instr.makeSlice 22 (.int .i64 (n : Int)) (.int .i64 (n : Int))).run Tryz.prog w = .ok (.slice (some ⟨w.heap.size, 0, none⟩) n n) (w.alloc (.cells (madeCells #[.int .u8 0] n) 5)) :=
  run_make_row' _ _ _ 1 Tryz.underlying22 info8 rfl _ _ n (by omega) (by omega) w
def strOf (n : Nat) (b : Nat → Nat) : ByteArray := ⟨((List.range n).map fun i => chr (b i)).toArray⟩
theorem strOf_list (n : Nat) (b : Nat → Nat) : (strOf n b).data.toList = (List.range n).map fun i => chr (b i) := rfl
theorem strOf_size (n : Nat) (b : Nat → Nat) : (strOf n b).size = n := by
  show ((List.range n).map fun i => chr (b i)).toArray.size = n
  simp
theorem strOf_congr (n : Nat) (b c : Nat → Nat) (h : ∀ i, i < n → b i = c i) : strOf n b = strOf n c := by
  unfold strOf
  rw [List.map_congr_left fun i hi => by rw [h i (List.mem_range.1 hi)]]
theorem convRow {w : World} {g n cap : Nat} {f : Nat → Value} (h : w.rowIs g 5 cap f) (b : Nat → Nat) (hn : n ≤ cap) (hf : ∀ i, i < n → f i = .int .u8 (b i : Nat)) :
    (convert 22 9 (.slice (some ⟨g, 0, none⟩) n cap)).run Tryz.prog w = .ok (.string (strOf n b)) w := by
  have := run_convert_bytes_arg w _ _ Tryz.underlying22 Tryz.underlying5 g 0 n cap ((List.range n).map fun i => ((b i : Nat) : Int)) (by simp) (fun i hi => by
    rw [Nat.zero_add, h.cell (by omega), hf i hi]
    simp [hi]) _ Tryz.underlying9
  refine this.trans ?_
  refine congrArg (fun s => Result.ok (Value.string s) w) ?_
  unfold strOfNums strOf
  rw [List.map_map]
  rfl
theorem ret_int {k : IntKind} {a b : Int} (h : a = b) : Ending.returned (.int k a) = .returned (.int k b) := by rw [h]
theorem drawn_more {w w' : World} (h : ∃ n, w' = w.drewN n) (m : Nat) : ∃ n, w'.drewN m = w.drewN n := by
  obtain ⟨n, rfl⟩ := h; exact ⟨n + m, by rw [World.drewN_drewN]⟩
theorem same_flip {P : Program} {f : FuncId} {args : Array Value} {w : World} {R : Ending → Prop} (h : Calls P f args w fun e w' => R e ∧ w = w') : Calls P f args w fun e w' => R e ∧ w' = w :=
  h.mono fun _ _ ⟨a, b⟩ => ⟨a, b.symm⟩
theorem ret_two {a b : Int} {v : Value} (h : a = b) : Ending.returned (.tuple #[.int .i64 a, v]) = .returned (.tuple #[.int .i64 b, v]) := by rw [h]
theorem toList_of_size {s : ByteArray} (h : 0 < s.size) : s.toList.isEmpty = false := by
  rw [ByteArray.toList_eq]
  have : s.data.toList.length = s.size := Array.length_toList
  cases hl : s.data.toList with
  | nil => rw [hl] at this; simp at this; omega
  | cons _ _ => rfl
theorem ret_sv {a b : ByteArray} {x y : Int} (h : a = b) (h' : x = y) : Ending.returned (.tuple #[.string a, .int .i64 x]) = .returned (.tuple #[.string b, .int .i64 y]) := by rw [h, h']
theorem step_app8 {ops : Array Oper} {o : Oper} {a : Act} {w : World} {K : Act → World → Prop} {Q : Exit → Act → World → Prop} {E : Prop} (hgd : o.guard = none) (s x : Operand)
    (ho : o.op = .call { callee := .builtin .append, args := #[s, x], argTypes := #[22, 22] })
    (base : Nat) (v : Value) (n : Nat) (xs : List Value) (hs : a.eval s = v) (hown : w.ownsRow base 5 1 v n xs)
    (g : Nat) (y : Int) (hx : a.eval x = .slice (some ⟨g, 0, none⟩) 1 1) (hc : w.cell? ⟨g, 0, none⟩ = some (.int .u8 y)) (hn : n ≤ 1000000000000) (hbase : base ≤ w.heap.size)
    (h : ∀ v' w', w'.ownsRow base 5 1 v' (n + 1) (xs ++ [.int .u8 y]) → Below base w w' → K (a.put o.dst v') w') :
    if Region.wanted o (yielded ops a.tmps) = true then Oper.wp Tryz.prog o a w K Q else E := by
  have hw : Region.wanted o (yielded ops a.tmps) = true := by simp [Region.wanted, hgd]
  rw [if_pos hw]
  obtain ⟨i, hi, hz, hsz, hb⟩ := info_parts info8
  refine wp_append_own w s x 22 ho base 5 i (.int .u8 0) 1 1 Tryz.underlying22 hi hz hsz hb rfl (by decide) v n xs hs hown ⟨g, 0, none⟩ 1 1 [.int .u8 y] hx rfl ?_ ?_ (by unfold maxLen; omega) (by omega) hbase ?_
  · intro j u hj
    match j, hj with
    | 0, hj => simp at hj; subst hj; exact hc
  · intro u hu; simp at hu; subst hu; rfl
  · intro v' w' h1 h2 _
    exact h v' w' h1 ((Below.refl base w).grown h2 hbase fun k hk => (hown.lt k hk).1)
theorem own_snoc {w : World} {base : Nat} {e : TypeId} {v : Value} {j : Nat} {f : Nat → Value} {y : Value} (h : w.ownsRow base e 1 v (j + 1) ((List.range j).map f ++ [y])) (hy : y = f j) :
    w.ownsRow base e 1 v (j + 1) ((List.range (j + 1)).map f) := by
  rw [List.range_succ, List.map_append]; subst hy; exact h
theorem block_lt {w : World} {a : Addr} {v : Value} (h : w.cell? a = some v) : a.block < w.heap.size := by
  rcases Nat.lt_or_ge a.block w.heap.size with hlt | hge
  · exact hlt
  · simp [World.cell?, Array.getElem?_eq_none hge] at h
theorem drawn {B : Nat} {a w : World} (h : Below B a w) (n : Nat) : Below B a (w.drewN n) := ⟨h.os, h.tape, h.output, h.size, h.block⟩
end Go.Proofs.YthmlcmlpmolmoaaGreatDoor
namespace Go.Proofs.YthmlcmlpmolmoaaGreatDoor
set_option maxRecDepth 100000
open Go.RowKit
def td (n w j : Nat) : Nat := 48 + n / 10 ^ (w - 1 - j) % 10
def textE (n k : Int) : Int := if n < 0 ∨ k < 1 ∨ 19 < k then 1 else if 0 < n.toNat / 10 ^ k.toNat then 5 else 0
def textV (n k : Int) : ByteArray := if textE n k = 0 then strOf k.toNat (td n.toNat k.toNat) else ByteArray.empty
def tb (n k i j : Nat) : Nat := if k - i ≤ j then td n k j else 0
theorem pow_step (n i : Nat) : n / 10 ^ (i + 1) = n / 10 ^ i / 10 := by rw [Nat.pow_succ, Nat.div_div_eq_div_mul]
theorem tb_step (n k i j0 : Nat) (h : k - 1 - i = j0) (hi : i < k) (j : Nat) : (if j = j0 then Value.int .u8 ((48 + n / 10 ^ i % 10 : Nat) : Int) else .int .u8 (tb n k i j : Nat)) = .int .u8 (tb n k (i + 1) j : Nat) := by
  by_cases hj : j = j0
  · rw [if_pos hj]; unfold tb td; rw [if_pos (by omega), show k - 1 - j = i by omega]
  · rw [if_neg hj]; unfold tb
    by_cases h2 : k - i ≤ j
    · rw [if_pos h2, if_pos (by omega)]
    · rw [if_neg h2, if_neg (by omega)]
theorem textE_fit {n k : Nat} (h1 : 1 ≤ k) (h2 : k ≤ 19) (h : n / 10 ^ k = 0) : textE n k = 0 := by
  unfold textE; rw [if_neg (by omega), if_neg (by simp only [Int.toNat_natCast]; rw [h]; decide)]
theorem textE_big {n k : Nat} (h1 : 1 ≤ k) (h2 : k ≤ 19) (h : ¬ n / 10 ^ k = 0) : textE n k = 5 := by
  unfold textE; rw [if_neg (by omega), if_pos (by simp only [Int.toNat_natCast]; exact_mod_cast Nat.pos_of_ne_zero h)]
set_option maxHeartbeats 800000 in
theorem text_ok (n k : Nat) (w : World) (hn : n ≤ 9223372036854775807) (h1 : 1 ≤ k) (h2 : k ≤ 19) :
    Calls Tryz.prog 146 #[.int .i64 n, .int .i64 k] w fun e w' => e = .returned (.tuple #[.string (textV n k), .int .i64 (textE n k)]) ∧ Below w.heap.size w w' := by
  have hmk := mk8 k (by omega)
  go_enter Tryz.func146, Tryz.ntmps146
  go_wp2_with fail
  go_loopw [0, 21] (fun t c wr => ∃ i : Nat, i ≤ k ∧ c = .int .i64 i ∧ t = .int .i64 (n / 10 ^ i : Nat) ∧ wr.rowIs w.heap.size 5 k (fun j => .int .u8 (tb n k i j : Nat)) ∧ Below w.heap.size w wr) (fun _ c _ => k - (intOf c).toNat)
  case atStart => exact ⟨0, Nat.zero_le _, rfl, by simp, (World.rowIs_made w (.int .u8 0) k _).congr fun j hj => by unfold tb; rw [if_neg (by omega)]; rfl, (Below.refl _ _).alloc (Nat.le_refl _) _⟩
  case round =>
    obtain ⟨i, hi, rfl, rfl, hrow, hb⟩ := hrel
    have HS := Lib.hid (pow_step n i)
    have HM := Lib.hid (show n / 10 ^ i ≤ n from Nat.div_le_self _ _)
    have HR := Lib.hid hrow
    have HB := Lib.hid hb
    clear hrow hb
    by_cases hlt : i < k
    · obtain ⟨j0, hj0⟩ : ∃ j0, k - 1 - i = j0 := ⟨_, rfl⟩
      have HT := Lib.hid (fun j => tb_step n k i j0 hj0 hlt j)
      have hz := HM.out
      generalize n / 10 ^ i = m at *
      have e1 : (k : Int) - 1 - i = j0 := by omega
      have hj1 : j0 < k := by omega
      clear hj0
      have hc := HR.out.cell hj1
      have hf := HR.out.frozen j0
      go_wp2_with fail
      go_roundw
      case rel =>
        exact ⟨i + 1, by omega, by go_num, by rw [HS.out]; go_num, ((HR.out.set j0 (.int .u8 (48 + (m : Int) % 10))).congr fun j _ => by rw [← HT.out j]; norm_cast), HB.out.setCell (Nat.le_refl _) _⟩
      case measure => simp [intOf]; omega
    · obtain rfl : i = k := by omega
      have HZ := Lib.hid (show textV n i = if n / 10 ^ i = 0 then strOf i (td n i) else ByteArray.empty by
        unfold textV
        by_cases h : n / 10 ^ i = 0
        · rw [if_pos (textE_fit h1 h2 h), if_pos h]; rfl
        · rw [if_neg (by rw [textE_big h1 h2 h]; decide), if_neg h])
      have hcv := convRow HR.out (td n i) (Nat.le_refl _) (fun j _ => by unfold tb; rw [if_pos (by omega)])
      by_cases h0 : n / 10 ^ i = 0
      · have HE := Lib.hid (textE_fit h1 h2 h0)
        have HV := Lib.hid (HZ.out.trans (if_pos h0))
        rw [h0]
        clear h0 HZ HS HM
        go_wp2_with fail
        go_ret2
        exact ⟨ret_sv HV.out.symm HE.out.symm, HB.out⟩
      · have HE := Lib.hid (textE_big h1 h2 h0)
        have HV := Lib.hid (HZ.out.trans (if_neg h0))
        generalize n / 10 ^ i = m at *
        have hm : (0 : Int) < m := by omega
        go_wp2_with fail
        go_ret2
        exact ⟨ret_sv HV.out.symm HE.out.symm, HB.out⟩
set_option maxHeartbeats 400000 in
theorem text_bad (n k : Int) (w : World) (h : n < 0 ∨ k < 1 ∨ 19 < k) :
    Calls Tryz.prog 146 #[.int .i64 n, .int .i64 k] w fun e w' => e = .returned (.tuple #[.string (textV n k), .int .i64 (textE n k)]) ∧ Below w.heap.size w w' := by
  have HE := Lib.hid (show textE n k = 1 by unfold textE; rw [if_pos h])
  have HV := Lib.hid (show textV n k = ByteArray.empty by unfold textV; rw [HE.out]; rfl)
  rcases (show n < 0 ∨ (0 ≤ n ∧ k < 1) ∨ (0 ≤ n ∧ 1 ≤ k ∧ 19 < k) by omega) with h | ⟨h, h'⟩ | ⟨h, h', h''⟩
  all_goals
    go_enter Tryz.func146, Tryz.ntmps146
    go_wp2_with fail
    go_ret2
    exact ⟨ret_sv HV.out.symm HE.out.symm, Below.refl _ _⟩
theorem text_any (n k : Int) (w : World) (hn : n ≤ 9223372036854775807) :
    Calls Tryz.prog 146 #[.int .i64 n, .int .i64 k] w fun e w' => e = .returned (.tuple #[.string (textV n k), .int .i64 (textE n k)]) ∧ Below w.heap.size w w' := by
  by_cases h : n < 0 ∨ k < 1 ∨ 19 < k
  · exact text_bad n k w h
  · obtain ⟨n, rfl⟩ := Int.eq_ofNat_of_zero_le (show 0 ≤ n by omega)
    obtain ⟨k, rfl⟩ := Int.eq_ofNat_of_zero_le (show 0 ≤ k by omega)
    exact text_ok n k w (by omega) (by omega) (by omega)
end Go.Proofs.YthmlcmlpmolmoaaGreatDoor
namespace Go.Proofs.YthmlcmlpmolmoaaGreatDoor
open Go.RowKit
theorem value_any (c : Int) (w : World) (h0 : 48 ≤ c) (h1 : c ≤ 57) :
    Calls Tryz.prog 129 #[.int .u8 c] w fun e w' => e = .returned (.int .u8 (c - 48)) ∧ w = w' := by
  go_enter Tryz.func129, Tryz.ntmps129
  go_wp2
  go_ret
  exact ⟨rfl, rfl⟩
def isDig (c : UInt8) : Bool := 48 ≤ c.toNat && c.toNat ≤ 57
def faultOf (l : List UInt8) : Int := if l.all isDig then (if 999 < l.length then 2 else 0) else 4
theorem take_snoc (s : ByteArray) (k : Nat) (h : k < s.size) : s.data.toList.take (k + 1) = s.data.toList.take k ++ [s[k]] := by
  rw [List.take_succ_eq_append_getElem (by simpa using h)]; rfl
theorem all_snoc (s : ByteArray) (k : Nat) (h : k < s.size) (ha : (s.data.toList.take k).all isDig = true) (hd : isDig s[k] = true) : (s.data.toList.take (k+1)).all isDig = true := by
  rw [take_snoc s k h, List.all_append, ha]; simp [hd]
theorem all_bad (s : ByteArray) (k : Nat) (h : k < s.size) (hd : isDig s[k] = false) : s.data.toList.all isDig = false := by
  rw [List.all_eq_false]
  exact ⟨s[k], Array.mem_toList_iff.2 (Array.getElem_mem h), by simp [hd]⟩
set_option maxHeartbeats 400000 in
theorem fault_any (s : ByteArray) (w : World) (hs : s.size ≤ maxLen) :
    Calls Tryz.prog 92 #[.string s] w fun e w' => e = .returned (.int .i64 (faultOf s.data.toList)) ∧ w = w' := by
  unfold maxLen at hs
  go_enter Tryz.func92, Tryz.ntmps92
  go_wp2
  go_loop [6] (fun i => ∃ k : Nat, k ≤ s.size ∧ i = .int .i64 k ∧ (s.data.toList.take k).all isDig = true) (fun i => s.size - (intOf i).toNat)
  case atStart => exact ⟨0, Nat.zero_le _, rfl, rfl⟩
  case round =>
    obtain ⟨k, hk, rfl, ha⟩ := hrel
    by_cases hlt : k < s.size
    · by_cases h1 : (s[k].toNat : Int) < 48
      · have HB := Lib.hid (all_bad s k hlt (by unfold isDig; simp; omega))
        go_wp2
        go_ret
        exact ⟨ret_int (by unfold faultOf; rw [HB.out]; rfl), rfl⟩
      · by_cases h2 : (57 : Int) < s[k].toNat
        · have HB := Lib.hid (all_bad s k hlt (by unfold isDig; simp; omega))
          go_wp2
          go_ret
          exact ⟨ret_int (by unfold faultOf; rw [HB.out]; rfl), rfl⟩
        · have HB := Lib.hid (all_snoc s k hlt ha (by unfold isDig; simp; omega))
          clear ha
          go_wp2
          go_round
          case rel => exact ⟨k + 1, by omega, by go_num, HB.out⟩
          case measure => simp [intOf]; omega
    · have e : k = s.size := by omega
      subst e
      have HA := Lib.hid ha
      clear ha
      by_cases hl : 999 < s.size
      all_goals
        go_wp2
        go_ret
        refine ⟨ret_int ?_, rfl⟩
        have h := HA.out
        rw [List.take_of_length_le (by simp)] at h
        unfold faultOf
        rw [h]
        simp [hl]
def dg (s : ByteArray) (k : Nat) : Nat := (s.data.toList.getD k 48).toNat - 48
theorem dig_at (s : ByteArray) (k : Nat) (h : k < s.size) (hd : s.data.toList.all isDig = true) : 48 ≤ s[k].toNat ∧ s[k].toNat ≤ 57 := by
  have h1 := List.all_eq_true.1 hd s[k] (Array.mem_toList_iff.2 (Array.getElem_mem h))
  unfold isDig at h1; simpa using h1
theorem dg_eq (s : ByteArray) (k : Nat) (h : k < s.size) : dg s k = s[k].toNat - 48 := by
  unfold dg
  rw [List.getD_eq_getElem?_getD, List.getElem?_eq_getElem (by simpa using h)]
  rfl
theorem dg_le (s : ByteArray) (k : Nat) (hd : s.data.toList.all isDig = true) : dg s k ≤ 9 := by
  by_cases h : k < s.size
  · have := dig_at s k h hd; rw [dg_eq s k h]; omega
  · unfold dg; rw [List.getD_eq_getElem?_getD, List.getElem?_eq_none (by rw [Array.length_toList]; exact Nat.le_of_not_lt h)]; decide
theorem fin1 {a b c : Nat} {x y : Int} (h : a = b + c) (hx : x = b + y) (hy : y = c) : Value.int .i64 x = .int .i64 (a : Int) := by rw [hx, hy, h]; norm_cast
theorem fault_zero {l : List UInt8} (h : faultOf l = 0) : l.all isDig = true ∧ l.length ≤ 999 := by
  unfold faultOf at h
  by_cases h1 : l.all isDig = true
  · rw [if_pos h1] at h
    by_cases h2 : 999 < l.length
    · rw [if_pos h2] at h; omega
    · exact ⟨h1, by omega⟩
  · rw [if_neg h1] at h; omega
theorem fault_ok {l : List UInt8} (h : l.all isDig = true) (h2 : l.length ≤ 999) : faultOf l = 0 := by
  unfold faultOf; rw [if_pos h, if_neg (by omega)]
end Go.Proofs.YthmlcmlpmolmoaaGreatDoor
namespace Go.Proofs.YthmlcmlpmolmoaaGreatDoor
open Go.RowKit
def acc (s : ByteArray) : Nat → Nat
  | 0 => 0
  | k + 1 => 10 * acc s k + dg s k
theorem acc_step (s : ByteArray) (k : Nat) : acc s k ≤ acc s (k + 1) := by simp only [acc]; omega
theorem acc_mono (s : ByteArray) (a b : Nat) (h : a ≤ b) : acc s a ≤ acc s b := by
  induction b with
  | zero => obtain rfl : a = 0 := by omega
            exact Nat.le_refl _
  | succ b ih =>
    rcases Nat.lt_or_ge a (b + 1) with h' | h'
    · exact Nat.le_trans (ih (by omega)) (acc_step s b)
    · obtain rfl : a = b + 1 := by omega
      exact Nat.le_refl _
def dnE (s : ByteArray) : Int := if faultOf s.data.toList ≠ 0 then faultOf s.data.toList else if s.size = 0 then 3 else if 9223372036854775807 < acc s s.size then 5 else 0
def dnV (s : ByteArray) : Int := if dnE s = 0 then acc s s.size else 0
set_option maxHeartbeats 800000 in
theorem number_any (s : ByteArray) (w : World) (hs : s.size ≤ maxLen) :
    Calls Tryz.prog 131 #[.string s] w fun e w' => e = .returned (.tuple #[.int .i64 (dnV s), .int .i64 (dnE s)]) ∧ ∃ n, w' = w.drewN n := by
  by_cases hf : faultOf s.data.toList = 0
  · obtain ⟨hd, hl⟩ := fault_zero hf
    have hl' : s.size ≤ 999 := by rw [Array.length_toList] at hl; exact hl
    have HD := Lib.hid hd
    have HF := Lib.hid hf
    clear hf hd hl
    by_cases h0 : s.size = 0
    · have e1 : s.toList = [] := by
        rw [ByteArray.toList_eq]; exact List.eq_nil_of_length_eq_zero (Array.length_toList.trans h0)
      have HB := Lib.hid (show dnE s = 3 by unfold dnE; rw [if_neg (by rw [HF.out]; decide), if_pos h0])
      have HV := Lib.hid (show dnV s = 0 by unfold dnV; rw [HB.out]; rfl)
      clear h0
      go_enter Tryz.func131, Tryz.ntmps131
      go_wp2_with (go_at_call 92; refine (fault_any s _ hs).mono ?_; rintro e w' ⟨rfl, rfl⟩; rw [HF.out])
      go_ret2
      exact ⟨by rw [HB.out, HV.out]; rfl, 0, rfl⟩
    · have e1 := toList_of_size (s := s) (by omega)
      have e2 : ¬ s.toList = [] := by intro h; rw [h] at e1; cases e1
      go_enter Tryz.func131, Tryz.ntmps131
      go_wp2_with (go_at_call 92; refine (fault_any s _ hs).mono ?_; rintro e w' ⟨rfl, rfl⟩; rw [HF.out])
      go_loopw [5, 17] (fun t i wr => ∃ k : Nat, k ≤ s.size ∧ i = .int .i64 k ∧ t = .int .i64 (acc s k) ∧ acc s k ≤ 9223372036854775807 ∧ ∃ n, wr = w.drewN n) (fun _ i _ => s.size - (intOf i).toNat)
      case atStart => exact ⟨0, Nat.zero_le _, rfl, rfl, by simp [acc], 0, rfl⟩
      case round =>
        obtain ⟨k, hk, rfl, rfl, hle, hn⟩ := hrel
        have HN := Lib.hid hn
        clear hn
        by_cases hlt : k < s.size
        · obtain ⟨hb1, hb2⟩ := dig_at s k hlt HD.out
          obtain ⟨d, e0, hd9⟩ : ∃ d : Nat, (s[k].toNat : Int) - 48 = d ∧ d < 10 := ⟨s[k].toNat - 48, by omega, by omega⟩
          have HS := Lib.hid (show acc s (k + 1) = 10 * acc s k + d by simp only [acc]; rw [dg_eq s k hlt]; omega)
          generalize hq : acc s k = q at *
          have HQ := Lib.hid hq
          clear hq
          by_cases hbig : 9223372036854775807 < 10 * q + d
          · have ht : ((9223372036854775807 : Int) - d) / 10 < q := by omega
            have ht2 : (0 : Int) ≤ 9223372036854775807 - d := by omega
            have HB := Lib.hid (show dnE s = 5 by
              unfold dnE; rw [if_neg (by rw [HF.out]; decide), if_neg h0, if_pos (by have := acc_mono s (k + 1) s.size (by omega); have := HS.out; omega)])
            have HV := Lib.hid (show dnV s = 0 by unfold dnV; rw [HB.out]; rfl)
            clear hbig
            go_wp2_with (go_at_call 129; refine (value_any _ _ (by omega) (by omega)).mono ?_; rintro e w' ⟨rfl, rfl⟩)
            go_ret2
            exact ⟨by rw [HB.out, HV.out]; rfl, HN.out⟩
          · have ht : ¬ ((9223372036854775807 : Int) - d) / 10 < q := by omega
            have ht2 : (0 : Int) ≤ 9223372036854775807 - d := by omega
            go_wp2_with (go_at_call 129; refine (value_any _ _ (by omega) (by omega)).mono ?_; rintro e w' ⟨rfl, rfl⟩)
            go_roundw
            case rel => exact ⟨k + 1, by omega, by go_num, by rw [HS.out]; go_num, by rw [HS.out]; omega, HN.out⟩
            case measure => simp [intOf]; omega
        · obtain rfl : k = s.size := by omega
          have HB := Lib.hid (show dnE s = 0 by unfold dnE; rw [if_neg (by rw [HF.out]; decide), if_neg h0, if_neg (by omega)])
          have HV := Lib.hid (show dnV s = acc s s.size by unfold dnV; rw [if_pos HB.out])
          go_wp2_with fail
          go_ret2
          exact ⟨by rw [HB.out, HV.out]; rfl, HN.out⟩
  · have hf' : (faultOf s.data.toList != 0) = true := by simpa using hf
    have HB := Lib.hid (show dnE s = faultOf s.data.toList by unfold dnE; rw [if_pos hf])
    have HV := Lib.hid (show dnV s = 0 by unfold dnV; rw [HB.out, if_neg hf])
    clear hf
    go_enter Tryz.func131, Tryz.ntmps131
    go_wp2_with (go_at_call 92; refine (fault_any s _ hs).mono ?_; rintro e w' ⟨rfl, rfl⟩)
    go_ret2
    exact ⟨by rw [HB.out, HV.out]; rfl, 0, rfl⟩
end Go.Proofs.YthmlcmlpmolmoaaGreatDoor
namespace Go.Proofs.YthmlcmlpmolmoaaGreatDoor
open Go.RowKit
def RowX (w : World) (b : Nat) (t : TypeId) (n : Nat) (f : Nat → Value) : Prop :=
  ∃ (c : Array Value) (fr : Nat × Nat), w.heap[b]? = some (.cells c t fr) ∧ n ≤ c.size ∧ (fr.2 = 0 ∨ c.size ≤ fr.1) ∧ ∀ i, i < n → c[i]? = some (f i)
namespace RowX
variable {w w' : World} {b : Nat} {t : TypeId} {n : Nat} {f g : Nat → Value}
theorem of_rowIs (h : w.rowIs b t n f) : RowX w b t n f := by
  obtain ⟨c, h1, h2, h3⟩ := h
  exact ⟨c, (0, 0), h1, by omega, Or.inl rfl, h3⟩
theorem cell (h : RowX w b t n f) {i : Nat} (hi : i < n) : w.cell? ⟨b, i, none⟩ = some (f i) := by
  obtain ⟨c, fr, hb, _, _, hc⟩ := h
  simp [World.cell?, hb, hc i hi]
theorem frozen (h : RowX w b t n f) {i : Nat} (hi : i < n) : w.frozen? ⟨b, i, none⟩ = false := by
  obtain ⟨c, ⟨lo, hh⟩, hb, hn, hf, _⟩ := h
  simp only [World.frozen?, hb]
  rcases hf with hf | hf
  · simp only at hf; subst hf; simp
  · simp only at hf
    have : ¬ lo ≤ i := by omega
    simp [this]
theorem lt (h : RowX w b t n f) : b < w.heap.size := by
  obtain ⟨c, fr, hb, _⟩ := h
  obtain ⟨hlt, _⟩ := Array.getElem?_eq_some_iff.1 hb
  exact hlt
theorem congr (h : RowX w b t n f) (e : ∀ i, i < n → f i = g i) : RowX w b t n g := by
  obtain ⟨c, fr, hb, hn, hf, hc⟩ := h
  exact ⟨c, fr, hb, hn, hf, fun i hi => by rw [hc i hi, e i hi]⟩
theorem of_block (h : RowX w b t n f) (e : w'.heap[b]? = w.heap[b]?) : RowX w' b t n f := by
  obtain ⟨c, fr, hb, r⟩ := h
  exact ⟨c, fr, e.trans hb, r⟩
theorem drewN (h : RowX w b t n f) (k : Nat) : RowX (w.drewN k) b t n f := h
theorem drew (h : RowX w b t n f) : RowX w.drew b t n f := h
theorem alloc (h : RowX w b t n f) (o : Obj) : RowX (w.alloc o) b t n f := h.of_block (Below.heap_alloc w o b h.lt)
theorem below (h : RowX w b t n f) {B : Nat} (hb : Below B w w') (hB : b < B) : RowX w' b t n f := h.of_block (hb.block b hB)
theorem keep (h : RowX w b t n f) (hb : Below w.heap.size w w') : RowX w' b t n f := h.below hb h.lt
theorem set (h : RowX w b t n f) (i : Nat) (v : Value) : RowX (w.setCell ⟨b, i, none⟩ v) b t n (fun j => if j = i then v else f j) := by
  obtain ⟨c, fr, hb, hn, hf, hc⟩ := h
  refine ⟨c.setIfInBounds i v, fr, ?_, by simpa using hn, by simpa using hf, fun j hj => ?_⟩
  · simp [World.setCell, Array.getElem?_modify, hb]
  · rw [Array.getElem?_setIfInBounds]
    by_cases e : j = i
    · subst e
      rw [if_pos rfl, if_pos (by omega)]
      show some v = some (if j = j then v else f j)
      rw [if_pos rfl]
    · rw [if_neg (fun h => e h.symm)]
      show c[j]? = some (if j = i then v else f j)
      rw [if_neg e]
      exact hc j hj
theorem setOther (h : RowX w b t n f) {a : Addr} (ha : b ≠ a.block) (v : Value) : RowX (w.setCell a v) b t n f := h.of_block (Below.heap_setCell w a v b ha)
theorem less (h : RowX w b t n f) {m : Nat} (hm : m ≤ n) : RowX w b t m f := by
  obtain ⟨c, fr, hb, hn, hf, hc⟩ := h
  exact ⟨c, fr, hb, by omega, hf, fun i hi => hc i (by omega)⟩
end RowX
theorem convRowX {w : World} {g n cap m : Nat} {f : Nat → Value} (h : RowX w g 5 m f) (b : Nat → Nat) (hn : n ≤ m) (hf : ∀ i, i < n → f i = .int .u8 (b i : Nat)) :
    (convert 22 9 (.slice (some ⟨g, 0, none⟩) n cap)).run Tryz.prog w = .ok (.string (strOf n b)) w := by
  have := run_convert_bytes_arg w _ _ Tryz.underlying22 Tryz.underlying5 g 0 n cap ((List.range n).map fun i => ((b i : Nat) : Int)) (by simp) (fun i hi => by
    rw [Nat.zero_add, h.cell (by omega), hf i hi]
    simp [hi]) _ Tryz.underlying9
  refine this.trans (congrArg (fun s => Result.ok (Value.string s) w) ?_)
  unfold strOfNums strOf
  rw [List.map_map]
  rfl
theorem strOf_self (s : ByteArray) (d : UInt8) : strOf s.size (fun i => (s.data.toList.getD i d).toNat) = s := by
  apply ByteArray.ext
  apply Array.ext'
  rw [strOf_list]
  apply List.ext_getElem
  · rw [List.length_map, List.length_range, Array.length_toList]; rfl
  · intro i h1 h2
    simp only [List.getElem_map, List.getElem_range]
    rw [List.getD_eq_getElem?_getD, List.getElem?_eq_getElem h2]
    simp only [Option.getD_some, chr, UInt8.ofNat_toNat]
theorem strOf_at (n : Nat) (b : Nat → Nat) (d : UInt8) (i : Nat) (h : i < n) (hb : b i < 256) : ((strOf n b).data.toList.getD i d).toNat = b i := by
  rw [strOf_list, List.getD_eq_getElem?_getD, List.getElem?_map, List.getElem?_range h]
  simp only [Option.map_some, Option.getD_some]
  exact chr_toNat _ hb
def by_ (s : ByteArray) (i : Nat) : Nat := (s.data.toList.getD i 0).toNat
theorem by_lt (s : ByteArray) (i : Nat) : by_ s i < 256 := by unfold by_; exact UInt8.toNat_lt _
theorem strOf_by (s : ByteArray) : strOf s.size (by_ s) = s := strOf_self s 0
theorem bytesOf (s : ByteArray) (w : World) : ∃ cap W, (convert 9 22 (.string s)).run Tryz.prog w = .ok (.slice (some ⟨w.heap.size, 0, none⟩) s.size cap) W ∧
    Below w.heap.size w W ∧ w.heap.size < W.heap.size ∧ RowX W w.heap.size 5 s.size (fun i => .int .u8 (by_ s i : Nat)) := by
  refine ⟨_, _, run_bytes_of_string w _ _ _ s Tryz.underlying9 Tryz.underlying22 Tryz.underlying5, ((Below.refl _ _).drew).alloc (Nat.le_refl _) _, ?_, ?_⟩
  · show _ < (w.heap.push _).size
    simp
  · refine ⟨_, _, heap_alloc_new w.drew _, ?_, Or.inr ?_, fun i hi => ?_⟩
    · unfold bytesRow
      rw [Array.size_append, Array.size_map]
      exact Nat.le_add_right _ _
    · exact Nat.le_refl _
    · have hi' : i < s.data.size := hi
      unfold bytesRow
      rw [Array.getElem?_append_left (by rw [Array.size_map]; exact hi'), Array.getElem?_map, Array.getElem?_eq_getElem hi']
      show _ = some (Value.int .u8 ((s.data.toList.getD i 0).toNat : Nat))
      rw [List.getD_eq_getElem?_getD, List.getElem?_eq_getElem (by rw [Array.length_toList]; exact hi')]
      rfl
def SlB (w : World) (A : Option Addr) (n : Nat) (bs : Nat → Nat) : Prop :=
  0 < n → ∃ B o, A = some ⟨B, o, none⟩ ∧ B < w.heap.size ∧ ∀ j, j < n → bs j < 256 ∧ w.cell? ⟨B, o + j, none⟩ = some (.int .u8 (bs j : Nat))
theorem SlB.keep {w w' : World} {A : Option Addr} {n : Nat} {bs : Nat → Nat} (h : SlB w A n bs) (hb : Below w.heap.size w w') : SlB w' A n bs := fun hn => by
  obtain ⟨B, o, hA, hB, hc⟩ := h hn
  exact ⟨B, o, hA, Nat.lt_of_lt_of_le hB hb.size, fun j hj => ⟨(hc j hj).1, (hb.cell (p := ⟨B, _, none⟩) hB).trans (hc j hj).2⟩⟩
theorem SlB.drewN {w : World} {A : Option Addr} {n : Nat} {bs : Nat → Nat} (h : SlB w A n bs) (k : Nat) : SlB (w.drewN k) A n bs := h
theorem SlB.nil (w : World) (bs : Nat → Nat) : SlB w none 0 bs := fun h => absurd h (by omega)
theorem SlB.byte {w : World} {A : Option Addr} {n : Nat} {bs : Nat → Nat} (h : SlB w A n bs) {j : Nat} (hj : j < n) : bs j < 256 := by
  obtain ⟨B, o, _, _, hc⟩ := h (by omega); exact (hc j hj).1
theorem SlB.of_rowX {w : World} {g n : Nat} {f : Nat → Value} {bs : Nat → Nat} (h : RowX w g 5 n f) (hf : ∀ j, j < n → bs j < 256 ∧ f j = .int .u8 (bs j : Nat)) : SlB w (some ⟨g, 0, none⟩) n bs := fun _ =>
  ⟨g, 0, rfl, h.lt, fun j hj => ⟨(hf j hj).1, by rw [Nat.zero_add, h.cell hj, (hf j hj).2]⟩⟩
theorem strOfNums_range (k : Nat) (bs : Nat → Nat) : strOfNums ((List.range k).map fun i => ((bs i : Nat) : Int)) = strOf k bs := by
  unfold strOfNums strOf
  rw [List.map_map]
  rfl
theorem convSl {w : World} {A : Option Addr} {n k cap : Nat} {bs : Nat → Nat} (h : SlB w A n bs) (hk : k ≤ n) :
    (convert 22 9 (.slice A k cap)).run Tryz.prog w = .ok (.string (strOf k bs)) w := by
  by_cases h0 : k = 0
  · subst h0
    have e : strOf 0 bs = ByteArray.empty := rfl
    rw [e]
    cases A with
    | none => exact run_convert_bytes_nil w _ _ Tryz.underlying22 Tryz.underlying5 0 cap _ Tryz.underlying9
    | some a =>
      rw [run_convert_bytes_string w _ _ _ (some a) 0 cap Tryz.underlying22 Tryz.underlying5 Tryz.underlying9]
      exact run_bytesToString w a 0 cap [] (by simp [loadCells, loadCellsFrom])
  · obtain ⟨B, o, rfl, _, hc⟩ := h (by omega)
    have := run_convert_bytes_arg w _ _ Tryz.underlying22 Tryz.underlying5 B o k cap ((List.range k).map fun i => ((bs i : Nat) : Int)) (by simp) (fun i hi => by
      rw [(hc i (by omega)).2]; simp [hi]) _ Tryz.underlying9
    rw [this, strOfNums_range]
def hiA (A : Option Addr) (c k : Nat) : Option Addr := if c = k then A else A.map (·.add (k * 1))
theorem SlB.hiA {w : World} {A : Option Addr} {n : Nat} {f : Nat → Nat} (h : SlB w A n f) {c k : Nat} (hk : k ≤ n) (hn : n ≤ c) : SlB w (hiA A c k) (n - k) (fun j => f (k + j)) := fun h0 => by
  obtain ⟨B, o, rfl, hB, hc⟩ := h (by omega)
  refine ⟨B, o + k, ?_, hB, fun j hj => by
    have := hc (k + j) (by omega)
    rw [Nat.add_assoc]; exact this⟩
  unfold Go.Proofs.YthmlcmlpmolmoaaGreatDoor.hiA
  rw [if_neg (by omega), Option.map_some, Go.WideShapes.add_plain, Nat.mul_one]
theorem SlB.low {w : World} {A : Option Addr} {n : Nat} {f : Nat → Nat} (h : SlB w A n f) {k : Nat} (hk : k ≤ n) : SlB w A k f := fun h0 => by
  obtain ⟨B, o, e, hB, hc⟩ := h (by omega)
  exact ⟨B, o, e, hB, fun j hj => hc j (by omega)⟩
theorem elemB : Tryz.prog.elem 22 = 5 := by kernel_rfl
theorem underB : Tryz.prog.underlying 22 = some (.slice (Tryz.prog.elem 22)) := by rw [elemB]; exact Tryz.underlying22
theorem size8 (w : World) : (sizeOf (Tryz.prog.elem 22)).run Tryz.prog w = .ok 1 w := by
  rw [elemB]; obtain ⟨i, hi, _, hs, _⟩ := info_parts info8
  simp [sizeOf, typeInfo, hi, hs]
theorem run_hi (w : World) (A : Option Addr) (n c k : Nat) (hk : k ≤ n) : (Instr.sliceAt 22 (.slice A n c) (some (.int .i64 (k : Int))) none none).run Tryz.prog w = .ok (.slice (hiA A c k) (n - k) (c - k)) w := by
  rw [run_sliceAt_slice (h := underB), run_slice_l (ht := underB) (h0 := by omega) (h1 := by omega), size8]
  rfl
theorem run_mid (w : World) (A : Option Addr) (n c l h : Nat) (hl : l ≤ h) (hh : h ≤ c) : (Instr.sliceAt 22 (.slice A n c) (some (.int .i64 (l : Int))) (some (.int .i64 (h : Int))) none).run Tryz.prog w = .ok (.slice (hiA A c l) (h - l) (c - l)) w := by
  rw [run_sliceAt_slice (h := underB), run_slice_lh (ht := underB) (h0 := by omega) (h1 := by omega) (h2 := by omega), size8]
  rfl
theorem SlB.mid {w : World} {A : Option Addr} {n c l m : Nat} {f : Nat → Nat} (h : SlB w A n f) (hl : l + m ≤ n) (hn : n ≤ c) : SlB w (Go.Proofs.YthmlcmlpmolmoaaGreatDoor.hiA A c l) m (fun j => f (l + j)) :=
  SlB.low (n := n - l) (h.hiA (c := c) (k := l) (by omega) hn) (by omega)
end Go.Proofs.YthmlcmlpmolmoaaGreatDoor
namespace Go.Proofs.YthmlcmlpmolmoaaGreatDoor
open Go.RowKit
theorem by_dg' (s : ByteArray) (i : Nat) (h : i < s.size) (hd : s.data.toList.all isDig = true) : by_ s i = 48 + dg s i := by
  have h1 := dig_at s i h hd
  have h2 := dg_eq s i h
  unfold by_
  rw [List.getD_eq_getElem?_getD, List.getElem?_eq_getElem (by rw [Array.length_toList]; exact h)]
  show (s[i]).toNat = _
  omega
theorem strOf_dig (n : Nat) (b : Nat → Nat) (h : ∀ i, i < n → b i ≤ 9) : (strOf n fun i => 48 + b i).data.toList.all isDig = true := by
  rw [strOf_list, List.all_eq_true]
  intro c hc
  obtain ⟨i, hi, rfl⟩ := List.mem_map.1 hc
  have := h i (List.mem_range.1 hi)
  unfold isDig
  rw [chr_toNat _ (by omega)]
  simp; omega
theorem dg_dig (n : Nat) (b : Nat → Nat) (i : Nat) (h : i < n) (hb9 : b i ≤ 9) : dg (strOf n fun i => 48 + b i) i = b i := by
  unfold dg
  rw [strOf_at n (fun i => 48 + b i) 48 i h (by omega)]
  omega
theorem td_acc (n k i : Nat) (hi : i ≤ k) (h : n / 10 ^ k = 0) : acc (strOf k (td n k)) i = n / 10 ^ (k - i) := by
  induction i with
  | zero => rw [Nat.sub_zero, h]; rfl
  | succ i ih =>
    simp only [acc]
    rw [ih (by omega)]
    have : dg (strOf k (td n k)) i = n / 10 ^ (k - 1 - i) % 10 := by
      have := dg_dig k (fun j => n / 10 ^ (k - 1 - j) % 10) i (by omega) (by omega)
      exact this
    rw [this, show k - i = k - 1 - i + 1 by omega, show k - (i + 1) = k - 1 - i by omega, pow_step]
    omega
theorem text_num (n k : Nat) (hn : n ≤ 9223372036854775807) (h1 : 1 ≤ k) (h2 : k ≤ 19) (h : textE n k = 0) : textV n k = strOf k (td n k) ∧ dnE (strOf k (td n k)) = 0 ∧ dnV (strOf k (td n k)) = n := by
  have hz : n / 10 ^ k = 0 := by
    by_cases e : n / 10 ^ k = 0
    · exact e
    · rw [textE_big h1 h2 e] at h; cases h
  have hd : (strOf k (td n k)).data.toList.all isDig = true := strOf_dig k (fun j => n / 10 ^ (k - 1 - j) % 10) (fun i _ => by omega)
  have ha := td_acc n k k (Nat.le_refl _) hz
  rw [Nat.sub_self, Nat.pow_zero, Nat.div_one] at ha
  have hE : dnE (strOf k (td n k)) = 0 := by
    unfold dnE
    rw [fault_ok hd (by rw [Array.length_toList]; show (strOf k (td n k)).size ≤ 999; rw [strOf_size]; omega), strOf_size, ha, if_neg (by decide), if_neg (by omega), if_neg (by omega)]
  refine ⟨by unfold textV; rw [if_pos h]; rfl, hE, ?_⟩
  unfold dnV
  rw [if_pos hE, strOf_size, ha]
end Go.Proofs.YthmlcmlpmolmoaaGreatDoor
namespace Go.Proofs.YthmlcmlpmolmoaaGreatDoor
open Go.RowKit
def pw (m : Int) : Nat := if 1 ≤ m ∧ m ≤ 16 then 10 ^ m.toNat else 0
theorem pw_none {m : Int} (h : m < 1 ∨ 16 < m) : pw m = 0 := by unfold pw; rw [if_neg (by omega)]
theorem pw_at {k : Nat} (h1 : 1 ≤ k) (h2 : k ≤ 16) : pw (k : Nat) = 10 ^ k := by unfold pw; rw [if_pos (by omega)]; rfl
theorem ten_le (k : Nat) (h : k ≤ 16) : 10 ^ k ≤ 10000000000000000 := Nat.pow_le_pow_right (n := 10) (by decide) h
theorem ten_pos (k : Nat) : 1 ≤ 10 ^ k := Nat.pow_pos (by decide)
theorem pw_le (m : Int) : pw m ≤ 10000000000000000 := by
  unfold pw
  split
  · exact ten_le _ (by omega)
  · omega
theorem pw_ten {m : Int} (h : pw m ≠ 0) : ∃ k : Nat, m = (k : Int) ∧ 1 ≤ k ∧ k ≤ 16 ∧ pw m = 10 ^ k ∧ 10 ≤ pw m := by
  unfold pw at h ⊢
  by_cases hm : 1 ≤ m ∧ m ≤ 16
  · obtain ⟨k, rfl⟩ := Int.eq_ofNat_of_zero_le (show 0 ≤ m by omega)
    rw [if_pos hm]
    exact ⟨k, rfl, by omega, by omega, rfl, Nat.pow_le_pow_right (n := 10) (by decide) (show 1 ≤ k by omega)⟩
  · rw [if_neg hm] at h; exact absurd rfl h
def okN (p : Nat) (f : Nat → Int) (n : Nat) : Bool := (List.range n).all fun i => decide (0 ≤ f i) && decide (f i < (p : Int))
theorem okN_step {p : Nat} {f : Nat → Int} {n : Nat} (h : okN p f n = true) (h0 : 0 ≤ f n) (h1 : f n < (p : Int)) : okN p f (n + 1) = true := by
  unfold okN at *
  rw [List.range_succ, List.all_append, h]
  simp [h0, h1]
theorem okN_bad {p : Nat} {f : Nat → Int} {n i : Nat} (hi : i < n) (h : f i < 0 ∨ (p : Int) ≤ f i) : okN p f n = false := by
  unfold okN
  rw [List.all_eq_false]
  exact ⟨i, List.mem_range.2 hi, by simp; omega⟩
theorem okN_zero (p : Nat) (f : Nat → Int) : okN p f 0 = true := rfl
theorem okN_one (p : Nat) (f : Nat → Int) : okN p f 1 = true ↔ 0 ≤ f 0 ∧ f 0 < (p : Int) := by unfold okN; simp [List.range_succ]
theorem okN_two (p : Nat) (f : Nat → Int) : okN p f 2 = true ↔ (0 ≤ f 0 ∧ f 0 < (p : Int)) ∧ 0 ≤ f 1 ∧ f 1 < (p : Int) := by unfold okN; simp [List.range_succ]
def inP (a m : Int) : Bool := decide (0 ≤ a) && decide (a < (pw m : Int))
theorem inP_iff (a m : Int) : inP a m = true ↔ 0 ≤ a ∧ a < (pw m : Int) := by unfold inP; simp
theorem inP_pos {a m : Int} (h : inP a m = true) : pw m ≠ 0 := by have := (inP_iff a m).1 h; omega
theorem okN_in {p : Nat} {m : Int} (hp : pw m = p) (a : Int) : okN p (fun _ => a) 1 = inP a m := by
  rw [Bool.eq_iff_iff, okN_one, inP_iff, hp]
def cntW : Nat → Nat → Nat
  | 0, _ => 0
  | f + 1, p => if p = 0 then 0 else 1 + cntW f (p / 256)
theorem cnt_step {f p : Nat} (h : p ≠ 0) : cntW (f + 1) p = 1 + cntW f (p / 256) := by show (if p = 0 then 0 else _) = _; rw [if_neg h]
theorem cnt_zero (f : Nat) : cntW f 0 = 0 := by cases f <;> rfl
def wd (m : Int) : Nat := cntW 8 (pw m - 1)
theorem pw_lt8 (m : Int) : pw m - 1 < 256 ^ 8 := by have := pw_le m; have : (256 : Nat) ^ 8 = 18446744073709551616 := by decide
                                                    omega
theorem wd_none {m : Int} (h : pw m = 0) : wd m = 0 := by unfold wd; rw [h]; rfl
theorem wd_bits : ∀ k, k < 17 → (Lib.bitLen (10 ^ k - 1) + 7) / 8 = cntW 8 (10 ^ k - 1) := by decide +kernel
theorem wd_len {m : Int} (h : pw m ≠ 0) : (Lib.bitLen (pw m - 1) + 7) / 8 = wd m := by
  obtain ⟨k, rfl, h1, h2, h3, _⟩ := pw_ten h
  unfold wd
  rw [h3]
  exact wd_bits k (by omega)
theorem bits_le : ∀ k, k < 17 → Lib.bitLen (10 ^ k - 1) ≤ 64 := by decide +kernel
theorem wd_le {m : Int} : wd m ≤ 8 := by
  by_cases h : pw m = 0
  · rw [wd_none h]; omega
  · obtain ⟨k, rfl, h1, h2, h3, _⟩ := pw_ten h
    rw [← wd_len h, h3]
    have := bits_le k (by omega)
    omega
def restN (p : Nat) (b : Nat → Nat) : Nat → Nat
  | 0 => 0
  | i + 1 => (256 * restN p b i + b i) % p
theorem restN_lt {p : Nat} (hp : 0 < p) (b : Nat → Nat) (i : Nat) : restN p b i < p := by
  cases i with
  | zero => exact hp
  | succ i => exact Nat.mod_lt _ hp
def vE (s : ByteArray) : Int := if s.size = 0 then 1 else if 16 < s.size then 2 else dnE s
def vV (s : ByteArray) : Int := if vE s = 0 then dnV s else 0
def gE (n m : Int) : Int := if inP n m = true then 0 else 1
def gV (n m : Int) : ByteArray := if inP n m = true then strOf m.toNat (td n.toNat m.toNat) else ⟨#[]⟩
def rE (len : Nat) (m : Int) : Int := if pw m = 0 then 1 else if 64 < len then 2 else 0
def rV (len : Nat) (b : Nat → Nat) (m : Int) : Int := if rE len m = 0 then (restN (pw m) b len : Nat) else 0
def tE (a b m : Int) : Int := if inP a m = true ∧ inP b m = true then 0 else 1
def aV (a b m : Int) : Int := if tE a b m = 0 then (a + b) % (pw m : Int) else 0
def sV (a b m : Int) : Int := if tE a b m = 0 then (a - b + (pw m : Int)) % (pw m : Int) else 0
theorem gE_pos {n m : Int} (h : inP n m = true) : gE n m = 0 := if_pos h
theorem gE_neg {n m : Int} (h : ¬ inP n m = true) : gE n m = 1 := if_neg h
theorem gV_neg {n m : Int} (h : ¬ inP n m = true) : gV n m = ⟨#[]⟩ := if_neg h
theorem tE_pos {a b m : Int} (h : inP a m = true) (h' : inP b m = true) : tE a b m = 0 := if_pos ⟨h, h'⟩
theorem tE_neg {a b m : Int} (h : ¬ (inP a m = true ∧ inP b m = true)) : tE a b m = 1 := if_neg h
theorem text_in {n m : Int} (h : inP n m = true) : textE n m = 0 ∧ textV n m = gV n m := by
  obtain ⟨h0, h1⟩ := (inP_iff n m).1 h
  obtain ⟨k, rfl, hk1, hk2, hp, _⟩ := pw_ten (inP_pos h)
  obtain ⟨n, rfl⟩ := Int.eq_ofNat_of_zero_le h0
  have hz : n / 10 ^ k = 0 := Nat.div_eq_of_lt (by rw [← hp]; omega)
  have he := textE_fit hk1 (show k ≤ 19 by omega) hz
  exact ⟨he, by unfold textV gV; rw [if_pos he, if_pos h]⟩
end Go.Proofs.YthmlcmlpmolmoaaGreatDoor
namespace Go.Proofs.YthmlcmlpmolmoaaGreatDoor
open Go.RowKit
theorem acc_lt (s : ByteArray) (hd : s.data.toList.all isDig = true) (k : Nat) : acc s k < 10 ^ k := by
  induction k with
  | zero => exact Nat.one_pos
  | succ k ih => have := dg_le s k hd; rw [Nat.pow_succ]; simp only [acc]; omega
theorem acc_head (s : ByteArray) (hd : s.data.toList.all isDig = true) (k i : Nat) : acc s (k + i) / 10 ^ i = acc s k := by
  induction i with
  | zero => rw [Nat.pow_zero, Nat.div_one, Nat.add_zero]
  | succ i ih =>
    have := dg_le s (k + i) hd
    rw [Nat.pow_succ, Nat.mul_comm, ← Nat.div_div_eq_div_mul, show k + (i + 1) = k + i + 1 by omega]
    simp only [acc]
    rw [show (10 * acc s (k + i) + dg s (k + i)) / 10 = acc s (k + i) by omega, ih]
theorem td_self (s : ByteArray) (hd : s.data.toList.all isDig = true) : strOf s.size (td (acc s s.size) s.size) = s := by
  refine (strOf_congr _ _ _ fun j hj => ?_).trans (strOf_by s)
  have h := acc_head s hd (j + 1) (s.size - 1 - j)
  rw [show j + 1 + (s.size - 1 - j) = s.size by omega] at h
  have := dg_le s j hd
  unfold td
  rw [h, by_dg' s j hj hd]
  simp only [acc]
  omega
theorem back_text {s : ByteArray} (h : vE s = 0) : inP (vV s) (s.size : Nat) = true ∧ gV (vV s) (s.size : Nat) = s ∧ 1 ≤ s.size ∧ s.size ≤ 16 := by
  unfold vE at h
  by_cases h0 : s.size = 0
  · rw [if_pos h0] at h; cases h
  · rw [if_neg h0] at h
    by_cases h1 : 16 < s.size
    · rw [if_pos h1] at h; cases h
    · rw [if_neg h1] at h
      have hf : faultOf s.data.toList = 0 := by
        by_cases hf : faultOf s.data.toList = 0
        · exact hf
        · unfold dnE at h; rw [if_pos hf] at h; exact h
      have hd := (fault_zero hf).1
      have hv : vV s = (acc s s.size : Nat) := by
        unfold vV vE; rw [if_neg h0, if_neg h1, if_pos h]; unfold dnV; rw [if_pos h]
      have hp := pw_at (k := s.size) (by omega) (by omega)
      have hi : inP (vV s) (s.size : Nat) = true := by
        rw [inP_iff, hv, hp]; have := acc_lt s hd s.size; omega
      refine ⟨hi, ?_, by omega, by omega⟩
      unfold gV
      rw [if_pos hi, hv]
      exact td_self s hd
theorem back_value {x m : Int} (h : inP x m = true) : vE (gV x m) = 0 ∧ vV (gV x m) = x ∧ ((gV x m).size : Int) = m ∧ (gV x m).size ≤ 16 := by
  obtain ⟨h0, h1⟩ := (inP_iff x m).1 h
  obtain ⟨k, rfl, hk1, hk2, hp, _⟩ := pw_ten (inP_pos h)
  obtain ⟨n, rfl⟩ := Int.eq_ofNat_of_zero_le h0
  have hz : n / 10 ^ k = 0 := Nat.div_eq_of_lt (by rw [← hp]; omega)
  have hn : n ≤ 9223372036854775807 := by have := pw_le (k : Int); omega
  obtain ⟨_, e, v⟩ := text_num n k hn hk1 (by omega) (textE_fit hk1 (by omega) hz)
  have hg : gV (n : Int) (k : Int) = strOf k (td n k) := by unfold gV; rw [if_pos h]; rfl
  have hs : (strOf k (td n k)).size = k := strOf_size _ _
  rw [hg]
  have e' : vE (strOf k (td n k)) = 0 := by unfold vE; rw [hs, if_neg (by omega), if_neg (by omega), e]
  exact ⟨e', by unfold vV; rw [if_pos e', v], by rw [hs], by omega⟩
theorem aV_in {a b m : Int} (h : inP a m = true) (h' : inP b m = true) : aV a b m = (a + b) % (pw m : Int) ∧ inP (aV a b m) m = true := by
  have e : aV a b m = (a + b) % (pw m : Int) := by unfold aV; rw [if_pos (tE_pos h h')]
  have hp := inP_pos h
  refine ⟨e, ?_⟩
  rw [inP_iff, e]
  exact ⟨Int.emod_nonneg _ (by omega), Int.emod_lt_of_pos _ (by omega)⟩
theorem back_mod {x y p : Int} (x0 : 0 ≤ x) (x1 : x < p) (y0 : 0 ≤ y) (y1 : y < p) : ((x + y) % p - y + p) % p = x := by
  by_cases h : x + y < p
  · rw [Int.emod_eq_of_lt (by omega) h, show x + y - y + p = x + p by omega, Int.add_emod_right, Int.emod_eq_of_lt x0 x1]
  · have e : (x + y) % p = x + y - p := by
      rw [show x + y = x + y - p + p by omega, Int.add_emod_right, Int.emod_eq_of_lt (by omega) (by omega)]; omega
    rw [e, show x + y - p - y + p = x by omega, Int.emod_eq_of_lt x0 x1]
theorem back_sum {x y m : Int} (h : inP x m = true) (h' : inP y m = true) : sV (aV x y m) y m = x := by
  obtain ⟨e, hi⟩ := aV_in h h'
  obtain ⟨x0, x1⟩ := (inP_iff x m).1 h
  obtain ⟨y0, y1⟩ := (inP_iff y m).1 h'
  unfold sV
  rw [if_pos (tE_pos hi h'), e]
  exact back_mod x0 x1 y0 y1
end Go.Proofs.YthmlcmlpmolmoaaGreatDoor
namespace Go.Proofs.YthmlcmlpmolmoaaGreatDoor
def dbl (a : Nat) : Nat := if a < 128 then 2 * a else (2 * a - 256) ^^^ 27
def gmk : Nat → Nat → Nat → Nat → Nat
  | 0, _, _, p => p
  | k + 1, a, b, p => gmk k (dbl a) (b / 2) (if b % 2 = 1 then p ^^^ a else p)
def gm (a b : Nat) : Nat := gmk 8 a b 0
def gpow (a : Nat) : Nat → Nat
  | 0 => 1
  | k + 1 => gm (gpow a k) a
theorem xor8 {a b : Nat} (ha : a < 256) (hb : b < 256) : a ^^^ b < 256 := Nat.xor_lt_two_pow (n := 8) ha hb
theorem gx_par (a b : Nat) : (a ^^^ b) % 2 = (a + b) % 2 := by
  have h := congrArg (fun x : Bool => x.toNat) (Nat.testBit_xor (x := a) (y := b) (i := 0))
  simp only [Nat.testBit_zero] at h
  rcases Nat.mod_two_eq_zero_or_one a with h1 | h1 <;> rcases Nat.mod_two_eq_zero_or_one b with h2 | h2 <;> rw [h1, h2] at h <;> rcases Nat.mod_two_eq_zero_or_one (a ^^^ b) with h3 | h3 <;> rw [h3] at h ⊢ <;> first | omega | exact absurd h (by decide)
theorem x4 (a b c d : Nat) : (a ^^^ b) ^^^ (c ^^^ d) = (a ^^^ c) ^^^ (b ^^^ d) := by
  rw [Nat.xor_assoc, ← Nat.xor_assoc b c d, Nat.xor_comm b c, Nat.xor_assoc c b d, ← Nat.xor_assoc]
theorem xor_add2 (k r : Nat) (h : r < 2 ^ k) : 2 ^ k ^^^ r = 2 ^ k + r := by
  apply Nat.eq_of_testBit_eq
  intro i
  rw [Nat.testBit_xor, Nat.testBit_two_pow]
  rcases Nat.lt_trichotomy i k with hi | hi | hi
  · rw [Nat.testBit_two_pow_add_gt hi]
    simp [Nat.ne_of_gt hi]
  · subst hi
    rw [Nat.testBit_two_pow_add_eq, Nat.testBit_lt_two_pow h]
    simp
  · have h1 : r.testBit i = false := Nat.testBit_lt_two_pow (Nat.lt_of_lt_of_le h (Nat.pow_le_pow_right (by decide) (Nat.le_of_lt hi)))
    have h2 : (2 ^ k + r).testBit i = false := Nat.testBit_lt_two_pow (by
      have : 2 ^ (k + 1) ≤ 2 ^ i := Nat.pow_le_pow_right (by decide) hi
      rw [Nat.pow_succ] at this
      omega)
    rw [h1, h2]
    simp [Nat.ne_of_lt hi]
theorem byte_ind (P : Nat → Prop) (n : Nat) (h0 : P 0) (hb : ∀ i, i < n → P (2 ^ i)) (hx : ∀ a b, a < 2 ^ n → b < 2 ^ n → P a → P b → P (a ^^^ b)) : ∀ a, a < 2 ^ n → P a := by
  have key : ∀ k, k ≤ n → ∀ a, a < 2 ^ k → P a := by
    intro k
    induction k with
    | zero =>
      intro _ a ha
      obtain rfl : a = 0 := by simp at ha; exact ha
      exact h0
    | succ k ih =>
      intro hk a ha
      by_cases hlt : a < 2 ^ k
      · exact ih (by omega) a hlt
      · have hp : 2 ^ (k + 1) ≤ 2 ^ n := Nat.pow_le_pow_right (by decide) hk
        have hs : 2 ^ (k + 1) = 2 ^ k * 2 := Nat.pow_succ 2 k
        have hr : a - 2 ^ k < 2 ^ k := by omega
        have e : a = 2 ^ k ^^^ (a - 2 ^ k) := by rw [xor_add2 k _ hr]; omega
        rw [e]
        exact hx _ _ (by omega) (by omega) (hb k (by omega)) (ih (by omega) _ hr)
  exact key n (Nat.le_refl n)
theorem dbl_lt {a : Nat} (h : a < 256) : dbl a < 256 := by
  unfold dbl
  split
  · omega
  · exact xor8 (by omega) (by decide)
theorem dbl_eq : ∀ a, a < 256 → dbl a = (a <<< 1) ^^^ (283 * (a >>> 7)) := by decide +kernel
theorem dbl_lin (a : Nat) (ha : a < 256) (b : Nat) (hb : b < 256) : dbl (a ^^^ b) = dbl a ^^^ dbl b := by
  have k : ∀ x, x < 2 → ∀ y, y < 2 → 283 * (x ^^^ y) = (283 * x) ^^^ (283 * y) := by decide +kernel
  rw [dbl_eq _ (xor8 ha hb), dbl_eq a ha, dbl_eq b hb, Nat.shiftLeft_xor_distrib, Nat.shiftRight_xor_distrib, k _ (by rw [Nat.shiftRight_eq_div_pow]; omega) _ (by rw [Nat.shiftRight_eq_div_pow]; omega), x4]
theorem gmk_lt : ∀ (k a b p : Nat), a < 256 → p < 256 → gmk k a b p < 256
  | 0, _, _, _, _, hp => hp
  | k + 1, a, b, p, ha, hp => by
    unfold gmk
    refine gmk_lt k _ _ _ (dbl_lt ha) ?_
    split
    · exact xor8 hp ha
    · exact hp
theorem gm_lt {a : Nat} (b : Nat) (h : a < 256) : gm a b < 256 := gmk_lt 8 a b 0 h (by decide)
theorem gmk_lin2 : ∀ (k a b c p q : Nat), gmk k a (b ^^^ c) (p ^^^ q) = gmk k a b p ^^^ gmk k a c q
  | 0, _, _, _, _, _ => rfl
  | k + 1, a, b, c, p, q => by
    simp only [gmk]
    rw [Nat.xor_div_two, ← gmk_lin2 k]
    congr 1
    rw [gx_par]
    rcases Nat.mod_two_eq_zero_or_one b with h | h <;> rcases Nat.mod_two_eq_zero_or_one c with h' | h'
    · rw [if_neg (by omega), if_neg (by omega), if_neg (by omega)]
    · rw [if_pos (by omega), if_neg (by omega), if_pos (by omega), Nat.xor_assoc]
    · rw [if_pos (by omega), if_pos (by omega), if_neg (by omega), Nat.xor_assoc, Nat.xor_assoc, Nat.xor_comm q]
    · rw [if_neg (by omega), if_pos (by omega), if_pos (by omega), x4, Nat.xor_self, Nat.xor_zero]
theorem gmk_lin1 : ∀ (k a b c p q : Nat), a < 256 → b < 256 → gmk k (a ^^^ b) c (p ^^^ q) = gmk k a c p ^^^ gmk k b c q
  | 0, _, _, _, _, _, _, _ => rfl
  | k + 1, a, b, c, p, q, ha, hb => by
    simp only [gmk]
    rw [dbl_lin a ha b hb, ← gmk_lin1 k _ _ _ _ _ (dbl_lt ha) (dbl_lt hb)]
    congr 1
    split
    · exact x4 p q a b
    · rfl
theorem gm_xor2 (a b c : Nat) : gm a (b ^^^ c) = gm a b ^^^ gm a c := gmk_lin2 8 a b c 0 0
theorem gm_xor1 (a b c : Nat) (ha : a < 256) (hb : b < 256) : gm (a ^^^ b) c = gm a c ^^^ gm b c := gmk_lin1 8 a b c 0 0 ha hb
theorem gm_zero2 (a : Nat) : gm a 0 = 0 := by
  have h := gm_xor2 a 0 0
  rw [Nat.xor_self, Nat.xor_self] at h
  exact h
theorem gm_zero1 (b : Nat) : gm 0 b = 0 := by
  have h := gm_xor1 0 0 b (by decide) (by decide)
  rw [Nat.xor_self, Nat.xor_self] at h
  exact h
theorem bilin (f g : Nat → Nat → Nat) (hf0 : ∀ a, f a 0 = g a 0) (hf0' : ∀ b, f 0 b = g 0 b)
    (hf1 : ∀ a b c, a < 256 → b < 256 → c < 256 → f (a ^^^ b) c = f a c ^^^ f b c) (hg1 : ∀ a b c, a < 256 → b < 256 → c < 256 → g (a ^^^ b) c = g a c ^^^ g b c)
    (hf2 : ∀ a b c, a < 256 → b < 256 → c < 256 → f a (b ^^^ c) = f a b ^^^ f a c) (hg2 : ∀ a b c, a < 256 → b < 256 → c < 256 → g a (b ^^^ c) = g a b ^^^ g a c)
    (h : ∀ i, i < 8 → ∀ j, j < 8 → f (2 ^ i) (2 ^ j) = g (2 ^ i) (2 ^ j)) : ∀ a, a < 256 → ∀ b, b < 256 → f a b = g a b := by
  have pw : ∀ i, i < 8 → 2 ^ i < 256 := fun i hi => Nat.lt_of_lt_of_le (Nat.pow_lt_pow_right (by decide) hi) (by decide)
  refine byte_ind (fun a => ∀ b, b < 256 → f a b = g a b) 8 (fun b _ => hf0' b) (fun i hi => ?_) (fun a a' ha ha' ih ih' b hb => by rw [hf1 a a' b ha ha' hb, hg1 a a' b ha ha' hb, ih b hb, ih' b hb])
  refine byte_ind (fun b => f (2 ^ i) b = g (2 ^ i) b) 8 (hf0 _) (fun j hj => h i hi j hj) (fun b b' hb hb' ih ih' => by rw [hf2 _ b b' (pw i hi) hb hb', hg2 _ b b' (pw i hi) hb hb', ih, ih'])
theorem gm_comm {a b : Nat} (ha : a < 256) (hb : b < 256) : gm a b = gm b a :=
  bilin gm (fun a b => gm b a) (fun a => by rw [gm_zero2, gm_zero1]) (fun b => by rw [gm_zero2, gm_zero1]) (fun a b c ha hb _ => gm_xor1 a b c ha hb) (fun a b c _ _ _ => gm_xor2 c a b)
    (fun a b c _ _ _ => gm_xor2 a b c) (fun a b c _ hb hc => gm_xor1 b c a hb hc) (by decide +kernel) a ha b hb
theorem gm_assoc {a b c : Nat} (ha : a < 256) (hb : b < 256) (hc : c < 256) : gm (gm a b) c = gm a (gm b c) := by
  have pw : ∀ i, i < 8 → 2 ^ i < 256 := fun i hi => Nat.lt_of_lt_of_le (Nat.pow_lt_pow_right (by decide) hi) (by decide)
  have base : ∀ i, i < 8 → ∀ j, j < 8 → ∀ k, k < 8 → gm (gm (2 ^ i) (2 ^ j)) (2 ^ k) = gm (2 ^ i) (gm (2 ^ j) (2 ^ k)) := by decide +kernel
  have step : ∀ k, k < 8 → ∀ a, a < 256 → ∀ b, b < 256 → gm (gm a b) (2 ^ k) = gm a (gm b (2 ^ k)) := fun k hk =>
    bilin (fun a b => gm (gm a b) (2 ^ k)) (fun a b => gm a (gm b (2 ^ k))) (fun a => by simp only [gm_zero2, gm_zero1]) (fun b => by simp only [gm_zero1])
      (fun a b c ha hb _ => by rw [gm_xor1 a b c ha hb, gm_xor1 _ _ _ (gm_lt c ha) (gm_lt c hb)]) (fun a b c ha hb _ => gm_xor1 a b _ ha hb)
      (fun a b c ha _ _ => by rw [gm_xor2, gm_xor1 _ _ _ (gm_lt b ha) (gm_lt c ha)]) (fun a b c _ hb hc => by rw [gm_xor1 b c _ hb hc, gm_xor2])
      (fun i hi j hj => base i hi j hj k hk)
  exact byte_ind (fun c => gm (gm a b) c = gm a (gm b c)) 8 (by simp only [gm_zero2]) (fun k hk => step k hk a ha b hb) (fun x y hx hy ih ih' => by
    rw [gm_xor2, gm_xor2 b, gm_xor2 a, ih, ih']) c hc
theorem gm_one {a : Nat} (h : a < 256) : gm a 1 = a := by
  have : ∀ a, a < 256 → gm a 1 = a := by decide +kernel
  exact this a h
theorem one_gm {a : Nat} (h : a < 256) : gm 1 a = a := by rw [gm_comm (by decide) h, gm_one h]
theorem gpow_lt {a : Nat} (h : a < 256) : ∀ n, gpow a n < 256
  | 0 => (by decide : 1 < 256)
  | n + 1 => gm_lt a (gpow_lt h n)
theorem gpow_add {a : Nat} (h : a < 256) (m : Nat) : ∀ n, gpow a (m + n) = gm (gpow a m) (gpow a n)
  | 0 => (gm_one (gpow_lt h m)).symm
  | n + 1 => by
    show gm (gpow a (m + n)) a = gm (gpow a m) (gm (gpow a n) a)
    rw [gpow_add h m n, gm_assoc (gpow_lt h m) (gpow_lt h n) h]
theorem gpow_two {a : Nat} (h : a < 256) : gpow a 2 = gm a a := by
  show gm (gm 1 a) a = _
  rw [one_gm h]
theorem gpow_sq {a : Nat} (h : a < 256) (n : Nat) : gpow (gm a a) n = gpow a (2 * n) := by
  induction n with
  | zero => rfl
  | succ n ih =>
    show gm (gpow (gm a a) n) (gm a a) = gpow a (2 * n + 2)
    rw [ih, gpow_add h, gpow_two h]
theorem gpow_zero {n : Nat} (h : 0 < n) : gpow 0 n = 0 := by
  cases n with
  | zero => omega
  | succ n => exact gm_zero2 _
def gfast (a : Nat) : Nat :=
  let b := gm a a; let c := gm b b; let d := gm c c; let e := gm d d; let f := gm e e; let g := gm f f; let h := gm g g
  gm (gm (gm (gm (gm (gm b c) d) e) f) g) h
def ginv (a : Nat) : Nat := gpow a 254
theorem ginv_fast {a : Nat} (h : a < 256) : ginv a = gfast a := by
  have e2 : ∀ k, gm (gpow a k) (gpow a k) = gpow a (2 * k) := fun k => by rw [← gpow_add h]; congr 1; omega
  have g1 : a = gpow a 1 := (one_gm h).symm
  unfold gfast ginv
  simp only []
  have h1 : gm a a = gpow a 2 := (gpow_two h).symm
  rw [h1]
  simp only [e2, Nat.reduceMul, ← gpow_add h, Nat.reduceAdd]
theorem ginv_lt {a : Nat} (h : a < 256) : ginv a < 256 := gpow_lt h _
theorem gm_inv {a : Nat} (h : a < 256) (h0 : a ≠ 0) : gm a (ginv a) = 1 := by
  have key : ∀ a, a < 256 → a ≠ 0 → gm a (gfast a) = 1 := by decide +kernel
  rw [ginv_fast h]
  exact key a h h0
theorem ginv_zero : ginv 0 = 0 := gpow_zero (by decide)
theorem gpow_255 {a : Nat} (h : a < 256) (h0 : a ≠ 0) : gpow a 255 = 1 := by
  show gm (gpow a 254) a = 1
  rw [gm_comm (gpow_lt h _) h]
  exact gm_inv h h0
theorem ginv_only {a b : Nat} (ha : a < 256) (hb : b < 256) (h : gm a b = 1) : b = ginv a := by
  have h0 : a ≠ 0 := fun e => by rw [e, gm_zero1] at h; exact absurd h (by decide)
  have e := gm_assoc (ginv_lt ha) ha hb
  rw [h, gm_comm (ginv_lt ha) ha, gm_inv ha h0, one_gm hb, gm_one (ginv_lt ha)] at e
  exact e
theorem ginv_ginv {a : Nat} (h : a < 256) : ginv (ginv a) = a := by
  by_cases h0 : a = 0
  · subst h0
    rw [ginv_zero, ginv_zero]
  · exact (ginv_only (ginv_lt h) h (by rw [gm_comm (ginv_lt h) h]; exact gm_inv h h0)).symm
theorem gpow_mod {a : Nat} (h : a < 256) (h0 : a ≠ 0) (n : Nat) : gpow a (n % 255) = gpow a n := by
  have key : ∀ q r, gpow a (255 * q + r) = gpow a r := by
    intro q
    induction q with
    | zero => intro r; rw [Nat.mul_zero, Nat.zero_add]
    | succ q ih =>
      intro r
      rw [show 255 * (q + 1) + r = 255 + (255 * q + r) by omega, gpow_add h, gpow_255 h h0, one_gm (gpow_lt h _), ih]
  conv => rhs; rw [← Nat.div_add_mod n 255]
  exact (key _ _).symm
def rotl (a k : Nat) : Nat := (a * 2 ^ k) % 256 ||| a / 2 ^ (8 - k)
def gbox (i : Nat) : Nat := i ^^^ rotl i 1 ^^^ rotl i 2 ^^^ rotl i 3 ^^^ rotl i 4 ^^^ 99
def box (a : Nat) : Nat := gbox (ginv a)
def unmix (a : Nat) : Nat := rotl a 1 ^^^ rotl a 3 ^^^ rotl a 6 ^^^ 5
def unbox (a : Nat) : Nat := ginv (unmix a)
theorem gbox_lt {a : Nat} (h : a < 256) : gbox a < 256 := by
  have : ∀ a, a < 256 → gbox a < 256 := by decide +kernel
  exact this a h
theorem unmix_lt {a : Nat} (h : a < 256) : unmix a < 256 := by
  have : ∀ a, a < 256 → unmix a < 256 := by decide +kernel
  exact this a h
theorem unmix_gbox {a : Nat} (h : a < 256) : unmix (gbox a) = a := by
  have : ∀ a, a < 256 → unmix (gbox a) = a := by decide +kernel
  exact this a h
theorem gbox_unmix {a : Nat} (h : a < 256) : gbox (unmix a) = a := by
  have : ∀ a, a < 256 → gbox (unmix a) = a := by decide +kernel
  exact this a h
theorem box_lt {a : Nat} (h : a < 256) : box a < 256 := gbox_lt (ginv_lt h)
theorem unbox_lt {a : Nat} (h : a < 256) : unbox a < 256 := ginv_lt (unmix_lt h)
theorem unbox_box {a : Nat} (h : a < 256) : unbox (box a) = a := by
  unfold unbox box
  rw [unmix_gbox (ginv_lt h), ginv_ginv h]
theorem box_unbox {a : Nat} (h : a < 256) : box (unbox a) = a := by
  unfold unbox box
  rw [ginv_ginv (unmix_lt h), gbox_unmix h]
end Go.Proofs.YthmlcmlpmolmoaaGreatDoor
namespace Go.Proofs.YthmlcmlpmolmoaaGreatDoor
def By (n : Nat) (s : Nat → Nat) : Prop := ∀ i, i < n → s i < 256
end Go.Proofs.YthmlcmlpmolmoaaGreatDoor
namespace Go.Proofs.YthmlcmlpmolmoaaGreatDoor
def mx (a b c d : Nat) : Nat := (dbl a ^^^ (dbl b ^^^ b)) ^^^ (c ^^^ d)
def imx (a b c d : Nat) : Nat := (gm 14 a ^^^ gm 11 b) ^^^ (gm 13 c ^^^ gm 9 d)
theorem xxab (a b c d e : Nat) : a ^^^ ((((a ^^^ b) ^^^ c) ^^^ d) ^^^ e) = e ^^^ (b ^^^ (c ^^^ d)) := by
  have h1 : a ^^^ ((((a ^^^ b) ^^^ c) ^^^ d) ^^^ e) = (a ^^^ a) ^^^ (e ^^^ (b ^^^ (c ^^^ d))) := by ac_rfl
  rw [h1, Nat.xor_self, Nat.zero_xor]
theorem mx_code {a b : Nat} (c d : Nat) (ha : a < 256) (hb : b < 256) : a ^^^ ((((a ^^^ b) ^^^ c) ^^^ d) ^^^ dbl (a ^^^ b)) = mx a b c d := by
  rw [xxab, dbl_lin a ha b hb]
  unfold mx
  ac_rfl
structure Lin4 (f : Nat → Nat → Nat → Nat → Nat) : Prop where
  lt : ∀ a b c d, a < 256 → b < 256 → c < 256 → d < 256 → f a b c d < 256
  add : ∀ a b c d a' b' c' d', a < 256 → b < 256 → c < 256 → d < 256 → a' < 256 → b' < 256 → c' < 256 → d' < 256 → f (a ^^^ a') (b ^^^ b') (c ^^^ c') (d ^^^ d') = f a b c d ^^^ f a' b' c' d'
namespace Lin4
variable {f g h k : Nat → Nat → Nat → Nat → Nat}
theorem p1 : Lin4 (fun a _ _ _ => a) := ⟨fun _ _ _ _ h _ _ _ => h, fun _ _ _ _ _ _ _ _ _ _ _ _ _ _ _ _ => rfl⟩
theorem p2 : Lin4 (fun _ a _ _ => a) := ⟨fun _ _ _ _ _ h _ _ => h, fun _ _ _ _ _ _ _ _ _ _ _ _ _ _ _ _ => rfl⟩
theorem p3 : Lin4 (fun _ _ a _ => a) := ⟨fun _ _ _ _ _ _ h _ => h, fun _ _ _ _ _ _ _ _ _ _ _ _ _ _ _ _ => rfl⟩
theorem p4 : Lin4 (fun _ _ _ a => a) := ⟨fun _ _ _ _ _ _ _ h => h, fun _ _ _ _ _ _ _ _ _ _ _ _ _ _ _ _ => rfl⟩
theorem xor (hf : Lin4 f) (hg : Lin4 g) : Lin4 (fun a b c d => f a b c d ^^^ g a b c d) :=
  ⟨fun a b c d h1 h2 h3 h4 => xor8 (hf.lt a b c d h1 h2 h3 h4) (hg.lt a b c d h1 h2 h3 h4), fun a b c d a' b' c' d' h1 h2 h3 h4 h5 h6 h7 h8 => by
    show f _ _ _ _ ^^^ g _ _ _ _ = _
    rw [hf.add a b c d a' b' c' d' h1 h2 h3 h4 h5 h6 h7 h8, hg.add a b c d a' b' c' d' h1 h2 h3 h4 h5 h6 h7 h8, x4]⟩
theorem dbl (hf : Lin4 f) : Lin4 (fun a b c d => Go.Proofs.YthmlcmlpmolmoaaGreatDoor.dbl (f a b c d)) :=
  ⟨fun a b c d h1 h2 h3 h4 => dbl_lt (hf.lt a b c d h1 h2 h3 h4), fun a b c d a' b' c' d' h1 h2 h3 h4 h5 h6 h7 h8 => by
    show Go.Proofs.YthmlcmlpmolmoaaGreatDoor.dbl (f _ _ _ _) = _
    rw [hf.add a b c d a' b' c' d' h1 h2 h3 h4 h5 h6 h7 h8, dbl_lin _ (hf.lt a b c d h1 h2 h3 h4) _ (hf.lt a' b' c' d' h5 h6 h7 h8)]⟩
theorem gm {m : Nat} (hm : m < 256) (hf : Lin4 f) : Lin4 (fun a b c d => Go.Proofs.YthmlcmlpmolmoaaGreatDoor.gm m (f a b c d)) :=
  ⟨fun a b c d _ _ _ _ => gm_lt _ hm, fun a b c d a' b' c' d' h1 h2 h3 h4 h5 h6 h7 h8 => by
    show Go.Proofs.YthmlcmlpmolmoaaGreatDoor.gm m (f _ _ _ _) = _
    rw [hf.add a b c d a' b' c' d' h1 h2 h3 h4 h5 h6 h7 h8, gm_xor2]⟩
theorem mx (hf : Lin4 f) (hg : Lin4 g) (hh : Lin4 h) (hk : Lin4 k) : Lin4 (fun a b c d => Go.Proofs.YthmlcmlpmolmoaaGreatDoor.mx (f a b c d) (g a b c d) (h a b c d) (k a b c d)) :=
  (hf.dbl.xor (hg.dbl.xor hg)).xor (hh.xor hk)
theorem imx (hf : Lin4 f) (hg : Lin4 g) (hh : Lin4 h) (hk : Lin4 k) : Lin4 (fun a b c d => Go.Proofs.YthmlcmlpmolmoaaGreatDoor.imx (f a b c d) (g a b c d) (h a b c d) (k a b c d)) :=
  ((hf.gm (by decide)).xor (hg.gm (by decide))).xor ((hh.gm (by decide)).xor (hk.gm (by decide)))
theorem parts (hf : Lin4 f) {a b c d : Nat} (ha : a < 256) (hb : b < 256) (hc : c < 256) (hd : d < 256) : f a b c d = (f a 0 0 0 ^^^ f 0 b 0 0) ^^^ (f 0 0 c 0 ^^^ f 0 0 0 d) := by
  have z : (0 : Nat) < 256 := by decide
  rw [← hf.add a 0 0 0 0 b 0 0 ha z z z z hb z z, ← hf.add 0 0 c 0 0 0 0 d z z hc z z z z hd, ← hf.add _ _ _ _ _ _ _ _ (xor8 ha z) (xor8 z hb) (xor8 z z) (xor8 z z) (xor8 z z) (xor8 z z) (xor8 hc z) (xor8 z hd)]
  simp
theorem eq (hf : Lin4 f) (hg : Lin4 g) (h1 : ∀ x, x < 256 → f x 0 0 0 = g x 0 0 0) (h2 : ∀ x, x < 256 → f 0 x 0 0 = g 0 x 0 0) (h3 : ∀ x, x < 256 → f 0 0 x 0 = g 0 0 x 0) (h4 : ∀ x, x < 256 → f 0 0 0 x = g 0 0 0 x)
    {a b c d : Nat} (ha : a < 256) (hb : b < 256) (hc : c < 256) (hd : d < 256) : f a b c d = g a b c d := by
  rw [hf.parts ha hb hc hd, hg.parts ha hb hc hd, h1 a ha, h2 b hb, h3 c hc, h4 d hd]
end Lin4
theorem mx_lt {a b c d : Nat} (ha : a < 256) (hb : b < 256) (hc : c < 256) (hd : d < 256) : mx a b c d < 256 := (Lin4.mx .p1 .p2 .p3 .p4).lt a b c d ha hb hc hd
def mixc (s : Nat → Nat) (i : Nat) : Nat := mx (s (4 * (i / 4) + i % 4)) (s (4 * (i / 4) + (i + 1) % 4)) (s (4 * (i / 4) + (i + 2) % 4)) (s (4 * (i / 4) + (i + 3) % 4))
def imixc (s : Nat → Nat) (i : Nat) : Nat := imx (s (4 * (i / 4) + i % 4)) (s (4 * (i / 4) + (i + 1) % 4)) (s (4 * (i / 4) + (i + 2) % 4)) (s (4 * (i / 4) + (i + 3) % 4))
def subs (t : Nat → Nat) (k : Nat) (s : Nat → Nat) (i : Nat) : Nat := t (s ((i + k * (i % 4)) % 16))
def addk (S : Nat → Nat) (r : Nat) (s : Nat → Nat) (i : Nat) : Nat := s i ^^^ S (16 * r + i)
def Eq16 (s t : Nat → Nat) : Prop := ∀ i, i < 16 → s i = t i
variable {s t : Nat → Nat}
theorem Eq16.refl (s : Nat → Nat) : Eq16 s s := fun _ _ => rfl
theorem Eq16.symm (h : Eq16 s t) : Eq16 t s := fun i hi => (h i hi).symm
theorem Eq16.trans {u : Nat → Nat} (h : Eq16 s t) (h' : Eq16 t u) : Eq16 s u := fun i hi => (h i hi).trans (h' i hi)
theorem By.congr (h : By 16 s) (e : Eq16 s t) : By 16 t := fun i hi => e i hi ▸ h i hi
theorem mixc_by (h : By 16 s) : By 16 (mixc s) := fun i hi => mx_lt (h _ (by omega)) (h _ (by omega)) (h _ (by omega)) (h _ (by omega))
theorem subs_by {f : Nat → Nat} (hf : By 256 f) (k : Nat) (h : By 16 s) : By 16 (subs f k s) := fun i _ => hf _ (h _ (Nat.mod_lt _ (by decide)))
theorem addk_by {S : Nat → Nat} {r : Nat} (hS : By (16 * (r + 1)) S) (h : By 16 s) : By 16 (addk S r s) := fun i hi => xor8 (h i hi) (hS _ (by omega))
theorem box_by : By 256 box := fun _ h => box_lt h
def est (n : Nat) (S b : Nat → Nat) : Nat → Nat → Nat
  | 0 => addk S 0 b
  | r + 1 => addk S (r + 1) (if r + 1 < n + 6 then mixc (subs box 4 (est n S b r)) else subs box 4 (est n S b r))
def enc (n : Nat) (S b : Nat → Nat) : Nat → Nat := est n S b (n + 6)
def dst (n : Nat) (S b : Nat → Nat) : Nat → Nat → Nat
  | 0 => b
  | k + 1 => subs unbox 12 (if 0 < k then imixc (addk S (n + 6 - k) (dst n S b k)) else addk S (n + 6 - k) (dst n S b k))
variable {n : Nat} {S b : Nat → Nat}
theorem est_by (hS : By (16 * (n + 7)) S) (hb : By 16 b) : ∀ r, r ≤ n + 6 → By 16 (est n S b r)
  | 0, _ => addk_by (fun i hi => hS i (by omega)) hb
  | r + 1, hr => by
    have ih := subs_by box_by 4 (est_by hS hb r (by omega))
    refine addk_by (fun i hi => hS i (by omega)) ?_
    split
    · exact mixc_by ih
    · exact ih
theorem enc_by (hS : By (16 * (n + 7)) S) (hb : By 16 b) : By 16 (enc n S b) := est_by hS hb _ (Nat.le_refl _)
def kt (n : Nat) (S : Nat → Nat) (i j : Nat) : Nat :=
  if i % n = 0 then box (S (4 * (i - 1) + (j + 1) % 4)) ^^^ (if j = 0 then gpow 2 (i / n - 1) else 0)
  else if n = 8 ∧ i % 8 = 4 then box (S (4 * (i - 1) + j)) else S (4 * (i - 1) + j)
def nxt (n : Nat) (S : Nat → Nat) (i j : Nat) : Nat := S (4 * (i - n) + j) ^^^ kt n S i j
def sch (n : Nat) (key : Nat → Nat) : Nat → Nat → Nat
  | 0 => fun x => if x < 4 * n then key x else 0
  | k + 1 => fun x => if x / 4 = n + k then nxt n (sch n key k) (n + k) (x % 4) else sch n key k x
def ks (n : Nat) (key : Nat → Nat) : Nat → Nat := sch n key (3 * n + 28)
theorem nxt_by {i j : Nat} (hn : 0 < n) (hi : n ≤ i) (hj : j < 4) (h : By (4 * i) S) : nxt n S i j < 256 := by
  unfold nxt kt
  refine xor8 (h _ (by omega)) ?_
  split
  · refine xor8 (box_lt (h _ (by omega))) ?_
    split
    · exact gpow_lt (by decide) _
    · decide
  · split
    · exact box_lt (h _ (by omega))
    · exact h _ (by omega)
theorem sch_by {key : Nat → Nat} (hn : 0 < n) (hk : By (4 * n) key) : ∀ k x, sch n key k x < 256
  | 0, x => by
    show (if x < 4 * n then key x else 0) < 256
    split
    · exact hk x ‹_›
    · decide
  | k + 1, x => by
    show (if x / 4 = n + k then nxt n (sch n key k) (n + k) (x % 4) else sch n key k x) < 256
    split
    · exact nxt_by hn (by omega) (by omega) fun i _ => sch_by hn hk k i
    · exact sch_by hn hk k x
theorem ks_by {key : Nat → Nat} (hn : 0 < n) (hk : By (4 * n) key) (x : Nat) : ks n key x < 256 := sch_by hn hk _ x
theorem sch_stay {key : Nat → Nat} (k : Nat) : ∀ m x, x / 4 < n + k → sch n key (k + m) x = sch n key k x
  | 0, _, _ => rfl
  | m + 1, x, hx => by
    show (if x / 4 = n + (k + m) then _ else sch n key (k + m) x) = _
    rw [if_neg (by omega), sch_stay k m x hx]
theorem ks_key {key : Nat → Nat} {x : Nat} (hx : x < 4 * n) : ks n key x = key x := by
  unfold ks
  rw [← Nat.zero_add (3 * n + 28), sch_stay 0 _ x (by omega)]
  show (if x < 4 * n then key x else 0) = _
  rw [if_pos hx]
theorem kt_congr {T : Nat → Nat} {i j : Nat} (hn : 0 < n) (hi : n ≤ i) (hj : j < 4) (h : ∀ x, x < 4 * i → S x = T x) : kt n S i j = kt n T i j := by
  unfold kt
  rw [h _ (by omega), h (4 * (i - 1) + j) (by omega)]
theorem nxt_congr {T : Nat → Nat} {i j : Nat} (hn : 0 < n) (hi : n ≤ i) (hj : j < 4) (h : ∀ x, x < 4 * i → S x = T x) : nxt n S i j = nxt n T i j := by
  unfold nxt
  rw [kt_congr hn hi hj h, h _ (by omega)]
theorem ks_next {key : Nat → Nat} {i j : Nat} (hn : 0 < n) (hi : n ≤ i) (hi2 : i < 4 * (n + 7)) (hj : j < 4) : ks n key (4 * i + j) = nxt n (ks n key) i j := by
  obtain ⟨k, rfl⟩ : ∃ k, i = n + k := ⟨i - n, by omega⟩
  obtain ⟨m, hm⟩ : ∃ m, 3 * n + 28 = k + 1 + m := ⟨3 * n + 28 - (k + 1), by omega⟩
  have e1 : ks n key (4 * (n + k) + j) = nxt n (sch n key k) (n + k) j := by
    unfold ks
    rw [hm, sch_stay (k + 1) m _ (by omega)]
    show (if (4 * (n + k) + j) / 4 = n + k then nxt n (sch n key k) (n + k) ((4 * (n + k) + j) % 4) else _) = _
    rw [if_pos (by omega), show (4 * (n + k) + j) % 4 = j by omega]
  rw [e1]
  refine nxt_congr hn hi hj fun x hx => ?_
  unfold ks
  rw [show 3 * n + 28 = k + (3 * n + 28 - k) by omega, sch_stay k _ x (by omega)]
end Go.Proofs.YthmlcmlpmolmoaaGreatDoor
namespace Go.Proofs.YthmlcmlpmolmoaaGreatDoor
open Go.RowKit
def fd (n i : Nat) : Nat := if i % 2 = 0 then n / 2 else n - n / 2
theorem fd_le {n : Nat} (i : Nat) (h : 6 ≤ n) (h2 : n ≤ 32) : 3 ≤ fd n i ∧ fd n i ≤ 16 := by unfold fd; split <;> omega
theorem fd_two (n i : Nat) : fd n (i + 2) = fd n i := by unfold fd; rw [Nat.add_mod_right]
theorem fd_next (n i : Nat) : fd n (i + 1) = n - fd n i := by
  unfold fd
  by_cases h : i % 2 = 0
  · rw [if_neg (by omega), if_pos h]
  · rw [if_pos (by omega), if_neg h]; omega
def fhd (u n t j : Nat) : Nat := [1, 2, 1, 0, 0, 10, 10, u, 0, 0, 0, n, 0, 0, 0, t].getD j 0
theorem fhd_lt {u n t : Nat} (hu : u < 256) (hn : n < 256) (ht : t < 256) {j : Nat} (hj : j < 16) : fhd u n t j < 256 := by
  have h : ∀ j, j < 16 → fhd u n t j < 256 := by
    intro j hj
    match j, hj with
    | 0, _ | 1, _ | 2, _ | 3, _ | 4, _ | 5, _ | 6, _ | 8, _ | 9, _ | 10, _ | 12, _ | 13, _ | 14, _ => first | exact (by decide : (0 : Nat) < 256) | exact (by decide : (1 : Nat) < 256) | exact (by decide : (2 : Nat) < 256) | exact (by decide : (10 : Nat) < 256)
    | 7, _ => exact hu
    | 11, _ => exact hn
    | 15, _ => exact ht
    | j + 16, h => omega
  exact h j hj
def finL (t w : Nat) : Nat := 16 + (t + 1 + w + 15) / 16 * 16
theorem finL_ge (t w : Nat) : 16 + t + 1 + w ≤ finL t w := by unfold finL; omega
theorem finL_le {t w : Nat} (ht : t ≤ 16) (hw : w ≤ 8) : finL t w ≤ 48 := by unfold finL; omega
theorem finL_mul (t w : Nat) : 16 * (finL t w / 16) = finL t w := by unfold finL; omega
def finp (u n t : Nat) (T : Nat → Nat) (r x w j : Nat) : Nat :=
  if j < 16 then fhd u n t j else if j < 16 + t then T (j - 16) else if j < finL t w - 1 - w then 0 else if j = finL t w - 1 - w then r else x / 256 ^ (finL t w - 1 - j) % 256
theorem finp_by {u n t : Nat} {T : Nat → Nat} {r x w : Nat} (hu : u < 256) (hn : n < 256) (ht : t < 256) (hT : By t T) (hr : r < 256) : By (finL t w) (finp u n t T r x w) := fun j _ => by
  unfold finp
  split
  · exact fhd_lt hu hn ht (by omega)
  · split
    · exact hT _ (by omega)
    · split
      · decide
      · split
        · exact hr
        · exact Nat.mod_lt _ (by decide)
def xch (E : (Nat → Nat) → Nat → Nat) (p : Nat → Nat) : Nat → Nat → Nat
  | 0 => fun _ => 0
  | k + 1 => E fun j => xch E p k j ^^^ p (16 * k + j)
theorem xch_by {n : Nat} {key p : Nat → Nat} {L : Nat} (hn : n = 4 ∨ n = 8) (hkey : By (4 * n) key) (hp : By L p) : ∀ k, 16 * k ≤ L → By 16 (xch (enc n (ks n key)) p k)
  | 0, _ => fun _ _ => by show 0 < 256; decide
  | k + 1, h => enc_by (fun j _ => ks_by (by omega) hkey j) fun j hj => by
      exact Nat.xor_lt_two_pow (n := 8) (xch_by hn hkey hp k (by omega) j hj) (hp (16 * k + j) (by omega))
def fw (N : Nat) : Nat := wd ((N - N / 2 : Nat) : Int)
theorem fw_le (N : Nat) : fw N ≤ 8 := wd_le
def fmk (n : Nat) (key : Nat → Nat) (t : Nat) (T : Nat → Nat) (N i x : Nat) : Nat :=
  restN (10 ^ fd N i) (xch (enc n (ks n key)) (finp (N / 2) N t T i x (fw N)) (finL t (fw N) / 16)) ((fw N + 3) / 4 * 4 + 4)
theorem fmk_lt (n : Nat) (key : Nat → Nat) (t : Nat) (T : Nat → Nat) (N i x : Nat) : fmk n key t T N i x < 10 ^ fd N i := restN_lt (ten_pos _) _ _
def fM (n : Nat) (key : Nat → Nat) (t : Nat) (T : Nat → Nat) (N i : Nat) (x : Int) : Int := (fmk n key t T N i x.toNat : Nat)
theorem inP_nat {k x : Nat} (h1 : 1 ≤ k) (h2 : k ≤ 16) : inP (x : Nat) (k : Nat) = true ↔ x < 10 ^ k := by
  rw [inP_iff, pw_at h1 h2]; omega
theorem fM_in {n : Nat} {key : Nat → Nat} {t : Nat} {T : Nat → Nat} {N : Nat} (h : 6 ≤ N) (h2 : N ≤ 32) (i : Nat) (x : Int) : inP (fM n key t T N i x) (fd N i : Nat) = true := by
  have := fd_le i h h2
  exact (inP_nat (by omega) (by omega)).2 (fmk_lt ..)
theorem sV_in {a b m : Int} (h : inP a m = true) (h' : inP b m = true) : inP (sV a b m) m = true := by
  have hp := inP_pos h
  have e : sV a b m = (a - b + (pw m : Int)) % (pw m : Int) := by unfold sV; rw [if_pos (tE_pos h h')]
  rw [inP_iff, e]
  exact ⟨Int.emod_nonneg _ (by omega), Int.emod_lt_of_pos _ (by omega)⟩
theorem back_mod2 {x y p : Int} (x0 : 0 ≤ x) (x1 : x < p) : ((x - y + p) % p + y) % p = x := by
  rw [Int.emod_add_emod, show x - y + p + y = x + p by omega, Int.add_emod_right, Int.emod_eq_of_lt x0 x1]
theorem back_diff {x y m : Int} (h : inP x m = true) (h' : inP y m = true) : aV (sV x y m) y m = x := by
  obtain ⟨x0, x1⟩ := (inP_iff x m).1 h
  rw [(aV_in (sV_in h h') h').1]
  unfold sV
  rw [if_pos (tE_pos h h')]
  exact back_mod2 x0 x1
def fgo (M : Nat → Int → Int) (N : Nat) (a b : Int) : Nat → Int × Int
  | 0 => (a, b)
  | k + 1 => ((fgo M N a b k).2, aV (fgo M N a b k).1 (M k (fgo M N a b k).2) (fd N k : Nat))
def fbk (M : Nat → Int → Int) (N : Nat) : Nat → Int → Int → Int × Int
  | 0, a, b => (a, b)
  | k + 1, a, b => fbk M N k (sV b (M k a) (fd N k : Nat)) a
def MIn (M : Nat → Int → Int) (N : Nat) : Prop := ∀ k x, inP (M k x) (fd N k : Nat) = true
theorem fgo_in {M : Nat → Int → Int} {N : Nat} (hM : MIn M N) {a b : Int} (ha : inP a (fd N 0 : Nat) = true) (hb : inP b (fd N 1 : Nat) = true) : ∀ k, inP (fgo M N a b k).1 (fd N k : Nat) = true ∧ inP (fgo M N a b k).2 (fd N (k + 1) : Nat) = true
  | 0 => ⟨ha, hb⟩
  | k + 1 => by
    obtain ⟨h1, h2⟩ := fgo_in hM ha hb k
    exact ⟨h2, by rw [fd_two]; exact (aV_in h1 (hM k _)).2⟩
theorem fbk_in {M : Nat → Int → Int} {N : Nat} (hM : MIn M N) : ∀ k (a b : Int), inP a (fd N k : Nat) = true → inP b (fd N (k + 1) : Nat) = true → inP (fbk M N k a b).1 (fd N 0 : Nat) = true ∧ inP (fbk M N k a b).2 (fd N 1 : Nat) = true
  | 0, _, _, ha, hb => ⟨ha, hb⟩
  | k + 1, a, b, ha, hb => by
    rw [fd_two] at hb
    exact fbk_in hM k _ _ (sV_in hb (hM k a)) ha
theorem fbk_fgo {M : Nat → Int → Int} {N : Nat} (hM : MIn M N) {a b : Int} (ha : inP a (fd N 0 : Nat) = true) (hb : inP b (fd N 1 : Nat) = true) : ∀ k, fbk M N k (fgo M N a b k).1 (fgo M N a b k).2 = (a, b)
  | 0 => rfl
  | k + 1 => by
    show fbk M N k (sV (aV (fgo M N a b k).1 (M k (fgo M N a b k).2) (fd N k : Nat)) (M k (fgo M N a b k).2) (fd N k : Nat)) (fgo M N a b k).2 = _
    rw [back_sum (fgo_in hM ha hb k).1 (hM k _)]
    exact fbk_fgo hM ha hb k
theorem fgo_fbk {M : Nat → Int → Int} {N : Nat} (hM : MIn M N) : ∀ k (a b : Int), inP a (fd N k : Nat) = true → inP b (fd N (k + 1) : Nat) = true → fgo M N (fbk M N k a b).1 (fbk M N k a b).2 k = (a, b)
  | 0, _, _, _, _ => rfl
  | k + 1, a, b, ha, hb => by
    rw [fd_two] at hb
    have h := fgo_fbk hM k (sV b (M k a) (fd N k : Nat)) a (sV_in hb (hM k a)) ha
    show (_, aV _ _ _) = _
    rw [show fbk M N (k + 1) a b = fbk M N k (sV b (M k a) (fd N k : Nat)) a from rfl, h]
    exact Prod.ext rfl (back_diff hb (hM k a))
end Go.Proofs.YthmlcmlpmolmoaaGreatDoor
namespace Go.Proofs.YthmlcmlpmolmoaaGreatDoor
set_option maxRecDepth 100000
open Go.RowKit
def catB (n : Nat) (f g : Nat → Nat) (j : Nat) : Nat := if j < n then f j else g (j - n)
def bytesL (n : Nat) (f : Nat → Nat) : List Value := (List.range n).map fun j => .int .u8 (f j : Nat)
theorem catB_lt {n m : Nat} {f g : Nat → Nat} (hf : ∀ j, j < n → f j < 256) (hg : ∀ j, j < m → g j < 256) (j : Nat) (hj : j < n + m) : catB n f g j < 256 := by
  unfold catB; split
  · exact hf j (by omega)
  · exact hg _ (by omega)
theorem bytesL_cat (n m : Nat) (f g : Nat → Nat) : bytesL n f ++ bytesL m g = bytesL (n + m) (catB n f g) := by
  unfold bytesL
  rw [List.range_add, List.map_append, List.map_map]
  congr 1
  · apply List.map_congr_left
    intro j hj
    rw [catB, if_pos (List.mem_range.1 hj)]
  · apply List.map_congr_left
    intro j _
    show _ = Value.int .u8 ((catB n f g (n + j) : Nat) : Int)
    rw [catB, if_neg (by omega), Nat.add_sub_cancel_left]
theorem bytesL_get (n : Nat) (f : Nat → Nat) (j : Nat) (u : Value) (h : (bytesL n f)[j]? = some u) : j < n ∧ u = .int .u8 (f j : Nat) := by
  unfold bytesL at h
  rw [List.getElem?_map] at h
  rcases Nat.lt_or_ge j n with hj | hj
  · rw [List.getElem?_range hj] at h
    simp only [Option.map_some, Option.some.injEq] at h
    exact ⟨hj, h.symm⟩
  · rw [List.getElem?_eq_none (by simpa using hj)] at h; simp at h
theorem wpList_appB {ops : Array Oper} {rest : List Oper} {o : Oper} {a : Act} {Q : Exit → Act → World → Prop} {w : World} (hgd : o.guard = none) (s x : Operand)
    (ho : o.op = .call { callee := .builtin .append, args := #[s, x], argTypes := #[22, 22] })
    (base : Nat) (v : Value) (n : Nat) (f : Nat → Nat) (hs : a.eval s = v) (hown : w.ownsRow base 5 1 v n (bytesL n f))
    (A : Option Addr) (m cap : Nat) (g : Nat → Nat) (hx : a.eval x = .slice A m cap) (hA : SlB w A m g) (hnil : A = none → m = 0 ∧ cap = 0) (hn : n + m ≤ 140737488355328) (hbase : base ≤ w.heap.size)
    (h : ∀ v' w', w'.ownsRow base 5 1 v' (n + m) (bytesL (n + m) (catB n f g)) → Below base w w' → wpList Tryz.prog ops Q rest (a.put o.dst v') w') : wpList Tryz.prog ops Q (o :: rest) a w := by
  obtain ⟨i, hi, hz, hsz, hb⟩ := info_parts info8
  cases A with
  | none =>
    obtain ⟨rfl, rfl⟩ := hnil rfl
    refine wpList_append_own_none hgd s x 22 ho base 5 i 1 Tryz.underlying22 hi v n _ hs hown hx ?_
    refine h v w ?_ (Below.refl _ _)
    have := bytesL_cat n 0 f g
    rw [show bytesL 0 g = [] from rfl, List.append_nil] at this
    rw [← this]
    exact hown
  | some ad =>
    refine wpList_append_own w hgd s x 22 ho base 5 i (.int .u8 0) 1 1 Tryz.underlying22 hi hz hsz hb rfl (by decide) v n _ hs hown ad m cap (bytesL m g) hx (by simp [bytesL]) ?_ ?_ (by unfold maxLen; omega) (by omega) hbase ?_
    · intro j u hj
      obtain ⟨hjm, rfl⟩ := bytesL_get m g j u hj
      obtain ⟨B, off, e, _, hc⟩ := hA (by omega)
      obtain rfl : ad = ⟨B, off, none⟩ := Option.some.inj e
      rw [Go.WideShapes.add_plain]
      exact (hc j hjm).2
    · intro u hu
      obtain ⟨j, hj⟩ := List.getElem?_of_mem hu
      obtain ⟨_, rfl⟩ := bytesL_get m g j u hj
      rfl
    · intro v' w' h1 h2 _
      rw [bytesL_cat] at h1
      exact h v' w' h1 ((Below.refl base w).grown h2 hbase fun k hk => (hown.lt k hk).1)
theorem own_slB {w : World} {base : Nat} {v : Value} {n : Nat} {f : Nat → Nat} (h : w.ownsRow base 5 1 v n (bytesL n f)) (hf : ∀ j, j < n → f j < 256) : ∃ A c, v = .slice A n c ∧ SlB w A n f := by
  rcases h.2 with ⟨rfl, hx⟩ | ⟨g, cap, cur, rfl, hg, hh, r⟩
  · subst hx
    exact ⟨none, 0, rfl, SlB.nil _ _⟩
  · refine ⟨some ⟨g, 0, none⟩, cap, rfl, fun hn => ⟨g, 0, rfl, ?_, fun j hj => ⟨hf j hj, ?_⟩⟩⟩
    · obtain ⟨hlt, _⟩ := Array.getElem?_eq_some_iff.1 hh
      exact hlt
    · rw [Nat.zero_add, h.cellAt j (by omega)]
      unfold bytesL
      rw [List.getElem?_map, List.getElem?_range hj]; rfl
open Go.ChangeShapes Go.WideShapes Go.ChangeAt in
theorem open_bytes {H : Type} {enc : TypeId × Value → H} {W : World} {base : Nat} {v : Value} {d : DataW H} {p : List MemPlace}
    (hval : Value.okWide Tryz.prog W .any base 22 v) (h : DataW.Trod enc Tryz.prog W 0 (fun _ => true) true 22 v d p) :
    ∃ A n c bs, v = .slice A n c ∧ SlB W A n bs ∧ (n ≤ c ∧ (A = none → n = 0 ∧ c = 0) ∧ ∃ els sp, (d = .slice els sp ∧ els.length + sp.length = c) ∨ (d = .nil ∧ c = 0)) := by
  obtain ⟨a0, len, cap, rfl⟩ := okWide_slice Tryz.underlying22 hval
  obtain ⟨fuel, hf⟩ := h
  rcases open_ints Tryz.underlying22 Tryz.underlying5 (show Tryz.prog.cellsOf 5 = 1 by kernel_rfl) hf with ⟨hcs, hx⟩ | ⟨a, len', cap', zs, hcs, _, hl, hm, hz, hx, hcell, hwz⟩
  · simp only [Value.cells] at hcs
    injection hcs with hcs
    injection hcs with h1 h2 h3
    subst h1 h2 h3
    injection hx with hd _
    exact ⟨none, 0, 0, fun _ => 0, rfl, SlB.nil _ _, Nat.le_refl _, fun _ => ⟨rfl, rfl⟩, [], [], Or.inr ⟨hd, rfl⟩⟩
  · simp only [Value.cells] at hcs
    injection hcs with hcs
    injection hcs with h1 h2 h3
    subst h1 h2 h3
    injection hx with hd _
    have hz' : zs.length = cap := by simpa using hz
    have hsl : SlB W (some a) len (fun j => (zs.getD j 0).toNat) := by
      intro hn
      obtain ⟨b, off, rfl, hc⟩ := ints_at hcell (by omega)
      have hb0 : b < W.heap.size := block_lt (hc 0 (by omega))
      refine ⟨b, off, rfl, hb0, fun j hj => ?_⟩
      have hr := range_u8 hwz j
      rw [← List.getD_eq_getElem?_getD] at hr
      refine ⟨by show (zs.getD j 0).toNat < 256; omega, ?_⟩
      show _ = some (Value.int .u8 ((zs.getD j 0).toNat : Nat))
      rw [hc j (by omega), Int.toNat_of_nonneg hr.1]
    exact ⟨some a, len, cap, _, rfl, hsl, hl, (fun h => by cases h), lits .u8 (zs.take len), lits .u8 (zs.drop len), Or.inl ⟨hd, by simp [lits]; omega⟩⟩
theorem slice_len {H : Type} {ts : List TypeId} {ds : List (DataW H)} (h : (DataW.weightsEach Tryz.prog ts ds).all (· ≤ reachBytes) = true) {j : Nat} {d : DataW H} (ht : ts[j]? = some 22) (hd : ds[j]? = some d)
    {n c : Nat} {X : Prop} (z : n ≤ c ∧ X ∧ ∃ els sp, (d = .slice els sp ∧ els.length + sp.length = c) ∨ (d = .nil ∧ c = 0)) : n ≤ 140737488351232 := by
  obtain ⟨h1, _, els, sp, h2⟩ := z
  rcases h2 with ⟨rfl, h2⟩ | ⟨_, h2⟩
  · have h3 := sized_slice h ht hd Tryz.underlying22
    rw [show Tryz.prog.bytesOf 5 = 1 by kernel_rfl, Nat.mul_one] at h3
    have : reachBytes = 140737488351232 := rfl
    omega
  · omega
end Go.Proofs.YthmlcmlpmolmoaaGreatDoor
namespace Go.Proofs.YthmlcmlpmolmoaaGreatDoor
open Go.RowKit
def RowB (w : World) (g m : Nat) (cur : Nat → Nat) : Prop := w.heap[g]? = some (.cells (bytesL m cur).toArray 5 (0, 0))
namespace RowB
variable {w w' : World} {g m : Nat} {cur f : Nat → Nat}
theorem lt (h : RowB w g m cur) : g < w.heap.size := (Array.getElem?_eq_some_iff.1 h).1
theorem of_block (h : RowB w g m cur) (e : w'.heap[g]? = w.heap[g]?) : RowB w' g m cur := e.trans h
theorem drewN (h : RowB w g m cur) (k : Nat) : RowB (w.drewN k) g m cur := h
theorem drew (h : RowB w g m cur) : RowB w.drew g m cur := h
theorem below (h : RowB w g m cur) {B : Nat} (hb : Below B w w') (hB : g < B) : RowB w' g m cur := h.of_block (hb.block g hB)
theorem keep (h : RowB w g m cur) (hb : Below w.heap.size w w') : RowB w' g m cur := h.below hb h.lt
theorem alloc (h : RowB w g m cur) (o : Obj) : RowB (w.alloc o) g m cur := h.of_block (Below.heap_alloc w o g h.lt)
theorem congr (h : RowB w g m cur) (e : ∀ j, j < m → cur j = f j) : RowB w g m f := by
  have : bytesL m cur = bytesL m f := List.map_congr_left fun j hj => by rw [e j (List.mem_range.1 hj)]
  unfold RowB at *; rw [← this]; exact h
theorem rowIs (h : RowB w g m cur) : w.rowIs g 5 m (fun j => .int .u8 (cur j : Nat)) := by
  refine ⟨_, h, by simp [bytesL], fun i hi => ?_⟩
  rw [List.getElem?_toArray]
  unfold bytesL
  rw [List.getElem?_map, List.getElem?_range hi]; rfl
theorem rowX (h : RowB w g m cur) : RowX w g 5 m (fun j => .int .u8 (cur j : Nat)) := RowX.of_rowIs h.rowIs
theorem cell (h : RowB w g m cur) {i : Nat} (hi : i < m) : w.cell? ⟨g, i, none⟩ = some (.int .u8 (cur i : Nat)) := h.rowIs.cell hi
theorem frozen (h : RowB w g m cur) (i : Nat) : w.frozen? ⟨g, i, none⟩ = false := h.rowIs.frozen i
theorem slB (h : RowB w g m cur) {off n : Nat} (hn : off + n ≤ m) (hc : ∀ j, j < m → cur j < 256) : SlB w (some ⟨g, off, none⟩) n (fun j => cur (off + j)) := fun _ =>
  ⟨g, off, rfl, h.lt, fun j hj => ⟨hc _ (by omega), h.cell (by omega)⟩⟩
theorem slB0 (h : RowB w g m cur) {n : Nat} (hn : n ≤ m) (hc : ∀ j, j < m → cur j < 256) : SlB w (some ⟨g, 0, none⟩) n cur := fun _ =>
  ⟨g, 0, rfl, h.lt, fun j hj => ⟨hc _ (by omega), by rw [Nat.zero_add]; exact h.cell (by omega)⟩⟩
theorem set (h : RowB w g m cur) (i : Nat) (x : Nat) (v : Value) (hv : v = .int .u8 (x : Nat)) : RowB (w.setCell ⟨g, i, none⟩ v) g m (fun j => if j = i then x else cur j) := by
  subst hv
  unfold RowB at *
  rw [show (w.setCell ⟨g, i, none⟩ (.int .u8 (x : Nat))).heap[g]? = some (.cells ((bytesL m cur).toArray.setIfInBounds i (.int .u8 (x : Nat))) 5 (0, 0)) by simp [World.setCell, Array.getElem?_modify, h]]
  congr 2
  apply Array.ext'
  apply List.ext_getElem?
  intro j
  simp only [List.setIfInBounds_toArray, List.getElem?_set]
  unfold bytesL
  by_cases hj : j < m
  · rw [List.getElem?_map, List.getElem?_range hj, List.getElem?_map, List.getElem?_range hj]
    by_cases e : i = j
    · subst e; simp [hj]
    · have e2 : ¬ j = i := fun h => e h.symm
      simp [e, e2]
  · rw [List.getElem?_map, List.getElem?_eq_none (by simpa using hj), List.getElem?_map, List.getElem?_eq_none (by simpa using hj)]
    by_cases e : i = j
    · subst e; simp [hj]
    · simp [e]
end RowB
theorem rowB_made (w : World) (n : Nat) : RowB (w.alloc (.cells (madeCells #[.int .u8 0] n) 5)) w.heap.size n (fun _ => 0) := by
  unfold RowB
  rw [heap_alloc_new]
  congr 2
  apply Array.ext'
  rw [toList_madeCells_one]
  unfold bytesL
  show List.replicate n (Value.int .u8 0) = (List.range n).map fun _ => Value.int .u8 0
  rw [List.map_const', List.length_range]
def putB (off k : Nat) (f cur : Nat → Nat) (j : Nat) : Nat := if off ≤ j ∧ j < off + k then f (j - off) else cur j
theorem splice_bytes (m off k : Nat) (f cur : Nat → Nat) (h : off + k ≤ m) : splice (bytesL m cur) off (bytesL k f) = bytesL m (putB off k f cur) := by
  unfold splice bytesL
  apply List.ext_getElem?
  intro j
  simp only [List.length_map, List.length_range, List.getElem?_append, List.getElem?_take, List.getElem?_drop, List.length_take, List.getElem?_map]
  rw [Nat.min_eq_left (show off ≤ m by omega)]
  unfold putB
  by_cases h1 : j < off
  · rw [if_pos h1, if_pos h1, List.getElem?_range (by omega)]
    simp only [Option.map_some]
    rw [if_neg (by omega)]
  · rw [if_neg h1]
    by_cases h2 : j < off + k
    · rw [if_pos (by omega), List.getElem?_range (by omega), List.getElem?_range (by omega)]
      simp only [Option.map_some]
      rw [if_pos ⟨by omega, h2⟩]
    · rw [if_neg (by omega), show off + k + (j - off - k) = j by omega]
      by_cases hj : j < m
      · rw [List.getElem?_range hj]
        simp only [Option.map_some]
        rw [if_neg (by omega)]
      · rw [List.getElem?_eq_none (by simpa using hj)]; rfl
theorem sizeOf8 : (Tryz.prog.info? 5).map (·.size) = some 1 := by kernel_rfl
theorem copy_parts {w : World} {A : Option Addr} {sLen k : Nat} {f : Nat → Nat} (hA : SlB w A sLen f) (hk : k ≤ sLen) {dp : Option Addr} {g off : Nat} (hd : 0 < k → dp = some ⟨g, off, none⟩) :
    0 < (bytesL k f).length → dp = some ⟨g, off, none⟩ ∧ ∃ ad, A = some ad ∧ ∀ j v, (bytesL k f)[j]? = some v → w.cell? (ad.add j) = some v := fun h => by
  have h0 : 0 < k := by simpa [bytesL] using h
  obtain ⟨B, o, hA', _, hc⟩ := hA (by omega)
  refine ⟨hd h0, _, hA', fun j v hj => ?_⟩
  obtain ⟨hjl, rfl⟩ := bytesL_get _ _ j v hj
  rw [Go.WideShapes.add_plain]
  exact (hc j (by omega)).2
theorem bytes_one (k : Nat) (f : Nat → Nat) : ∀ v ∈ bytesL k f, v.oneCell' = true := by
  intro u hu
  obtain ⟨j, hj⟩ := List.getElem?_of_mem hu
  obtain ⟨_, rfl⟩ := bytesL_get _ _ j u hj
  rfl
theorem wpList_copyB {ops : Array Oper} {rest : List Oper} {o : Oper} {a : Act} {Q : Exit → Act → World → Prop} {w : World} (hgd : o.guard = none) (d s : Operand)
    (ho : o.op = .call { callee := .builtin .copy, args := #[d, s], argTypes := #[22, 22] })
    (dp : Option Addr) (dLen dCap : Nat) (A : Option Addr) (sLen sCap : Nat) (hd : a.eval d = .slice dp dLen dCap) (hs : a.eval s = .slice A sLen sCap)
    (g off m : Nat) (cur : Nat → Nat) (hg : RowB w g m cur) (f : Nat → Nat) (hA : SlB w A sLen f) (k : Nat) (hk : k = Nat.min sLen dLen) (hdp : 0 < k → dp = some ⟨g, off, none⟩) (hfit : off + k ≤ m)
    (B : Nat) (w0 : World) (hb : Below B w0 w) (hBg : B ≤ g)
    (h : ∀ w', RowB w' g m (putB off k f cur) → Below B w0 w' → wpList Tryz.prog ops Q rest (a.put o.dst (goInt k)) w') : wpList Tryz.prog ops Q (o :: rest) a w := by
  have hl : (bytesL k f).length = k := by simp [bytesL]
  refine wpList_copy_splice hgd d s 22 22 ho 5 Tryz.underlying22 sizeOf8 dp A dLen dCap sLen sCap hd hs g off (bytesL m cur) 5 hg (bytesL k f) (by rw [hl, hk])
    (copy_parts hA (by rw [hk]; exact Nat.min_le_left _ _) hdp) (by rw [hl]; simpa [bytesL] using hfit) (bytes_one k f) B w0 hb hBg ?_
  intro w' hr hb'
  rw [hl]
  refine h w' ?_ hb'
  unfold RowB
  rw [← splice_bytes m off k f cur hfit]
  exact hr.out
theorem step_copyB {ops : Array Oper} {o : Oper} {a : Act} {w : World} {K : Act → World → Prop} {Q : Exit → Act → World → Prop} {E : Prop} (hgd : o.guard = none) (d s : Operand)
    (ho : o.op = .call { callee := .builtin .copy, args := #[d, s], argTypes := #[22, 22] })
    (dp : Option Addr) (dLen dCap : Nat) (A : Option Addr) (sLen sCap : Nat) (hd : a.eval d = .slice dp dLen dCap) (hs : a.eval s = .slice A sLen sCap)
    (g off m : Nat) (cur : Nat → Nat) (hg : RowB w g m cur) (f : Nat → Nat) (hA : SlB w A sLen f) (k : Nat) (hk : k = Nat.min sLen dLen) (hdp : 0 < k → dp = some ⟨g, off, none⟩) (hfit : off + k ≤ m)
    (B : Nat) (w0 : World) (hb : Below B w0 w) (hBg : B ≤ g)
    (h : ∀ w', RowB w' g m (putB off k f cur) → Below B w0 w' → K (a.put o.dst (goInt k)) w') : if Region.wanted o (yielded ops a.tmps) = true then Oper.wp Tryz.prog o a w K Q else E := by
  have hl : (bytesL k f).length = k := by simp [bytesL]
  refine step_copy_splice hgd d s 22 22 ho 5 Tryz.underlying22 sizeOf8 dp A dLen dCap sLen sCap hd hs g off (bytesL m cur) 5 hg (bytesL k f) (by rw [hl, hk])
    (copy_parts hA (by rw [hk]; exact Nat.min_le_left _ _) hdp) (by rw [hl]; simpa [bytesL] using hfit) (bytes_one k f) B w0 hb hBg ?_
  intro w' hr hb'
  rw [hl]
  refine h w' ?_ hb'
  unfold RowB
  rw [← splice_bytes m off k f cur hfit]
  exact hr.out
def OwnB (w : World) (base : Nat) (v : Value) (n : Nat) (f : Nat → Nat) : Prop := w.ownsRow base 5 1 v n (bytesL n f)
def lenOf : Value → Nat
  | .slice _ n _ => n
  | _ => 0
namespace OwnB
variable {w w' : World} {base n : Nat} {v : Value} {f g : Nat → Nat}
theorem nil (w : World) (base : Nat) (f : Nat → Nat) : OwnB w base (.slice none 0 0) 0 f := World.ownsRow_nil w base _ 1
theorem empty (w : World) (base : Nat) (f : Nat → Nat) (hb : base ≤ w.heap.size) : OwnB (w.alloc (.cells #[] 5)) base (.slice (some ⟨w.heap.size, 0, none⟩) 0 0) 0 f :=
  World.ownsRow_made w #[] 0 hb (by unfold maxLen; omega) rfl
theorem congr (h : OwnB w base v n f) (e : ∀ j, j < n → f j = g j) : OwnB w base v n g := by
  have : bytesL n f = bytesL n g := List.map_congr_left fun j hj => by rw [e j (List.mem_range.1 hj)]
  unfold OwnB at *; rw [← this]; exact h
theorem alloc (h : OwnB w base v n f) (o : Obj) : OwnB (w.alloc o) base v n f := World.ownsRow.alloc h o
theorem drewN (h : OwnB w base v n f) (k : Nat) : OwnB (w.drewN k) base v n f := h
theorem slice (h : OwnB w base v n f) (hf : ∀ j, j < n → f j < 256) : ∃ A c, v = .slice A n c ∧ SlB w A n f := own_slB h hf
theorem cap_le (h : OwnB w base v n f) : ∃ A c, v = .slice A n c ∧ n ≤ c ∧ c ≤ maxLen ∧ (A = none → n = 0 ∧ c = 0) := by
  rcases h.2 with ⟨rfl, hn⟩ | ⟨g, cap, cur, rfl, _, _, h1, h2, _⟩
  · subst hn; exact ⟨none, 0, rfl, Nat.le_refl _, by unfold maxLen; omega, fun _ => ⟨rfl, rfl⟩⟩
  · exact ⟨_, cap, rfl, h1, h2, fun h => by cases h⟩
theorem keep (h : OwnB w base v n f) (hb : Below w.heap.size w w') : OwnB w' base v n f := by
  rcases h with ⟨h1, h2 | ⟨g, cap, cur, e, hg, hh, r⟩⟩
  · exact ⟨h1, Or.inl h2⟩
  · exact ⟨h1, Or.inr ⟨g, cap, cur, e, hg, (hb.block g (Array.getElem?_eq_some_iff.1 hh).1).trans hh, r⟩⟩
end OwnB
theorem one_slB (w : World) (t : TypeId) (x : Nat) (hx : x < 256) : SlB (w.alloc (.cells #[.int .u8 (x : Nat)] t)) (some ⟨w.heap.size, 0, none⟩) 1 (fun _ => x) := fun _ =>
  ⟨w.heap.size, 0, rfl, by simp, fun j hj => ⟨hx, by
    obtain rfl : j = 0 := by omega
    exact (World.cell?_alloc_at _ _ _ _ rfl).trans rfl⟩⟩
theorem four_slB (w : World) (t : TypeId) (g : Nat → Nat) (hg : ∀ j, g j < 256) : SlB (w.alloc (.cells #[.int .u8 (g 0 : Nat), .int .u8 (g 1 : Nat), .int .u8 (g 2 : Nat), .int .u8 (g 3 : Nat)] t)) (some ⟨w.heap.size, 0, none⟩) 4 g := fun _ =>
  ⟨w.heap.size, 0, rfl, by simp, fun j hj => ⟨hg j, by
    rcases (show j = 0 ∨ j = 1 ∨ j = 2 ∨ j = 3 by omega) with rfl | rfl | rfl | rfl <;> exact (World.cell?_alloc_at _ _ _ _ rfl).trans rfl⟩⟩
theorem lit_slB (w : World) (t : TypeId) (fr : Nat × Nat) (L : List Nat) (hL : ∀ j, L.getD j 0 < 256) : SlB (w.alloc (.cells (L.map fun x => Value.int .u8 (x : Nat)).toArray t fr)) (some ⟨w.heap.size, 0, none⟩) L.length (fun j => L.getD j 0) := fun _ =>
  ⟨w.heap.size, 0, rfl, by simp, fun j hj => ⟨hL j, by
    refine (Joins.cell_alloc_mark_at w _ t fr _ _ rfl).trans ?_
    show (L.map fun x => Value.int .u8 (x : Nat)).toArray[0 + j]? = some (Value.int .u8 ((L.getD j 0 : Nat) : Int))
    rw [Nat.zero_add, List.getElem?_toArray, List.getElem?_map, List.getD_eq_getElem?_getD, List.getElem?_eq_getElem hj]
    rfl⟩⟩
theorem wpList_appO {ops : Array Oper} {rest : List Oper} {o : Oper} {a : Act} {Q : Exit → Act → World → Prop} {w : World} (hgd : o.guard = none) (s x : Operand)
    (ho : o.op = .call { callee := .builtin .append, args := #[s, x], argTypes := #[22, 22] })
    (base : Nat) (v : Value) (n : Nat) (f : Nat → Nat) (hs : a.eval s = v) (hown : OwnB w base v n f)
    (A : Option Addr) (m cap : Nat) (g : Nat → Nat) (hx : a.eval x = .slice A m cap) (hA : SlB w A m g) (hnil : A = none → m = 0 ∧ cap = 0) (hn : n + m ≤ 140737488355328) (hbase : base ≤ w.heap.size)
    (hf : ∀ j, j < n → f j < 256) (hg : ∀ j, j < m → g j < 256)
    (h : ∀ A' c' w', OwnB w' base (.slice A' (n + m) c') (n + m) (catB n f g) → SlB w' A' (n + m) (catB n f g) → n + m ≤ c' ∧ c' ≤ maxLen ∧ (A' = none → n + m = 0 ∧ c' = 0) → Below base w w' → wpList Tryz.prog ops Q rest (a.put o.dst (.slice A' (n + m) c')) w') : wpList Tryz.prog ops Q (o :: rest) a w := by
  refine wpList_appB hgd s x ho base v n f hs hown A m cap g hx hA hnil hn hbase ?_
  intro v' w' h1 h2
  obtain ⟨A', c', rfl, hsl⟩ := own_slB h1 (catB_lt hf hg)
  obtain ⟨A2, c2, e, h3⟩ := OwnB.cap_le h1
  cases e
  exact h A' c' w' h1 hsl h3 h2
end Go.Proofs.YthmlcmlpmolmoaaGreatDoor
