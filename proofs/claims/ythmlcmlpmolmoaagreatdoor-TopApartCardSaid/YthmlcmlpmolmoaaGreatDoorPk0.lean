/- 12 texts in one, in their order. -/
import Derived.Test.YthmlcmlpmolmoaaGreatDoorRows
import Derived.WalkKit
import Derived.ProofKit
import Derived.OpenShut
import Derived.Deep.DeepHandedRow
import Derived.Lib.LaidTab
import Derived.Below
import Derived.SizedLaws
import Derived.WalkSpells
import Derived.WalkLawsBesides
import Derived.Lib.Hide
import Derived.Deep.QuietTactic
import Derived.BigQuiet
import Derived.Deep.OwnRows
import Derived.OwnWalk
import Derived.StillTailTactics
import Derived.Deep.RegionLaw
import Derived.Deep.RegionWith
import Derived.Lib.BitFns
import Derived.Laws.BitsAllLaws
/- From a law's walk to its row: a law of plain data that answers true and leaves below the heap's old end all as it was. Nothing here hangs on the program. -/
namespace Go.Proofs.YthmlcmlpmolmoaaGreatDoor.kit
open Go.ChangeShapes Go.WideShapes Go.ChangeAt Go.RowKit

section
variable {H : Type} {enc : TypeId × Value → H} {P : Program} {W W' : World}

/-- a list of readings stays in a world that keeps the places -/
theorem all_stay (hl : laidOutB P = true) {sp : Nat → Bool} :
    ∀ (ts : List TypeId) (vs : List Value) (ds : List (DataW H)) (ps : List MemPlace), (∀ t ∈ ts, P.readableRec t = true ∧ t < P.types.size) →
      DataW.TrodAll enc P W 0 (fun _ => true) true ts vs ds ps → (∀ p ∈ ps, W.sameAt W' p) → (∀ p ∈ ps, sp p.block = true) → DataW.TrodAll enc P W' 0 sp true ts vs ds ps
  | [], [], [], _, _, h, _, _ => h
  | t :: ts, v :: vs, d :: ds, ps, hr, h, hs, hp => by
    obtain ⟨p, q, h1, h2, rfl⟩ := h
    have ht := hr t (List.mem_cons_self ..)
    exact ⟨p, q, WideElems.Trod_stays hl ht.1 ht.2 h1 (fun x hx => hs x (List.mem_append_left _ hx)) (fun x hx => hp x (List.mem_append_left _ hx)),
      all_stay hl ts vs ds q (fun t' h' => hr t' (List.mem_cons_of_mem _ h')) h2 (fun x hx => hs x (List.mem_append_right _ hx)) (fun x hx => hp x (List.mem_append_right _ hx)), rfl⟩
  | [], _ :: _, _, _, _, h, _, _ => h.elim
  | [], [], _ :: _, _, _, h, _, _ => h.elim
  | _ :: _, [], _, _, _, h, _, _ => h.elim
  | _ :: _, _ :: _, [], _, _, h, _, _ => h.elim

/-- what a law's row asks behind the call -/
theorem law_post {f : Func} {s : ChangeSpec} {fresh handsOn again : Bool} {args : Array Value} {ds gs : List (DataW H)} {before : List MemPlace} {tb : TypeId}
    (hrt : f.resultTypes = #[tb]) (hb : P.underlying tb = some .bool) (hv : s.vars = []) (hs : s.fn H (ds ++ gs) = { results := [.lit (.bool true)], args := ds })
    (hl : laidOutB P = true) (hr : ∀ t ∈ f.params.toList, P.readableRec t = true ∧ t < P.types.size)
    (hW : DataW.Whole enc P f.params.toList s.vars false W args.toList ds gs before) (hB : Below W.heap.size W W') :
    s.post enc P f false fresh handsOn again W args (.bool true) W' := by
  have hlt : ∀ p ∈ before, p.block < W.heap.size := fun p hp => hW.lt p hp
  have hW0 := hW
  obtain ⟨p, q, hA, hV, hpq, hz, _⟩ := hW
  rw [hv] at hV
  obtain ⟨rfl, rfl⟩ := trodVars_none hV
  obtain rfl : before = p := by rw [hpq, List.append_nil]
  have hsame : ∀ x ∈ before, W.sameAt W' x := fun x hx => hB.same (hlt x hx)
  have hres : ∀ (b : Nat) (sp : Nat → Bool) (hd : Bool), DataW.TrodAll enc P W' b sp hd f.resultTypes.toList ((Value.bool true).resultList f.resultTypes.size) (s.fn H (ds ++ [])).results [] := by
    intro b sp hd
    rw [hs, hrt]
    exact ⟨[], [], ⟨1, by simp [DataW.trod, hb, Value.cells]⟩, rfl, rfl⟩
  have hargs : ∀ sp : Nat → Bool, (∀ x ∈ before, sp x.block = true) → DataW.TrodAll enc P W' 0 sp true f.params.toList args.toList (s.fn H (ds ++ [])).args before := by
    intro sp hsp
    rw [hs]
    exact all_stay hl _ _ _ _ hr hA hsame hsp
  have hvars : ∀ sp : Nat → Bool, DataW.TrodVars enc P W' sp s.vars (s.fn H (ds ++ [])).vars [] := by
    intro sp
    rw [hv, hs]
    rfl
  refine ⟨ds, [], before, [], before, [], hW0, hres _ _ _, hargs _ (fun x hx => by simpa using hlt x hx), hvars _, World.keptBut_mono (fun x hx => ⟨hx, Or.inr (Or.inl hx)⟩) (hB.frame (· ∈ before)), fun _ => ?_⟩
  have hall := trodAll_append (hargs (fun _ => true) (fun _ _ => rfl)) (hres 0 (fun _ => true) true)
  refine ⟨ok_one hrt rfl (okWide_bool_mk hb true), _, _, _, ⟨_, [], hall, hvars _, rfl, ?_, fun h => by cases h⟩, fun x hx _ => by simpa using hx⟩
  intro b off hx
  have hx' : MemPlace.cell b off ∈ before := by simpa using hx
  rw [hB.frozen (hlt _ hx')]
  exact hz b off hx'
end
end Go.Proofs.YthmlcmlpmolmoaaGreatDoor.kit
/- Small facts over a seat that many contracts use. -/
namespace Go.Proofs.YthmlcmlpmolmoaaGreatDoor
open Go.RowKit

/-- a byte, by its number: closed to the walk -/
def chr (n : Nat) : UInt8 := UInt8.ofNat n

theorem chr_toNat (n : Nat) (h : n < 256) : (chr n).toNat = n := by unfold chr; rw [UInt8.toNat_ofNat']; omega

theorem conv1 (x : Int) (w : World) : (convert 22 9 (.slice (some ⟨w.heap.size, 0, none⟩) 1 1)).run Tryz.prog (w.alloc (.cells #[.int .u8 x] 5)) =
    .ok (.string ⟨#[chr x.toNat]⟩) (w.alloc (.cells #[.int .u8 x] 5)) :=
  run_convert_bytes_arg _ _ _ Tryz.underlying22 Tryz.underlying5 _ 0 1 1 [x] rfl (fun i hi => by
    obtain rfl : i = 0 := by omega
    exact (World.cell?_alloc_at _ _ _ _ rfl).trans rfl) _ Tryz.underlying9

theorem conv2 (x y : Int) (w : World) : (convert 22 9 (.slice (some ⟨w.heap.size, 0, none⟩) 2 2)).run Tryz.prog (w.alloc (.cells #[.int .u8 x, .int .u8 y] 5)) =
    .ok (.string ⟨#[chr x.toNat, chr y.toNat]⟩) (w.alloc (.cells #[.int .u8 x, .int .u8 y] 5)) :=
  run_convert_bytes_arg _ _ _ Tryz.underlying22 Tryz.underlying5 _ 0 2 2 [x, y] rfl (fun i hi => by
    rcases (show i = 0 ∨ i = 1 by omega) with rfl | rfl
    · exact (World.cell?_alloc_at _ _ _ _ rfl).trans rfl
    · exact (World.cell?_alloc_at _ _ _ _ rfl).trans rfl) _ Tryz.underlying9

theorem info8 : (Tryz.prog.info? 5).map (fun i => (i.zero, i.size, i.bytes)) = some (some (.int .u8 0), 1, 1) := by kernel_rfl

theorem mk8 (n : Nat) (h : n ≤ 281474976710656) (w : World) :
    (Instr.makeSlice 22 (.int .i64 (n : Int)) (.int .i64 (n : Int))).run Tryz.prog w = .ok (.slice (some ⟨w.heap.size, 0, none⟩) n n) (w.alloc (.cells (madeCells #[.int .u8 0] n) 5)) :=
  run_make_row' _ _ _ 1 Tryz.underlying22 info8 rfl _ _ n (by omega) (by omega) w

/-- a text of n bytes -/
def strOf (n : Nat) (b : Nat → Nat) : ByteArray := ⟨((List.range n).map fun i => chr (b i)).toArray⟩

theorem strOf_list (n : Nat) (b : Nat → Nat) : (strOf n b).data.toList = (List.range n).map fun i => chr (b i) := rfl

theorem strOf_size (n : Nat) (b : Nat → Nat) : (strOf n b).size = n := by
  show ((List.range n).map fun i => chr (b i)).toArray.size = n
  simp

theorem strOf_congr (n : Nat) (b c : Nat → Nat) (h : ∀ i, i < n → b i = c i) : strOf n b = strOf n c := by
  unfold strOf
  rw [List.map_congr_left fun i hi => by rw [h i (List.mem_range.1 hi)]]

theorem convRow {w : World} {g n cap : Nat} {f : Nat → Value} (h : w.rowIs g 5 cap f) (b : Nat → Nat) (hn : n ≤ cap) (hf : ∀ i, i < n → f i = .int .u8 (b i : Nat)) :
    (convert 22 9 (.slice (some ⟨g, 0, none⟩) n cap)).run Tryz.prog w = .ok (.string (strOf n b)) w := by
  have := run_convert_bytes_arg w _ _ Tryz.underlying22 Tryz.underlying5 g 0 n cap ((List.range n).map fun i => ((b i : Nat) : Int)) (by simp) (fun i hi => by
    rw [Nat.zero_add, h.cell (by omega), hf i hi]
    simp [hi]) _ Tryz.underlying9
  refine this.trans ?_
  refine congrArg (fun s => Result.ok (Value.string s) w) ?_
  unfold strOfNums strOf
  rw [List.map_map]
  rfl

theorem ret_int {k : IntKind} {a b : Int} (h : a = b) : Ending.returned (.int k a) = .returned (.int k b) := by rw [h]

theorem drawn_more {w w' : World} (h : ∃ n, w' = w.drewN n) (m : Nat) : ∃ n, w'.drewN m = w.drewN n := by
  obtain ⟨n, rfl⟩ := h; exact ⟨n + m, by rw [World.drewN_drewN]⟩

theorem quiet_add_same {P : Program} {f : FuncId} {args : Array Value} {w : World} {a n : Nat} {v : Value}
    (h : Calls P f args (w.drewN (a + n)) fun e w' => e = .returned v ∧ w' = w.drewN (a + n)) :
    Calls P f args (w.drewN (a + n)) fun e w'' => e = .returned v ∧ ∃ m, w'' = w.drewN (a + m) :=
  h.mono fun _ _ ⟨he, hm⟩ => ⟨he, n, hm⟩

theorem same_flip {P : Program} {f : FuncId} {args : Array Value} {w : World} {R : Ending → Prop} (h : Calls P f args w fun e w' => R e ∧ w = w') : Calls P f args w fun e w' => R e ∧ w' = w :=
  h.mono fun _ _ ⟨a, b⟩ => ⟨a, b.symm⟩

theorem ret_two {a b : Int} {v : Value} (h : a = b) : Ending.returned (.tuple #[.int .i64 a, v]) = .returned (.tuple #[.int .i64 b, v]) := by rw [h]

theorem toList_of_size {s : ByteArray} (h : 0 < s.size) : s.toList.isEmpty = false := by
  rw [ByteArray.toList_eq]
  have : s.data.toList.length = s.size := Array.length_toList
  cases hl : s.data.toList with
  | nil => rw [hl] at this; simp at this; omega
  | cons _ _ => rfl

theorem ret_sv {a b : ByteArray} {x y : Int} (h : a = b) (h' : x = y) : Ending.returned (.tuple #[.string a, .int .i64 x]) = .returned (.tuple #[.string b, .int .i64 y]) := by rw [h, h']

/-- append of one byte to a row of the call's own -/
theorem wpList_app8 {ops : Array Oper} {rest : List Oper} {o : Oper} {a : Act} {Q : Exit → Act → World → Prop} {w : World} (hgd : o.guard = none) (s x : Operand)
    (ho : o.op = .call { callee := .builtin .append, args := #[s, x], argTypes := #[22, 22] })
    (base : Nat) (v : Value) (n : Nat) (xs : List Value) (hs : a.eval s = v) (hown : w.ownsRow base 5 1 v n xs)
    (g : Nat) (y : Int) (hx : a.eval x = .slice (some ⟨g, 0, none⟩) 1 1) (hc : w.cell? ⟨g, 0, none⟩ = some (.int .u8 y)) (hn : n ≤ 1000000000000) (hbase : base ≤ w.heap.size)
    (h : ∀ v' w', w'.ownsRow base 5 1 v' (n + 1) (xs ++ [.int .u8 y]) → Below base w w' → wpList Tryz.prog ops Q rest (a.put o.dst v') w') : wpList Tryz.prog ops Q (o :: rest) a w := by
  obtain ⟨i, hi, hz, hsz, hb⟩ := info_parts info8
  refine wpList_append_own w hgd s x 22 ho base 5 i (.int .u8 0) 1 1 Tryz.underlying22 hi hz hsz hb rfl (by decide) v n xs hs hown ⟨g, 0, none⟩ 1 1 [.int .u8 y] hx rfl ?_ ?_ (by unfold maxLen; omega) (by omega) hbase ?_
  · intro j u hj
    match j, hj with
    | 0, hj => simp at hj; subst hj; exact hc
  · intro u hu; simp at hu; subst hu; rfl
  · intro v' w' h1 h2 _
    exact h v' w' h1 ((Below.refl base w).grown h2 hbase fun k hk => (hown.lt k hk).1)

theorem step_app8 {ops : Array Oper} {o : Oper} {a : Act} {w : World} {K : Act → World → Prop} {Q : Exit → Act → World → Prop} {E : Prop} (hgd : o.guard = none) (s x : Operand)
    (ho : o.op = .call { callee := .builtin .append, args := #[s, x], argTypes := #[22, 22] })
    (base : Nat) (v : Value) (n : Nat) (xs : List Value) (hs : a.eval s = v) (hown : w.ownsRow base 5 1 v n xs)
    (g : Nat) (y : Int) (hx : a.eval x = .slice (some ⟨g, 0, none⟩) 1 1) (hc : w.cell? ⟨g, 0, none⟩ = some (.int .u8 y)) (hn : n ≤ 1000000000000) (hbase : base ≤ w.heap.size)
    (h : ∀ v' w', w'.ownsRow base 5 1 v' (n + 1) (xs ++ [.int .u8 y]) → Below base w w' → K (a.put o.dst v') w') :
    if Region.wanted o (yielded ops a.tmps) = true then Oper.wp Tryz.prog o a w K Q else E := by
  have hw : Region.wanted o (yielded ops a.tmps) = true := by simp [Region.wanted, hgd]
  rw [if_pos hw]
  obtain ⟨i, hi, hz, hsz, hb⟩ := info_parts info8
  refine wp_append_own w s x 22 ho base 5 i (.int .u8 0) 1 1 Tryz.underlying22 hi hz hsz hb rfl (by decide) v n xs hs hown ⟨g, 0, none⟩ 1 1 [.int .u8 y] hx rfl ?_ ?_ (by unfold maxLen; omega) (by omega) hbase ?_
  · intro j u hj
    match j, hj with
    | 0, hj => simp at hj; subst hj; exact hc
  · intro u hu; simp at hu; subst hu; rfl
  · intro v' w' h1 h2 _
    exact h v' w' h1 ((Below.refl base w).grown h2 hbase fun k hk => (hown.lt k hk).1)

theorem own_snoc {w : World} {base : Nat} {e : TypeId} {v : Value} {j : Nat} {f : Nat → Value} {y : Value} (h : w.ownsRow base e 1 v (j + 1) ((List.range j).map f ++ [y])) (hy : y = f j) :
    w.ownsRow base e 1 v (j + 1) ((List.range (j + 1)).map f) := by
  rw [List.range_succ, List.map_append]; subst hy; exact h

theorem block_lt {w : World} {a : Addr} {v : Value} (h : w.cell? a = some v) : a.block < w.heap.size := by
  rcases Nat.lt_or_ge a.block w.heap.size with hlt | hge
  · exact hlt
  · simp [World.cell?, Array.getElem?_eq_none hge] at h

theorem drawn {B : Nat} {a w : World} (h : Below B a w) (n : Nat) : Below B a (w.drewN n) := ⟨h.os, h.tape, h.output, h.size, h.block⟩
end Go.Proofs.YthmlcmlpmolmoaaGreatDoor
/- Text. -/
namespace Go.Proofs.YthmlcmlpmolmoaaGreatDoor
set_option maxRecDepth 100000
open Go.RowKit

/-- digit j of n, of w digits -/
def td (n w j : Nat) : Nat := 48 + n / 10 ^ (w - 1 - j) % 10

def textE (n k : Int) : Int := if n < 0 ∨ k < 1 ∨ 19 < k then 1 else if 0 < n.toNat / 10 ^ k.toNat then 5 else 0

def textV (n k : Int) : ByteArray := if textE n k = 0 then strOf k.toNat (td n.toNat k.toNat) else ByteArray.empty

/-- byte j of the text behind i rounds -/
def tb (n k i j : Nat) : Nat := if k - i ≤ j then td n k j else 0

theorem pow_step (n i : Nat) : n / 10 ^ (i + 1) = n / 10 ^ i / 10 := by rw [Nat.pow_succ, Nat.div_div_eq_div_mul]

theorem tb_step (n k i j0 : Nat) (h : k - 1 - i = j0) (hi : i < k) (j : Nat) : (if j = j0 then Value.int .u8 ((48 + n / 10 ^ i % 10 : Nat) : Int) else .int .u8 (tb n k i j : Nat)) = .int .u8 (tb n k (i + 1) j : Nat) := by
  by_cases hj : j = j0
  · rw [if_pos hj]; unfold tb td; rw [if_pos (by omega), show k - 1 - j = i by omega]
  · rw [if_neg hj]; unfold tb
    by_cases h2 : k - i ≤ j
    · rw [if_pos h2, if_pos (by omega)]
    · rw [if_neg h2, if_neg (by omega)]

theorem textE_fit {n k : Nat} (h1 : 1 ≤ k) (h2 : k ≤ 19) (h : n / 10 ^ k = 0) : textE n k = 0 := by
  unfold textE; rw [if_neg (by omega), if_neg (by simp only [Int.toNat_natCast]; rw [h]; decide)]

theorem textE_big {n k : Nat} (h1 : 1 ≤ k) (h2 : k ≤ 19) (h : ¬ n / 10 ^ k = 0) : textE n k = 5 := by
  unfold textE; rw [if_neg (by omega), if_pos (by simp only [Int.toNat_natCast]; exact_mod_cast Nat.pos_of_ne_zero h)]

set_option maxHeartbeats 800000 in
theorem text_ok (n k : Nat) (w : World) (hn : n ≤ 9223372036854775807) (h1 : 1 ≤ k) (h2 : k ≤ 19) :
    Calls Tryz.prog 146 #[.int .i64 n, .int .i64 k] w fun e w' => e = .returned (.tuple #[.string (textV n k), .int .i64 (textE n k)]) ∧ Below w.heap.size w w' := by
  have hmk := mk8 k (by omega)
  go_enter Tryz.func146, Tryz.ntmps146
  go_wp2_with fail
  go_loopw [0, 21] (fun t c wr => ∃ i : Nat, i ≤ k ∧ c = .int .i64 i ∧ t = .int .i64 (n / 10 ^ i : Nat) ∧ wr.rowIs w.heap.size 5 k (fun j => .int .u8 (tb n k i j : Nat)) ∧ Below w.heap.size w wr) (fun _ c _ => k - (intOf c).toNat)
  case atStart => exact ⟨0, Nat.zero_le _, rfl, by simp, (World.rowIs_made w (.int .u8 0) k _).congr fun j hj => by unfold tb; rw [if_neg (by omega)]; rfl, (Below.refl _ _).alloc (Nat.le_refl _) _⟩
  case round =>
    obtain ⟨i, hi, rfl, rfl, hrow, hb⟩ := hrel
    have HS := Lib.hid (pow_step n i)
    have HM := Lib.hid (show n / 10 ^ i ≤ n from Nat.div_le_self _ _)
    have HR := Lib.hid hrow
    have HB := Lib.hid hb
    clear hrow hb
    by_cases hlt : i < k
    · obtain ⟨j0, hj0⟩ : ∃ j0, k - 1 - i = j0 := ⟨_, rfl⟩
      have HT := Lib.hid (fun j => tb_step n k i j0 hj0 hlt j)
      have hz := HM.out
      generalize n / 10 ^ i = m at *
      have e1 : (k : Int) - 1 - i = j0 := by omega
      have hj1 : j0 < k := by omega
      clear hj0
      have hc := HR.out.cell hj1
      have hf := HR.out.frozen j0
      go_wp2_with fail
      go_roundw
      case rel =>
        exact ⟨i + 1, by omega, by go_num, by rw [HS.out]; go_num, ((HR.out.set j0 (.int .u8 (48 + (m : Int) % 10))).congr fun j _ => by rw [← HT.out j]; norm_cast), HB.out.setCell (Nat.le_refl _) _⟩
      case measure => simp [intOf]; omega
    · obtain rfl : i = k := by omega
      have HZ := Lib.hid (show textV n i = if n / 10 ^ i = 0 then strOf i (td n i) else ByteArray.empty by
        unfold textV
        by_cases h : n / 10 ^ i = 0
        · rw [if_pos (textE_fit h1 h2 h), if_pos h]; rfl
        · rw [if_neg (by rw [textE_big h1 h2 h]; decide), if_neg h])
      have hcv := convRow HR.out (td n i) (Nat.le_refl _) (fun j _ => by unfold tb; rw [if_pos (by omega)])
      by_cases h0 : n / 10 ^ i = 0
      · have HE := Lib.hid (textE_fit h1 h2 h0)
        have HV := Lib.hid (HZ.out.trans (if_pos h0))
        rw [h0]
        clear h0 HZ HS HM
        go_wp2_with fail
        go_ret2
        exact ⟨ret_sv HV.out.symm HE.out.symm, HB.out⟩
      · have HE := Lib.hid (textE_big h1 h2 h0)
        have HV := Lib.hid (HZ.out.trans (if_neg h0))
        generalize n / 10 ^ i = m at *
        have hm : (0 : Int) < m := by omega
        go_wp2_with fail
        go_ret2
        exact ⟨ret_sv HV.out.symm HE.out.symm, HB.out⟩

set_option maxHeartbeats 400000 in
theorem text_bad (n k : Int) (w : World) (h : n < 0 ∨ k < 1 ∨ 19 < k) :
    Calls Tryz.prog 146 #[.int .i64 n, .int .i64 k] w fun e w' => e = .returned (.tuple #[.string (textV n k), .int .i64 (textE n k)]) ∧ Below w.heap.size w w' := by
  have HE := Lib.hid (show textE n k = 1 by unfold textE; rw [if_pos h])
  have HV := Lib.hid (show textV n k = ByteArray.empty by unfold textV; rw [HE.out]; rfl)
  rcases (show n < 0 ∨ (0 ≤ n ∧ k < 1) ∨ (0 ≤ n ∧ 1 ≤ k ∧ 19 < k) by omega) with h | ⟨h, h'⟩ | ⟨h, h', h''⟩
  all_goals
    go_enter Tryz.func146, Tryz.ntmps146
    go_wp2_with fail
    go_ret2
    exact ⟨ret_sv HV.out.symm HE.out.symm, Below.refl _ _⟩

theorem text_any (n k : Int) (w : World) (hn : n ≤ 9223372036854775807) :
    Calls Tryz.prog 146 #[.int .i64 n, .int .i64 k] w fun e w' => e = .returned (.tuple #[.string (textV n k), .int .i64 (textE n k)]) ∧ Below w.heap.size w w' := by
  by_cases h : n < 0 ∨ k < 1 ∨ 19 < k
  · exact text_bad n k w h
  · obtain ⟨n, rfl⟩ := Int.eq_ofNat_of_zero_le (show 0 ≤ n by omega)
    obtain ⟨k, rfl⟩ := Int.eq_ofNat_of_zero_le (show 0 ≤ k by omega)
    exact text_ok n k w (by omega) (by omega) (by omega)
end Go.Proofs.YthmlcmlpmolmoaaGreatDoor
/- Contracts of package digits: one digit, the digit texts. -/
namespace Go.Proofs.YthmlcmlpmolmoaaGreatDoor
open Go.RowKit

theorem value_any (c : Int) (w : World) (h0 : 48 ≤ c) (h1 : c ≤ 57) :
    Calls Tryz.prog 129 #[.int .u8 c] w fun e w' => e = .returned (.int .u8 (c - 48)) ∧ w = w' := by
  go_enter Tryz.func129, Tryz.ntmps129
  go_wp2
  go_ret
  exact ⟨rfl, rfl⟩

def isDig (c : UInt8) : Bool := 48 ≤ c.toNat && c.toNat ≤ 57

def faultOf (l : List UInt8) : Int := if l.all isDig then (if 999 < l.length then 2 else 0) else 4

theorem take_snoc (s : ByteArray) (k : Nat) (h : k < s.size) : s.data.toList.take (k + 1) = s.data.toList.take k ++ [s[k]] := by
  rw [List.take_succ_eq_append_getElem (by simpa using h)]; rfl

theorem all_snoc (s : ByteArray) (k : Nat) (h : k < s.size) (ha : (s.data.toList.take k).all isDig = true) (hd : isDig s[k] = true) : (s.data.toList.take (k+1)).all isDig = true := by
  rw [take_snoc s k h, List.all_append, ha]; simp [hd]

theorem all_bad (s : ByteArray) (k : Nat) (h : k < s.size) (hd : isDig s[k] = false) : s.data.toList.all isDig = false := by
  rw [List.all_eq_false]
  exact ⟨s[k], Array.mem_toList_iff.2 (Array.getElem_mem h), by simp [hd]⟩

set_option maxHeartbeats 400000 in
theorem fault_any (s : ByteArray) (w : World) (hs : s.size ≤ maxLen) :
    Calls Tryz.prog 92 #[.string s] w fun e w' => e = .returned (.int .i64 (faultOf s.data.toList)) ∧ w = w' := by
  unfold maxLen at hs
  go_enter Tryz.func92, Tryz.ntmps92
  go_wp2
  go_loop [6] (fun i => ∃ k : Nat, k ≤ s.size ∧ i = .int .i64 k ∧ (s.data.toList.take k).all isDig = true) (fun i => s.size - (intOf i).toNat)
  case atStart => exact ⟨0, Nat.zero_le _, rfl, rfl⟩
  case round =>
    obtain ⟨k, hk, rfl, ha⟩ := hrel
    by_cases hlt : k < s.size
    · by_cases h1 : (s[k].toNat : Int) < 48
      · have HB := Lib.hid (all_bad s k hlt (by unfold isDig; simp; omega))
        go_wp2
        go_ret
        exact ⟨ret_int (by unfold faultOf; rw [HB.out]; rfl), rfl⟩
      · by_cases h2 : (57 : Int) < s[k].toNat
        · have HB := Lib.hid (all_bad s k hlt (by unfold isDig; simp; omega))
          go_wp2
          go_ret
          exact ⟨ret_int (by unfold faultOf; rw [HB.out]; rfl), rfl⟩
        · have HB := Lib.hid (all_snoc s k hlt ha (by unfold isDig; simp; omega))
          clear ha
          go_wp2
          go_round
          case rel => exact ⟨k + 1, by omega, by go_num, HB.out⟩
          case measure => simp [intOf]; omega
    · have e : k = s.size := by omega
      subst e
      have HA := Lib.hid ha
      clear ha
      by_cases hl : 999 < s.size
      all_goals
        go_wp2
        go_ret
        refine ⟨ret_int ?_, rfl⟩
        have h := HA.out
        rw [List.take_of_length_le (by simp)] at h
        unfold faultOf
        rw [h]
        simp [hl]

/-- the digit at k -/
def dg (s : ByteArray) (k : Nat) : Nat := (s.data.toList.getD k 48).toNat - 48

theorem dig_at (s : ByteArray) (k : Nat) (h : k < s.size) (hd : s.data.toList.all isDig = true) : 48 ≤ s[k].toNat ∧ s[k].toNat ≤ 57 := by
  have h1 := List.all_eq_true.1 hd s[k] (Array.mem_toList_iff.2 (Array.getElem_mem h))
  unfold isDig at h1; simpa using h1

theorem dg_eq (s : ByteArray) (k : Nat) (h : k < s.size) : dg s k = s[k].toNat - 48 := by
  unfold dg
  rw [List.getD_eq_getElem?_getD, List.getElem?_eq_getElem (by simpa using h)]
  rfl

theorem dg_le (s : ByteArray) (k : Nat) (hd : s.data.toList.all isDig = true) : dg s k ≤ 9 := by
  by_cases h : k < s.size
  · have := dig_at s k h hd; rw [dg_eq s k h]; omega
  · unfold dg; rw [List.getD_eq_getElem?_getD, List.getElem?_eq_none (by rw [Array.length_toList]; exact Nat.le_of_not_lt h)]; decide

theorem fin1 {a b c : Nat} {x y : Int} (h : a = b + c) (hx : x = b + y) (hy : y = c) : Value.int .i64 x = .int .i64 (a : Int) := by rw [hx, hy, h]; norm_cast

theorem fault_zero {l : List UInt8} (h : faultOf l = 0) : l.all isDig = true ∧ l.length ≤ 999 := by
  unfold faultOf at h
  by_cases h1 : l.all isDig = true
  · rw [if_pos h1] at h
    by_cases h2 : 999 < l.length
    · rw [if_pos h2] at h; omega
    · exact ⟨h1, by omega⟩
  · rw [if_neg h1] at h; omega

theorem fault_ok {l : List UInt8} (h : l.all isDig = true) (h2 : l.length ≤ 999) : faultOf l = 0 := by
  unfold faultOf; rw [if_pos h, if_neg (by omega)]

end Go.Proofs.YthmlcmlpmolmoaaGreatDoor
/- Number. -/
namespace Go.Proofs.YthmlcmlpmolmoaaGreatDoor
open Go.RowKit

/-- the number that the first k digits tell -/
def acc (s : ByteArray) : Nat → Nat
  | 0 => 0
  | k + 1 => 10 * acc s k + dg s k

theorem acc_step (s : ByteArray) (k : Nat) : acc s k ≤ acc s (k + 1) := by simp only [acc]; omega

theorem acc_mono (s : ByteArray) (a b : Nat) (h : a ≤ b) : acc s a ≤ acc s b := by
  induction b with
  | zero => obtain rfl : a = 0 := by omega
            exact Nat.le_refl _
  | succ b ih =>
    rcases Nat.lt_or_ge a (b + 1) with h' | h'
    · exact Nat.le_trans (ih (by omega)) (acc_step s b)
    · obtain rfl : a = b + 1 := by omega
      exact Nat.le_refl _

def dnE (s : ByteArray) : Int := if faultOf s.data.toList ≠ 0 then faultOf s.data.toList else if s.size = 0 then 3 else if 9223372036854775807 < acc s s.size then 5 else 0

def dnV (s : ByteArray) : Int := if dnE s = 0 then acc s s.size else 0

set_option maxHeartbeats 800000 in
theorem number_any (s : ByteArray) (w : World) (hs : s.size ≤ maxLen) :
    Calls Tryz.prog 131 #[.string s] w fun e w' => e = .returned (.tuple #[.int .i64 (dnV s), .int .i64 (dnE s)]) ∧ ∃ n, w' = w.drewN n := by
  by_cases hf : faultOf s.data.toList = 0
  · obtain ⟨hd, hl⟩ := fault_zero hf
    have hl' : s.size ≤ 999 := by rw [Array.length_toList] at hl; exact hl
    have HD := Lib.hid hd
    have HF := Lib.hid hf
    clear hf hd hl
    by_cases h0 : s.size = 0
    · have e1 : s.toList = [] := by
        rw [ByteArray.toList_eq]; exact List.eq_nil_of_length_eq_zero (Array.length_toList.trans h0)
      have HB := Lib.hid (show dnE s = 3 by unfold dnE; rw [if_neg (by rw [HF.out]; decide), if_pos h0])
      have HV := Lib.hid (show dnV s = 0 by unfold dnV; rw [HB.out]; rfl)
      clear h0
      go_enter Tryz.func131, Tryz.ntmps131
      go_wp2_with (go_at_call 92; refine (fault_any s _ hs).mono ?_; rintro e w' ⟨rfl, rfl⟩; rw [HF.out])
      go_ret2
      exact ⟨by rw [HB.out, HV.out]; rfl, 0, rfl⟩
    · have e1 := toList_of_size (s := s) (by omega)
      have e2 : ¬ s.toList = [] := by intro h; rw [h] at e1; cases e1
      go_enter Tryz.func131, Tryz.ntmps131
      go_wp2_with (go_at_call 92; refine (fault_any s _ hs).mono ?_; rintro e w' ⟨rfl, rfl⟩; rw [HF.out])
      go_loopw [5, 17] (fun t i wr => ∃ k : Nat, k ≤ s.size ∧ i = .int .i64 k ∧ t = .int .i64 (acc s k) ∧ acc s k ≤ 9223372036854775807 ∧ ∃ n, wr = w.drewN n) (fun _ i _ => s.size - (intOf i).toNat)
      case atStart => exact ⟨0, Nat.zero_le _, rfl, rfl, by simp [acc], 0, rfl⟩
      case round =>
        obtain ⟨k, hk, rfl, rfl, hle, hn⟩ := hrel
        have HN := Lib.hid hn
        clear hn
        by_cases hlt : k < s.size
        · obtain ⟨hb1, hb2⟩ := dig_at s k hlt HD.out
          obtain ⟨d, e0, hd9⟩ : ∃ d : Nat, (s[k].toNat : Int) - 48 = d ∧ d < 10 := ⟨s[k].toNat - 48, by omega, by omega⟩
          have HS := Lib.hid (show acc s (k + 1) = 10 * acc s k + d by simp only [acc]; rw [dg_eq s k hlt]; omega)
          generalize hq : acc s k = q at *
          have HQ := Lib.hid hq
          clear hq
          by_cases hbig : 9223372036854775807 < 10 * q + d
          · have ht : ((9223372036854775807 : Int) - d) / 10 < q := by omega
            have ht2 : (0 : Int) ≤ 9223372036854775807 - d := by omega
            have HB := Lib.hid (show dnE s = 5 by
              unfold dnE; rw [if_neg (by rw [HF.out]; decide), if_neg h0, if_pos (by have := acc_mono s (k + 1) s.size (by omega); have := HS.out; omega)])
            have HV := Lib.hid (show dnV s = 0 by unfold dnV; rw [HB.out]; rfl)
            clear hbig
            go_wp2_with (go_at_call 129; refine (value_any _ _ (by omega) (by omega)).mono ?_; rintro e w' ⟨rfl, rfl⟩)
            go_ret2
            exact ⟨by rw [HB.out, HV.out]; rfl, HN.out⟩
          · have ht : ¬ ((9223372036854775807 : Int) - d) / 10 < q := by omega
            have ht2 : (0 : Int) ≤ 9223372036854775807 - d := by omega
            go_wp2_with (go_at_call 129; refine (value_any _ _ (by omega) (by omega)).mono ?_; rintro e w' ⟨rfl, rfl⟩)
            go_roundw
            case rel => exact ⟨k + 1, by omega, by go_num, by rw [HS.out]; go_num, by rw [HS.out]; omega, HN.out⟩
            case measure => simp [intOf]; omega
        · obtain rfl : k = s.size := by omega
          have HB := Lib.hid (show dnE s = 0 by unfold dnE; rw [if_neg (by rw [HF.out]; decide), if_neg h0, if_neg (by omega)])
          have HV := Lib.hid (show dnV s = acc s s.size by unfold dnV; rw [if_pos HB.out])
          go_wp2_with fail
          go_ret2
          exact ⟨by rw [HB.out, HV.out]; rfl, HN.out⟩
  · have hf' : (faultOf s.data.toList != 0) = true := by simpa using hf
    have HB := Lib.hid (show dnE s = faultOf s.data.toList by unfold dnE; rw [if_pos hf])
    have HV := Lib.hid (show dnV s = 0 by unfold dnV; rw [HB.out, if_neg hf])
    clear hf
    go_enter Tryz.func131, Tryz.ntmps131
    go_wp2_with (go_at_call 92; refine (fault_any s _ hs).mono ?_; rintro e w' ⟨rfl, rfl⟩)
    go_ret2
    exact ⟨by rw [HB.out, HV.out]; rfl, 0, rfl⟩
end Go.Proofs.YthmlcmlpmolmoaaGreatDoor
/- A row of bytes whose first n cells are known and not frozen, whatever stands behind them. -/
namespace Go.Proofs.YthmlcmlpmolmoaaGreatDoor
open Go.RowKit

def RowX (w : World) (b : Nat) (t : TypeId) (n : Nat) (f : Nat → Value) : Prop :=
  ∃ (c : Array Value) (fr : Nat × Nat), w.heap[b]? = some (.cells c t fr) ∧ n ≤ c.size ∧ (fr.2 = 0 ∨ c.size ≤ fr.1) ∧ ∀ i, i < n → c[i]? = some (f i)
namespace RowX
variable {w w' : World} {b : Nat} {t : TypeId} {n : Nat} {f g : Nat → Value}
theorem of_rowIs (h : w.rowIs b t n f) : RowX w b t n f := by
  obtain ⟨c, h1, h2, h3⟩ := h
  exact ⟨c, (0, 0), h1, by omega, Or.inl rfl, h3⟩
theorem cell (h : RowX w b t n f) {i : Nat} (hi : i < n) : w.cell? ⟨b, i, none⟩ = some (f i) := by
  obtain ⟨c, fr, hb, _, _, hc⟩ := h
  simp [World.cell?, hb, hc i hi]
theorem frozen (h : RowX w b t n f) {i : Nat} (hi : i < n) : w.frozen? ⟨b, i, none⟩ = false := by
  obtain ⟨c, ⟨lo, hh⟩, hb, hn, hf, _⟩ := h
  simp only [World.frozen?, hb]
  rcases hf with hf | hf
  · simp only at hf; subst hf; simp
  · simp only at hf
    have : ¬ lo ≤ i := by omega
    simp [this]
theorem lt (h : RowX w b t n f) : b < w.heap.size := by
  obtain ⟨c, fr, hb, _⟩ := h
  obtain ⟨hlt, _⟩ := Array.getElem?_eq_some_iff.1 hb
  exact hlt
theorem congr (h : RowX w b t n f) (e : ∀ i, i < n → f i = g i) : RowX w b t n g := by
  obtain ⟨c, fr, hb, hn, hf, hc⟩ := h
  exact ⟨c, fr, hb, hn, hf, fun i hi => by rw [hc i hi, e i hi]⟩
theorem of_block (h : RowX w b t n f) (e : w'.heap[b]? = w.heap[b]?) : RowX w' b t n f := by
  obtain ⟨c, fr, hb, r⟩ := h
  exact ⟨c, fr, e.trans hb, r⟩
theorem drewN (h : RowX w b t n f) (k : Nat) : RowX (w.drewN k) b t n f := h
theorem drew (h : RowX w b t n f) : RowX w.drew b t n f := h
theorem alloc (h : RowX w b t n f) (o : Obj) : RowX (w.alloc o) b t n f := h.of_block (Below.heap_alloc w o b h.lt)
theorem below (h : RowX w b t n f) {B : Nat} (hb : Below B w w') (hB : b < B) : RowX w' b t n f := h.of_block (hb.block b hB)
theorem keep (h : RowX w b t n f) (hb : Below w.heap.size w w') : RowX w' b t n f := h.below hb h.lt
theorem set (h : RowX w b t n f) (i : Nat) (v : Value) : RowX (w.setCell ⟨b, i, none⟩ v) b t n (fun j => if j = i then v else f j) := by
  obtain ⟨c, fr, hb, hn, hf, hc⟩ := h
  refine ⟨c.setIfInBounds i v, fr, ?_, by simpa using hn, by simpa using hf, fun j hj => ?_⟩
  · simp [World.setCell, Array.getElem?_modify, hb]
  · rw [Array.getElem?_setIfInBounds]
    by_cases e : j = i
    · subst e
      rw [if_pos rfl, if_pos (by omega)]
      show some v = some (if j = j then v else f j)
      rw [if_pos rfl]
    · rw [if_neg (fun h => e h.symm)]
      show c[j]? = some (if j = i then v else f j)
      rw [if_neg e]
      exact hc j hj
theorem setOther (h : RowX w b t n f) {a : Addr} (ha : b ≠ a.block) (v : Value) : RowX (w.setCell a v) b t n f := h.of_block (Below.heap_setCell w a v b ha)
theorem less (h : RowX w b t n f) {m : Nat} (hm : m ≤ n) : RowX w b t m f := by
  obtain ⟨c, fr, hb, hn, hf, hc⟩ := h
  exact ⟨c, fr, hb, by omega, hf, fun i hi => hc i (by omega)⟩
end RowX

/-- string(b), b such a row -/
theorem convRowX {w : World} {g n cap m : Nat} {f : Nat → Value} (h : RowX w g 5 m f) (b : Nat → Nat) (hn : n ≤ m) (hf : ∀ i, i < n → f i = .int .u8 (b i : Nat)) :
    (convert 22 9 (.slice (some ⟨g, 0, none⟩) n cap)).run Tryz.prog w = .ok (.string (strOf n b)) w := by
  have := run_convert_bytes_arg w _ _ Tryz.underlying22 Tryz.underlying5 g 0 n cap ((List.range n).map fun i => ((b i : Nat) : Int)) (by simp) (fun i hi => by
    rw [Nat.zero_add, h.cell (by omega), hf i hi]
    simp [hi]) _ Tryz.underlying9
  refine this.trans (congrArg (fun s => Result.ok (Value.string s) w) ?_)
  unfold strOfNums strOf
  rw [List.map_map]
  rfl
/-- the text of a string's own bytes -/
theorem strOf_self (s : ByteArray) (d : UInt8) : strOf s.size (fun i => (s.data.toList.getD i d).toNat) = s := by
  apply ByteArray.ext
  apply Array.ext'
  rw [strOf_list]
  apply List.ext_getElem
  · rw [List.length_map, List.length_range, Array.length_toList]; rfl
  · intro i h1 h2
    simp only [List.getElem_map, List.getElem_range]
    rw [List.getD_eq_getElem?_getD, List.getElem?_eq_getElem h2]
    simp only [Option.getD_some, chr, UInt8.ofNat_toNat]
theorem strOf_at (n : Nat) (b : Nat → Nat) (d : UInt8) (i : Nat) (h : i < n) (hb : b i < 256) : ((strOf n b).data.toList.getD i d).toNat = b i := by
  rw [strOf_list, List.getD_eq_getElem?_getD, List.getElem?_map, List.getElem?_range h]
  simp only [Option.map_some, Option.getD_some]
  exact chr_toNat _ hb

/-- the bytes of a text: closed to the walk -/
def by_ (s : ByteArray) (i : Nat) : Nat := (s.data.toList.getD i 0).toNat
theorem by_lt (s : ByteArray) (i : Nat) : by_ s i < 256 := by unfold by_; exact UInt8.toNat_lt _
theorem strOf_by (s : ByteArray) : strOf s.size (by_ s) = s := strOf_self s 0
/-- []byte(s) -/
theorem bytesOf (s : ByteArray) (w : World) : ∃ cap W, (convert 9 22 (.string s)).run Tryz.prog w = .ok (.slice (some ⟨w.heap.size, 0, none⟩) s.size cap) W ∧
    Below w.heap.size w W ∧ w.heap.size < W.heap.size ∧ RowX W w.heap.size 5 s.size (fun i => .int .u8 (by_ s i : Nat)) := by
  refine ⟨_, _, run_bytes_of_string w _ _ _ s Tryz.underlying9 Tryz.underlying22 Tryz.underlying5, ((Below.refl _ _).drew).alloc (Nat.le_refl _) _, ?_, ?_⟩
  · show _ < (w.heap.push _).size
    simp
  · refine ⟨_, _, heap_alloc_new w.drew _, ?_, Or.inr ?_, fun i hi => ?_⟩
    · unfold bytesRow
      rw [Array.size_append, Array.size_map]
      exact Nat.le_add_right _ _
    · exact Nat.le_refl _
    · have hi' : i < s.data.size := hi
      unfold bytesRow
      rw [Array.getElem?_append_left (by rw [Array.size_map]; exact hi'), Array.getElem?_map, Array.getElem?_eq_getElem hi']
      show _ = some (Value.int .u8 ((s.data.toList.getD i 0).toNat : Nat))
      rw [List.getD_eq_getElem?_getD, List.getElem?_eq_getElem (by rw [Array.length_toList]; exact hi')]
      rfl
/-- a slice of bytes that came in: its cells -/
def SlB (w : World) (A : Option Addr) (n : Nat) (bs : Nat → Nat) : Prop :=
  0 < n → ∃ B o, A = some ⟨B, o, none⟩ ∧ B < w.heap.size ∧ ∀ j, j < n → bs j < 256 ∧ w.cell? ⟨B, o + j, none⟩ = some (.int .u8 (bs j : Nat))
theorem SlB.keep {w w' : World} {A : Option Addr} {n : Nat} {bs : Nat → Nat} (h : SlB w A n bs) (hb : Below w.heap.size w w') : SlB w' A n bs := fun hn => by
  obtain ⟨B, o, hA, hB, hc⟩ := h hn
  exact ⟨B, o, hA, Nat.lt_of_lt_of_le hB hb.size, fun j hj => ⟨(hc j hj).1, (hb.cell (p := ⟨B, _, none⟩) hB).trans (hc j hj).2⟩⟩
theorem SlB.drewN {w : World} {A : Option Addr} {n : Nat} {bs : Nat → Nat} (h : SlB w A n bs) (k : Nat) : SlB (w.drewN k) A n bs := h
theorem SlB.nil (w : World) (bs : Nat → Nat) : SlB w none 0 bs := fun h => absurd h (by omega)
theorem SlB.byte {w : World} {A : Option Addr} {n : Nat} {bs : Nat → Nat} (h : SlB w A n bs) {j : Nat} (hj : j < n) : bs j < 256 := by
  obtain ⟨B, o, _, _, hc⟩ := h (by omega); exact (hc j hj).1
theorem SlB.of_rowX {w : World} {g n : Nat} {f : Nat → Value} {bs : Nat → Nat} (h : RowX w g 5 n f) (hf : ∀ j, j < n → bs j < 256 ∧ f j = .int .u8 (bs j : Nat)) : SlB w (some ⟨g, 0, none⟩) n bs := fun _ =>
  ⟨g, 0, rfl, h.lt, fun j hj => ⟨(hf j hj).1, by rw [Nat.zero_add, h.cell hj, (hf j hj).2]⟩⟩
theorem strOfNums_range (k : Nat) (bs : Nat → Nat) : strOfNums ((List.range k).map fun i => ((bs i : Nat) : Int)) = strOf k bs := by
  unfold strOfNums strOf
  rw [List.map_map]
  rfl
/-- string(b[:k]) of a slice that came in -/
theorem convSl {w : World} {A : Option Addr} {n k cap : Nat} {bs : Nat → Nat} (h : SlB w A n bs) (hk : k ≤ n) :
    (convert 22 9 (.slice A k cap)).run Tryz.prog w = .ok (.string (strOf k bs)) w := by
  by_cases h0 : k = 0
  · subst h0
    have e : strOf 0 bs = ByteArray.empty := rfl
    rw [e]
    cases A with
    | none => exact run_convert_bytes_nil w _ _ Tryz.underlying22 Tryz.underlying5 0 cap _ Tryz.underlying9
    | some a =>
      rw [run_convert_bytes_string w _ _ _ (some a) 0 cap Tryz.underlying22 Tryz.underlying5 Tryz.underlying9]
      exact run_bytesToString w a 0 cap [] (by simp [loadCells, loadCellsFrom])
  · obtain ⟨B, o, rfl, _, hc⟩ := h (by omega)
    have := run_convert_bytes_arg w _ _ Tryz.underlying22 Tryz.underlying5 B o k cap ((List.range k).map fun i => ((bs i : Nat) : Int)) (by simp) (fun i hi => by
      rw [(hc i (by omega)).2]; simp [hi]) _ Tryz.underlying9
    rw [this, strOfNums_range]
/-- where b[:k] and b[k:] begin, as a run has it -/
def loA (A : Option Addr) (c : Nat) : Option Addr := if c = 0 then A else A.map (·.add (0 * 1))
def hiA (A : Option Addr) (c k : Nat) : Option Addr := if c = k then A else A.map (·.add (k * 1))
theorem SlB.loA {w : World} {A : Option Addr} {n : Nat} {f : Nat → Nat} (h : SlB w A n f) (c : Nat) {k : Nat} (hk : k ≤ n) : SlB w (loA A c) k f := fun h0 => by
  obtain ⟨B, o, rfl, hB, hc⟩ := h (by omega)
  refine ⟨B, o, ?_, hB, fun j hj => hc j (by omega)⟩
  unfold Go.Proofs.YthmlcmlpmolmoaaGreatDoor.loA; split
  · rfl
  · rw [Option.map_some, Go.WideShapes.add_plain, Nat.zero_mul, Nat.add_zero]
theorem SlB.hiA {w : World} {A : Option Addr} {n : Nat} {f : Nat → Nat} (h : SlB w A n f) {c k : Nat} (hk : k ≤ n) (hn : n ≤ c) : SlB w (hiA A c k) (n - k) (fun j => f (k + j)) := fun h0 => by
  obtain ⟨B, o, rfl, hB, hc⟩ := h (by omega)
  refine ⟨B, o + k, ?_, hB, fun j hj => by
    have := hc (k + j) (by omega)
    rw [Nat.add_assoc]; exact this⟩
  unfold Go.Proofs.YthmlcmlpmolmoaaGreatDoor.hiA
  rw [if_neg (by omega), Option.map_some, Go.WideShapes.add_plain, Nat.mul_one]
theorem SlB.low {w : World} {A : Option Addr} {n : Nat} {f : Nat → Nat} (h : SlB w A n f) {k : Nat} (hk : k ≤ n) : SlB w A k f := fun h0 => by
  obtain ⟨B, o, e, hB, hc⟩ := h (by omega)
  exact ⟨B, o, e, hB, fun j hj => hc j (by omega)⟩
theorem elemB : Tryz.prog.elem 22 = 5 := by kernel_rfl
theorem underB : Tryz.prog.underlying 22 = some (.slice (Tryz.prog.elem 22)) := by rw [elemB]; exact Tryz.underlying22
theorem size8 (w : World) : (sizeOf (Tryz.prog.elem 22)).run Tryz.prog w = .ok 1 w := by
  rw [elemB]; obtain ⟨i, hi, _, hs, _⟩ := info_parts info8
  simp [sizeOf, typeInfo, hi, hs]
/-- b[:k] -/
theorem run_lo (w : World) (A : Option Addr) (n c k : Nat) (hk : k ≤ c) : (Instr.sliceAt 22 (.slice A n c) none (some (.int .i64 (k : Int))) none).run Tryz.prog w = .ok (.slice (loA A c) k c) w := by
  rw [run_sliceAt_slice (h := underB), run_slice_h (ht := underB) (h0 := by omega) (h2 := by omega), size8]
  rfl
/-- b[k:] -/
theorem run_hi (w : World) (A : Option Addr) (n c k : Nat) (hk : k ≤ n) : (Instr.sliceAt 22 (.slice A n c) (some (.int .i64 (k : Int))) none none).run Tryz.prog w = .ok (.slice (hiA A c k) (n - k) (c - k)) w := by
  rw [run_sliceAt_slice (h := underB), run_slice_l (ht := underB) (h0 := by omega) (h1 := by omega), size8]
  rfl
/-- b[l:h] -/
theorem run_mid (w : World) (A : Option Addr) (n c l h : Nat) (hl : l ≤ h) (hh : h ≤ c) : (Instr.sliceAt 22 (.slice A n c) (some (.int .i64 (l : Int))) (some (.int .i64 (h : Int))) none).run Tryz.prog w = .ok (.slice (hiA A c l) (h - l) (c - l)) w := by
  rw [run_sliceAt_slice (h := underB), run_slice_lh (ht := underB) (h0 := by omega) (h1 := by omega) (h2 := by omega), size8]
  rfl
theorem SlB.mid {w : World} {A : Option Addr} {n c l m : Nat} {f : Nat → Nat} (h : SlB w A n f) (hl : l + m ≤ n) (hn : n ≤ c) : SlB w (Go.Proofs.YthmlcmlpmolmoaaGreatDoor.hiA A c l) m (fun j => f (l + j)) :=
  SlB.low (n := n - l) (h.hiA (c := c) (k := l) (by omega) hn) (by omega)
end Go.Proofs.YthmlcmlpmolmoaaGreatDoor
/- What a number's text tells: it. -/
namespace Go.Proofs.YthmlcmlpmolmoaaGreatDoor
open Go.RowKit

theorem by_dg' (s : ByteArray) (i : Nat) (h : i < s.size) (hd : s.data.toList.all isDig = true) : by_ s i = 48 + dg s i := by
  have h1 := dig_at s i h hd
  have h2 := dg_eq s i h
  unfold by_
  rw [List.getD_eq_getElem?_getD, List.getElem?_eq_getElem (by rw [Array.length_toList]; exact h)]
  show (s[i]).toNat = _
  omega
theorem strOf_dig (n : Nat) (b : Nat → Nat) (h : ∀ i, i < n → b i ≤ 9) : (strOf n fun i => 48 + b i).data.toList.all isDig = true := by
  rw [strOf_list, List.all_eq_true]
  intro c hc
  obtain ⟨i, hi, rfl⟩ := List.mem_map.1 hc
  have := h i (List.mem_range.1 hi)
  unfold isDig
  rw [chr_toNat _ (by omega)]
  simp; omega
theorem dg_dig (n : Nat) (b : Nat → Nat) (i : Nat) (h : i < n) (hb9 : b i ≤ 9) : dg (strOf n fun i => 48 + b i) i = b i := by
  unfold dg
  rw [strOf_at n (fun i => 48 + b i) 48 i h (by omega)]
  omega
theorem td_acc (n k i : Nat) (hi : i ≤ k) (h : n / 10 ^ k = 0) : acc (strOf k (td n k)) i = n / 10 ^ (k - i) := by
  induction i with
  | zero => rw [Nat.sub_zero, h]; rfl
  | succ i ih =>
    simp only [acc]
    rw [ih (by omega)]
    have : dg (strOf k (td n k)) i = n / 10 ^ (k - 1 - i) % 10 := by
      have := dg_dig k (fun j => n / 10 ^ (k - 1 - j) % 10) i (by omega) (by omega)
      exact this
    rw [this, show k - i = k - 1 - i + 1 by omega, show k - (i + 1) = k - 1 - i by omega, pow_step]
    omega
/-- the number of a number's text is it -/
theorem text_num (n k : Nat) (hn : n ≤ 9223372036854775807) (h1 : 1 ≤ k) (h2 : k ≤ 19) (h : textE n k = 0) : textV n k = strOf k (td n k) ∧ dnE (strOf k (td n k)) = 0 ∧ dnV (strOf k (td n k)) = n := by
  have hz : n / 10 ^ k = 0 := by
    by_cases e : n / 10 ^ k = 0
    · exact e
    · rw [textE_big h1 h2 e] at h; cases h
  have hd : (strOf k (td n k)).data.toList.all isDig = true := strOf_dig k (fun j => n / 10 ^ (k - 1 - j) % 10) (fun i _ => by omega)
  have ha := td_acc n k k (Nat.le_refl _) hz
  rw [Nat.sub_self, Nat.pow_zero, Nat.div_one] at ha
  have hE : dnE (strOf k (td n k)) = 0 := by
    unfold dnE
    rw [fault_ok hd (by rw [Array.length_toList]; show (strOf k (td n k)).size ≤ 999; rw [strOf_size]; omega), strOf_size, ha, if_neg (by decide), if_neg (by omega), if_neg (by omega)]
  refine ⟨by unfold textV; rw [if_pos h]; rfl, hE, ?_⟩
  unfold dnV
  rw [if_pos hE, strOf_size, ha]

end Go.Proofs.YthmlcmlpmolmoaaGreatDoor
/- Mathematics of layer 9: powers of ten, widths, what is left of long numbers. -/
namespace Go.Proofs.YthmlcmlpmolmoaaGreatDoor
open Go.RowKit

/-- 10^m, and 0 if m is not 1 to 16 -/
def pw (m : Int) : Nat := if 1 ≤ m ∧ m ≤ 16 then 10 ^ m.toNat else 0

theorem pw_none {m : Int} (h : m < 1 ∨ 16 < m) : pw m = 0 := by unfold pw; rw [if_neg (by omega)]
theorem pw_at {k : Nat} (h1 : 1 ≤ k) (h2 : k ≤ 16) : pw (k : Nat) = 10 ^ k := by unfold pw; rw [if_pos (by omega)]; rfl
theorem ten_le (k : Nat) (h : k ≤ 16) : 10 ^ k ≤ 10000000000000000 := Nat.pow_le_pow_right (n := 10) (by decide) h
theorem ten_pos (k : Nat) : 1 ≤ 10 ^ k := Nat.pow_pos (by decide)
theorem pw_le (m : Int) : pw m ≤ 10000000000000000 := by
  unfold pw
  split
  · exact ten_le _ (by omega)
  · omega
theorem pw_ten {m : Int} (h : pw m ≠ 0) : ∃ k : Nat, m = (k : Int) ∧ 1 ≤ k ∧ k ≤ 16 ∧ pw m = 10 ^ k ∧ 10 ≤ pw m := by
  unfold pw at h ⊢
  by_cases hm : 1 ≤ m ∧ m ≤ 16
  · obtain ⟨k, rfl⟩ := Int.eq_ofNat_of_zero_le (show 0 ≤ m by omega)
    rw [if_pos hm]
    exact ⟨k, rfl, by omega, by omega, rfl, Nat.pow_le_pow_right (n := 10) (by decide) (show 1 ≤ k by omega)⟩
  · rw [if_neg hm] at h; exact absurd rfl h

/-- all n numbers are from 0 to below p -/
def okN (p : Nat) (f : Nat → Int) (n : Nat) : Bool := (List.range n).all fun i => decide (0 ≤ f i) && decide (f i < (p : Int))
theorem okN_step {p : Nat} {f : Nat → Int} {n : Nat} (h : okN p f n = true) (h0 : 0 ≤ f n) (h1 : f n < (p : Int)) : okN p f (n + 1) = true := by
  unfold okN at *
  rw [List.range_succ, List.all_append, h]
  simp [h0, h1]
theorem okN_bad {p : Nat} {f : Nat → Int} {n i : Nat} (hi : i < n) (h : f i < 0 ∨ (p : Int) ≤ f i) : okN p f n = false := by
  unfold okN
  rw [List.all_eq_false]
  exact ⟨i, List.mem_range.2 hi, by simp; omega⟩
theorem okN_zero (p : Nat) (f : Nat → Int) : okN p f 0 = true := rfl
theorem okN_one (p : Nat) (f : Nat → Int) : okN p f 1 = true ↔ 0 ≤ f 0 ∧ f 0 < (p : Int) := by unfold okN; simp [List.range_succ]
theorem okN_two (p : Nat) (f : Nat → Int) : okN p f 2 = true ↔ (0 ≤ f 0 ∧ f 0 < (p : Int)) ∧ 0 ≤ f 1 ∧ f 1 < (p : Int) := by unfold okN; simp [List.range_succ]

/-- is a from 0 to below 10^m? -/
def inP (a m : Int) : Bool := decide (0 ≤ a) && decide (a < (pw m : Int))
theorem inP_iff (a m : Int) : inP a m = true ↔ 0 ≤ a ∧ a < (pw m : Int) := by unfold inP; simp
theorem inP_pos {a m : Int} (h : inP a m = true) : pw m ≠ 0 := by have := (inP_iff a m).1 h; omega
theorem okN_in {p : Nat} {m : Int} (hp : pw m = p) (a : Int) : okN p (fun _ => a) 1 = inP a m := by
  rw [Bool.eq_iff_iff, okN_one, inP_iff, hp]

/-- how many bytes a number takes, of at most f -/
def cntW : Nat → Nat → Nat
  | 0, _ => 0
  | f + 1, p => if p = 0 then 0 else 1 + cntW f (p / 256)
theorem cnt_step {f p : Nat} (h : p ≠ 0) : cntW (f + 1) p = 1 + cntW f (p / 256) := by show (if p = 0 then 0 else _) = _; rw [if_neg h]
theorem cnt_zero (f : Nat) : cntW f 0 = 0 := by cases f <;> rfl
/-- the width of 10^m - 1 -/
def wd (m : Int) : Nat := cntW 8 (pw m - 1)
theorem pw_lt8 (m : Int) : pw m - 1 < 256 ^ 8 := by have := pw_le m; have : (256 : Nat) ^ 8 = 18446744073709551616 := by decide
                                                    omega
theorem wd_none {m : Int} (h : pw m = 0) : wd m = 0 := by unfold wd; rw [h]; rfl
theorem wd_bits : ∀ k, k < 17 → (Lib.bitLen (10 ^ k - 1) + 7) / 8 = cntW 8 (10 ^ k - 1) := by decide +kernel
theorem wd_len {m : Int} (h : pw m ≠ 0) : (Lib.bitLen (pw m - 1) + 7) / 8 = wd m := by
  obtain ⟨k, rfl, h1, h2, h3, _⟩ := pw_ten h
  unfold wd
  rw [h3]
  exact wd_bits k (by omega)
theorem bits_le : ∀ k, k < 17 → Lib.bitLen (10 ^ k - 1) ≤ 64 := by decide +kernel
theorem wd_le {m : Int} : wd m ≤ 8 := by
  by_cases h : pw m = 0
  · rw [wd_none h]; omega
  · obtain ⟨k, rfl, h1, h2, h3, _⟩ := pw_ten h
    rw [← wd_len h, h3]
    have := bits_le k (by omega)
    omega

/-- what is left of the first i bytes, modulo p -/
def restN (p : Nat) (b : Nat → Nat) : Nat → Nat
  | 0 => 0
  | i + 1 => (256 * restN p b i + b i) % p
theorem restN_lt {p : Nat} (hp : 0 < p) (b : Nat → Nat) (i : Nat) : restN p b i < p := by
  cases i with
  | zero => exact hp
  | succ i => exact Nat.mod_lt _ hp
theorem restN_congr {p : Nat} {b c : Nat → Nat} (i : Nat) (h : ∀ j, j < i → b j = c j) : restN p b i = restN p c i := by
  induction i with
  | zero => rfl
  | succ i ih => show (256 * restN p b i + b i) % p = (256 * restN p c i + c i) % p; rw [ih fun j hj => h j (by omega), h i (by omega)]
/-- k times doubled -/
def dblP (p r : Nat) : Nat → Nat
  | 0 => r
  | k + 1 => (dblP p r k + dblP p r k) % p
theorem dbl_mod (p r : Nat) (hr : r < p) (k : Nat) : dblP p r k = (2 ^ k * r) % p := by
  induction k with
  | zero => rw [Nat.pow_zero, Nat.one_mul, Nat.mod_eq_of_lt hr]; rfl
  | succ k ih =>
    show (dblP p r k + dblP p r k) % p = _
    rw [ih, ← Nat.add_mod, Nat.pow_succ]
    congr 1
    rw [Nat.mul_comm (2 ^ k) 2, Nat.mul_assoc]; omega
theorem dblP_lt (p r : Nat) (hr : r < p) (k : Nat) : dblP p r k < p := by rw [dbl_mod p r hr]; exact Nat.mod_lt _ (by omega)
/-- behind other bytes it goes on from those -/
theorem dbl_go (p r b : Nat) (hr : r < p) : (dblP p r 8 + b % p) % p = (256 * r + b) % p := by rw [dbl_mod p r hr, ← Nat.add_mod]

/-! The codes and values of the calls. -/
def vE (s : ByteArray) : Int := if s.size = 0 then 1 else if 16 < s.size then 2 else dnE s
def vV (s : ByteArray) : Int := if vE s = 0 then dnV s else 0
def gE (n m : Int) : Int := if inP n m = true then 0 else 1
def gV (n m : Int) : ByteArray := if inP n m = true then strOf m.toNat (td n.toNat m.toNat) else ⟨#[]⟩
def rE (len : Nat) (m : Int) : Int := if pw m = 0 then 1 else if 64 < len then 2 else 0
def rV (len : Nat) (b : Nat → Nat) (m : Int) : Int := if rE len m = 0 then (restN (pw m) b len : Nat) else 0
def tE (a b m : Int) : Int := if inP a m = true ∧ inP b m = true then 0 else 1
def aV (a b m : Int) : Int := if tE a b m = 0 then (a + b) % (pw m : Int) else 0
def sV (a b m : Int) : Int := if tE a b m = 0 then (a - b + (pw m : Int)) % (pw m : Int) else 0
theorem gE_pos {n m : Int} (h : inP n m = true) : gE n m = 0 := if_pos h
theorem gE_neg {n m : Int} (h : ¬ inP n m = true) : gE n m = 1 := if_neg h
theorem gV_neg {n m : Int} (h : ¬ inP n m = true) : gV n m = ⟨#[]⟩ := if_neg h
theorem tE_pos {a b m : Int} (h : inP a m = true) (h' : inP b m = true) : tE a b m = 0 := if_pos ⟨h, h'⟩
theorem tE_neg {a b m : Int} (h : ¬ (inP a m = true ∧ inP b m = true)) : tE a b m = 1 := if_neg h
theorem text_in {n m : Int} (h : inP n m = true) : textE n m = 0 ∧ textV n m = gV n m := by
  obtain ⟨h0, h1⟩ := (inP_iff n m).1 h
  obtain ⟨k, rfl, hk1, hk2, hp, _⟩ := pw_ten (inP_pos h)
  obtain ⟨n, rfl⟩ := Int.eq_ofNat_of_zero_le h0
  have hz : n / 10 ^ k = 0 := Nat.div_eq_of_lt (by rw [← hp]; omega)
  have he := textE_fit hk1 (show k ≤ 19 by omega) hz
  exact ⟨he, by unfold textV gV; rw [if_pos he, if_pos h]⟩
end Go.Proofs.YthmlcmlpmolmoaaGreatDoor
/- Mathematics of layer 9: digits and values undo each other, so do sums and differences. -/
namespace Go.Proofs.YthmlcmlpmolmoaaGreatDoor
open Go.RowKit

theorem acc_lt (s : ByteArray) (hd : s.data.toList.all isDig = true) (k : Nat) : acc s k < 10 ^ k := by
  induction k with
  | zero => exact Nat.one_pos
  | succ k ih => have := dg_le s k hd; rw [Nat.pow_succ]; simp only [acc]; omega
theorem acc_head (s : ByteArray) (hd : s.data.toList.all isDig = true) (k i : Nat) : acc s (k + i) / 10 ^ i = acc s k := by
  induction i with
  | zero => rw [Nat.pow_zero, Nat.div_one, Nat.add_zero]
  | succ i ih =>
    have := dg_le s (k + i) hd
    rw [Nat.pow_succ, Nat.mul_comm, ← Nat.div_div_eq_div_mul, show k + (i + 1) = k + i + 1 by omega]
    simp only [acc]
    rw [show (10 * acc s (k + i) + dg s (k + i)) / 10 = acc s (k + i) by omega, ih]
theorem td_self (s : ByteArray) (hd : s.data.toList.all isDig = true) : strOf s.size (td (acc s s.size) s.size) = s := by
  refine (strOf_congr _ _ _ fun j hj => ?_).trans (strOf_by s)
  have h := acc_head s hd (j + 1) (s.size - 1 - j)
  rw [show j + 1 + (s.size - 1 - j) = s.size by omega] at h
  have := dg_le s j hd
  unfold td
  rw [h, by_dg' s j hj hd]
  simp only [acc]
  omega
/-- what is a value's text: it -/
theorem back_text {s : ByteArray} (h : vE s = 0) : inP (vV s) (s.size : Nat) = true ∧ gV (vV s) (s.size : Nat) = s ∧ 1 ≤ s.size ∧ s.size ≤ 16 := by
  unfold vE at h
  by_cases h0 : s.size = 0
  · rw [if_pos h0] at h; cases h
  · rw [if_neg h0] at h
    by_cases h1 : 16 < s.size
    · rw [if_pos h1] at h; cases h
    · rw [if_neg h1] at h
      have hf : faultOf s.data.toList = 0 := by
        by_cases hf : faultOf s.data.toList = 0
        · exact hf
        · unfold dnE at h; rw [if_pos hf] at h; exact h
      have hd := (fault_zero hf).1
      have hv : vV s = (acc s s.size : Nat) := by
        unfold vV vE; rw [if_neg h0, if_neg h1, if_pos h]; unfold dnV; rw [if_pos h]
      have hp := pw_at (k := s.size) (by omega) (by omega)
      have hi : inP (vV s) (s.size : Nat) = true := by
        rw [inP_iff, hv, hp]; have := acc_lt s hd s.size; omega
      refine ⟨hi, ?_, by omega, by omega⟩
      unfold gV
      rw [if_pos hi, hv]
      exact td_self s hd
/-- what is a text's value: it -/
theorem back_value {x m : Int} (h : inP x m = true) : vE (gV x m) = 0 ∧ vV (gV x m) = x ∧ ((gV x m).size : Int) = m ∧ (gV x m).size ≤ 16 := by
  obtain ⟨h0, h1⟩ := (inP_iff x m).1 h
  obtain ⟨k, rfl, hk1, hk2, hp, _⟩ := pw_ten (inP_pos h)
  obtain ⟨n, rfl⟩ := Int.eq_ofNat_of_zero_le h0
  have hz : n / 10 ^ k = 0 := Nat.div_eq_of_lt (by rw [← hp]; omega)
  have hn : n ≤ 9223372036854775807 := by have := pw_le (k : Int); omega
  obtain ⟨_, e, v⟩ := text_num n k hn hk1 (by omega) (textE_fit hk1 (by omega) hz)
  have hg : gV (n : Int) (k : Int) = strOf k (td n k) := by unfold gV; rw [if_pos h]; rfl
  have hs : (strOf k (td n k)).size = k := strOf_size _ _
  rw [hg]
  have e' : vE (strOf k (td n k)) = 0 := by unfold vE; rw [hs, if_neg (by omega), if_neg (by omega), e]
  exact ⟨e', by unfold vV; rw [if_pos e', v], by rw [hs], by omega⟩

theorem aV_in {a b m : Int} (h : inP a m = true) (h' : inP b m = true) : aV a b m = (a + b) % (pw m : Int) ∧ inP (aV a b m) m = true := by
  have e : aV a b m = (a + b) % (pw m : Int) := by unfold aV; rw [if_pos (tE_pos h h')]
  have hp := inP_pos h
  refine ⟨e, ?_⟩
  rw [inP_iff, e]
  exact ⟨Int.emod_nonneg _ (by omega), Int.emod_lt_of_pos _ (by omega)⟩
theorem back_mod {x y p : Int} (x0 : 0 ≤ x) (x1 : x < p) (y0 : 0 ≤ y) (y1 : y < p) : ((x + y) % p - y + p) % p = x := by
  by_cases h : x + y < p
  · rw [Int.emod_eq_of_lt (by omega) h, show x + y - y + p = x + p by omega, Int.add_emod_right, Int.emod_eq_of_lt x0 x1]
  · have e : (x + y) % p = x + y - p := by
      rw [show x + y = x + y - p + p by omega, Int.add_emod_right, Int.emod_eq_of_lt (by omega) (by omega)]; omega
    rw [e, show x + y - p - y + p = x by omega, Int.emod_eq_of_lt x0 x1]
theorem back_sum {x y m : Int} (h : inP x m = true) (h' : inP y m = true) : sV (aV x y m) y m = x := by
  obtain ⟨e, hi⟩ := aV_in h h'
  obtain ⟨x0, x1⟩ := (inP_iff x m).1 h
  obtain ⟨y0, y1⟩ := (inP_iff y m).1 h'
  unfold sV
  rw [if_pos (tE_pos hi h'), e]
  exact back_mod x0 x1 y0 y1
theorem tE_comm (a b m : Int) : tE b a m = tE a b m := by unfold tE; simp only [and_comm]
theorem aV_comm (a b m : Int) : aV b a m = aV a b m := by unfold aV; rw [tE_comm, Int.add_comm]
theorem aV_assoc {a b c m : Int} (ha : inP a m = true) (hb : inP b m = true) (hc : inP c m = true) : aV (aV a b m) c m = aV a (aV b c m) m := by
  obtain ⟨e1, i1⟩ := aV_in ha hb
  obtain ⟨e2, i2⟩ := aV_in hb hc
  rw [(aV_in i1 hc).1, (aV_in ha i2).1, e1, e2, Int.emod_add_emod, Int.add_emod_emod, Int.add_assoc]
end Go.Proofs.YthmlcmlpmolmoaaGreatDoor
/- The field of 256 elements on natural numbers: nothing here hangs on the program. -/
namespace Go.Proofs.YthmlcmlpmolmoaaGreatDoor

/-- twice a byte -/
def dbl (a : Nat) : Nat := if a < 128 then 2 * a else (2 * a - 256) ^^^ 27
/-- k rounds of the product -/
def gmk : Nat → Nat → Nat → Nat → Nat
  | 0, _, _, p => p
  | k + 1, a, b, p => gmk k (dbl a) (b / 2) (if b % 2 = 1 then p ^^^ a else p)
def gm (a b : Nat) : Nat := gmk 8 a b 0
def gpow (a : Nat) : Nat → Nat
  | 0 => 1
  | k + 1 => gm (gpow a k) a

theorem xor8 {a b : Nat} (ha : a < 256) (hb : b < 256) : a ^^^ b < 256 := Nat.xor_lt_two_pow (n := 8) ha hb
theorem gx_par (a b : Nat) : (a ^^^ b) % 2 = (a + b) % 2 := by
  have h := congrArg (fun x : Bool => x.toNat) (Nat.testBit_xor (x := a) (y := b) (i := 0))
  simp only [Nat.testBit_zero] at h
  rcases Nat.mod_two_eq_zero_or_one a with h1 | h1 <;> rcases Nat.mod_two_eq_zero_or_one b with h2 | h2 <;> rw [h1, h2] at h <;> rcases Nat.mod_two_eq_zero_or_one (a ^^^ b) with h3 | h3 <;> rw [h3] at h ⊢ <;> first | omega | exact absurd h (by decide)
theorem x4 (a b c d : Nat) : (a ^^^ b) ^^^ (c ^^^ d) = (a ^^^ c) ^^^ (b ^^^ d) := by
  rw [Nat.xor_assoc, ← Nat.xor_assoc b c d, Nat.xor_comm b c, Nat.xor_assoc c b d, ← Nat.xor_assoc]
theorem xor_add2 (k r : Nat) (h : r < 2 ^ k) : 2 ^ k ^^^ r = 2 ^ k + r := by
  apply Nat.eq_of_testBit_eq
  intro i
  rw [Nat.testBit_xor, Nat.testBit_two_pow]
  rcases Nat.lt_trichotomy i k with hi | hi | hi
  · rw [Nat.testBit_two_pow_add_gt hi]
    simp [Nat.ne_of_gt hi]
  · subst hi
    rw [Nat.testBit_two_pow_add_eq, Nat.testBit_lt_two_pow h]
    simp
  · have h1 : r.testBit i = false := Nat.testBit_lt_two_pow (Nat.lt_of_lt_of_le h (Nat.pow_le_pow_right (by decide) (Nat.le_of_lt hi)))
    have h2 : (2 ^ k + r).testBit i = false := Nat.testBit_lt_two_pow (by
      have : 2 ^ (k + 1) ≤ 2 ^ i := Nat.pow_le_pow_right (by decide) hi
      rw [Nat.pow_succ] at this
      omega)
    rw [h1, h2]
    simp [Nat.ne_of_lt hi]

/-- what holds of 0 and of the powers of 2, and of sums of what it holds of, holds of all bytes -/
theorem byte_ind (P : Nat → Prop) (n : Nat) (h0 : P 0) (hb : ∀ i, i < n → P (2 ^ i)) (hx : ∀ a b, a < 2 ^ n → b < 2 ^ n → P a → P b → P (a ^^^ b)) : ∀ a, a < 2 ^ n → P a := by
  have key : ∀ k, k ≤ n → ∀ a, a < 2 ^ k → P a := by
    intro k
    induction k with
    | zero =>
      intro _ a ha
      obtain rfl : a = 0 := by simp at ha; exact ha
      exact h0
    | succ k ih =>
      intro hk a ha
      by_cases hlt : a < 2 ^ k
      · exact ih (by omega) a hlt
      · have hp : 2 ^ (k + 1) ≤ 2 ^ n := Nat.pow_le_pow_right (by decide) hk
        have hs : 2 ^ (k + 1) = 2 ^ k * 2 := Nat.pow_succ 2 k
        have hr : a - 2 ^ k < 2 ^ k := by omega
        have e : a = 2 ^ k ^^^ (a - 2 ^ k) := by rw [xor_add2 k _ hr]; omega
        rw [e]
        exact hx _ _ (by omega) (by omega) (hb k (by omega)) (ih (by omega) _ hr)
  exact key n (Nat.le_refl n)

theorem dbl_lt {a : Nat} (h : a < 256) : dbl a < 256 := by
  unfold dbl
  split
  · omega
  · exact xor8 (by omega) (by decide)
theorem dbl_eq : ∀ a, a < 256 → dbl a = (a <<< 1) ^^^ (283 * (a >>> 7)) := by decide +kernel
theorem dbl_lin (a : Nat) (ha : a < 256) (b : Nat) (hb : b < 256) : dbl (a ^^^ b) = dbl a ^^^ dbl b := by
  have k : ∀ x, x < 2 → ∀ y, y < 2 → 283 * (x ^^^ y) = (283 * x) ^^^ (283 * y) := by decide +kernel
  rw [dbl_eq _ (xor8 ha hb), dbl_eq a ha, dbl_eq b hb, Nat.shiftLeft_xor_distrib, Nat.shiftRight_xor_distrib, k _ (by rw [Nat.shiftRight_eq_div_pow]; omega) _ (by rw [Nat.shiftRight_eq_div_pow]; omega), x4]
theorem gmk_lt : ∀ (k a b p : Nat), a < 256 → p < 256 → gmk k a b p < 256
  | 0, _, _, _, _, hp => hp
  | k + 1, a, b, p, ha, hp => by
    unfold gmk
    refine gmk_lt k _ _ _ (dbl_lt ha) ?_
    split
    · exact xor8 hp ha
    · exact hp
theorem gm_lt {a : Nat} (b : Nat) (h : a < 256) : gm a b < 256 := gmk_lt 8 a b 0 h (by decide)
/-- rounds are linear in the second factor -/
theorem gmk_lin2 : ∀ (k a b c p q : Nat), gmk k a (b ^^^ c) (p ^^^ q) = gmk k a b p ^^^ gmk k a c q
  | 0, _, _, _, _, _ => rfl
  | k + 1, a, b, c, p, q => by
    simp only [gmk]
    rw [Nat.xor_div_two, ← gmk_lin2 k]
    congr 1
    rw [gx_par]
    rcases Nat.mod_two_eq_zero_or_one b with h | h <;> rcases Nat.mod_two_eq_zero_or_one c with h' | h'
    · rw [if_neg (by omega), if_neg (by omega), if_neg (by omega)]
    · rw [if_pos (by omega), if_neg (by omega), if_pos (by omega), Nat.xor_assoc]
    · rw [if_pos (by omega), if_pos (by omega), if_neg (by omega), Nat.xor_assoc, Nat.xor_assoc, Nat.xor_comm q]
    · rw [if_neg (by omega), if_pos (by omega), if_pos (by omega), x4, Nat.xor_self, Nat.xor_zero]
/-- and in the first -/
theorem gmk_lin1 : ∀ (k a b c p q : Nat), a < 256 → b < 256 → gmk k (a ^^^ b) c (p ^^^ q) = gmk k a c p ^^^ gmk k b c q
  | 0, _, _, _, _, _, _, _ => rfl
  | k + 1, a, b, c, p, q, ha, hb => by
    simp only [gmk]
    rw [dbl_lin a ha b hb, ← gmk_lin1 k _ _ _ _ _ (dbl_lt ha) (dbl_lt hb)]
    congr 1
    split
    · exact x4 p q a b
    · rfl
theorem gm_xor2 (a b c : Nat) : gm a (b ^^^ c) = gm a b ^^^ gm a c := gmk_lin2 8 a b c 0 0
theorem gm_xor1 (a b c : Nat) (ha : a < 256) (hb : b < 256) : gm (a ^^^ b) c = gm a c ^^^ gm b c := gmk_lin1 8 a b c 0 0 ha hb
theorem gm_zero2 (a : Nat) : gm a 0 = 0 := by
  have h := gm_xor2 a 0 0
  rw [Nat.xor_self, Nat.xor_self] at h
  exact h
theorem gm_zero1 (b : Nat) : gm 0 b = 0 := by
  have h := gm_xor1 0 0 b (by decide) (by decide)
  rw [Nat.xor_self, Nat.xor_self] at h
  exact h

/-- two products of bytes, linear in each, are equal where they are at powers of 2 -/
theorem bilin (f g : Nat → Nat → Nat) (hf0 : ∀ a, f a 0 = g a 0) (hf0' : ∀ b, f 0 b = g 0 b)
    (hf1 : ∀ a b c, a < 256 → b < 256 → c < 256 → f (a ^^^ b) c = f a c ^^^ f b c) (hg1 : ∀ a b c, a < 256 → b < 256 → c < 256 → g (a ^^^ b) c = g a c ^^^ g b c)
    (hf2 : ∀ a b c, a < 256 → b < 256 → c < 256 → f a (b ^^^ c) = f a b ^^^ f a c) (hg2 : ∀ a b c, a < 256 → b < 256 → c < 256 → g a (b ^^^ c) = g a b ^^^ g a c)
    (h : ∀ i, i < 8 → ∀ j, j < 8 → f (2 ^ i) (2 ^ j) = g (2 ^ i) (2 ^ j)) : ∀ a, a < 256 → ∀ b, b < 256 → f a b = g a b := by
  have pw : ∀ i, i < 8 → 2 ^ i < 256 := fun i hi => Nat.lt_of_lt_of_le (Nat.pow_lt_pow_right (by decide) hi) (by decide)
  refine byte_ind (fun a => ∀ b, b < 256 → f a b = g a b) 8 (fun b _ => hf0' b) (fun i hi => ?_) (fun a a' ha ha' ih ih' b hb => by rw [hf1 a a' b ha ha' hb, hg1 a a' b ha ha' hb, ih b hb, ih' b hb])
  refine byte_ind (fun b => f (2 ^ i) b = g (2 ^ i) b) 8 (hf0 _) (fun j hj => h i hi j hj) (fun b b' hb hb' ih ih' => by rw [hf2 _ b b' (pw i hi) hb hb', hg2 _ b b' (pw i hi) hb hb', ih, ih'])

theorem gm_comm {a b : Nat} (ha : a < 256) (hb : b < 256) : gm a b = gm b a :=
  bilin gm (fun a b => gm b a) (fun a => by rw [gm_zero2, gm_zero1]) (fun b => by rw [gm_zero2, gm_zero1]) (fun a b c ha hb _ => gm_xor1 a b c ha hb) (fun a b c _ _ _ => gm_xor2 c a b)
    (fun a b c _ _ _ => gm_xor2 a b c) (fun a b c _ hb hc => gm_xor1 b c a hb hc) (by decide +kernel) a ha b hb

theorem gm_assoc {a b c : Nat} (ha : a < 256) (hb : b < 256) (hc : c < 256) : gm (gm a b) c = gm a (gm b c) := by
  have pw : ∀ i, i < 8 → 2 ^ i < 256 := fun i hi => Nat.lt_of_lt_of_le (Nat.pow_lt_pow_right (by decide) hi) (by decide)
  have base : ∀ i, i < 8 → ∀ j, j < 8 → ∀ k, k < 8 → gm (gm (2 ^ i) (2 ^ j)) (2 ^ k) = gm (2 ^ i) (gm (2 ^ j) (2 ^ k)) := by decide +kernel
  have step : ∀ k, k < 8 → ∀ a, a < 256 → ∀ b, b < 256 → gm (gm a b) (2 ^ k) = gm a (gm b (2 ^ k)) := fun k hk =>
    bilin (fun a b => gm (gm a b) (2 ^ k)) (fun a b => gm a (gm b (2 ^ k))) (fun a => by simp only [gm_zero2, gm_zero1]) (fun b => by simp only [gm_zero1])
      (fun a b c ha hb _ => by rw [gm_xor1 a b c ha hb, gm_xor1 _ _ _ (gm_lt c ha) (gm_lt c hb)]) (fun a b c ha hb _ => gm_xor1 a b _ ha hb)
      (fun a b c ha _ _ => by rw [gm_xor2, gm_xor1 _ _ _ (gm_lt b ha) (gm_lt c ha)]) (fun a b c _ hb hc => by rw [gm_xor1 b c _ hb hc, gm_xor2])
      (fun i hi j hj => base i hi j hj k hk)
  exact byte_ind (fun c => gm (gm a b) c = gm a (gm b c)) 8 (by simp only [gm_zero2]) (fun k hk => step k hk a ha b hb) (fun x y hx hy ih ih' => by
    rw [gm_xor2, gm_xor2 b, gm_xor2 a, ih, ih']) c hc
theorem gm_one {a : Nat} (h : a < 256) : gm a 1 = a := by
  have : ∀ a, a < 256 → gm a 1 = a := by decide +kernel
  exact this a h
theorem one_gm {a : Nat} (h : a < 256) : gm 1 a = a := by rw [gm_comm (by decide) h, gm_one h]

theorem gpow_lt {a : Nat} (h : a < 256) : ∀ n, gpow a n < 256
  | 0 => (by decide : 1 < 256)
  | n + 1 => gm_lt a (gpow_lt h n)
theorem gpow_add {a : Nat} (h : a < 256) (m : Nat) : ∀ n, gpow a (m + n) = gm (gpow a m) (gpow a n)
  | 0 => (gm_one (gpow_lt h m)).symm
  | n + 1 => by
    show gm (gpow a (m + n)) a = gm (gpow a m) (gm (gpow a n) a)
    rw [gpow_add h m n, gm_assoc (gpow_lt h m) (gpow_lt h n) h]
theorem gpow_two {a : Nat} (h : a < 256) : gpow a 2 = gm a a := by
  show gm (gm 1 a) a = _
  rw [one_gm h]
theorem gpow_sq {a : Nat} (h : a < 256) (n : Nat) : gpow (gm a a) n = gpow a (2 * n) := by
  induction n with
  | zero => rfl
  | succ n ih =>
    show gm (gpow (gm a a) n) (gm a a) = gpow a (2 * n + 2)
    rw [ih, gpow_add h, gpow_two h]
theorem gpow_zero {n : Nat} (h : 0 < n) : gpow 0 n = 0 := by
  cases n with
  | zero => omega
  | succ n => exact gm_zero2 _

/-- by squares: what is computed fast -/
def gfast (a : Nat) : Nat := 
  let b := gm a a; let c := gm b b; let d := gm c c; let e := gm d d; let f := gm e e; let g := gm f f; let h := gm g g
  gm (gm (gm (gm (gm (gm b c) d) e) f) g) h
def ginv (a : Nat) : Nat := gpow a 254
theorem ginv_fast {a : Nat} (h : a < 256) : ginv a = gfast a := by
  have e2 : ∀ k, gm (gpow a k) (gpow a k) = gpow a (2 * k) := fun k => by rw [← gpow_add h]; congr 1; omega
  have g1 : a = gpow a 1 := (one_gm h).symm
  unfold gfast ginv
  simp only []
  have h1 : gm a a = gpow a 2 := (gpow_two h).symm
  rw [h1]
  simp only [e2, Nat.reduceMul, ← gpow_add h, Nat.reduceAdd]
theorem ginv_lt {a : Nat} (h : a < 256) : ginv a < 256 := gpow_lt h _
theorem gm_inv {a : Nat} (h : a < 256) (h0 : a ≠ 0) : gm a (ginv a) = 1 := by
  have key : ∀ a, a < 256 → a ≠ 0 → gm a (gfast a) = 1 := by decide +kernel
  rw [ginv_fast h]
  exact key a h h0
theorem ginv_zero : ginv 0 = 0 := gpow_zero (by decide)
theorem gpow_255 {a : Nat} (h : a < 256) (h0 : a ≠ 0) : gpow a 255 = 1 := by
  show gm (gpow a 254) a = 1
  rw [gm_comm (gpow_lt h _) h]
  exact gm_inv h h0
theorem ginv_ne {a : Nat} (h : a < 256) (h0 : a ≠ 0) : ginv a ≠ 0 := fun e => by
  have := gm_inv h h0
  rw [e, gm_zero2] at this
  exact absurd this (by decide)
/-- one inverse -/
theorem ginv_only {a b : Nat} (ha : a < 256) (hb : b < 256) (h : gm a b = 1) : b = ginv a := by
  have h0 : a ≠ 0 := fun e => by rw [e, gm_zero1] at h; exact absurd h (by decide)
  have e := gm_assoc (ginv_lt ha) ha hb
  rw [h, gm_comm (ginv_lt ha) ha, gm_inv ha h0, one_gm hb, gm_one (ginv_lt ha)] at e
  exact e
theorem ginv_ginv {a : Nat} (h : a < 256) : ginv (ginv a) = a := by
  by_cases h0 : a = 0
  · subst h0
    rw [ginv_zero, ginv_zero]
  · exact (ginv_only (ginv_lt h) h (by rw [gm_comm (ginv_lt h) h]; exact gm_inv h h0)).symm
theorem gm_eq_zero {a b : Nat} (ha : a < 256) (hb : b < 256) : gm a b = 0 ↔ a = 0 ∨ b = 0 := by
  refine ⟨fun h => ?_, fun h => by rcases h with rfl | rfl; exact gm_zero1 _; exact gm_zero2 _⟩
  by_cases h0 : a = 0
  · exact Or.inl h0
  · right
    have e := gm_assoc (ginv_lt ha) ha hb
    rw [h, gm_zero2, gm_comm (ginv_lt ha) ha, gm_inv ha h0, one_gm hb] at e
    exact e
theorem gpow_mod {a : Nat} (h : a < 256) (h0 : a ≠ 0) (n : Nat) : gpow a (n % 255) = gpow a n := by
  have key : ∀ q r, gpow a (255 * q + r) = gpow a r := by
    intro q
    induction q with
    | zero => intro r; rw [Nat.mul_zero, Nat.zero_add]
    | succ q ih =>
      intro r
      rw [show 255 * (q + 1) + r = 255 + (255 * q + r) by omega, gpow_add h, gpow_255 h h0, one_gm (gpow_lt h _), ih]
  conv => rhs; rw [← Nat.div_add_mod n 255]
  exact (key _ _).symm

/-- a byte turned left -/
def rotl (a k : Nat) : Nat := (a * 2 ^ k) % 256 ||| a / 2 ^ (8 - k)
def gbox (i : Nat) : Nat := i ^^^ rotl i 1 ^^^ rotl i 2 ^^^ rotl i 3 ^^^ rotl i 4 ^^^ 99
def box (a : Nat) : Nat := gbox (ginv a)
def unmix (a : Nat) : Nat := rotl a 1 ^^^ rotl a 3 ^^^ rotl a 6 ^^^ 5
def unbox (a : Nat) : Nat := ginv (unmix a)
theorem gbox_lt {a : Nat} (h : a < 256) : gbox a < 256 := by
  have : ∀ a, a < 256 → gbox a < 256 := by decide +kernel
  exact this a h
theorem unmix_lt {a : Nat} (h : a < 256) : unmix a < 256 := by
  have : ∀ a, a < 256 → unmix a < 256 := by decide +kernel
  exact this a h
theorem unmix_gbox {a : Nat} (h : a < 256) : unmix (gbox a) = a := by
  have : ∀ a, a < 256 → unmix (gbox a) = a := by decide +kernel
  exact this a h
theorem gbox_unmix {a : Nat} (h : a < 256) : gbox (unmix a) = a := by
  have : ∀ a, a < 256 → gbox (unmix a) = a := by decide +kernel
  exact this a h
theorem box_lt {a : Nat} (h : a < 256) : box a < 256 := gbox_lt (ginv_lt h)
theorem unbox_lt {a : Nat} (h : a < 256) : unbox a < 256 := ginv_lt (unmix_lt h)
theorem unbox_box {a : Nat} (h : a < 256) : unbox (box a) = a := by
  unfold unbox box
  rw [unmix_gbox (ginv_lt h), ginv_ginv h]
theorem box_unbox {a : Nat} (h : a < 256) : box (unbox a) = a := by
  unfold unbox box
  rw [ginv_ginv (unmix_lt h), gbox_unmix h]
theorem box_inj {a b : Nat} (ha : a < 256) (hb : b < 256) (h : box a = box b) : a = b := by rw [← unbox_box ha, h, unbox_box hb]
theorem box_moves {a : Nat} (h : a < 256) : box a ≠ a ∧ box a ≠ 255 - a := by
  have : ∀ a, a < 256 → gbox (gfast a) ≠ a ∧ gbox (gfast a) ≠ 255 - a := by decide +kernel
  have := this a h
  rw [← ginv_fast h] at this
  exact this
/-- the square of a sum -/
theorem gm_square {a b : Nat} (ha : a < 256) (hb : b < 256) : gm (a ^^^ b) (a ^^^ b) = gm a a ^^^ gm b b := by
  rw [gm_xor1 a b _ ha hb, gm_xor2 a, gm_xor2 b, gm_comm ha hb, Nat.xor_assoc, ← Nat.xor_assoc (gm b a), Nat.xor_self, Nat.zero_xor]
end Go.Proofs.YthmlcmlpmolmoaaGreatDoor
/- Bytes, by number: nothing here hangs on the program. -/
namespace Go.Proofs.YthmlcmlpmolmoaaGreatDoor
def By (n : Nat) (s : Nat → Nat) : Prop := ∀ i, i < n → s i < 256
end Go.Proofs.YthmlcmlpmolmoaaGreatDoor
/- The block cipher on natural numbers: nothing here hangs on the program. -/
namespace Go.Proofs.YthmlcmlpmolmoaaGreatDoor

/-! ### columns -/
def mx (a b c d : Nat) : Nat := (dbl a ^^^ (dbl b ^^^ b)) ^^^ (c ^^^ d)
def imx (a b c d : Nat) : Nat := (gm 14 a ^^^ gm 11 b) ^^^ (gm 13 c ^^^ gm 9 d)
theorem xxab (a b c d e : Nat) : a ^^^ ((((a ^^^ b) ^^^ c) ^^^ d) ^^^ e) = e ^^^ (b ^^^ (c ^^^ d)) := by
  have h1 : a ^^^ ((((a ^^^ b) ^^^ c) ^^^ d) ^^^ e) = (a ^^^ a) ^^^ (e ^^^ (b ^^^ (c ^^^ d))) := by ac_rfl
  rw [h1, Nat.xor_self, Nat.zero_xor]
/-- as the program has it -/
theorem mx_code {a b : Nat} (c d : Nat) (ha : a < 256) (hb : b < 256) : a ^^^ ((((a ^^^ b) ^^^ c) ^^^ d) ^^^ dbl (a ^^^ b)) = mx a b c d := by
  rw [xxab, dbl_lin a ha b hb]
  unfold mx
  ac_rfl
structure Lin4 (f : Nat → Nat → Nat → Nat → Nat) : Prop where
  lt : ∀ a b c d, a < 256 → b < 256 → c < 256 → d < 256 → f a b c d < 256
  add : ∀ a b c d a' b' c' d', a < 256 → b < 256 → c < 256 → d < 256 → a' < 256 → b' < 256 → c' < 256 → d' < 256 → f (a ^^^ a') (b ^^^ b') (c ^^^ c') (d ^^^ d') = f a b c d ^^^ f a' b' c' d'
namespace Lin4
variable {f g h k : Nat → Nat → Nat → Nat → Nat}
theorem p1 : Lin4 (fun a _ _ _ => a) := ⟨fun _ _ _ _ h _ _ _ => h, fun _ _ _ _ _ _ _ _ _ _ _ _ _ _ _ _ => rfl⟩
theorem p2 : Lin4 (fun _ a _ _ => a) := ⟨fun _ _ _ _ _ h _ _ => h, fun _ _ _ _ _ _ _ _ _ _ _ _ _ _ _ _ => rfl⟩
theorem p3 : Lin4 (fun _ _ a _ => a) := ⟨fun _ _ _ _ _ _ h _ => h, fun _ _ _ _ _ _ _ _ _ _ _ _ _ _ _ _ => rfl⟩
theorem p4 : Lin4 (fun _ _ _ a => a) := ⟨fun _ _ _ _ _ _ _ h => h, fun _ _ _ _ _ _ _ _ _ _ _ _ _ _ _ _ => rfl⟩
theorem xor (hf : Lin4 f) (hg : Lin4 g) : Lin4 (fun a b c d => f a b c d ^^^ g a b c d) :=
  ⟨fun a b c d h1 h2 h3 h4 => xor8 (hf.lt a b c d h1 h2 h3 h4) (hg.lt a b c d h1 h2 h3 h4), fun a b c d a' b' c' d' h1 h2 h3 h4 h5 h6 h7 h8 => by
    show f _ _ _ _ ^^^ g _ _ _ _ = _
    rw [hf.add a b c d a' b' c' d' h1 h2 h3 h4 h5 h6 h7 h8, hg.add a b c d a' b' c' d' h1 h2 h3 h4 h5 h6 h7 h8, x4]⟩
theorem dbl (hf : Lin4 f) : Lin4 (fun a b c d => Go.Proofs.YthmlcmlpmolmoaaGreatDoor.dbl (f a b c d)) :=
  ⟨fun a b c d h1 h2 h3 h4 => dbl_lt (hf.lt a b c d h1 h2 h3 h4), fun a b c d a' b' c' d' h1 h2 h3 h4 h5 h6 h7 h8 => by
    show Go.Proofs.YthmlcmlpmolmoaaGreatDoor.dbl (f _ _ _ _) = _
    rw [hf.add a b c d a' b' c' d' h1 h2 h3 h4 h5 h6 h7 h8, dbl_lin _ (hf.lt a b c d h1 h2 h3 h4) _ (hf.lt a' b' c' d' h5 h6 h7 h8)]⟩
theorem gm {m : Nat} (hm : m < 256) (hf : Lin4 f) : Lin4 (fun a b c d => Go.Proofs.YthmlcmlpmolmoaaGreatDoor.gm m (f a b c d)) :=
  ⟨fun a b c d _ _ _ _ => gm_lt _ hm, fun a b c d a' b' c' d' h1 h2 h3 h4 h5 h6 h7 h8 => by
    show Go.Proofs.YthmlcmlpmolmoaaGreatDoor.gm m (f _ _ _ _) = _
    rw [hf.add a b c d a' b' c' d' h1 h2 h3 h4 h5 h6 h7 h8, gm_xor2]⟩
theorem mx (hf : Lin4 f) (hg : Lin4 g) (hh : Lin4 h) (hk : Lin4 k) : Lin4 (fun a b c d => Go.Proofs.YthmlcmlpmolmoaaGreatDoor.mx (f a b c d) (g a b c d) (h a b c d) (k a b c d)) :=
  (hf.dbl.xor (hg.dbl.xor hg)).xor (hh.xor hk)
theorem imx (hf : Lin4 f) (hg : Lin4 g) (hh : Lin4 h) (hk : Lin4 k) : Lin4 (fun a b c d => Go.Proofs.YthmlcmlpmolmoaaGreatDoor.imx (f a b c d) (g a b c d) (h a b c d) (k a b c d)) :=
  ((hf.gm (by decide)).xor (hg.gm (by decide))).xor ((hh.gm (by decide)).xor (hk.gm (by decide)))
theorem parts (hf : Lin4 f) {a b c d : Nat} (ha : a < 256) (hb : b < 256) (hc : c < 256) (hd : d < 256) : f a b c d = (f a 0 0 0 ^^^ f 0 b 0 0) ^^^ (f 0 0 c 0 ^^^ f 0 0 0 d) := by
  have z : (0 : Nat) < 256 := by decide
  rw [← hf.add a 0 0 0 0 b 0 0 ha z z z z hb z z, ← hf.add 0 0 c 0 0 0 0 d z z hc z z z z hd, ← hf.add _ _ _ _ _ _ _ _ (xor8 ha z) (xor8 z hb) (xor8 z z) (xor8 z z) (xor8 z z) (xor8 z z) (xor8 hc z) (xor8 z hd)]
  simp
theorem eq (hf : Lin4 f) (hg : Lin4 g) (h1 : ∀ x, x < 256 → f x 0 0 0 = g x 0 0 0) (h2 : ∀ x, x < 256 → f 0 x 0 0 = g 0 x 0 0) (h3 : ∀ x, x < 256 → f 0 0 x 0 = g 0 0 x 0) (h4 : ∀ x, x < 256 → f 0 0 0 x = g 0 0 0 x)
    {a b c d : Nat} (ha : a < 256) (hb : b < 256) (hc : c < 256) (hd : d < 256) : f a b c d = g a b c d := by
  rw [hf.parts ha hb hc hd, hg.parts ha hb hc hd, h1 a ha, h2 b hb, h3 c hc, h4 d hd]
end Lin4
theorem mx_lt {a b c d : Nat} (ha : a < 256) (hb : b < 256) (hc : c < 256) (hd : d < 256) : mx a b c d < 256 := (Lin4.mx .p1 .p2 .p3 .p4).lt a b c d ha hb hc hd
theorem imx_lt {a b c d : Nat} (ha : a < 256) (hb : b < 256) (hc : c < 256) (hd : d < 256) : imx a b c d < 256 := (Lin4.imx .p1 .p2 .p3 .p4).lt a b c d ha hb hc hd
section
variable {a b c d : Nat} (ha : a < 256) (hb : b < 256) (hc : c < 256) (hd : d < 256)
include ha hb hc hd
theorem imx_mx : imx (mx a b c d) (mx b c d a) (mx c d a b) (mx d a b c) = a :=
  Lin4.eq (.imx (.mx .p1 .p2 .p3 .p4) (.mx .p2 .p3 .p4 .p1) (.mx .p3 .p4 .p1 .p2) (.mx .p4 .p1 .p2 .p3)) .p1 (by decide +kernel) (by decide +kernel) (by decide +kernel) (by decide +kernel) ha hb hc hd
theorem mx_imx : mx (imx a b c d) (imx b c d a) (imx c d a b) (imx d a b c) = a :=
  Lin4.eq (.mx (.imx .p1 .p2 .p3 .p4) (.imx .p2 .p3 .p4 .p1) (.imx .p3 .p4 .p1 .p2) (.imx .p4 .p1 .p2 .p3)) .p1 (by decide +kernel) (by decide +kernel) (by decide +kernel) (by decide +kernel) ha hb hc hd
/-- mixed four times is not mixed -/
theorem mx_mx : mx (mx a b c d) (mx b c d a) (mx c d a b) (mx d a b c) = imx (imx a b c d) (imx b c d a) (imx c d a b) (imx d a b c) :=
  Lin4.eq (.mx (.mx .p1 .p2 .p3 .p4) (.mx .p2 .p3 .p4 .p1) (.mx .p3 .p4 .p1 .p2) (.mx .p4 .p1 .p2 .p3)) (.imx (.imx .p1 .p2 .p3 .p4) (.imx .p2 .p3 .p4 .p1) (.imx .p3 .p4 .p1 .p2) (.imx .p4 .p1 .p2 .p3))
    (by decide +kernel) (by decide +kernel) (by decide +kernel) (by decide +kernel) ha hb hc hd
end

/-! ### blocks -/
def mixc (s : Nat → Nat) (i : Nat) : Nat := mx (s (4 * (i / 4) + i % 4)) (s (4 * (i / 4) + (i + 1) % 4)) (s (4 * (i / 4) + (i + 2) % 4)) (s (4 * (i / 4) + (i + 3) % 4))
def imixc (s : Nat → Nat) (i : Nat) : Nat := imx (s (4 * (i / 4) + i % 4)) (s (4 * (i / 4) + (i + 1) % 4)) (s (4 * (i / 4) + (i + 2) % 4)) (s (4 * (i / 4) + (i + 3) % 4))
def subs (t : Nat → Nat) (k : Nat) (s : Nat → Nat) (i : Nat) : Nat := t (s ((i + k * (i % 4)) % 16))
def addk (S : Nat → Nat) (r : Nat) (s : Nat → Nat) (i : Nat) : Nat := s i ^^^ S (16 * r + i)
/-- alike on a block -/
def Eq16 (s t : Nat → Nat) : Prop := ∀ i, i < 16 → s i = t i
variable {s t : Nat → Nat}
theorem Eq16.refl (s : Nat → Nat) : Eq16 s s := fun _ _ => rfl
theorem Eq16.symm (h : Eq16 s t) : Eq16 t s := fun i hi => (h i hi).symm
theorem Eq16.trans {u : Nat → Nat} (h : Eq16 s t) (h' : Eq16 t u) : Eq16 s u := fun i hi => (h i hi).trans (h' i hi)
theorem By.congr (h : By 16 s) (e : Eq16 s t) : By 16 t := fun i hi => e i hi ▸ h i hi
theorem mixc_congr (h : Eq16 s t) : Eq16 (mixc s) (mixc t) := fun i hi => by
  unfold mixc
  rw [h _ (by omega), h (4 * (i / 4) + (i + 1) % 4) (by omega), h (4 * (i / 4) + (i + 2) % 4) (by omega), h (4 * (i / 4) + (i + 3) % 4) (by omega)]
theorem imixc_congr (h : Eq16 s t) : Eq16 (imixc s) (imixc t) := fun i hi => by
  unfold imixc
  rw [h _ (by omega), h (4 * (i / 4) + (i + 1) % 4) (by omega), h (4 * (i / 4) + (i + 2) % 4) (by omega), h (4 * (i / 4) + (i + 3) % 4) (by omega)]
theorem subs_congr (f : Nat → Nat) (k : Nat) (h : Eq16 s t) : Eq16 (subs f k s) (subs f k t) := fun i _ => by unfold subs; rw [h _ (Nat.mod_lt _ (by decide))]
theorem addk_congr (S : Nat → Nat) (r : Nat) (h : Eq16 s t) : Eq16 (addk S r s) (addk S r t) := fun i hi => by unfold addk; rw [h i hi]
theorem mixc_by (h : By 16 s) : By 16 (mixc s) := fun i hi => mx_lt (h _ (by omega)) (h _ (by omega)) (h _ (by omega)) (h _ (by omega))
theorem imixc_by (h : By 16 s) : By 16 (imixc s) := fun i hi => imx_lt (h _ (by omega)) (h _ (by omega)) (h _ (by omega)) (h _ (by omega))
theorem subs_by {f : Nat → Nat} (hf : By 256 f) (k : Nat) (h : By 16 s) : By 16 (subs f k s) := fun i _ => hf _ (h _ (Nat.mod_lt _ (by decide)))
theorem addk_by {S : Nat → Nat} {r : Nat} (hS : By (16 * (r + 1)) S) (h : By 16 s) : By 16 (addk S r s) := fun i hi => xor8 (h i hi) (hS _ (by omega))
theorem box_by : By 256 box := fun _ h => box_lt h
theorem unbox_by : By 256 unbox := fun _ h => unbox_lt h
theorem col_at (s : Nat → Nat) (i j : Nat) : (fun (f : Nat → Nat) (i : Nat) => f (4 * (i / 4) + (i + j) % 4)) s i = s (4 * (i / 4) + (i + j) % 4) := rfl
/-- what a column's function sees at its own places -/
theorem col4 (i : Nat) : ∀ j, j < 4 → ∀ l, 4 * ((4 * (i / 4) + (i + j) % 4) / 4) + (4 * (i / 4) + (i + j) % 4 + l) % 4 = 4 * (i / 4) + (i + j + l) % 4 := fun j _ l => by omega
theorem mixc_at (s : Nat → Nat) (i j : Nat) : mixc s (4 * (i / 4) + (i + j) % 4) = mx (s (4 * (i / 4) + (i + j) % 4)) (s (4 * (i / 4) + (i + j + 1) % 4)) (s (4 * (i / 4) + (i + j + 2) % 4)) (s (4 * (i / 4) + (i + j + 3) % 4)) := by
  unfold mixc
  rw [show 4 * ((4 * (i / 4) + (i + j) % 4) / 4) = 4 * (i / 4) by omega, show (4 * (i / 4) + (i + j) % 4) % 4 = (i + j) % 4 by omega, show (4 * (i / 4) + (i + j) % 4 + 1) % 4 = (i + j + 1) % 4 by omega,
    show (4 * (i / 4) + (i + j) % 4 + 2) % 4 = (i + j + 2) % 4 by omega, show (4 * (i / 4) + (i + j) % 4 + 3) % 4 = (i + j + 3) % 4 by omega]
theorem imixc_at (s : Nat → Nat) (i j : Nat) : imixc s (4 * (i / 4) + (i + j) % 4) = imx (s (4 * (i / 4) + (i + j) % 4)) (s (4 * (i / 4) + (i + j + 1) % 4)) (s (4 * (i / 4) + (i + j + 2) % 4)) (s (4 * (i / 4) + (i + j + 3) % 4)) := by
  unfold imixc
  rw [show 4 * ((4 * (i / 4) + (i + j) % 4) / 4) = 4 * (i / 4) by omega, show (4 * (i / 4) + (i + j) % 4) % 4 = (i + j) % 4 by omega, show (4 * (i / 4) + (i + j) % 4 + 1) % 4 = (i + j + 1) % 4 by omega,
    show (4 * (i / 4) + (i + j) % 4 + 2) % 4 = (i + j + 2) % 4 by omega, show (4 * (i / 4) + (i + j) % 4 + 3) % 4 = (i + j + 3) % 4 by omega]
theorem cyc (i j k : Nat) (s : Nat → Nat) (h : (i + j) % 4 = (i + k) % 4) : s (4 * (i / 4) + (i + j) % 4) = s (4 * (i / 4) + (i + k) % 4) := by rw [h]
/-- one column of a block, from its byte i on -/
theorem four (s : Nat → Nat) (i : Nat) : ∃ a b c d, s (4 * (i / 4) + i % 4) = a ∧ s (4 * (i / 4) + (i + 1) % 4) = b ∧ s (4 * (i / 4) + (i + 2) % 4) = c ∧ s (4 * (i / 4) + (i + 3) % 4) = d ∧
    mixc s (4 * (i / 4) + i % 4) = mx a b c d ∧ mixc s (4 * (i / 4) + (i + 1) % 4) = mx b c d a ∧ mixc s (4 * (i / 4) + (i + 2) % 4) = mx c d a b ∧ mixc s (4 * (i / 4) + (i + 3) % 4) = mx d a b c ∧
    imixc s (4 * (i / 4) + i % 4) = imx a b c d ∧ imixc s (4 * (i / 4) + (i + 1) % 4) = imx b c d a ∧ imixc s (4 * (i / 4) + (i + 2) % 4) = imx c d a b ∧ imixc s (4 * (i / 4) + (i + 3) % 4) = imx d a b c := by
  refine ⟨_, _, _, _, rfl, rfl, rfl, rfl, ?_, ?_, ?_, ?_, ?_, ?_, ?_, ?_⟩
  · exact mixc_at s i 0
  · rw [mixc_at s i 1, show (i + 1 + 1) % 4 = (i + 2) % 4 by omega, show (i + 1 + 2) % 4 = (i + 3) % 4 by omega, show (i + 1 + 3) % 4 = i % 4 by omega]
  · rw [mixc_at s i 2, show (i + 2 + 1) % 4 = (i + 3) % 4 by omega, show (i + 2 + 2) % 4 = i % 4 by omega, show (i + 2 + 3) % 4 = (i + 1) % 4 by omega]
  · rw [mixc_at s i 3, show (i + 3 + 1) % 4 = i % 4 by omega, show (i + 3 + 2) % 4 = (i + 1) % 4 by omega, show (i + 3 + 3) % 4 = (i + 2) % 4 by omega]
  · exact imixc_at s i 0
  · rw [imixc_at s i 1, show (i + 1 + 1) % 4 = (i + 2) % 4 by omega, show (i + 1 + 2) % 4 = (i + 3) % 4 by omega, show (i + 1 + 3) % 4 = i % 4 by omega]
  · rw [imixc_at s i 2, show (i + 2 + 1) % 4 = (i + 3) % 4 by omega, show (i + 2 + 2) % 4 = i % 4 by omega, show (i + 2 + 3) % 4 = (i + 1) % 4 by omega]
  · rw [imixc_at s i 3, show (i + 3 + 1) % 4 = i % 4 by omega, show (i + 3 + 2) % 4 = (i + 1) % 4 by omega, show (i + 3 + 3) % 4 = (i + 2) % 4 by omega]
theorem own_place (i : Nat) : 4 * (i / 4) + i % 4 = i := by omega
theorem imixc_mixc (h : By 16 s) : Eq16 (imixc (mixc s)) s := fun i hi => by
  obtain ⟨a, b, c, d, ea, eb, ec, ed, m1, m2, m3, m4, _⟩ := four s i
  have ha := h (4 * (i / 4) + i % 4) (by omega)
  have hb := h (4 * (i / 4) + (i + 1) % 4) (by omega)
  have hc := h (4 * (i / 4) + (i + 2) % 4) (by omega)
  have hd := h (4 * (i / 4) + (i + 3) % 4) (by omega)
  rw [ea] at ha; rw [eb] at hb; rw [ec] at hc; rw [ed] at hd
  unfold imixc
  rw [m1, m2, m3, m4, imx_mx ha hb hc hd, ← ea, own_place]
theorem mixc_imixc (h : By 16 s) : Eq16 (mixc (imixc s)) s := fun i hi => by
  obtain ⟨a, b, c, d, ea, eb, ec, ed, _, _, _, _, m1, m2, m3, m4⟩ := four s i
  have ha := h (4 * (i / 4) + i % 4) (by omega)
  have hb := h (4 * (i / 4) + (i + 1) % 4) (by omega)
  have hc := h (4 * (i / 4) + (i + 2) % 4) (by omega)
  have hd := h (4 * (i / 4) + (i + 3) % 4) (by omega)
  rw [ea] at ha; rw [eb] at hb; rw [ec] at hc; rw [ed] at hd
  unfold mixc
  rw [m1, m2, m3, m4, mx_imx ha hb hc hd, ← ea, own_place]
theorem mixc_two (h : By 16 s) : Eq16 (mixc (mixc s)) (imixc (imixc s)) := fun i hi => by
  obtain ⟨a, b, c, d, ea, eb, ec, ed, m1, m2, m3, m4, n1, n2, n3, n4⟩ := four s i
  have ha := h (4 * (i / 4) + i % 4) (by omega)
  have hb := h (4 * (i / 4) + (i + 1) % 4) (by omega)
  have hc := h (4 * (i / 4) + (i + 2) % 4) (by omega)
  have hd := h (4 * (i / 4) + (i + 3) % 4) (by omega)
  rw [ea] at ha; rw [eb] at hb; rw [ec] at hc; rw [ed] at hd
  have e1 : mixc (mixc s) i = mx (mx a b c d) (mx b c d a) (mx c d a b) (mx d a b c) := by
    show mx _ _ _ _ = _
    rw [m1, m2, m3, m4]
  have e2 : imixc (imixc s) i = imx (imx a b c d) (imx b c d a) (imx c d a b) (imx d a b c) := by
    show imx _ _ _ _ = _
    rw [n1, n2, n3, n4]
  rw [e1, e2, mx_mx ha hb hc hd]
/-- three times mixed is unmixed -/
theorem mixc_three (h : By 16 s) : Eq16 (mixc (mixc (mixc s))) (imixc s) :=
  (mixc_congr (mixc_two h)).trans (mixc_imixc (imixc_by h))
theorem subs_back {f g : Nat → Nat} {k l : Nat} (hfg : ∀ x, x < 256 → f (g x) = x) (hkl : ∀ i, i < 16 → ((i + k * (i % 4)) % 16 + l * ((i + k * (i % 4)) % 16 % 4)) % 16 = i) (h : By 16 s) : Eq16 (subs f k (subs g l s)) s := fun i hi => by
  unfold subs
  rw [hkl i hi, hfg _ (h i hi)]
theorem unsub_sub (h : By 16 s) : Eq16 (subs unbox 12 (subs box 4 s)) s := subs_back (fun _ h => unbox_box h) (by decide) h
theorem sub_unsub (h : By 16 s) : Eq16 (subs box 4 (subs unbox 12 s)) s := subs_back (fun _ h => box_unbox h) (by decide) h
theorem addk_addk (S : Nat → Nat) (r : Nat) (s : Nat → Nat) : Eq16 (addk S r (addk S r s)) s := fun i _ => by
  unfold addk
  rw [Nat.xor_assoc, Nat.xor_self, Nat.xor_zero]

/-! ### there and back -/
def est (n : Nat) (S b : Nat → Nat) : Nat → Nat → Nat
  | 0 => addk S 0 b
  | r + 1 => addk S (r + 1) (if r + 1 < n + 6 then mixc (subs box 4 (est n S b r)) else subs box 4 (est n S b r))
def enc (n : Nat) (S b : Nat → Nat) : Nat → Nat := est n S b (n + 6)
def dst (n : Nat) (S b : Nat → Nat) : Nat → Nat → Nat
  | 0 => b
  | k + 1 => subs unbox 12 (if 0 < k then imixc (addk S (n + 6 - k) (dst n S b k)) else addk S (n + 6 - k) (dst n S b k))
def dec (n : Nat) (S b : Nat → Nat) : Nat → Nat := addk S 0 (dst n S b (n + 6))
variable {n : Nat} {S b : Nat → Nat}
theorem est_by (hS : By (16 * (n + 7)) S) (hb : By 16 b) : ∀ r, r ≤ n + 6 → By 16 (est n S b r)
  | 0, _ => addk_by (fun i hi => hS i (by omega)) hb
  | r + 1, hr => by
    have ih := subs_by box_by 4 (est_by hS hb r (by omega))
    refine addk_by (fun i hi => hS i (by omega)) ?_
    split
    · exact mixc_by ih
    · exact ih
theorem dst_by (hS : By (16 * (n + 7)) S) (hb : By 16 b) : ∀ k, k ≤ n + 6 → By 16 (dst n S b k)
  | 0, _ => hb
  | k + 1, hk => by
    have ih := addk_by (S := S) (r := n + 6 - k) (fun i hi => hS i (by omega)) (dst_by hS hb k (by omega))
    refine subs_by unbox_by 12 ?_
    split
    · exact imixc_by ih
    · exact ih
theorem enc_by (hS : By (16 * (n + 7)) S) (hb : By 16 b) : By 16 (enc n S b) := est_by hS hb _ (Nat.le_refl _)
theorem dec_by (hS : By (16 * (n + 7)) S) (hb : By 16 b) : By 16 (dec n S b) := addk_by (fun i hi => hS i (by omega)) (dst_by hS hb _ (Nat.le_refl _))
theorem dst_enc (hS : By (16 * (n + 7)) S) (hb : By 16 b) : ∀ k, k ≤ n + 6 → Eq16 (dst n S (enc n S b) k) (est n S b (n + 6 - k))
  | 0, _ => Eq16.refl _
  | k + 1, hk => by
    have ih := dst_enc hS hb k (by omega)
    obtain ⟨r, hr⟩ : ∃ r, n + 6 - k = r + 1 := ⟨n + 6 - (k + 1), by omega⟩
    have e1 : Eq16 (addk S (n + 6 - k) (dst n S (enc n S b) k)) (if 0 < k then mixc (subs box 4 (est n S b r)) else subs box 4 (est n S b r)) := by
      refine (addk_congr S _ ih).trans ?_
      rw [hr]
      show Eq16 (addk S (r + 1) (addk S (r + 1) _)) _
      refine (addk_addk _ _ _).trans ?_
      by_cases h0 : 0 < k
      · rw [if_pos h0, if_pos (by omega)]; exact Eq16.refl _
      · rw [if_neg h0, if_neg (by omega)]; exact Eq16.refl _
    have hby := est_by hS hb r (by omega)
    have hsb := subs_by box_by 4 hby
    rw [show n + 6 - (k + 1) = r by omega]
    show Eq16 (subs unbox 12 (if 0 < k then imixc (addk S (n + 6 - k) (dst n S (enc n S b) k)) else addk S (n + 6 - k) (dst n S (enc n S b) k))) _
    by_cases h0 : 0 < k
    · rw [if_pos h0]
      rw [if_pos h0] at e1
      exact (subs_congr unbox 12 ((imixc_congr e1).trans (imixc_mixc hsb))).trans (unsub_sub hby)
    · rw [if_neg h0]
      rw [if_neg h0] at e1
      exact (subs_congr unbox 12 e1).trans (unsub_sub hby)
/-- what was encrypted is decrypted -/
theorem dec_enc (hS : By (16 * (n + 7)) S) (hb : By 16 b) : Eq16 (dec n S (enc n S b)) b := by
  have h := dst_enc hS hb (n + 6) (Nat.le_refl _)
  rw [Nat.sub_self] at h
  exact (addk_congr S 0 h).trans (addk_addk S 0 b)
theorem est_dec (hS : By (16 * (n + 7)) S) (hb : By 16 b) : ∀ r, r ≤ n + 6 → Eq16 (est n S (dec n S b) r) (dst n S b (n + 6 - r))
  | 0, _ => addk_addk S 0 _
  | r + 1, hr => by
    have ih := est_dec hS hb r (by omega)
    obtain ⟨k, hk⟩ : ∃ k, n + 6 - r = k + 1 := ⟨n + 6 - (r + 1), by omega⟩
    have hrk : n + 6 - k = r + 1 := by omega
    have hby := addk_by (S := S) (r := r + 1) (fun i hi => hS i (by omega)) (dst_by hS hb k (by omega))
    rw [show n + 6 - (r + 1) = k by omega]
    rw [hk] at ih
    have ih2 : Eq16 (est n S (dec n S b) r) (subs unbox 12 (if 0 < k then imixc (addk S (r + 1) (dst n S b k)) else addk S (r + 1) (dst n S b k))) := by
      refine ih.trans ?_
      show Eq16 (subs unbox 12 (if 0 < k then imixc (addk S (n + 6 - k) (dst n S b k)) else addk S (n + 6 - k) (dst n S b k))) _
      rw [hrk]; exact Eq16.refl _
    refine Eq16.trans (t := addk S (r + 1) (addk S (r + 1) (dst n S b k))) ?_ (addk_addk _ _ _)
    refine addk_congr S (r + 1) ?_
    by_cases h0 : 0 < k
    · rw [if_pos h0] at ih2
      rw [if_pos (by omega)]
      exact (mixc_congr ((subs_congr box 4 ih2).trans (sub_unsub (imixc_by hby)))).trans (mixc_imixc hby)
    · rw [if_neg h0] at ih2
      rw [if_neg (by omega)]
      exact (subs_congr box 4 ih2).trans (sub_unsub hby)
/-- and the other way round -/
theorem enc_dec (hS : By (16 * (n + 7)) S) (hb : By 16 b) : Eq16 (enc n S (dec n S b)) b := by
  have h := est_dec hS hb (n + 6) (Nat.le_refl _)
  rw [Nat.sub_self] at h
  exact h
theorem est_congr {c : Nat → Nat} (h : Eq16 b c) : ∀ r, Eq16 (est n S b r) (est n S c r)
  | 0 => addk_congr S 0 h
  | r + 1 => by
    have ih := subs_congr box 4 (est_congr h r)
    refine addk_congr S (r + 1) ?_
    split
    · exact mixc_congr ih
    · exact ih
theorem dst_congr {c : Nat → Nat} (h : Eq16 b c) : ∀ k, Eq16 (dst n S b k) (dst n S c k)
  | 0 => h
  | k + 1 => by
    have ih := addk_congr S (n + 6 - k) (dst_congr h k)
    refine subs_congr unbox 12 ?_
    split
    · exact imixc_congr ih
    · exact ih
theorem enc_congr {c : Nat → Nat} (h : Eq16 b c) : Eq16 (enc n S b) (enc n S c) := est_congr h _
theorem dec_congr {c : Nat → Nat} (h : Eq16 b c) : Eq16 (dec n S b) (dec n S c) := addk_congr S 0 (dst_congr h _)
theorem enc_inj {c : Nat → Nat} (hS : By (16 * (n + 7)) S) (hb : By 16 b) (hc : By 16 c) (h : Eq16 (enc n S b) (enc n S c)) : Eq16 b c :=
  ((dec_enc hS hb).symm.trans (dec_congr h)).trans (dec_enc hS hc)

/-! ### round keys -/
def kt (n : Nat) (S : Nat → Nat) (i j : Nat) : Nat :=
  if i % n = 0 then box (S (4 * (i - 1) + (j + 1) % 4)) ^^^ (if j = 0 then gpow 2 (i / n - 1) else 0)
  else if n = 8 ∧ i % 8 = 4 then box (S (4 * (i - 1) + j)) else S (4 * (i - 1) + j)
def nxt (n : Nat) (S : Nat → Nat) (i j : Nat) : Nat := S (4 * (i - n) + j) ^^^ kt n S i j
/-- the schedule behind k words that were made -/
def sch (n : Nat) (key : Nat → Nat) : Nat → Nat → Nat
  | 0 => fun x => if x < 4 * n then key x else 0
  | k + 1 => fun x => if x / 4 = n + k then nxt n (sch n key k) (n + k) (x % 4) else sch n key k x
def ks (n : Nat) (key : Nat → Nat) : Nat → Nat := sch n key (3 * n + 28)
theorem nxt_by {i j : Nat} (hn : 0 < n) (hi : n ≤ i) (hj : j < 4) (h : By (4 * i) S) : nxt n S i j < 256 := by
  unfold nxt kt
  refine xor8 (h _ (by omega)) ?_
  split
  · refine xor8 (box_lt (h _ (by omega))) ?_
    split
    · exact gpow_lt (by decide) _
    · decide
  · split
    · exact box_lt (h _ (by omega))
    · exact h _ (by omega)
theorem sch_by {key : Nat → Nat} (hn : 0 < n) (hk : By (4 * n) key) : ∀ k x, sch n key k x < 256
  | 0, x => by
    show (if x < 4 * n then key x else 0) < 256
    split
    · exact hk x ‹_›
    · decide
  | k + 1, x => by
    show (if x / 4 = n + k then nxt n (sch n key k) (n + k) (x % 4) else sch n key k x) < 256
    split
    · exact nxt_by hn (by omega) (by omega) fun i _ => sch_by hn hk k i
    · exact sch_by hn hk k x
theorem ks_by {key : Nat → Nat} (hn : 0 < n) (hk : By (4 * n) key) (x : Nat) : ks n key x < 256 := sch_by hn hk _ x
/-- what was made stays -/
theorem sch_stay {key : Nat → Nat} (k : Nat) : ∀ m x, x / 4 < n + k → sch n key (k + m) x = sch n key k x
  | 0, _, _ => rfl
  | m + 1, x, hx => by
    show (if x / 4 = n + (k + m) then _ else sch n key (k + m) x) = _
    rw [if_neg (by omega), sch_stay k m x hx]
theorem ks_key {key : Nat → Nat} {x : Nat} (hx : x < 4 * n) : ks n key x = key x := by
  unfold ks
  rw [← Nat.zero_add (3 * n + 28), sch_stay 0 _ x (by omega)]
  show (if x < 4 * n then key x else 0) = _
  rw [if_pos hx]
theorem kt_congr {T : Nat → Nat} {i j : Nat} (hn : 0 < n) (hi : n ≤ i) (hj : j < 4) (h : ∀ x, x < 4 * i → S x = T x) : kt n S i j = kt n T i j := by
  unfold kt
  rw [h _ (by omega), h (4 * (i - 1) + j) (by omega)]
theorem nxt_congr {T : Nat → Nat} {i j : Nat} (hn : 0 < n) (hi : n ≤ i) (hj : j < 4) (h : ∀ x, x < 4 * i → S x = T x) : nxt n S i j = nxt n T i j := by
  unfold nxt
  rw [kt_congr hn hi hj h, h _ (by omega)]
/-- the round keys say each other -/
theorem ks_next {key : Nat → Nat} {i j : Nat} (hn : 0 < n) (hi : n ≤ i) (hi2 : i < 4 * (n + 7)) (hj : j < 4) : ks n key (4 * i + j) = nxt n (ks n key) i j := by
  obtain ⟨k, rfl⟩ : ∃ k, i = n + k := ⟨i - n, by omega⟩
  obtain ⟨m, hm⟩ : ∃ m, 3 * n + 28 = k + 1 + m := ⟨3 * n + 28 - (k + 1), by omega⟩
  have e1 : ks n key (4 * (n + k) + j) = nxt n (sch n key k) (n + k) j := by
    unfold ks
    rw [hm, sch_stay (k + 1) m _ (by omega)]
    show (if (4 * (n + k) + j) / 4 = n + k then nxt n (sch n key k) (n + k) ((4 * (n + k) + j) % 4) else _) = _
    rw [if_pos (by omega), show (4 * (n + k) + j) % 4 = j by omega]
  rw [e1]
  refine nxt_congr hn hi hj fun x hx => ?_
  unfold ks
  rw [show 3 * n + 28 = k + (3 * n + 28 - k) by omega, sch_stay k _ x (by omega)]
theorem sch_congr {key key' : Nat → Nat} (hn : 0 < n) (h : ∀ x, x < 4 * n → key x = key' x) : ∀ k x, sch n key k x = sch n key' k x
  | 0, x => by
    show (if x < 4 * n then key x else 0) = (if x < 4 * n then key' x else 0)
    split
    · exact h x ‹_›
    · rfl
  | k + 1, x => by
    show (if x / 4 = n + k then nxt n (sch n key k) (n + k) (x % 4) else sch n key k x) = (if x / 4 = n + k then nxt n (sch n key' k) (n + k) (x % 4) else sch n key' k x)
    rw [sch_congr hn h k x, nxt_congr hn (Nat.le_add_right n k) (Nat.mod_lt x (by decide)) fun y _ => sch_congr hn h k y]
theorem ks_congr {key key' : Nat → Nat} (hn : 0 < n) (h : ∀ x, x < 4 * n → key x = key' x) (x : Nat) : ks n key x = ks n key' x := sch_congr hn h _ x
end Go.Proofs.YthmlcmlpmolmoaaGreatDoor
