/- 13 texts in one, in their order. -/
import Derived.Test.YtengejmkpkacgaaDoorRows
import Derived.WalkKit
import Derived.ProofKit
import Derived.OpenShut
import Derived.Deep.DeepHandedRow
import Derived.Lib.LaidTab
import Derived.Below
import Derived.SizedLaws
import Derived.WalkSpells
import Derived.WalkLawsBesides
import Derived.Lib.Hide
import Derived.Deep.QuietTactic
import Derived.BigQuiet
import Derived.Deep.OwnRows
import Derived.OwnWalk
import Derived.StillTailTactics
import Derived.Deep.RegionLaw
import Derived.Deep.RegionWith
import Derived.Laws.AppendOwnNone
import Derived.Laws.CopyOwn
import Derived.Lib.SmallJoins
import Derived.Deep.MidRow
import Derived.Conc.MuLone
import Derived.Laws.NewBlocks
import Derived.Deep.WholeRow
import Derived.RegionCalls
/- From a law's walk to its row: a law of plain data that answers true and leaves below the heap's old end all as it was. Nothing here hangs on the program. -/
namespace Go.Proofs.YtengejmkpkacgaaDoor.kit
open Go.ChangeShapes Go.WideShapes Go.ChangeAt Go.RowKit

section
variable {H : Type} {enc : TypeId × Value → H} {P : Program} {W W' : World}

/-- a list of readings stays in a world that keeps the places -/
theorem all_stay (hl : laidOutB P = true) {sp : Nat → Bool} :
    ∀ (ts : List TypeId) (vs : List Value) (ds : List (DataW H)) (ps : List MemPlace), (∀ t ∈ ts, P.readableRec t = true ∧ t < P.types.size) →
      DataW.TrodAll enc P W 0 (fun _ => true) true ts vs ds ps → (∀ p ∈ ps, W.sameAt W' p) → (∀ p ∈ ps, sp p.block = true) → DataW.TrodAll enc P W' 0 sp true ts vs ds ps
  | [], [], [], _, _, h, _, _ => h
  | t :: ts, v :: vs, d :: ds, ps, hr, h, hs, hp => by
    obtain ⟨p, q, h1, h2, rfl⟩ := h
    have ht := hr t (List.mem_cons_self ..)
    exact ⟨p, q, WideElems.Trod_stays hl ht.1 ht.2 h1 (fun x hx => hs x (List.mem_append_left _ hx)) (fun x hx => hp x (List.mem_append_left _ hx)),
      all_stay hl ts vs ds q (fun t' h' => hr t' (List.mem_cons_of_mem _ h')) h2 (fun x hx => hs x (List.mem_append_right _ hx)) (fun x hx => hp x (List.mem_append_right _ hx)), rfl⟩
  | [], _ :: _, _, _, _, h, _, _ => h.elim
  | [], [], _ :: _, _, _, h, _, _ => h.elim
  | _ :: _, [], _, _, _, h, _, _ => h.elim
  | _ :: _, _ :: _, [], _, _, h, _, _ => h.elim

/-- what a law's row asks behind the call -/
theorem law_post {f : Func} {s : ChangeSpec} {fresh handsOn again : Bool} {args : Array Value} {ds gs : List (DataW H)} {before : List MemPlace} {tb : TypeId}
    (hrt : f.resultTypes = #[tb]) (hb : P.underlying tb = some .bool) (hv : s.vars = []) (hs : s.fn H (ds ++ gs) = { results := [.lit (.bool true)], args := ds })
    (hl : laidOutB P = true) (hr : ∀ t ∈ f.params.toList, P.readableRec t = true ∧ t < P.types.size)
    (hW : DataW.Whole enc P f.params.toList s.vars false W args.toList ds gs before) (hB : Below W.heap.size W W') :
    s.post enc P f false fresh handsOn again W args (.bool true) W' := by
  have hlt : ∀ p ∈ before, p.block < W.heap.size := fun p hp => hW.lt p hp
  have hW0 := hW
  obtain ⟨p, q, hA, hV, hpq, hz, _⟩ := hW
  rw [hv] at hV
  obtain ⟨rfl, rfl⟩ := trodVars_none hV
  obtain rfl : before = p := by rw [hpq, List.append_nil]
  have hsame : ∀ x ∈ before, W.sameAt W' x := fun x hx => hB.same (hlt x hx)
  have hres : ∀ (b : Nat) (sp : Nat → Bool) (hd : Bool), DataW.TrodAll enc P W' b sp hd f.resultTypes.toList ((Value.bool true).resultList f.resultTypes.size) (s.fn H (ds ++ [])).results [] := by
    intro b sp hd
    rw [hs, hrt]
    exact ⟨[], [], ⟨1, by simp [DataW.trod, hb, Value.cells]⟩, rfl, rfl⟩
  have hargs : ∀ sp : Nat → Bool, (∀ x ∈ before, sp x.block = true) → DataW.TrodAll enc P W' 0 sp true f.params.toList args.toList (s.fn H (ds ++ [])).args before := by
    intro sp hsp
    rw [hs]
    exact all_stay hl _ _ _ _ hr hA hsame hsp
  have hvars : ∀ sp : Nat → Bool, DataW.TrodVars enc P W' sp s.vars (s.fn H (ds ++ [])).vars [] := by
    intro sp
    rw [hv, hs]
    rfl
  refine ⟨ds, [], before, [], before, [], hW0, hres _ _ _, hargs _ (fun x hx => by simpa using hlt x hx), hvars _, World.keptBut_mono (fun x hx => ⟨hx, Or.inr (Or.inl hx)⟩) (hB.frame (· ∈ before)), fun _ => ?_⟩
  have hall := trodAll_append (hargs (fun _ => true) (fun _ _ => rfl)) (hres 0 (fun _ => true) true)
  refine ⟨ok_one hrt rfl (okWide_bool_mk hb true), _, _, _, ⟨_, [], hall, hvars _, rfl, ?_, fun h => by cases h⟩, fun x hx _ => by simpa using hx⟩
  intro b off hx
  have hx' : MemPlace.cell b off ∈ before := by simpa using hx
  rw [hB.frozen (hlt _ hx')]
  exact hz b off hx'
end
end Go.Proofs.YtengejmkpkacgaaDoor.kit
/- Small facts over a seat that many contracts use. -/
namespace Go.Proofs.YtengejmkpkacgaaDoor
open Go.RowKit

/-- a byte, by its number: closed to the walk -/
def chr (n : Nat) : UInt8 := UInt8.ofNat n

theorem chr_toNat (n : Nat) (h : n < 256) : (chr n).toNat = n := by unfold chr; rw [UInt8.toNat_ofNat']; omega

theorem conv1 (x : Int) (w : World) : (convert 22 9 (.slice (some ⟨w.heap.size, 0, none⟩) 1 1)).run Tryd.prog (w.alloc (.cells #[.int .u8 x] 5)) =
    .ok (.string ⟨#[chr x.toNat]⟩) (w.alloc (.cells #[.int .u8 x] 5)) :=
  run_convert_bytes_arg _ _ _ Tryd.underlying22 Tryd.underlying5 _ 0 1 1 [x] rfl (fun i hi => by
    obtain rfl : i = 0 := by omega
    exact (World.cell?_alloc_at _ _ _ _ rfl).trans rfl) _ Tryd.underlying9

theorem conv2 (x y : Int) (w : World) : (convert 22 9 (.slice (some ⟨w.heap.size, 0, none⟩) 2 2)).run Tryd.prog (w.alloc (.cells #[.int .u8 x, .int .u8 y] 5)) =
    .ok (.string ⟨#[chr x.toNat, chr y.toNat]⟩) (w.alloc (.cells #[.int .u8 x, .int .u8 y] 5)) :=
  run_convert_bytes_arg _ _ _ Tryd.underlying22 Tryd.underlying5 _ 0 2 2 [x, y] rfl (fun i hi => by
    rcases (show i = 0 ∨ i = 1 by omega) with rfl | rfl
    · exact (World.cell?_alloc_at _ _ _ _ rfl).trans rfl
    · exact (World.cell?_alloc_at _ _ _ _ rfl).trans rfl) _ Tryd.underlying9

theorem info8 : (Tryd.prog.info? 5).map (fun i => (i.zero, i.size, i.bytes)) = some (some (.int .u8 0), 1, 1) := by kernel_rfl

theorem mk8 (n : Nat) (h : n ≤ 281474976710656) (w : World) :
    (Instr.makeSlice 22 (.int .i64 (n : Int)) (.int .i64 (n : Int))).run Tryd.prog w = .ok (.slice (some ⟨w.heap.size, 0, none⟩) n n) (w.alloc (.cells (madeCells #[.int .u8 0] n) 5)) :=
  run_make_row' _ _ _ 1 Tryd.underlying22 info8 rfl _ _ n (by omega) (by omega) w

/-- a text of n bytes -/
def strOf (n : Nat) (b : Nat → Nat) : ByteArray := ⟨((List.range n).map fun i => chr (b i)).toArray⟩

theorem strOf_list (n : Nat) (b : Nat → Nat) : (strOf n b).data.toList = (List.range n).map fun i => chr (b i) := rfl

theorem strOf_size (n : Nat) (b : Nat → Nat) : (strOf n b).size = n := by
  show ((List.range n).map fun i => chr (b i)).toArray.size = n
  simp

theorem strOf_congr (n : Nat) (b c : Nat → Nat) (h : ∀ i, i < n → b i = c i) : strOf n b = strOf n c := by
  unfold strOf
  rw [List.map_congr_left fun i hi => by rw [h i (List.mem_range.1 hi)]]

theorem convRow {w : World} {g n cap : Nat} {f : Nat → Value} (h : w.rowIs g 5 cap f) (b : Nat → Nat) (hn : n ≤ cap) (hf : ∀ i, i < n → f i = .int .u8 (b i : Nat)) :
    (convert 22 9 (.slice (some ⟨g, 0, none⟩) n cap)).run Tryd.prog w = .ok (.string (strOf n b)) w := by
  have := run_convert_bytes_arg w _ _ Tryd.underlying22 Tryd.underlying5 g 0 n cap ((List.range n).map fun i => ((b i : Nat) : Int)) (by simp) (fun i hi => by
    rw [Nat.zero_add, h.cell (by omega), hf i hi]
    simp [hi]) _ Tryd.underlying9
  refine this.trans ?_
  refine congrArg (fun s => Result.ok (Value.string s) w) ?_
  unfold strOfNums strOf
  rw [List.map_map]
  rfl

theorem ret_int {k : IntKind} {a b : Int} (h : a = b) : Ending.returned (.int k a) = .returned (.int k b) := by rw [h]

theorem drawn_more {w w' : World} (h : ∃ n, w' = w.drewN n) (m : Nat) : ∃ n, w'.drewN m = w.drewN n := by
  obtain ⟨n, rfl⟩ := h; exact ⟨n + m, by rw [World.drewN_drewN]⟩

theorem quiet_add_same {P : Program} {f : FuncId} {args : Array Value} {w : World} {a n : Nat} {v : Value}
    (h : Calls P f args (w.drewN (a + n)) fun e w' => e = .returned v ∧ w' = w.drewN (a + n)) :
    Calls P f args (w.drewN (a + n)) fun e w'' => e = .returned v ∧ ∃ m, w'' = w.drewN (a + m) :=
  h.mono fun _ _ ⟨he, hm⟩ => ⟨he, n, hm⟩

theorem same_flip {P : Program} {f : FuncId} {args : Array Value} {w : World} {R : Ending → Prop} (h : Calls P f args w fun e w' => R e ∧ w = w') : Calls P f args w fun e w' => R e ∧ w' = w :=
  h.mono fun _ _ ⟨a, b⟩ => ⟨a, b.symm⟩

theorem ret_two {a b : Int} {v : Value} (h : a = b) : Ending.returned (.tuple #[.int .i64 a, v]) = .returned (.tuple #[.int .i64 b, v]) := by rw [h]

theorem toList_of_size {s : ByteArray} (h : 0 < s.size) : s.toList.isEmpty = false := by
  rw [ByteArray.toList_eq]
  have : s.data.toList.length = s.size := Array.length_toList
  cases hl : s.data.toList with
  | nil => rw [hl] at this; simp at this; omega
  | cons _ _ => rfl

theorem ret_sv {a b : ByteArray} {x y : Int} (h : a = b) (h' : x = y) : Ending.returned (.tuple #[.string a, .int .i64 x]) = .returned (.tuple #[.string b, .int .i64 y]) := by rw [h, h']

/-- append of one byte to a row of the call's own -/
theorem wpList_app8 {ops : Array Oper} {rest : List Oper} {o : Oper} {a : Act} {Q : Exit → Act → World → Prop} {w : World} (hgd : o.guard = none) (s x : Operand)
    (ho : o.op = .call { callee := .builtin .append, args := #[s, x], argTypes := #[22, 22] })
    (base : Nat) (v : Value) (n : Nat) (xs : List Value) (hs : a.eval s = v) (hown : w.ownsRow base 5 1 v n xs)
    (g : Nat) (y : Int) (hx : a.eval x = .slice (some ⟨g, 0, none⟩) 1 1) (hc : w.cell? ⟨g, 0, none⟩ = some (.int .u8 y)) (hn : n ≤ 1000000000000) (hbase : base ≤ w.heap.size)
    (h : ∀ v' w', w'.ownsRow base 5 1 v' (n + 1) (xs ++ [.int .u8 y]) → Below base w w' → wpList Tryd.prog ops Q rest (a.put o.dst v') w') : wpList Tryd.prog ops Q (o :: rest) a w := by
  obtain ⟨i, hi, hz, hsz, hb⟩ := info_parts info8
  refine wpList_append_own w hgd s x 22 ho base 5 i (.int .u8 0) 1 1 Tryd.underlying22 hi hz hsz hb rfl (by decide) v n xs hs hown ⟨g, 0, none⟩ 1 1 [.int .u8 y] hx rfl ?_ ?_ (by unfold maxLen; omega) (by omega) hbase ?_
  · intro j u hj
    match j, hj with
    | 0, hj => simp at hj; subst hj; exact hc
  · intro u hu; simp at hu; subst hu; rfl
  · intro v' w' h1 h2 _
    exact h v' w' h1 ((Below.refl base w).grown h2 hbase fun k hk => (hown.lt k hk).1)

theorem step_app8 {ops : Array Oper} {o : Oper} {a : Act} {w : World} {K : Act → World → Prop} {Q : Exit → Act → World → Prop} {E : Prop} (hgd : o.guard = none) (s x : Operand)
    (ho : o.op = .call { callee := .builtin .append, args := #[s, x], argTypes := #[22, 22] })
    (base : Nat) (v : Value) (n : Nat) (xs : List Value) (hs : a.eval s = v) (hown : w.ownsRow base 5 1 v n xs)
    (g : Nat) (y : Int) (hx : a.eval x = .slice (some ⟨g, 0, none⟩) 1 1) (hc : w.cell? ⟨g, 0, none⟩ = some (.int .u8 y)) (hn : n ≤ 1000000000000) (hbase : base ≤ w.heap.size)
    (h : ∀ v' w', w'.ownsRow base 5 1 v' (n + 1) (xs ++ [.int .u8 y]) → Below base w w' → K (a.put o.dst v') w') :
    if Region.wanted o (yielded ops a.tmps) = true then Oper.wp Tryd.prog o a w K Q else E := by
  have hw : Region.wanted o (yielded ops a.tmps) = true := by simp [Region.wanted, hgd]
  rw [if_pos hw]
  obtain ⟨i, hi, hz, hsz, hb⟩ := info_parts info8
  refine wp_append_own w s x 22 ho base 5 i (.int .u8 0) 1 1 Tryd.underlying22 hi hz hsz hb rfl (by decide) v n xs hs hown ⟨g, 0, none⟩ 1 1 [.int .u8 y] hx rfl ?_ ?_ (by unfold maxLen; omega) (by omega) hbase ?_
  · intro j u hj
    match j, hj with
    | 0, hj => simp at hj; subst hj; exact hc
  · intro u hu; simp at hu; subst hu; rfl
  · intro v' w' h1 h2 _
    exact h v' w' h1 ((Below.refl base w).grown h2 hbase fun k hk => (hown.lt k hk).1)

theorem own_snoc {w : World} {base : Nat} {e : TypeId} {v : Value} {j : Nat} {f : Nat → Value} {y : Value} (h : w.ownsRow base e 1 v (j + 1) ((List.range j).map f ++ [y])) (hy : y = f j) :
    w.ownsRow base e 1 v (j + 1) ((List.range (j + 1)).map f) := by
  rw [List.range_succ, List.map_append]; subst hy; exact h

theorem block_lt {w : World} {a : Addr} {v : Value} (h : w.cell? a = some v) : a.block < w.heap.size := by
  rcases Nat.lt_or_ge a.block w.heap.size with hlt | hge
  · exact hlt
  · simp [World.cell?, Array.getElem?_eq_none hge] at h

theorem drawn {B : Nat} {a w : World} (h : Below B a w) (n : Nat) : Below B a (w.drewN n) := ⟨h.os, h.tape, h.output, h.size, h.block⟩
end Go.Proofs.YtengejmkpkacgaaDoor
/- A row of bytes whose first n cells are known and not frozen, whatever stands behind them. -/
namespace Go.Proofs.YtengejmkpkacgaaDoor
open Go.RowKit

def RowX (w : World) (b : Nat) (t : TypeId) (n : Nat) (f : Nat → Value) : Prop :=
  ∃ (c : Array Value) (fr : Nat × Nat), w.heap[b]? = some (.cells c t fr) ∧ n ≤ c.size ∧ (fr.2 = 0 ∨ c.size ≤ fr.1) ∧ ∀ i, i < n → c[i]? = some (f i)
namespace RowX
variable {w w' : World} {b : Nat} {t : TypeId} {n : Nat} {f g : Nat → Value}
theorem of_rowIs (h : w.rowIs b t n f) : RowX w b t n f := by
  obtain ⟨c, h1, h2, h3⟩ := h
  exact ⟨c, (0, 0), h1, by omega, Or.inl rfl, h3⟩
theorem cell (h : RowX w b t n f) {i : Nat} (hi : i < n) : w.cell? ⟨b, i, none⟩ = some (f i) := by
  obtain ⟨c, fr, hb, _, _, hc⟩ := h
  simp [World.cell?, hb, hc i hi]
theorem frozen (h : RowX w b t n f) {i : Nat} (hi : i < n) : w.frozen? ⟨b, i, none⟩ = false := by
  obtain ⟨c, ⟨lo, hh⟩, hb, hn, hf, _⟩ := h
  simp only [World.frozen?, hb]
  rcases hf with hf | hf
  · simp only at hf; subst hf; simp
  · simp only at hf
    have : ¬ lo ≤ i := by omega
    simp [this]
theorem lt (h : RowX w b t n f) : b < w.heap.size := by
  obtain ⟨c, fr, hb, _⟩ := h
  obtain ⟨hlt, _⟩ := Array.getElem?_eq_some_iff.1 hb
  exact hlt
theorem congr (h : RowX w b t n f) (e : ∀ i, i < n → f i = g i) : RowX w b t n g := by
  obtain ⟨c, fr, hb, hn, hf, hc⟩ := h
  exact ⟨c, fr, hb, hn, hf, fun i hi => by rw [hc i hi, e i hi]⟩
theorem of_block (h : RowX w b t n f) (e : w'.heap[b]? = w.heap[b]?) : RowX w' b t n f := by
  obtain ⟨c, fr, hb, r⟩ := h
  exact ⟨c, fr, e.trans hb, r⟩
theorem drewN (h : RowX w b t n f) (k : Nat) : RowX (w.drewN k) b t n f := h
theorem drew (h : RowX w b t n f) : RowX w.drew b t n f := h
theorem alloc (h : RowX w b t n f) (o : Obj) : RowX (w.alloc o) b t n f := h.of_block (Below.heap_alloc w o b h.lt)
theorem below (h : RowX w b t n f) {B : Nat} (hb : Below B w w') (hB : b < B) : RowX w' b t n f := h.of_block (hb.block b hB)
theorem keep (h : RowX w b t n f) (hb : Below w.heap.size w w') : RowX w' b t n f := h.below hb h.lt
theorem set (h : RowX w b t n f) (i : Nat) (v : Value) : RowX (w.setCell ⟨b, i, none⟩ v) b t n (fun j => if j = i then v else f j) := by
  obtain ⟨c, fr, hb, hn, hf, hc⟩ := h
  refine ⟨c.setIfInBounds i v, fr, ?_, by simpa using hn, by simpa using hf, fun j hj => ?_⟩
  · simp [World.setCell, Array.getElem?_modify, hb]
  · rw [Array.getElem?_setIfInBounds]
    by_cases e : j = i
    · subst e
      rw [if_pos rfl, if_pos (by omega)]
      show some v = some (if j = j then v else f j)
      rw [if_pos rfl]
    · rw [if_neg (fun h => e h.symm)]
      show c[j]? = some (if j = i then v else f j)
      rw [if_neg e]
      exact hc j hj
theorem setOther (h : RowX w b t n f) {a : Addr} (ha : b ≠ a.block) (v : Value) : RowX (w.setCell a v) b t n f := h.of_block (Below.heap_setCell w a v b ha)
theorem less (h : RowX w b t n f) {m : Nat} (hm : m ≤ n) : RowX w b t m f := by
  obtain ⟨c, fr, hb, hn, hf, hc⟩ := h
  exact ⟨c, fr, hb, by omega, hf, fun i hi => hc i (by omega)⟩
end RowX

/-- string(b), b such a row -/
theorem convRowX {w : World} {g n cap m : Nat} {f : Nat → Value} (h : RowX w g 5 m f) (b : Nat → Nat) (hn : n ≤ m) (hf : ∀ i, i < n → f i = .int .u8 (b i : Nat)) :
    (convert 22 9 (.slice (some ⟨g, 0, none⟩) n cap)).run Tryd.prog w = .ok (.string (strOf n b)) w := by
  have := run_convert_bytes_arg w _ _ Tryd.underlying22 Tryd.underlying5 g 0 n cap ((List.range n).map fun i => ((b i : Nat) : Int)) (by simp) (fun i hi => by
    rw [Nat.zero_add, h.cell (by omega), hf i hi]
    simp [hi]) _ Tryd.underlying9
  refine this.trans (congrArg (fun s => Result.ok (Value.string s) w) ?_)
  unfold strOfNums strOf
  rw [List.map_map]
  rfl
/-- the text of a string's own bytes -/
theorem strOf_self (s : ByteArray) (d : UInt8) : strOf s.size (fun i => (s.data.toList.getD i d).toNat) = s := by
  apply ByteArray.ext
  apply Array.ext'
  rw [strOf_list]
  apply List.ext_getElem
  · rw [List.length_map, List.length_range, Array.length_toList]; rfl
  · intro i h1 h2
    simp only [List.getElem_map, List.getElem_range]
    rw [List.getD_eq_getElem?_getD, List.getElem?_eq_getElem h2]
    simp only [Option.getD_some, chr, UInt8.ofNat_toNat]
theorem strOf_at (n : Nat) (b : Nat → Nat) (d : UInt8) (i : Nat) (h : i < n) (hb : b i < 256) : ((strOf n b).data.toList.getD i d).toNat = b i := by
  rw [strOf_list, List.getD_eq_getElem?_getD, List.getElem?_map, List.getElem?_range h]
  simp only [Option.map_some, Option.getD_some]
  exact chr_toNat _ hb

/-- the bytes of a text: closed to the walk -/
def by_ (s : ByteArray) (i : Nat) : Nat := (s.data.toList.getD i 0).toNat
theorem by_lt (s : ByteArray) (i : Nat) : by_ s i < 256 := by unfold by_; exact UInt8.toNat_lt _
theorem strOf_by (s : ByteArray) : strOf s.size (by_ s) = s := strOf_self s 0
/-- []byte(s) -/
theorem bytesOf (s : ByteArray) (w : World) : ∃ cap W, (convert 9 22 (.string s)).run Tryd.prog w = .ok (.slice (some ⟨w.heap.size, 0, none⟩) s.size cap) W ∧
    Below w.heap.size w W ∧ w.heap.size < W.heap.size ∧ RowX W w.heap.size 5 s.size (fun i => .int .u8 (by_ s i : Nat)) := by
  refine ⟨_, _, run_bytes_of_string w _ _ _ s Tryd.underlying9 Tryd.underlying22 Tryd.underlying5, ((Below.refl _ _).drew).alloc (Nat.le_refl _) _, ?_, ?_⟩
  · show _ < (w.heap.push _).size
    simp
  · refine ⟨_, _, heap_alloc_new w.drew _, ?_, Or.inr ?_, fun i hi => ?_⟩
    · unfold bytesRow
      rw [Array.size_append, Array.size_map]
      exact Nat.le_add_right _ _
    · exact Nat.le_refl _
    · have hi' : i < s.data.size := hi
      unfold bytesRow
      rw [Array.getElem?_append_left (by rw [Array.size_map]; exact hi'), Array.getElem?_map, Array.getElem?_eq_getElem hi']
      show _ = some (Value.int .u8 ((s.data.toList.getD i 0).toNat : Nat))
      rw [List.getD_eq_getElem?_getD, List.getElem?_eq_getElem (by rw [Array.length_toList]; exact hi')]
      rfl
/-- a slice of bytes that came in: its cells -/
def SlB (w : World) (A : Option Addr) (n : Nat) (bs : Nat → Nat) : Prop :=
  0 < n → ∃ B o, A = some ⟨B, o, none⟩ ∧ B < w.heap.size ∧ ∀ j, j < n → bs j < 256 ∧ w.cell? ⟨B, o + j, none⟩ = some (.int .u8 (bs j : Nat))
theorem SlB.keep {w w' : World} {A : Option Addr} {n : Nat} {bs : Nat → Nat} (h : SlB w A n bs) (hb : Below w.heap.size w w') : SlB w' A n bs := fun hn => by
  obtain ⟨B, o, hA, hB, hc⟩ := h hn
  exact ⟨B, o, hA, Nat.lt_of_lt_of_le hB hb.size, fun j hj => ⟨(hc j hj).1, (hb.cell (p := ⟨B, _, none⟩) hB).trans (hc j hj).2⟩⟩
theorem SlB.drewN {w : World} {A : Option Addr} {n : Nat} {bs : Nat → Nat} (h : SlB w A n bs) (k : Nat) : SlB (w.drewN k) A n bs := h
theorem SlB.nil (w : World) (bs : Nat → Nat) : SlB w none 0 bs := fun h => absurd h (by omega)
theorem SlB.byte {w : World} {A : Option Addr} {n : Nat} {bs : Nat → Nat} (h : SlB w A n bs) {j : Nat} (hj : j < n) : bs j < 256 := by
  obtain ⟨B, o, _, _, hc⟩ := h (by omega); exact (hc j hj).1
theorem SlB.of_rowX {w : World} {g n : Nat} {f : Nat → Value} {bs : Nat → Nat} (h : RowX w g 5 n f) (hf : ∀ j, j < n → bs j < 256 ∧ f j = .int .u8 (bs j : Nat)) : SlB w (some ⟨g, 0, none⟩) n bs := fun _ =>
  ⟨g, 0, rfl, h.lt, fun j hj => ⟨(hf j hj).1, by rw [Nat.zero_add, h.cell hj, (hf j hj).2]⟩⟩
theorem strOfNums_range (k : Nat) (bs : Nat → Nat) : strOfNums ((List.range k).map fun i => ((bs i : Nat) : Int)) = strOf k bs := by
  unfold strOfNums strOf
  rw [List.map_map]
  rfl
/-- string(b[:k]) of a slice that came in -/
theorem convSl {w : World} {A : Option Addr} {n k cap : Nat} {bs : Nat → Nat} (h : SlB w A n bs) (hk : k ≤ n) :
    (convert 22 9 (.slice A k cap)).run Tryd.prog w = .ok (.string (strOf k bs)) w := by
  by_cases h0 : k = 0
  · subst h0
    have e : strOf 0 bs = ByteArray.empty := rfl
    rw [e]
    cases A with
    | none => exact run_convert_bytes_nil w _ _ Tryd.underlying22 Tryd.underlying5 0 cap _ Tryd.underlying9
    | some a =>
      rw [run_convert_bytes_string w _ _ _ (some a) 0 cap Tryd.underlying22 Tryd.underlying5 Tryd.underlying9]
      exact run_bytesToString w a 0 cap [] (by simp [loadCells, loadCellsFrom])
  · obtain ⟨B, o, rfl, _, hc⟩ := h (by omega)
    have := run_convert_bytes_arg w _ _ Tryd.underlying22 Tryd.underlying5 B o k cap ((List.range k).map fun i => ((bs i : Nat) : Int)) (by simp) (fun i hi => by
      rw [(hc i (by omega)).2]; simp [hi]) _ Tryd.underlying9
    rw [this, strOfNums_range]
/-- where b[:k] and b[k:] begin, as a run has it -/
def loA (A : Option Addr) (c : Nat) : Option Addr := if c = 0 then A else A.map (·.add (0 * 1))
def hiA (A : Option Addr) (c k : Nat) : Option Addr := if c = k then A else A.map (·.add (k * 1))
theorem SlB.loA {w : World} {A : Option Addr} {n : Nat} {f : Nat → Nat} (h : SlB w A n f) (c : Nat) {k : Nat} (hk : k ≤ n) : SlB w (loA A c) k f := fun h0 => by
  obtain ⟨B, o, rfl, hB, hc⟩ := h (by omega)
  refine ⟨B, o, ?_, hB, fun j hj => hc j (by omega)⟩
  unfold Go.Proofs.YtengejmkpkacgaaDoor.loA; split
  · rfl
  · rw [Option.map_some, Go.WideShapes.add_plain, Nat.zero_mul, Nat.add_zero]
theorem SlB.hiA {w : World} {A : Option Addr} {n : Nat} {f : Nat → Nat} (h : SlB w A n f) {c k : Nat} (hk : k ≤ n) (hn : n ≤ c) : SlB w (hiA A c k) (n - k) (fun j => f (k + j)) := fun h0 => by
  obtain ⟨B, o, rfl, hB, hc⟩ := h (by omega)
  refine ⟨B, o + k, ?_, hB, fun j hj => by
    have := hc (k + j) (by omega)
    rw [Nat.add_assoc]; exact this⟩
  unfold Go.Proofs.YtengejmkpkacgaaDoor.hiA
  rw [if_neg (by omega), Option.map_some, Go.WideShapes.add_plain, Nat.mul_one]
theorem SlB.low {w : World} {A : Option Addr} {n : Nat} {f : Nat → Nat} (h : SlB w A n f) {k : Nat} (hk : k ≤ n) : SlB w A k f := fun h0 => by
  obtain ⟨B, o, e, hB, hc⟩ := h (by omega)
  exact ⟨B, o, e, hB, fun j hj => hc j (by omega)⟩
theorem elemB : Tryd.prog.elem 22 = 5 := by kernel_rfl
theorem underB : Tryd.prog.underlying 22 = some (.slice (Tryd.prog.elem 22)) := by rw [elemB]; exact Tryd.underlying22
theorem size8 (w : World) : (sizeOf (Tryd.prog.elem 22)).run Tryd.prog w = .ok 1 w := by
  rw [elemB]; obtain ⟨i, hi, _, hs, _⟩ := info_parts info8
  simp [sizeOf, typeInfo, hi, hs]
/-- b[:k] -/
theorem run_lo (w : World) (A : Option Addr) (n c k : Nat) (hk : k ≤ c) : (Instr.sliceAt 22 (.slice A n c) none (some (.int .i64 (k : Int))) none).run Tryd.prog w = .ok (.slice (loA A c) k c) w := by
  rw [run_sliceAt_slice (h := underB), run_slice_h (ht := underB) (h0 := by omega) (h2 := by omega), size8]
  rfl
/-- b[k:] -/
theorem run_hi (w : World) (A : Option Addr) (n c k : Nat) (hk : k ≤ n) : (Instr.sliceAt 22 (.slice A n c) (some (.int .i64 (k : Int))) none none).run Tryd.prog w = .ok (.slice (hiA A c k) (n - k) (c - k)) w := by
  rw [run_sliceAt_slice (h := underB), run_slice_l (ht := underB) (h0 := by omega) (h1 := by omega), size8]
  rfl
/-- b[l:h] -/
theorem run_mid (w : World) (A : Option Addr) (n c l h : Nat) (hl : l ≤ h) (hh : h ≤ c) : (Instr.sliceAt 22 (.slice A n c) (some (.int .i64 (l : Int))) (some (.int .i64 (h : Int))) none).run Tryd.prog w = .ok (.slice (hiA A c l) (h - l) (c - l)) w := by
  rw [run_sliceAt_slice (h := underB), run_slice_lh (ht := underB) (h0 := by omega) (h1 := by omega) (h2 := by omega), size8]
  rfl
theorem SlB.mid {w : World} {A : Option Addr} {n c l m : Nat} {f : Nat → Nat} (h : SlB w A n f) (hl : l + m ≤ n) (hn : n ≤ c) : SlB w (Go.Proofs.YtengejmkpkacgaaDoor.hiA A c l) m (fun j => f (l + j)) :=
  SlB.low (n := n - l) (h.hiA (c := c) (k := l) (by omega) hn) (by omega)
end Go.Proofs.YtengejmkpkacgaaDoor
/- append of bytes that came in to a row of the call's own; []byte parameters, opened. -/
namespace Go.Proofs.YtengejmkpkacgaaDoor
set_option maxRecDepth 100000
open Go.RowKit

/-- two rows of bytes, one behind the other -/
def catB (n : Nat) (f g : Nat → Nat) (j : Nat) : Nat := if j < n then f j else g (j - n)
def bytesL (n : Nat) (f : Nat → Nat) : List Value := (List.range n).map fun j => .int .u8 (f j : Nat)
theorem catB_lt {n m : Nat} {f g : Nat → Nat} (hf : ∀ j, j < n → f j < 256) (hg : ∀ j, j < m → g j < 256) (j : Nat) (hj : j < n + m) : catB n f g j < 256 := by
  unfold catB; split
  · exact hf j (by omega)
  · exact hg _ (by omega)
theorem bytesL_cat (n m : Nat) (f g : Nat → Nat) : bytesL n f ++ bytesL m g = bytesL (n + m) (catB n f g) := by
  unfold bytesL
  rw [List.range_add, List.map_append, List.map_map]
  congr 1
  · apply List.map_congr_left
    intro j hj
    rw [catB, if_pos (List.mem_range.1 hj)]
  · apply List.map_congr_left
    intro j _
    show _ = Value.int .u8 ((catB n f g (n + j) : Nat) : Int)
    rw [catB, if_neg (by omega), Nat.add_sub_cancel_left]
theorem bytesL_get (n : Nat) (f : Nat → Nat) (j : Nat) (u : Value) (h : (bytesL n f)[j]? = some u) : j < n ∧ u = .int .u8 (f j : Nat) := by
  unfold bytesL at h
  rw [List.getElem?_map] at h
  rcases Nat.lt_or_ge j n with hj | hj
  · rw [List.getElem?_range hj] at h
    simp only [Option.map_some, Option.some.injEq] at h
    exact ⟨hj, h.symm⟩
  · rw [List.getElem?_eq_none (by simpa using hj)] at h; simp at h

theorem wpList_appB {ops : Array Oper} {rest : List Oper} {o : Oper} {a : Act} {Q : Exit → Act → World → Prop} {w : World} (hgd : o.guard = none) (s x : Operand)
    (ho : o.op = .call { callee := .builtin .append, args := #[s, x], argTypes := #[22, 22] })
    (base : Nat) (v : Value) (n : Nat) (f : Nat → Nat) (hs : a.eval s = v) (hown : w.ownsRow base 5 1 v n (bytesL n f))
    (A : Option Addr) (m cap : Nat) (g : Nat → Nat) (hx : a.eval x = .slice A m cap) (hA : SlB w A m g) (hnil : A = none → m = 0 ∧ cap = 0) (hn : n + m ≤ 100000000000000) (hbase : base ≤ w.heap.size)
    (h : ∀ v' w', w'.ownsRow base 5 1 v' (n + m) (bytesL (n + m) (catB n f g)) → Below base w w' → wpList Tryd.prog ops Q rest (a.put o.dst v') w') : wpList Tryd.prog ops Q (o :: rest) a w := by
  obtain ⟨i, hi, hz, hsz, hb⟩ := info_parts info8
  cases A with
  | none =>
    obtain ⟨rfl, rfl⟩ := hnil rfl
    refine wpList_append_own_none hgd s x 22 ho base 5 i 1 Tryd.underlying22 hi v n _ hs hown hx ?_
    refine h v w ?_ (Below.refl _ _)
    have := bytesL_cat n 0 f g
    rw [show bytesL 0 g = [] from rfl, List.append_nil] at this
    rw [← this]
    exact hown
  | some ad =>
    refine wpList_append_own w hgd s x 22 ho base 5 i (.int .u8 0) 1 1 Tryd.underlying22 hi hz hsz hb rfl (by decide) v n _ hs hown ad m cap (bytesL m g) hx (by simp [bytesL]) ?_ ?_ (by unfold maxLen; omega) (by omega) hbase ?_
    · intro j u hj
      obtain ⟨hjm, rfl⟩ := bytesL_get m g j u hj
      obtain ⟨B, off, e, _, hc⟩ := hA (by omega)
      obtain rfl : ad = ⟨B, off, none⟩ := Option.some.inj e
      rw [Go.WideShapes.add_plain]
      exact (hc j hjm).2
    · intro u hu
      obtain ⟨j, hj⟩ := List.getElem?_of_mem hu
      obtain ⟨_, rfl⟩ := bytesL_get m g j u hj
      rfl
    · intro v' w' h1 h2 _
      rw [bytesL_cat] at h1
      exact h v' w' h1 ((Below.refl base w).grown h2 hbase fun k hk => (hown.lt k hk).1)

theorem bytesL_first (n : Nat) (f g : Nat → Nat) : bytesL (0 + n) (catB 0 f g) = bytesL n g := by
  rw [Nat.zero_add]
  unfold bytesL
  apply List.map_congr_left
  intro j _
  rw [catB, if_neg (by omega), Nat.sub_zero]
/-- []byte{} -/
theorem own_empty (w : World) : (w.alloc (.cells #[] 5)).ownsRow w.heap.size 5 1 (.slice (some ⟨w.heap.size, 0, none⟩) 0 0) 0 (bytesL 0 (fun _ => 0)) :=
  World.ownsRow_made w #[] 0 (Nat.le_refl _) (by unfold maxLen; omega) rfl
/-- an owned row of bytes, as a slice that came in -/
theorem own_slB {w : World} {base : Nat} {v : Value} {n : Nat} {f : Nat → Nat} (h : w.ownsRow base 5 1 v n (bytesL n f)) (hf : ∀ j, j < n → f j < 256) : ∃ A c, v = .slice A n c ∧ SlB w A n f := by
  rcases h.2 with ⟨rfl, hx⟩ | ⟨g, cap, cur, rfl, hg, hh, r⟩
  · subst hx
    exact ⟨none, 0, rfl, SlB.nil _ _⟩
  · refine ⟨some ⟨g, 0, none⟩, cap, rfl, fun hn => ⟨g, 0, rfl, ?_, fun j hj => ⟨hf j hj, ?_⟩⟩⟩
    · obtain ⟨hlt, _⟩ := Array.getElem?_eq_some_iff.1 hh
      exact hlt
    · rw [Nat.zero_add, h.cellAt j (by omega)]
      unfold bytesL
      rw [List.getElem?_map, List.getElem?_range hj]; rfl

open Go.ChangeShapes Go.WideShapes Go.ChangeAt in
/-- a []byte parameter, opened -/
theorem open_bytes {H : Type} {enc : TypeId × Value → H} {W : World} {base : Nat} {v : Value} {d : DataW H} {p : List MemPlace}
    (hval : Value.okWide Tryd.prog W .any base 22 v) (h : DataW.Trod enc Tryd.prog W 0 (fun _ => true) true 22 v d p) :
    ∃ A n c bs, v = .slice A n c ∧ SlB W A n bs ∧ (n ≤ c ∧ (A = none → n = 0 ∧ c = 0) ∧ ∃ els sp, (d = .slice els sp ∧ els.length + sp.length = c) ∨ (d = .nil ∧ c = 0)) := by
  obtain ⟨a0, len, cap, rfl⟩ := okWide_slice Tryd.underlying22 hval
  obtain ⟨fuel, hf⟩ := h
  rcases open_ints Tryd.underlying22 Tryd.underlying5 (show Tryd.prog.cellsOf 5 = 1 by kernel_rfl) hf with ⟨hcs, hx⟩ | ⟨a, len', cap', zs, hcs, _, hl, hm, hz, hx, hcell, hwz⟩
  · simp only [Value.cells] at hcs
    injection hcs with hcs
    injection hcs with h1 h2 h3
    subst h1 h2 h3
    injection hx with hd _
    exact ⟨none, 0, 0, fun _ => 0, rfl, SlB.nil _ _, Nat.le_refl _, fun _ => ⟨rfl, rfl⟩, [], [], Or.inr ⟨hd, rfl⟩⟩
  · simp only [Value.cells] at hcs
    injection hcs with hcs
    injection hcs with h1 h2 h3
    subst h1 h2 h3
    injection hx with hd _
    have hz' : zs.length = cap := by simpa using hz
    have hsl : SlB W (some a) len (fun j => (zs.getD j 0).toNat) := by
      intro hn
      obtain ⟨b, off, rfl, hc⟩ := ints_at hcell (by omega)
      have hb0 : b < W.heap.size := block_lt (hc 0 (by omega))
      refine ⟨b, off, rfl, hb0, fun j hj => ?_⟩
      have hr := range_u8 hwz j
      rw [← List.getD_eq_getElem?_getD] at hr
      refine ⟨by show (zs.getD j 0).toNat < 256; omega, ?_⟩
      show _ = some (Value.int .u8 ((zs.getD j 0).toNat : Nat))
      rw [hc j (by omega), Int.toNat_of_nonneg hr.1]
    exact ⟨some a, len, cap, _, rfl, hsl, hl, (fun h => by cases h), lits .u8 (zs.take len), lits .u8 (zs.drop len), Or.inl ⟨hd, by simp [lits]; omega⟩⟩
/-- how long a []byte parameter is at most -/
theorem slice_len {H : Type} {ts : List TypeId} {ds : List (DataW H)} (h : (DataW.weightsEach Tryd.prog ts ds).all (· ≤ reachBytes) = true) {j : Nat} {d : DataW H} (ht : ts[j]? = some 22) (hd : ds[j]? = some d)
    {n c : Nat} {X : Prop} (z : n ≤ c ∧ X ∧ ∃ els sp, (d = .slice els sp ∧ els.length + sp.length = c) ∨ (d = .nil ∧ c = 0)) : n ≤ 140737488351232 := by
  obtain ⟨h1, _, els, sp, h2⟩ := z
  rcases h2 with ⟨rfl, h2⟩ | ⟨_, h2⟩
  · have h3 := sized_slice h ht hd Tryd.underlying22
    rw [show Tryd.prog.bytesOf 5 = 1 by kernel_rfl, Nat.mul_one] at h3
    have : reachBytes = 140737488351232 := rfl
    omega
  · omega
end Go.Proofs.YtengejmkpkacgaaDoor
/- A row of bytes known whole; copy into it; bytes.Equal's text of two rows. -/
namespace Go.Proofs.YtengejmkpkacgaaDoor
open Go.RowKit

/-- block g is a row of m bytes of the call's own -/
def RowB (w : World) (g m : Nat) (cur : Nat → Nat) : Prop := w.heap[g]? = some (.cells (bytesL m cur).toArray 5 (0, 0))
namespace RowB
variable {w w' : World} {g m : Nat} {cur f : Nat → Nat}
theorem lt (h : RowB w g m cur) : g < w.heap.size := (Array.getElem?_eq_some_iff.1 h).1
theorem of_block (h : RowB w g m cur) (e : w'.heap[g]? = w.heap[g]?) : RowB w' g m cur := e.trans h
theorem drewN (h : RowB w g m cur) (k : Nat) : RowB (w.drewN k) g m cur := h
theorem drew (h : RowB w g m cur) : RowB w.drew g m cur := h
theorem below (h : RowB w g m cur) {B : Nat} (hb : Below B w w') (hB : g < B) : RowB w' g m cur := h.of_block (hb.block g hB)
theorem keep (h : RowB w g m cur) (hb : Below w.heap.size w w') : RowB w' g m cur := h.below hb h.lt
theorem alloc (h : RowB w g m cur) (o : Obj) : RowB (w.alloc o) g m cur := h.of_block (Below.heap_alloc w o g h.lt)
theorem congr (h : RowB w g m cur) (e : ∀ j, j < m → cur j = f j) : RowB w g m f := by
  have : bytesL m cur = bytesL m f := List.map_congr_left fun j hj => by rw [e j (List.mem_range.1 hj)]
  unfold RowB at *; rw [← this]; exact h
theorem rowIs (h : RowB w g m cur) : w.rowIs g 5 m (fun j => .int .u8 (cur j : Nat)) := by
  refine ⟨_, h, by simp [bytesL], fun i hi => ?_⟩
  rw [List.getElem?_toArray]
  unfold bytesL
  rw [List.getElem?_map, List.getElem?_range hi]; rfl
theorem rowX (h : RowB w g m cur) : RowX w g 5 m (fun j => .int .u8 (cur j : Nat)) := RowX.of_rowIs h.rowIs
theorem cell (h : RowB w g m cur) {i : Nat} (hi : i < m) : w.cell? ⟨g, i, none⟩ = some (.int .u8 (cur i : Nat)) := h.rowIs.cell hi
theorem frozen (h : RowB w g m cur) (i : Nat) : w.frozen? ⟨g, i, none⟩ = false := h.rowIs.frozen i
theorem slB (h : RowB w g m cur) {off n : Nat} (hn : off + n ≤ m) (hc : ∀ j, j < m → cur j < 256) : SlB w (some ⟨g, off, none⟩) n (fun j => cur (off + j)) := fun _ =>
  ⟨g, off, rfl, h.lt, fun j hj => ⟨hc _ (by omega), h.cell (by omega)⟩⟩
theorem slB0 (h : RowB w g m cur) {n : Nat} (hn : n ≤ m) (hc : ∀ j, j < m → cur j < 256) : SlB w (some ⟨g, 0, none⟩) n cur := fun _ =>
  ⟨g, 0, rfl, h.lt, fun j hj => ⟨hc _ (by omega), by rw [Nat.zero_add]; exact h.cell (by omega)⟩⟩
theorem set (h : RowB w g m cur) (i : Nat) (x : Nat) (v : Value) (hv : v = .int .u8 (x : Nat)) : RowB (w.setCell ⟨g, i, none⟩ v) g m (fun j => if j = i then x else cur j) := by
  subst hv
  unfold RowB at *
  rw [show (w.setCell ⟨g, i, none⟩ (.int .u8 (x : Nat))).heap[g]? = some (.cells ((bytesL m cur).toArray.setIfInBounds i (.int .u8 (x : Nat))) 5 (0, 0)) by simp [World.setCell, Array.getElem?_modify, h]]
  congr 2
  apply Array.ext'
  apply List.ext_getElem?
  intro j
  simp only [List.setIfInBounds_toArray, List.getElem?_set]
  unfold bytesL
  by_cases hj : j < m
  · rw [List.getElem?_map, List.getElem?_range hj, List.getElem?_map, List.getElem?_range hj]
    by_cases e : i = j
    · subst e; simp [hj]
    · have e2 : ¬ j = i := fun h => e h.symm
      simp [e, e2]
  · rw [List.getElem?_map, List.getElem?_eq_none (by simpa using hj), List.getElem?_map, List.getElem?_eq_none (by simpa using hj)]
    by_cases e : i = j
    · subst e; simp [hj]
    · simp [e]
end RowB
theorem rowB_made (w : World) (n : Nat) : RowB (w.alloc (.cells (madeCells #[.int .u8 0] n) 5)) w.heap.size n (fun _ => 0) := by
  unfold RowB
  rw [heap_alloc_new]
  congr 2
  apply Array.ext'
  rw [toList_madeCells_one]
  unfold bytesL
  show List.replicate n (Value.int .u8 0) = (List.range n).map fun _ => Value.int .u8 0
  rw [List.map_const', List.length_range]

/-- k bytes laid over a row from a place on -/
def putB (off k : Nat) (f cur : Nat → Nat) (j : Nat) : Nat := if off ≤ j ∧ j < off + k then f (j - off) else cur j
theorem putB_lt {off k m : Nat} {f cur : Nat → Nat} (hf : ∀ j, j < k → f j < 256) (hc : ∀ j, j < m → cur j < 256) (j : Nat) (hj : j < m) : putB off k f cur j < 256 := by
  unfold putB; split
  · exact hf _ (by omega)
  · exact hc j hj
theorem splice_bytes (m off k : Nat) (f cur : Nat → Nat) (h : off + k ≤ m) : splice (bytesL m cur) off (bytesL k f) = bytesL m (putB off k f cur) := by
  unfold splice bytesL
  apply List.ext_getElem?
  intro j
  simp only [List.length_map, List.length_range, List.getElem?_append, List.getElem?_take, List.getElem?_drop, List.length_take, List.getElem?_map]
  rw [Nat.min_eq_left (show off ≤ m by omega)]
  unfold putB
  by_cases h1 : j < off
  · rw [if_pos h1, if_pos h1, List.getElem?_range (by omega)]
    simp only [Option.map_some]
    rw [if_neg (by omega)]
  · rw [if_neg h1]
    by_cases h2 : j < off + k
    · rw [if_pos (by omega), List.getElem?_range (by omega), List.getElem?_range (by omega)]
      simp only [Option.map_some]
      rw [if_pos ⟨by omega, h2⟩]
    · rw [if_neg (by omega), show off + k + (j - off - k) = j by omega]
      by_cases hj : j < m
      · rw [List.getElem?_range hj]
        simp only [Option.map_some]
        rw [if_neg (by omega)]
      · rw [List.getElem?_eq_none (by simpa using hj)]; rfl

theorem sizeOf8 : (Tryd.prog.info? 5).map (·.size) = some 1 := by kernel_rfl
theorem copy_parts {w : World} {A : Option Addr} {sLen k : Nat} {f : Nat → Nat} (hA : SlB w A sLen f) (hk : k ≤ sLen) {dp : Option Addr} {g off : Nat} (hd : 0 < k → dp = some ⟨g, off, none⟩) :
    0 < (bytesL k f).length → dp = some ⟨g, off, none⟩ ∧ ∃ ad, A = some ad ∧ ∀ j v, (bytesL k f)[j]? = some v → w.cell? (ad.add j) = some v := fun h => by
  have h0 : 0 < k := by simpa [bytesL] using h
  obtain ⟨B, o, hA', _, hc⟩ := hA (by omega)
  refine ⟨hd h0, _, hA', fun j v hj => ?_⟩
  obtain ⟨hjl, rfl⟩ := bytesL_get _ _ j v hj
  rw [Go.WideShapes.add_plain]
  exact (hc j (by omega)).2
theorem bytes_one (k : Nat) (f : Nat → Nat) : ∀ v ∈ bytesL k f, v.oneCell' = true := by
  intro u hu
  obtain ⟨j, hj⟩ := List.getElem?_of_mem hu
  obtain ⟨_, rfl⟩ := bytesL_get _ _ j u hj
  rfl
theorem wpList_copyB {ops : Array Oper} {rest : List Oper} {o : Oper} {a : Act} {Q : Exit → Act → World → Prop} {w : World} (hgd : o.guard = none) (d s : Operand)
    (ho : o.op = .call { callee := .builtin .copy, args := #[d, s], argTypes := #[22, 22] })
    (dp : Option Addr) (dLen dCap : Nat) (A : Option Addr) (sLen sCap : Nat) (hd : a.eval d = .slice dp dLen dCap) (hs : a.eval s = .slice A sLen sCap)
    (g off m : Nat) (cur : Nat → Nat) (hg : RowB w g m cur) (f : Nat → Nat) (hA : SlB w A sLen f) (k : Nat) (hk : k = Nat.min sLen dLen) (hdp : 0 < k → dp = some ⟨g, off, none⟩) (hfit : off + k ≤ m)
    (B : Nat) (w0 : World) (hb : Below B w0 w) (hBg : B ≤ g)
    (h : ∀ w', RowB w' g m (putB off k f cur) → Below B w0 w' → wpList Tryd.prog ops Q rest (a.put o.dst (goInt k)) w') : wpList Tryd.prog ops Q (o :: rest) a w := by
  have hl : (bytesL k f).length = k := by simp [bytesL]
  refine wpList_copy_splice hgd d s 22 22 ho 5 Tryd.underlying22 sizeOf8 dp A dLen dCap sLen sCap hd hs g off (bytesL m cur) 5 hg (bytesL k f) (by rw [hl, hk])
    (copy_parts hA (by rw [hk]; exact Nat.min_le_left _ _) hdp) (by rw [hl]; simpa [bytesL] using hfit) (bytes_one k f) B w0 hb hBg ?_
  intro w' hr hb'
  rw [hl]
  refine h w' ?_ hb'
  unfold RowB
  rw [← splice_bytes m off k f cur hfit]
  exact hr.out
theorem step_copyB {ops : Array Oper} {o : Oper} {a : Act} {w : World} {K : Act → World → Prop} {Q : Exit → Act → World → Prop} {E : Prop} (hgd : o.guard = none) (d s : Operand)
    (ho : o.op = .call { callee := .builtin .copy, args := #[d, s], argTypes := #[22, 22] })
    (dp : Option Addr) (dLen dCap : Nat) (A : Option Addr) (sLen sCap : Nat) (hd : a.eval d = .slice dp dLen dCap) (hs : a.eval s = .slice A sLen sCap)
    (g off m : Nat) (cur : Nat → Nat) (hg : RowB w g m cur) (f : Nat → Nat) (hA : SlB w A sLen f) (k : Nat) (hk : k = Nat.min sLen dLen) (hdp : 0 < k → dp = some ⟨g, off, none⟩) (hfit : off + k ≤ m)
    (B : Nat) (w0 : World) (hb : Below B w0 w) (hBg : B ≤ g)
    (h : ∀ w', RowB w' g m (putB off k f cur) → Below B w0 w' → K (a.put o.dst (goInt k)) w') : if Region.wanted o (yielded ops a.tmps) = true then Oper.wp Tryd.prog o a w K Q else E := by
  have hl : (bytesL k f).length = k := by simp [bytesL]
  refine step_copy_splice hgd d s 22 22 ho 5 Tryd.underlying22 sizeOf8 dp A dLen dCap sLen sCap hd hs g off (bytesL m cur) 5 hg (bytesL k f) (by rw [hl, hk])
    (copy_parts hA (by rw [hk]; exact Nat.min_le_left _ _) hdp) (by rw [hl]; simpa [bytesL] using hfit) (bytes_one k f) B w0 hb hBg ?_
  intro w' hr hb'
  rw [hl]
  refine h w' ?_ hb'
  unfold RowB
  rw [← splice_bytes m off k f cur hfit]
  exact hr.out

/-- a row of bytes that grows by append -/
def OwnB (w : World) (base : Nat) (v : Value) (n : Nat) (f : Nat → Nat) : Prop := w.ownsRow base 5 1 v n (bytesL n f)
def lenOf : Value → Nat
  | .slice _ n _ => n
  | _ => 0
namespace OwnB
variable {w w' : World} {base n : Nat} {v : Value} {f g : Nat → Nat}
theorem nil (w : World) (base : Nat) (f : Nat → Nat) : OwnB w base (.slice none 0 0) 0 f := World.ownsRow_nil w base _ 1
theorem empty (w : World) (base : Nat) (f : Nat → Nat) (hb : base ≤ w.heap.size) : OwnB (w.alloc (.cells #[] 5)) base (.slice (some ⟨w.heap.size, 0, none⟩) 0 0) 0 f :=
  World.ownsRow_made w #[] 0 hb (by unfold maxLen; omega) rfl
theorem congr (h : OwnB w base v n f) (e : ∀ j, j < n → f j = g j) : OwnB w base v n g := by
  have : bytesL n f = bytesL n g := List.map_congr_left fun j hj => by rw [e j (List.mem_range.1 hj)]
  unfold OwnB at *; rw [← this]; exact h
theorem alloc (h : OwnB w base v n f) (o : Obj) : OwnB (w.alloc o) base v n f := World.ownsRow.alloc h o
theorem drewN (h : OwnB w base v n f) (k : Nat) : OwnB (w.drewN k) base v n f := h
theorem slice (h : OwnB w base v n f) (hf : ∀ j, j < n → f j < 256) : ∃ A c, v = .slice A n c ∧ SlB w A n f := own_slB h hf
/-- the row's own block, and what is known of it -/
theorem cap_le (h : OwnB w base v n f) : ∃ A c, v = .slice A n c ∧ n ≤ c ∧ c ≤ maxLen ∧ (A = none → n = 0 ∧ c = 0) := by
  rcases h.2 with ⟨rfl, hn⟩ | ⟨g, cap, cur, rfl, _, _, h1, h2, _⟩
  · subst hn; exact ⟨none, 0, rfl, Nat.le_refl _, by unfold maxLen; omega, fun _ => ⟨rfl, rfl⟩⟩
  · exact ⟨_, cap, rfl, h1, h2, fun h => by cases h⟩
theorem keep (h : OwnB w base v n f) (hb : Below w.heap.size w w') : OwnB w' base v n f := by
  rcases h with ⟨h1, h2 | ⟨g, cap, cur, e, hg, hh, r⟩⟩
  · exact ⟨h1, Or.inl h2⟩
  · exact ⟨h1, Or.inr ⟨g, cap, cur, e, hg, (hb.block g (Array.getElem?_eq_some_iff.1 hh).1).trans hh, r⟩⟩
end OwnB
theorem one_slB (w : World) (t : TypeId) (x : Nat) (hx : x < 256) : SlB (w.alloc (.cells #[.int .u8 (x : Nat)] t)) (some ⟨w.heap.size, 0, none⟩) 1 (fun _ => x) := fun _ =>
  ⟨w.heap.size, 0, rfl, by simp, fun j hj => ⟨hx, by
    obtain rfl : j = 0 := by omega
    exact (World.cell?_alloc_at _ _ _ _ rfl).trans rfl⟩⟩
theorem four_slB (w : World) (t : TypeId) (g : Nat → Nat) (hg : ∀ j, g j < 256) : SlB (w.alloc (.cells #[.int .u8 (g 0 : Nat), .int .u8 (g 1 : Nat), .int .u8 (g 2 : Nat), .int .u8 (g 3 : Nat)] t)) (some ⟨w.heap.size, 0, none⟩) 4 g := fun _ =>
  ⟨w.heap.size, 0, rfl, by simp, fun j hj => ⟨hg j, by
    rcases (show j = 0 ∨ j = 1 ∨ j = 2 ∨ j = 3 by omega) with rfl | rfl | rfl | rfl <;> exact (World.cell?_alloc_at _ _ _ _ rfl).trans rfl⟩⟩
/-- a literal's bytes -/
theorem lit_slB (w : World) (t : TypeId) (fr : Nat × Nat) (L : List Nat) (hL : ∀ j, L.getD j 0 < 256) : SlB (w.alloc (.cells (L.map fun x => Value.int .u8 (x : Nat)).toArray t fr)) (some ⟨w.heap.size, 0, none⟩) L.length (fun j => L.getD j 0) := fun _ =>
  ⟨w.heap.size, 0, rfl, by simp, fun j hj => ⟨hL j, by
    refine (Joins.cell_alloc_mark_at w _ t fr _ _ rfl).trans ?_
    show (L.map fun x => Value.int .u8 (x : Nat)).toArray[0 + j]? = some (Value.int .u8 ((L.getD j 0 : Nat) : Int))
    rw [Nat.zero_add, List.getElem?_toArray, List.getElem?_map, List.getD_eq_getElem?_getD, List.getElem?_eq_getElem hj]
    rfl⟩⟩
/-- []byte of a constant -/
theorem kconv (w : World) (C : Array Value) (n c g : Nat) (hg : g = w.heap.size) :
    (convert 22 22 (.slice (some ⟨g, 0, none⟩) n c)).run Tryd.prog (w.alloc (.cells C 5)) = .ok (.slice (some ⟨g, 0, none⟩) n c) (w.alloc (.cells C 5 (C.size, C.size + 1))) :=
  Joins.run_convert_bytes_const_at (P := Tryd.prog) w 22 5 C n c g hg Tryd.underlying22 Tryd.underlying5
theorem wpList_appO {ops : Array Oper} {rest : List Oper} {o : Oper} {a : Act} {Q : Exit → Act → World → Prop} {w : World} (hgd : o.guard = none) (s x : Operand)
    (ho : o.op = .call { callee := .builtin .append, args := #[s, x], argTypes := #[22, 22] })
    (base : Nat) (v : Value) (n : Nat) (f : Nat → Nat) (hs : a.eval s = v) (hown : OwnB w base v n f)
    (A : Option Addr) (m cap : Nat) (g : Nat → Nat) (hx : a.eval x = .slice A m cap) (hA : SlB w A m g) (hnil : A = none → m = 0 ∧ cap = 0) (hn : n + m ≤ 100000000000000) (hbase : base ≤ w.heap.size)
    (hf : ∀ j, j < n → f j < 256) (hg : ∀ j, j < m → g j < 256)
    (h : ∀ A' c' w', OwnB w' base (.slice A' (n + m) c') (n + m) (catB n f g) → SlB w' A' (n + m) (catB n f g) → n + m ≤ c' ∧ c' ≤ maxLen ∧ (A' = none → n + m = 0 ∧ c' = 0) → Below base w w' → wpList Tryd.prog ops Q rest (a.put o.dst (.slice A' (n + m) c')) w') : wpList Tryd.prog ops Q (o :: rest) a w := by
  refine wpList_appB hgd s x ho base v n f hs hown A m cap g hx hA hnil hn hbase ?_
  intro v' w' h1 h2
  obtain ⟨A', c', rfl, hsl⟩ := own_slB h1 (catB_lt hf hg)
  obtain ⟨A2, c2, e, h3⟩ := OwnB.cap_le h1
  cases e
  exact h A' c' w' h1 hsl h3 h2
/-- append, as a run: for a place that is guarded -/
theorem run_appO (w : World) (base : Nat) (v : Value) (n : Nat) (f : Nat → Nat) (hown : OwnB w base v n f) (A : Option Addr) (m cap : Nat) (g : Nat → Nat) (hA : SlB w A m g) (hnil : A = none → m = 0 ∧ cap = 0)
    (hn : n + m ≤ 100000000000000) (hbase : base ≤ w.heap.size) (hf : ∀ j, j < n → f j < 256) (hg : ∀ j, j < m → g j < 256) :
    ∃ A' c' w', (Builtin.append_ #[22, 22] 22 #[v, .slice A m cap]).run Tryd.prog w = .ok (.slice A' (n + m) c') w' ∧ OwnB w' base (.slice A' (n + m) c') (n + m) (catB n f g) ∧ SlB w' A' (n + m) (catB n f g) ∧
      (n + m ≤ c' ∧ c' ≤ maxLen ∧ (A' = none → n + m = 0 ∧ c' = 0)) ∧ Below base w w' := by
  obtain ⟨i, hi, hz, hsz, hb⟩ := info_parts info8
  have fin : ∀ v' w', (Builtin.append_ #[22, 22] 22 #[v, .slice A m cap]).run Tryd.prog w = .ok v' w' → OwnB w' base v' (n + m) (catB n f g) → Below base w w' →
      ∃ A' c' w', (Builtin.append_ #[22, 22] 22 #[v, .slice A m cap]).run Tryd.prog w = .ok (.slice A' (n + m) c') w' ∧ OwnB w' base (.slice A' (n + m) c') (n + m) (catB n f g) ∧ SlB w' A' (n + m) (catB n f g) ∧
      (n + m ≤ c' ∧ c' ≤ maxLen ∧ (A' = none → n + m = 0 ∧ c' = 0)) ∧ Below base w w' := fun v' w' h1 h2 h3 => by
    obtain ⟨A', c', rfl, hsl⟩ := OwnB.slice h2 (catB_lt hf hg)
    obtain ⟨A2, c2, e, h4⟩ := OwnB.cap_le h2
    cases e
    exact ⟨A', c', w', h1, h2, hsl, h4, h3⟩
  cases A with
  | none =>
    obtain ⟨rfl, rfl⟩ := hnil rfl
    refine fin v w (run_append_owned_none (P := Tryd.prog) (w := w) base 22 22 5 i 1 Tryd.underlying22 hi v n _ hown) ?_ (Below.refl _ _)
    exact OwnB.congr hown fun j hj => by unfold catB; rw [if_pos (show j < n from hj)]
  | some ad =>
    obtain ⟨v', w', hr, h1, h2, _⟩ := run_append_own (P := Tryd.prog) w base 22 22 5 i (.int .u8 0) 1 1 Tryd.underlying22 hi hz hsz hb rfl (by decide) v n _ hown ad m cap (bytesL m g) (by simp [bytesL])
      (fun j u hj => by
        obtain ⟨hjm, rfl⟩ := bytesL_get m g j u hj
        obtain ⟨B, off, e, _, hc⟩ := hA (by omega)
        obtain rfl : ad = ⟨B, off, none⟩ := Option.some.inj e
        rw [Go.WideShapes.add_plain]
        exact (hc j hjm).2) (bytes_one m g) (by unfold maxLen; omega) (by omega) hbase
    rw [bytesL_cat] at h1
    exact fin v' w' hr h1 ((Below.refl base w).grown h2 hbase fun k hk => (hown.lt k hk).1)
/-- append where its run is known, guarded or not -/
theorem wpList_runA {ops : Array Oper} {rest : List Oper} {o : Oper} {a : Act} {Q : Exit → Act → World → Prop} {w : World} (s x : Operand)
    (ho : o.op = .call { callee := .builtin .append, args := #[s, x], argTypes := #[22, 22] }) (ht : o.type = 22) (hw : Region.wanted o (yielded ops a.tmps) = true)
    {v xv v' : Value} {w' : World} (hs : a.eval s = v) (hx : a.eval x = xv) (hrun : (Builtin.append_ #[22, 22] 22 #[v, xv]).run Tryd.prog w = .ok v' w')
    (h : wpList Tryd.prog ops Q rest (a.put o.dst v') w') : wpList Tryd.prog ops Q (o :: rest) a w := by
  refine wpList_step fun K hK => ?_
  rw [if_pos hw]
  unfold Oper.wp
  simp [execOp, ho, ht, resolve, invoke, builtin, hs, hx, hrun, Result.andThen]
  exact hK _ _ h
/-- append in a region that draws its order -/
theorem step_appO {ops : Array Oper} {o : Oper} {a : Act} {w : World} {K : Act → World → Prop} {Q : Exit → Act → World → Prop} {E : Prop} (s x : Operand)
    (ho : o.op = .call { callee := .builtin .append, args := #[s, x], argTypes := #[22, 22] }) (ht : o.type = 22) (hw : Region.wanted o (yielded ops a.tmps) = true)
    (base : Nat) (v : Value) (n : Nat) (f : Nat → Nat) (hs : a.eval s = v) (hown : OwnB w base v n f)
    (A : Option Addr) (m cap : Nat) (g : Nat → Nat) (hx : a.eval x = .slice A m cap) (hA : SlB w A m g) (hnil : A = none → m = 0 ∧ cap = 0) (hn : n + m ≤ 100000000000000) (hbase : base ≤ w.heap.size)
    (hf : ∀ j, j < n → f j < 256) (hg : ∀ j, j < m → g j < 256)
    (h : ∀ A' c' w', OwnB w' base (.slice A' (n + m) c') (n + m) (catB n f g) → SlB w' A' (n + m) (catB n f g) → n + m ≤ c' ∧ c' ≤ maxLen ∧ (A' = none → n + m = 0 ∧ c' = 0) → Below base w w' → K (a.put o.dst (.slice A' (n + m) c')) w') :
    if Region.wanted o (yielded ops a.tmps) = true then Oper.wp Tryd.prog o a w K Q else E := by
  rw [if_pos hw]
  obtain ⟨A', c', w', hr, h1, h2, h3, h4⟩ := run_appO w base v n f hown A m cap g hA hnil hn hbase hf hg
  unfold Oper.wp
  simp [execOp, ho, ht, resolve, invoke, builtin, hs, hx, hr, Result.andThen]
  exact h A' c' w' h1 h2 h3 h4
end Go.Proofs.YtengejmkpkacgaaDoor
/- More of bytes: rows that grow, what is new. -/
namespace Go.Proofs.YtengejmkpkacgaaDoor
open Go.RowKit
theorem SlB.congr {w : World} {A : Option Addr} {n : Nat} {f f' : Nat → Nat} (h : SlB w A n f) (e : ∀ j, j < n → f j = f' j) : SlB w A n f' := fun hn => by
  obtain ⟨B, o, hA, hB, hc⟩ := h hn
  exact ⟨B, o, hA, hB, fun j hj => by rw [← e j hj]; exact hc j hj⟩
theorem SlB.none0 (w : World) (f : Nat → Nat) : SlB w none 0 f := fun h => absurd h (Nat.lt_irrefl 0)
theorem OwnB.less {w : World} {b base n : Nat} {v : Value} {f : Nat → Nat} (h : OwnB w base v n f) (hb : b ≤ base) : OwnB w b v n f := by
  rcases h with ⟨h1, h2 | ⟨g, cap, cur, e, hg, r⟩⟩
  · exact ⟨h1, Or.inl h2⟩
  · exact ⟨h1, Or.inr ⟨g, cap, cur, e, Nat.le_trans hb hg, r⟩⟩
theorem of_drew {w w' : World} (h : Below w.drew.heap.size w.drew w') : Below w.heap.size w w' := ⟨h.os, h.tape, h.output, h.size, h.block⟩
theorem one_sl (w : World) (x : Nat) (hx : x < 256) : SlB (w.alloc (.cells #[.int .u8 (x : Nat)] 5)) (some ⟨w.heap.size, 0, none⟩) 1 (fun _ => x) := one_slB w 5 x hx
theorem alloc_below (W : World) (o : Obj) : Below W.heap.size W (W.alloc o) := (Below.refl _ _).alloc (Nat.le_refl _) o
theorem xor_lt8 {a b : Nat} (ha : a < 256) (hb : b < 256) : a ^^^ b < 256 := Nat.xor_lt_two_pow (n := 8) ha hb
theorem strOf_cat (n m : Nat) (f g h : Nat → Nat) (hf : ∀ i, i < n → f i = h i) (hg : ∀ i, i < m → g i = h (n + i)) : strOf n f ++ strOf m g = strOf (n + m) h := by
  rw [strOf_congr n f h hf, strOf_congr m g (fun i => h (n + i)) hg]
  unfold strOf
  apply ByteArray.ext
  simp only [ByteArray.data_append]
  apply Array.ext'
  simp [List.range_add]
end Go.Proofs.YtengejmkpkacgaaDoor
/- bytes.Clone. -/
namespace Go.Proofs.YtengejmkpkacgaaDoor
open Go.RowKit
/-- what Clone leaves -/
theorem clone_any (A : Option Addr) (n c : Nat) (f : Nat → Nat) (w : World) (hn : n ≤ 100000000000000) (hA : SlB w A n f) (hnil : A = none → n = 0 ∧ c = 0) :
    Calls Tryd.prog 19 #[.slice A n c] w fun e w' => (∃ v, e = .returned v ∧ OwnB w' w.heap.size v n f) ∧ Below w.heap.size w w' := by
  have q8 : ∀ (w : World) (a : Option Addr) (n c : Nat), (binOp .eql 22 (.slice a n c) (.slice none 0 0)).run Tryd.prog w = .ok (.bool a.isNone) w := fun w a n c => Lib.run_eql_slice_nil w _ _ a n c 0 0 Tryd.underlying22
  cases A with
  | none =>
    obtain ⟨rfl, rfl⟩ := hnil rfl
    clear hnil hA hn
    go_enter Tryd.func19, Tryd.ntmps19
    go_wp2_with fail
    go_ret
    exact ⟨⟨_, rfl, OwnB.nil _ _ _⟩, Below.refl _ _⟩
  | some ad =>
    have HA := Lib.hid (hA.keep (alloc_below w (.cells #[] 5)))
    have HF := Lib.hid (fun j (hj : j < n) => hA.byte hj)
    have HO := Lib.hid (OwnB.empty w w.heap.size f (Nat.le_refl _))
    have HB := Lib.hid (alloc_below w (.cells #[] 5))
    have HN := Lib.hid hn
    clear hnil hA hn
    go_enter Tryd.func19, Tryd.ntmps19
    go_wp2_with (refine wpList_appO rfl (.tmp 5) (.tmp 6) rfl w.heap.size _ 0 f rfl HO.out (some ad) n c f rfl HA.out (fun h => by cases h) (by have := HN.out; omega) HB.out.size (fun j hj => absurd hj (Nat.not_lt_zero j)) HF.out ?_; intro A' c' w2 h1 _ _ h4; have H1 := Lib.hid h1; have H4 := Lib.hid h4; clear h1 h4)
    go_ret
    refine ⟨⟨_, rfl, ?_⟩, HB.out.trans H4.out⟩
    have := H1.out
    rw [Nat.zero_add] at this
    exact this.congr fun j _ => rfl
end Go.Proofs.YtengejmkpkacgaaDoor
/- Bytes, by number: nothing here hangs on the program. -/
namespace Go.Proofs.YtengejmkpkacgaaDoor
def By (n : Nat) (s : Nat → Nat) : Prop := ∀ i, i < n → s i < 256
end Go.Proofs.YtengejmkpkacgaaDoor
/- Rows of bytes in the middle of a block; worlds that differ in one block. -/
namespace Go.Proofs.YtengejmkpkacgaaDoor
open Go.RowKit

/-- n bytes lie in block g from o on, and may be written -/
def Arr (w : World) (g o n : Nat) (cur : Nat → Nat) : Prop := ∀ j, j < n → w.cell? ⟨g, o + j, none⟩ = some (.int .u8 (cur j : Nat)) ∧ w.frozen? ⟨g, o + j, none⟩ = false
/-- w' is w but for block K and what is new -/
structure Chg (K : Nat) (w w' : World) : Prop where
  os : w'.os = w.os
  tape : w'.tape = w.tape
  output : w'.output = w.output
  size : w.heap.size ≤ w'.heap.size
  block : ∀ k, k < w.heap.size → k ≠ K → w'.heap[k]? = w.heap[k]?
namespace Chg
variable {K : Nat} {w w' w'' : World}
theorem refl (K : Nat) (w : World) : Chg K w w := ⟨rfl, rfl, rfl, Nat.le_refl _, fun _ _ _ => rfl⟩
theorem of_below (h : Below w.heap.size w w') : Chg K w w' := ⟨h.os, h.tape, h.output, h.size, fun k hk _ => h.block k hk⟩
theorem trans (h : Chg K w w') (h' : Chg K w' w'') : Chg K w w'' :=
  ⟨h'.os.trans h.os, h'.tape.trans h.tape, h'.output.trans h.output, Nat.le_trans h.size h'.size, fun k hk hn => (h'.block k (Nat.lt_of_lt_of_le hk h.size) hn).trans (h.block k hk hn)⟩
theorem thenNew {L : Nat} (h : Chg K w w') (h' : Chg L w' w'') (hL : w.heap.size ≤ L) : Chg K w w'' :=
  ⟨h'.os.trans h.os, h'.tape.trans h.tape, h'.output.trans h.output, Nat.le_trans h.size h'.size, fun k hk hn => (h'.block k (Nat.lt_of_lt_of_le hk h.size) (by omega)).trans (h.block k hk hn)⟩
theorem thenBelow (h : Chg K w w') (h' : Below w'.heap.size w' w'') : Chg K w w'' := h.trans (of_below h')
theorem below {B : Nat} (h : Chg K w w') (hB : B ≤ w.heap.size) (hK : B ≤ K) : Below B w w' := ⟨h.os, h.tape, h.output, h.size, fun k hk => h.block k (by omega) (by omega)⟩
theorem alloc (h : Chg K w w') (o : Obj) : Chg K w (w'.alloc o) := h.thenBelow ((Below.refl _ _).alloc (Nat.le_refl _) o)
theorem drew (h : Chg K w w') : Chg K w w'.drew := ⟨h.os, h.tape, h.output, h.size, h.block⟩
theorem drewN (h : Chg K w w') (n : Nat) : Chg K w (w'.drewN n) := ⟨h.os, h.tape, h.output, h.size, h.block⟩
theorem setCell (h : Chg K w w') {a : Addr} (ha : a.block = K ∨ w.heap.size ≤ a.block) (v : Value) : Chg K w (w'.setCell a v) := by
  refine ⟨h.os, h.tape, h.output, ?_, fun k hk hn => (Below.heap_setCell w' a v k (by omega)).trans (h.block k hk hn)⟩
  have := h.size
  simpa [World.setCell] using this
theorem setCells (b : Nat) (hb : b = K ∨ w.heap.size ≤ b) : ∀ (vs : List Value) (o : Nat) (w' : World), Chg K w w' → Chg K w (w'.setCells b o vs)
  | [], _, _, h => h
  | v :: r, o, w', h => by
    rw [World.setCells]
    exact setCells b hb r (o + 1) _ (h.setCell (a := ⟨b, o, none⟩) hb v)
theorem cell (h : Chg K w w') {g o : Nat} (hg : g < w.heap.size) (hK : g ≠ K) : w'.cell? ⟨g, o, none⟩ = w.cell? ⟨g, o, none⟩ := World.cell?_of_block (h.block g hg hK)
theorem frozen (h : Chg K w w') {g o : Nat} (hg : g < w.heap.size) (hK : g ≠ K) : w'.frozen? ⟨g, o, none⟩ = w.frozen? ⟨g, o, none⟩ := World.frozen?_of_block (h.block g hg hK)
end Chg
theorem size_setCell (w : World) (a : Addr) (v : Value) : (w.setCell a v).heap.size = w.heap.size := by simp [World.setCell]
theorem size_setCells (b : Nat) : ∀ (vs : List Value) (o : Nat) (w : World), (w.setCells b o vs).heap.size = w.heap.size
  | [], _, _ => rfl
  | v :: r, o, w => by rw [World.setCells, size_setCells b r (o + 1), size_setCell]
theorem bytesL_length (n : Nat) (f : Nat → Nat) : (bytesL n f).length = n := by simp [bytesL]
theorem bytesL_at {n : Nat} {f : Nat → Nat} {j : Nat} (hj : j < n) : (bytesL n f)[j]? = some (.int .u8 (f j : Nat)) := by
  unfold bytesL
  rw [List.getElem?_map, List.getElem?_range hj]; rfl
theorem bytesL_congr {n : Nat} {f g : Nat → Nat} (h : ∀ j, j < n → f j = g j) : bytesL n f = bytesL n g := List.map_congr_left fun j hj => by rw [h j (List.mem_range.1 hj)]
namespace Arr
variable {w w' : World} {g o n : Nat} {cur f : Nat → Nat}
theorem congr (h : Arr w g o n cur) (e : ∀ j, j < n → cur j = f j) : Arr w g o n f := fun j hj => by rw [← e j hj]; exact h j hj
theorem cell (h : Arr w g o n cur) {j k : Nat} (hj : j < n) (hk : k = o + j) : w.cell? ⟨g, k, none⟩ = some (.int .u8 (cur j : Nat)) := by subst hk; exact (h j hj).1
theorem frozen (h : Arr w g o n cur) {j k : Nat} (hj : j < n) (hk : k = o + j) : w.frozen? ⟨g, k, none⟩ = false := by subst hk; exact (h j hj).2
theorem lt (h : Arr w g o n cur) (hn : 0 < n) : g < w.heap.size := block_lt (h 0 hn).1
theorem of_block (h : Arr w g o n cur) (e : w'.heap[g]? = w.heap[g]?) : Arr w' g o n cur := fun j hj => ⟨(World.cell?_of_block e).trans (h j hj).1, (World.frozen?_of_block e).trans (h j hj).2⟩
theorem drewN (h : Arr w g o n cur) (k : Nat) : Arr (w.drewN k) g o n cur := h
theorem drew (h : Arr w g o n cur) : Arr w.drew g o n cur := h
theorem keep (h : Arr w g o n cur) (hb : Below w.heap.size w w') : Arr w' g o n cur := fun j hj => (h.of_block (hb.block g (h.lt (by omega)))) j hj
theorem alloc (h : Arr w g o n cur) (ob : Obj) : Arr (w.alloc ob) g o n cur := h.keep ((Below.refl _ _).alloc (Nat.le_refl _) ob)
theorem chg {K : Nat} (h : Arr w g o n cur) (hc : Chg K w w') (hK : g ≠ K) : Arr w' g o n cur := fun j hj => (h.of_block (hc.block g (h.lt (by omega)) hK)) j hj
theorem setOther (h : Arr w g o n cur) {a : Addr} (ha : g ≠ a.block) (v : Value) : Arr (w.setCell a v) g o n cur := h.of_block (Below.heap_setCell w a v g ha)
theorem setApart (h : Arr w g o n cur) {k : Nat} (hk : k < o ∨ o + n ≤ k) (v : Value) : Arr (w.setCell ⟨g, k, none⟩ v) g o n cur := fun j hj =>
  ⟨(World.cell?_setCell_other w ⟨g, k, none⟩ ⟨g, o + j, none⟩ v (fun e => by have := congrArg Addr.off e; simp at this; omega)).trans (h j hj).1, by rw [World.frozen?_setCell]; exact (h j hj).2⟩
theorem set (h : Arr w g o n cur) {k i : Nat} (hi : i < n) (hk : k = o + i) (x : Nat) {v : Value} (hv : v = .int .u8 (x : Nat)) : Arr (w.setCell ⟨g, k, none⟩ v) g o n (fun j => if j = i then x else cur j) := fun j hj => by
  subst hk hv
  refine ⟨?_, by rw [World.frozen?_setCell]; exact (h j hj).2⟩
  by_cases e : j = i
  · subst e
    rw [World.cell?_setCell_same w _ _ (h j hj).1]
    show _ = some (Value.int .u8 ((if j = j then x else cur j : Nat) : Int))
    rw [if_pos rfl]
  · refine (World.cell?_setCell_other w ⟨g, o + i, none⟩ ⟨g, o + j, none⟩ _ (fun e' => by have := congrArg Addr.off e'; simp at this; omega)).trans ?_
    show _ = some (Value.int .u8 ((if j = i then x else cur j : Nat) : Int))
    rw [if_neg e]; exact (h j hj).1
theorem range (h : Arr w g o n cur) : w.rangeAt g o (bytesL n cur) := fun j v hv => by
  obtain ⟨hj, rfl⟩ := bytesL_get _ _ j v hv
  exact (h j hj).1
theorem sub (h : Arr w g o n cur) {a m o' : Nat} (ha : a + m ≤ n) (ho : o' = o + a) : Arr w g o' m (fun j => cur (a + j)) := fun j hj => by
  subst ho
  rw [Nat.add_assoc]
  exact h (a + j) (by omega)
theorem there (h : Arr w g o n cur) : w.there g o n := fun j hj => ⟨by rw [(h j hj).1]; rfl, (h j hj).2⟩
theorem there' (h : Arr w g o n cur) (f : Nat → Nat) : w.there g o (bytesL n f).toArray.size := by
  rw [List.size_toArray, bytesL_length]; exact h.there
theorem slB (h : Arr w g o n cur) (hb : By n cur) : SlB w (some ⟨g, o, none⟩) n cur := fun hn => ⟨g, o, rfl, h.lt hn, fun j hj => ⟨hb j hj, (h j hj).1⟩⟩
/-- a whole row laid -/
theorem setCells (h : Arr w g o n cur) (f : Nat → Nat) : Arr (w.setCells g o (bytesL n f)) g o n f := fun j hj => by
  refine ⟨?_, ?_⟩
  · exact World.rangeAt_setCells_same w g o (bytesL n f) (by rw [bytesL_length]; exact h.there) j _ (bytesL_at hj)
  · rw [World.frozen?_setCells]; exact (h j hj).2
theorem setCellsOther (h : Arr w g o n cur) {b : Nat} (hb : g ≠ b) (k : Nat) (vs : List Value) : Arr (w.setCells b k vs) g o n cur := fun j hj => by
  have hc : Chg b w (w.setCells b k vs) := Chg.setCells b (Or.inl rfl) vs k w (Chg.refl _ _)
  exact h.chg hc hb j hj
end Arr
theorem setCells_below (w0 w : World) (B b : Nat) (hB : B ≤ b) (vs : List Value) (o : Nat) (h : Below B w0 w) : Below B w0 (w.setCells b o vs) := by
  induction vs generalizing o w with
  | nil => exact h
  | cons v r ih => rw [World.setCells]; exact ih _ _ (h.setCell (p := ⟨b, o, none⟩) hB v)
/-- a block that is made -/
theorem arr_made (w : World) (c : Array Value) (t : TypeId) (n : Nat) (f : Nat → Nat) (hc : c = (bytesL n f).toArray) : Arr (w.alloc (.cells c t)) w.heap.size 0 n f := fun j hj => by
  subst hc
  refine ⟨(World.cell?_alloc_at _ _ _ _ rfl).trans ?_, World.frozen?_alloc_at _ _ _ _ rfl⟩
  show (bytesL n f).toArray[0 + j]? = _
  rw [Nat.zero_add, List.getElem?_toArray]
  exact bytesL_at hj
/-- an array's value -/
abbrev aggB (n : Nat) (f : Nat → Nat) : Value := .agg (bytesL n f).toArray
theorem aggB_congr {n : Nat} {f g : Nat → Nat} (h : ∀ j, j < n → f j = g j) : aggB n f = aggB n g := by unfold aggB; rw [bytesL_congr h]
theorem bytes_one' (k : Nat) (f : Nat → Nat) : (bytesL k f).toArray.all (·.oneCell') = true := all_oneCell_toArray (bytes_one k f)
/-- the load of an array of bytes -/
theorem wpList_loadR {ops : Array Oper} {rest : List Oper} {op : Oper} {a : Act} {w : World} {Q : Exit → Act → World → Prop} (hgd : op.guard = none) (ty : TypeId) (x : Operand) (ho : op.op = .load ty x)
    (b o n : Nat) (hx : a.eval x = .pointer (some ⟨b, o, none⟩)) (f : Nat → Nat) (hc : w.rangeAt b o (bytesL n f)) (d : TypeDesc) (hu : Tryd.prog.underlying ty = some d) (hd : d.isRow = true) (hi : (Tryd.prog.info? ty).map (·.size) = some n)
    (h : wpList Tryd.prog ops Q rest (a.put op.dst (aggB n f)) w) : wpList Tryd.prog ops Q (op :: rest) a w :=
  wpList_load_mid hgd ty x ho b o hx _ d hc hu hd (by rw [bytesL_length]; exact hi) h
theorem wpList_loadB {ops : Array Oper} {rest : List Oper} {op : Oper} {a : Act} {w : World} {Q : Exit → Act → World → Prop} (hgd : op.guard = none) (ty : TypeId) (x : Operand) (ho : op.op = .load ty x)
    (b o n : Nat) (hx : a.eval x = .pointer (some ⟨b, o, none⟩)) (f : Nat → Nat) (hc : Arr w b o n f) (d : TypeDesc) (hu : Tryd.prog.underlying ty = some d) (hd : d.isRow = true) (hi : (Tryd.prog.info? ty).map (·.size) = some n)
    (h : wpList Tryd.prog ops Q rest (a.put op.dst (aggB n f)) w) : wpList Tryd.prog ops Q (op :: rest) a w :=
  wpList_load_mid hgd ty x ho b o hx _ d hc.range hu hd (by rw [bytesL_length]; exact hi) h
/-- the store of an array of bytes -/
theorem wpList_storeB {ops : Array Oper} {rest : List Oper} {op : Oper} {a : Act} {w : World} {Q : Exit → Act → World → Prop} (hgd : op.guard = none) (ty : TypeId) (x y : Operand) (ho : op.op = .store ty x y)
    (b o n : Nat) (f cur : Nat → Nat) (hx : a.eval x = .pointer (some ⟨b, o, none⟩)) (hy : a.eval y = aggB n f) (hc : Arr w b o n cur) (hi : (Tryd.prog.info? ty).map (·.size) = some n)
    (h : ∀ w', Arr w' b o n f → Chg b w w' → wpList Tryd.prog ops Q rest (a.put op.dst undef) w') : wpList Tryd.prog ops Q (op :: rest) a w := by
  refine wpList_store_mid hgd ty x y ho b o (bytesL n f).toArray hx hy (hc.there' f) (by rw [List.size_toArray, bytesL_length]; exact hi) (bytes_one' _ _) ?_
  rw [List.toList_toArray]
  exact h _ (hc.setCells f) (Chg.setCells b (Or.inl rfl) _ _ w (Chg.refl _ _))
/-- a result that is an array of bytes -/
theorem results_cellB {fn : Func} {p : Tmp} {ty : TypeId} (h : fn.results = #[.cell p ty]) (tmps : Array Value) (w : World) (b o n : Nat) (f : Nat → Nat) (hp : tmps.getD p undef = .pointer (some ⟨b, o, none⟩)) (hc : Arr w b o n f)
    (d : TypeDesc) (hu : Tryd.prog.underlying ty = some d) (hd : d.isRow = true) (hi : (Tryd.prog.info? ty).map (·.size) = some n) : (results fn tmps).run Tryd.prog w = .ok (aggB n f) w := by
  have hp' : tmps[p]?.getD undef = .pointer (some ⟨b, o, none⟩) := by simpa using hp
  have hl := run_loadVar_mid (P := Tryd.prog) w b o ty (bytesL n f) d hc.range hu hd (by rw [bytesL_length]; exact hi)
  simp [results, h, hp', asAddr, hl, aggB]
theorem sizeU8 (w : World) : (sizeOf 5).run Tryd.prog w = .ok 1 w := by
  obtain ⟨i, hi, _, hs, _⟩ := info_parts info8
  simp [sizeOf, typeInfo, hi, hs]
/-- a[k] of an array's value -/
theorem index_arr (t : TypeId) (n : Nat) (f : Nat → Nat) (k x : Nat) (hu : Tryd.prog.underlying t = some (.array n 5)) (hk : k < n) (hx : f k = x) (w : World) :
    (Instr.index t (aggB n f) (.int .i64 (k : Nat))).run Tryd.prog w = .ok (.int .u8 (x : Nat)) w := by
  subst hx
  have hz := sizeU8 w
  unfold Instr.index
  simp [asIntOf, Sem.run_bind, run_underlying hu w, hz, part]
  rw [if_pos hk, bytesL_at hk]
  rfl
/-- p[l:h] of an array of bytes behind a pointer -/
theorem sl_arr (t : TypeId) (n g o l h : Nat) (hu : Tryd.prog.underlying t = some (.array n 5)) (hlh : l ≤ h) (hl : l < n) (hh : h ≤ n) (li hi : Int) (el : li = (l : Nat)) (eh : hi = (h : Nat)) (w : World) :
    (Instr.sliceAt t (.pointer (some ⟨g, o, none⟩)) (some (.int .i64 li)) (some (.int .i64 hi)) none).run Tryd.prog w = .ok (.slice (some ⟨g, o + l, none⟩) (h - l) (n - l)) w := by
  subst el eh
  have he : Tryd.prog.elem t = 5 := by simp [Program.elem, hu]
  have hn : Tryd.prog.arrayLen t = n := by simp [Program.arrayLen, hu]
  rw [run_sliceAt_array_lh (h0 := by omega) (h1 := by omega) (h2 := by rw [hn]; omega) (ht := by rw [hn, he]; exact hu), he, sizeU8]
  show Result.ok (slicedAt ⟨g, o, none⟩ _ _ _ 1) w = _
  rw [hn, Int.toNat_natCast, Int.toNat_natCast]
  unfold slicedAt
  rw [if_neg (by omega), Go.WideShapes.add_plain, Nat.mul_one]
/-- (*[n]byte)(b) -/
theorem to_arr (t : TypeId) (n : Nat) (e : TypeId) (hu : Tryd.prog.underlying t = some (.array n e)) (a : Option Addr) (len c : Nat) (hl : n ≤ len) (w : World) :
    (Instr.arrayAt t (.slice a len c)).run Tryd.prog w = .ok (.pointer a) w := by
  unfold Instr.arrayAt
  rw [Sem.run_bind, run_underlying hu w]
  simp [Nat.not_lt.2 hl]
end Go.Proofs.YtengejmkpkacgaaDoor
/- More of rows of bytes in the middle of a block. -/
namespace Go.Proofs.YtengejmkpkacgaaDoor
open Go.RowKit
/-- p[:] of an array of bytes behind a pointer -/
theorem all_arr (t : TypeId) (n g o : Nat) (hu : Tryd.prog.underlying t = some (.array n 5)) (hn : 0 < n) (w : World) :
    (Instr.sliceAt t (.pointer (some ⟨g, o, none⟩)) none none none).run Tryd.prog w = .ok (.slice (some ⟨g, o, none⟩) n n) w := by
  have he : Tryd.prog.elem t = 5 := by simp [Program.elem, hu]
  have hl : Tryd.prog.arrayLen t = n := by simp [Program.arrayLen, hu]
  rw [run_sliceAt_array_all (ht := by rw [hl, he]; exact hu), he, sizeU8]
  show Result.ok (slicedAt ⟨g, o, none⟩ _ _ _ 1) w = _
  rw [hl]
  unfold slicedAt
  rw [if_neg (by omega), Go.WideShapes.add_plain, Nat.zero_mul, Nat.add_zero, Nat.sub_zero]
theorem upto_step (f h : Nat → Nat) (k x : Nat) (hx : h k = x) (j : Nat) : (if j = k then x else if j < k then h j else f j) = if j < k + 1 then h j else f j := by
  by_cases e : j = k
  · subst e; rw [if_pos rfl, if_pos (Nat.lt_succ_self _), hx]
  · rw [if_neg e]
    by_cases h : j < k
    · rw [if_pos h, if_pos (by omega)]
    · rw [if_neg h, if_neg (by omega)]
theorem arr_of_list {w : World} {g o n : Nat} {f : Nat → Nat} {L : List Value} {t : TypeId} (h : w.heap[g]? = some (.cells L.toArray t (0, 0))) (hL : ∀ j, j < n → L[o + j]? = (bytesL n f)[j]?) : Arr w g o n f := fun j hj => by
  refine ⟨?_, by simp [World.frozen?, h]⟩
  simp only [World.cell?, h]
  rw [List.getElem?_toArray, hL j hj, bytesL_at hj]
  rfl
theorem cell_off {w : World} {g k j : Nat} (hkj : k ≠ j) (v : Value) : (w.setCell ⟨g, k, none⟩ v).cell? ⟨g, j, none⟩ = w.cell? ⟨g, j, none⟩ :=
  World.cell?_setCell_other w ⟨g, k, none⟩ ⟨g, j, none⟩ v (fun e => hkj (congrArg Addr.off e))
end Go.Proofs.YtengejmkpkacgaaDoor
/- sync.Once, one goroutine: Do with a method value, by that method's contract. -/
namespace Go.Proofs.YtengejmkpkacgaaDoor
open Go.MuLone

noncomputable abbrev muLink : Go.Conc.Locks.MuLink := { lock := 43, unlock := 44, ilock := 57, iunlock := 58, lockSlow := 73, unlockSlow := 76, disable := 69, enable := 71, acquire := 72, relMerge := 74, cas32 := 70, add32 := 75, tMutex := 53, tIMutex := 51, tPMutex := Tryd.f43.params.getD 0 0, tPIMutex := Tryd.f57.params.getD 0 0, tPI32 := 117, tUP := 119, tNoCopy := 45, tU32 := 47 }
/-- what a pointer's type says -/
theorem ptr_facts {p t : TypeId} (hu : Tryd.prog.underlying p = some (.pointer t)) (hi : (Tryd.prog.info? p).map (fun i => (i.zero, i.size)) = some (some (.pointer none), 1)) :
    (∀ w, Sem.run Tryd.prog (underlying p) w = .ok (.pointer t) w) ∧ (∀ w, Sem.run Tryd.prog (Go.sizeOf p) w = .ok 1 w) ∧ (∀ w, Sem.run Tryd.prog (isAgg p) w = .ok false w) ∧ (∀ w, Sem.run Tryd.prog (zeroValue p) w = .ok (.pointer none) w) := by
  have h1 : ∀ w, Sem.run Tryd.prog (underlying p) w = .ok (.pointer t) w := run_underlying hu
  refine ⟨h1, fun w => ?_, fun w => ?_, (zero_of_info hi).1⟩
  · have := (zero_of_info hi).2
    cases hq : Tryd.prog.info? p with
    | none => simp [hq] at this
    | some i => simp [hq] at this; simp [sizeOf, typeInfo, hq, this]
  · unfold isAgg
    rw [Sem.run_bind, h1]
    rfl
theorem muLib : Go.Conc.Locks.MuLib Tryd.prog muLink := by
  have pM := ptr_facts (p := muLink.tPMutex) (t := 53) (by kernel_rfl) (by kernel_rfl)
  have pIM := ptr_facts (p := muLink.tPIMutex) (t := 51) (by kernel_rfl) (by kernel_rfl)
  exact ⟨Tryd.func43, Tryd.func44, Tryd.func57, Tryd.func58, Tryd.func69, Tryd.func71, Tryd.func72, Tryd.func74, Tryd.func70, Tryd.func75, Tryd.underlying51, Tryd.runUnderlying51, Tryd.sizeOf51, Tryd.isAgg51, Tryd.zeroValue51, Tryd.underlying53, Tryd.runUnderlying53, Tryd.sizeOf53, Tryd.isAgg53, Tryd.zeroValue53, (by kernel_rfl), pM.1, pM.2.1, pM.2.2.1, pM.2.2.2, (by kernel_rfl), pIM.1, pIM.2.1, pIM.2.2.1, pIM.2.2.2, Tryd.underlying117, Tryd.runUnderlying117, Tryd.sizeOf117, Tryd.isAgg117, Tryd.zeroValue117, Tryd.underlying119, Tryd.runUnderlying119, Tryd.sizeOf119, Tryd.isAgg119, Tryd.zeroValue119, Tryd.underlying45, Tryd.runUnderlying45, Tryd.sizeOf45, Tryd.isAgg45, Tryd.zeroValue45, Tryd.underlying21, Tryd.runUnderlying21, Tryd.sizeOf21, Tryd.isAgg21, Tryd.zeroValue21, (by kernel_rfl)⟩

/-- '(*sync/atomic.Bool).Store(true)', entered as a deferred call -/
theorem store_deferred (a : Addr) (x : Value) (u : FrameMode) (w : World) (hc : w.cell? a = some x) (hz : w.frozen? a = false) :
    CallsD Tryd.prog 45 #[.pointer (some a), .bool true] u w fun e u' w' => u' = u ∧ (e = .returned (.tuple #[]) ∧ w' = w.drew.setCell a (.int .u32 1)) := by
  have hc' : w.drew.cell? a = some x := by go_simp
  have hz' : w.drew.frozen? a = false := by go_simp
  have hst := run_call_store (P := Tryd.prog) Tryd.func59 (by kernel_rfl) (by kernel_rfl) (by kernel_rfl) (by kernel_rfl) (k := .u32) (y := 1) hc' hz'
  go_enter_d Tryd.func45, Tryd.ntmps45
  go_wp2
  go_region_calls
  all_goals (go_end0; exact ⟨rfl, rfl⟩)

/-- what a world must have of a Once: its word and its lock -/
structure OnceAt (w : World) (b off : Nat) (d m : Int) : Prop where
  done : w.cell? ⟨b, off, none⟩ = some (.int .u32 d)
  lock : w.cell? ⟨b, off + 1, none⟩ = some (.int .i32 m)
  fdone : w.frozen? ⟨b, off, none⟩ = false
  flock : w.frozen? ⟨b, off + 1, none⟩ = false

/-- '(*sync.Once).Do', done already -/
theorem do_done (b off : Nat) (fv : Value) (m : Int) (w : World) (h : OnceAt w b off 1 m) :
    Calls Tryd.prog 26 #[.pointer (some ⟨b, off, none⟩), fv] w fun e w' => e = .returned (.tuple #[]) ∧ w' = w := by
  have hl := run_call_load (P := Tryd.prog) Tryd.func42 (by kernel_rfl) (by kernel_rfl) (by kernel_rfl) .u32 (by kernel_rfl) h.done
  have hnot : ∀ (x : Bool) (w : World), (Op.unary .not (.bool x)).run Tryd.prog w = .ok (.bool (!x)) w := fun _ _ => rfl
  go_enter Tryd.func26, Tryd.ntmps26
  go_wp2
  go_end0
  exact ⟨rfl, rfl⟩
end Go.Proofs.YtengejmkpkacgaaDoor
/- sync.Once's slow road with a method, by that method's contract. -/
namespace Go.Proofs.YtengejmkpkacgaaDoor
open Go.MuLone

set_option maxRecDepth 100000 in
set_option maxHeartbeats 1600000 in
theorem slow_mac (b off : Nat) (rv : Value) (w : World) (h : OnceAt w b off 0 0) (R : World → Prop)
    (hF : Calls Tryd.prog 38 #[rv] (w.setCell ⟨b, off + 1, none⟩ (.int .i32 1)) fun e w' => e = .returned (.tuple #[]) ∧ R w') (hR : ∀ w', R w' → OnceAt w' b off 0 1) :
    Calls Tryd.prog 34 #[.pointer (some ⟨b, off, none⟩), .func (.func 38) #[rv] #[]] w fun e w' => e = .returned (.tuple #[]) ∧
      ∃ w1, R w1 ∧ w' = (w1.drew.setCell ⟨b, off, none⟩ (.int .u32 1)).setCell ⟨b, off + 1, none⟩ (.int .i32 0) := by
  have hl := run_call_load (P := Tryd.prog) Tryd.func42 (by kernel_rfl) (by kernel_rfl) (by kernel_rfl) .u32 (by kernel_rfl) (w := w.setCell ⟨b, off + 1, none⟩ (.int .i32 1)) (a := ⟨b, off, none⟩) (x := 0) ((World.cell?_setCell_other _ ⟨b, off + 1, none⟩ ⟨b, off, none⟩ _ (by simp)).trans h.done)
  have hnot : ∀ (x : Bool) (w : World), (Op.unary .not (.bool x)).run Tryd.prog w = .ok (.bool (!x)) w := fun _ _ => rfl
  have HR := Lib.hid hR
  have HF := Lib.hid hF
  have H := Lib.hid h
  clear hR hF h
  go_enter_defers Tryd.func34, Tryd.ntmps34
  go_wp2_with (first | (go_at_call 43; refine (lock_free muLib ⟨b, off + 1, none⟩ _ H.out.lock H.out.flock).mono ?_; rintro e w' ⟨rfl, rfl⟩) | (go_at_call 33; go_in) | (go_at_call 38; refine HF.out.mono ?_; rintro e w' ⟨rfl, hw⟩; have HW := Lib.hid hw; clear hw))
  have h1 := HR.out _ HW.out
  -- the door: two deferred calls, the last laid first
  refine leaves_cons (f := 45) (args := #[.pointer (some ⟨b, off, none⟩), .bool true]) (by simp) (by simp [go_sem]) ?_
  refine (store_deferred ⟨b, off, none⟩ (.int .u32 0) .returning _ h1.done h1.fdone).mono ?_
  rintro e u' w'' ⟨rfl, rfl, rfl⟩
  refine leaves_cons (f := 44) (args := #[.pointer (some ⟨b, off + 1, none⟩)]) (by simp [settle]) (by simp [go_sem]) ?_
  refine (unlock_deferred muLib ⟨b, off + 1, none⟩ _ _ ?_ (by simp [h1.flock])).mono ?_
  · refine (World.cell?_setCell_other _ ⟨b, off, none⟩ ⟨b, off + 1, none⟩ _ (by simp)).trans ?_
    rw [World.cell?_drew]
    exact h1.lock
  rintro e u' w'' ⟨rfl, rfl, rfl⟩
  exact ⟨_, results_none rfl _ _ _, rfl, w', HW.out, rfl⟩

/-- '(*sync.Once).Do', not yet done, the lock free -/
theorem do_first_mac (b off : Nat) (rv : Value) (w : World) (h : OnceAt w b off 0 0) (R : World → Prop)
    (hF : Calls Tryd.prog 38 #[rv] (w.setCell ⟨b, off + 1, none⟩ (.int .i32 1)) fun e w' => e = .returned (.tuple #[]) ∧ R w') (hR : ∀ w', R w' → OnceAt w' b off 0 1) :
    Calls Tryd.prog 26 #[.pointer (some ⟨b, off, none⟩), .func (.func 38) #[rv] #[]] w fun e w' => e = .returned (.tuple #[]) ∧
      ∃ w1, R w1 ∧ w' = (w1.drew.setCell ⟨b, off, none⟩ (.int .u32 1)).setCell ⟨b, off + 1, none⟩ (.int .i32 0) := by
  have hl := run_call_load (P := Tryd.prog) Tryd.func42 (by kernel_rfl) (by kernel_rfl) (by kernel_rfl) .u32 (by kernel_rfl) h.done
  have hnot : ∀ (x : Bool) (w : World), (Op.unary .not (.bool x)).run Tryd.prog w = .ok (.bool (!x)) w := fun _ _ => rfl
  have HS := Lib.hid (slow_mac b off rv w h R hF hR)
  clear hR hF h
  go_enter Tryd.func26, Tryd.ntmps26
  go_wp2_with (first | (go_at_call 34; refine HS.out.mono ?_; rintro e w' ⟨rfl, hw⟩; have HW := Lib.hid hw; clear hw) | (go_at_call 33; go_in))
  go_end0
  exact ⟨rfl, HW.out⟩
end Go.Proofs.YtengejmkpkacgaaDoor
/- Rows of any values: a block known whole; a part of one. -/
namespace Go.Proofs.YtengejmkpkacgaaDoor
open Go.RowKit

def valsL (n : Nat) (f : Nat → Value) : List Value := (List.range n).map f
theorem valsL_length (n : Nat) (f : Nat → Value) : (valsL n f).length = n := by simp [valsL]
theorem valsL_at {n : Nat} {f : Nat → Value} {j : Nat} (hj : j < n) : (valsL n f)[j]? = some (f j) := by
  unfold valsL; rw [List.getElem?_map, List.getElem?_range hj]; rfl
theorem valsL_get {n : Nat} {f : Nat → Value} {j : Nat} {u : Value} (h : (valsL n f)[j]? = some u) : j < n ∧ u = f j := by
  rcases Nat.lt_or_ge j n with hj | hj
  · rw [valsL_at hj] at h; exact ⟨hj, (Option.some.inj h).symm⟩
  · rw [List.getElem?_eq_none (by rw [valsL_length]; exact hj)] at h; cases h
theorem valsL_congr {n : Nat} {f g : Nat → Value} (h : ∀ j, j < n → f j = g j) : valsL n f = valsL n g := List.map_congr_left fun j hj => h j (List.mem_range.1 hj)
theorem vals_one {n : Nat} {f : Nat → Value} (h : ∀ j, j < n → (f j).oneCell' = true) : ∀ v ∈ valsL n f, v.oneCell' = true := by
  intro u hu
  obtain ⟨j, hj⟩ := List.getElem?_of_mem hu
  obtain ⟨hk, rfl⟩ := valsL_get hj
  exact h j hk
/-- n values lie in block g from o on, and may be written -/
def ArrV (w : World) (g o n : Nat) (f : Nat → Value) : Prop := ∀ j, j < n → w.cell? ⟨g, o + j, none⟩ = some (f j) ∧ w.frozen? ⟨g, o + j, none⟩ = false
namespace ArrV
variable {w w' : World} {g o n : Nat} {cur f : Nat → Value}
theorem congr (h : ArrV w g o n cur) (e : ∀ j, j < n → cur j = f j) : ArrV w g o n f := fun j hj => by rw [← e j hj]; exact h j hj
theorem cell (h : ArrV w g o n cur) {j k : Nat} (hj : j < n) (hk : k = o + j) : w.cell? ⟨g, k, none⟩ = some (cur j) := by subst hk; exact (h j hj).1
theorem frozen (h : ArrV w g o n cur) {j k : Nat} (hj : j < n) (hk : k = o + j) : w.frozen? ⟨g, k, none⟩ = false := by subst hk; exact (h j hj).2
theorem lt (h : ArrV w g o n cur) (hn : 0 < n) : g < w.heap.size := block_lt (h 0 hn).1
theorem of_block (h : ArrV w g o n cur) (e : w'.heap[g]? = w.heap[g]?) : ArrV w' g o n cur := fun j hj => ⟨(World.cell?_of_block e).trans (h j hj).1, (World.frozen?_of_block e).trans (h j hj).2⟩
theorem drewN (h : ArrV w g o n cur) (k : Nat) : ArrV (w.drewN k) g o n cur := h
theorem drew (h : ArrV w g o n cur) : ArrV w.drew g o n cur := h
theorem keep (h : ArrV w g o n cur) (hb : Below w.heap.size w w') : ArrV w' g o n cur := fun j hj => (h.of_block (hb.block g (h.lt (by omega)))) j hj
theorem alloc (h : ArrV w g o n cur) (ob : Obj) : ArrV (w.alloc ob) g o n cur := h.keep ((Below.refl _ _).alloc (Nat.le_refl _) ob)
theorem chg {K : Nat} (h : ArrV w g o n cur) (hc : Chg K w w') (hK : g ≠ K) : ArrV w' g o n cur := fun j hj => (h.of_block (hc.block g (h.lt (by omega)) hK)) j hj
theorem setOther (h : ArrV w g o n cur) {a : Addr} (ha : g ≠ a.block) (v : Value) : ArrV (w.setCell a v) g o n cur := h.of_block (Below.heap_setCell w a v g ha)
theorem set (h : ArrV w g o n cur) {k i : Nat} (hi : i < n) (hk : k = o + i) (v : Value) : ArrV (w.setCell ⟨g, k, none⟩ v) g o n (fun j => if j = i then v else cur j) := fun j hj => by
  subst hk
  refine ⟨?_, by rw [World.frozen?_setCell]; exact (h j hj).2⟩
  by_cases e : j = i
  · subst e
    rw [World.cell?_setCell_same w _ _ (h j hj).1]
    show _ = some (if j = j then v else cur j)
    rw [if_pos rfl]
  · refine (World.cell?_setCell_other w ⟨g, o + i, none⟩ ⟨g, o + j, none⟩ _ (fun e' => by have := congrArg Addr.off e'; simp at this; omega)).trans ?_
    show _ = some (if j = i then v else cur j)
    rw [if_neg e]; exact (h j hj).1
theorem range (h : ArrV w g o n cur) : w.rangeAt g o (valsL n cur) := fun j v hv => by
  obtain ⟨hj, rfl⟩ := valsL_get hv
  exact (h j hj).1
theorem sub (h : ArrV w g o n cur) {a m o' : Nat} (ha : a + m ≤ n) (ho : o' = o + a) : ArrV w g o' m (fun j => cur (a + j)) := fun j hj => by
  subst ho
  rw [Nat.add_assoc]
  exact h (a + j) (by omega)
theorem there (h : ArrV w g o n cur) : w.there g o n := fun j hj => ⟨by rw [(h j hj).1]; rfl, (h j hj).2⟩
theorem there' (h : ArrV w g o n cur) (f : Nat → Value) : w.there g o (valsL n f).toArray.size := by
  rw [List.size_toArray, valsL_length]; exact h.there
/-- a whole row laid -/
theorem setCells (h : ArrV w g o n cur) (f : Nat → Value) : ArrV (w.setCells g o (valsL n f)) g o n f := fun j hj => by
  refine ⟨?_, ?_⟩
  · exact World.rangeAt_setCells_same w g o (valsL n f) (by rw [valsL_length]; exact h.there) j _ (valsL_at hj)
  · rw [World.frozen?_setCells]; exact (h j hj).2
end ArrV
/-- a block that is made -/
theorem arrV_made (w : World) (c : Array Value) (t : TypeId) (n : Nat) (f : Nat → Value) (hc : c = (valsL n f).toArray) : ArrV (w.alloc (.cells c t)) w.heap.size 0 n f := fun j hj => by
  subst hc
  refine ⟨(World.cell?_alloc_at _ _ _ _ rfl).trans ?_, World.frozen?_alloc_at _ _ _ _ rfl⟩
  show (valsL n f).toArray[0 + j]? = _
  rw [Nat.zero_add, List.getElem?_toArray]
  exact valsL_at hj
/-- block g is a row of n values -/
def RowV (w : World) (g : Nat) (t : TypeId) (n : Nat) (f : Nat → Value) : Prop := w.heap[g]? = some (.cells (valsL n f).toArray t (0, 0))
namespace RowV
variable {w w' : World} {g n : Nat} {t : TypeId} {cur f : Nat → Value}
theorem lt (h : RowV w g t n cur) : g < w.heap.size := (Array.getElem?_eq_some_iff.1 h).1
theorem of_block (h : RowV w g t n cur) (e : w'.heap[g]? = w.heap[g]?) : RowV w' g t n cur := e.trans h
theorem drewN (h : RowV w g t n cur) (k : Nat) : RowV (w.drewN k) g t n cur := h
theorem drew (h : RowV w g t n cur) : RowV w.drew g t n cur := h
theorem keep (h : RowV w g t n cur) (hb : Below w.heap.size w w') : RowV w' g t n cur := h.of_block (hb.block g h.lt)
theorem alloc (h : RowV w g t n cur) (o : Obj) : RowV (w.alloc o) g t n cur := h.of_block (Below.heap_alloc w o g h.lt)
theorem chg {K : Nat} (h : RowV w g t n cur) (hc : Chg K w w') (hK : g ≠ K) : RowV w' g t n cur := h.of_block (hc.block g h.lt hK)
theorem setOther (h : RowV w g t n cur) {a : Addr} (ha : g ≠ a.block) (v : Value) : RowV (w.setCell a v) g t n cur := h.of_block (Below.heap_setCell w a v g ha)
theorem congr (h : RowV w g t n cur) (e : ∀ j, j < n → cur j = f j) : RowV w g t n f := by
  unfold RowV at *; rw [← valsL_congr e]; exact h
theorem arr (h : RowV w g t n cur) : ArrV w g 0 n cur := fun j hj => by
  rw [Nat.zero_add]
  refine ⟨?_, ?_⟩
  · unfold RowV at h
    have e : (valsL n cur)[j]? = some (cur j) := valsL_at hj
    simp [World.cell?, h, e]
  · unfold RowV at h
    simp [World.frozen?, h]
theorem cell (h : RowV w g t n cur) {i : Nat} (hi : i < n) : w.cell? ⟨g, i, none⟩ = some (cur i) := h.arr.cell hi (Nat.zero_add i).symm
theorem frozen (h : RowV w g t n cur) {i : Nat} (hi : i < n) : w.frozen? ⟨g, i, none⟩ = false := h.arr.frozen hi (Nat.zero_add i).symm
theorem set (h : RowV w g t n cur) (i : Nat) (v : Value) : RowV (w.setCell ⟨g, i, none⟩ v) g t n (fun j => if j = i then v else cur j) := by
  unfold RowV at *
  rw [show (w.setCell ⟨g, i, none⟩ v).heap[g]? = some (.cells ((valsL n cur).toArray.setIfInBounds i v) t (0, 0)) by simp [World.setCell, Array.getElem?_modify, h]]
  congr 2
  apply Array.ext'
  apply List.ext_getElem?
  intro j
  simp only [List.setIfInBounds_toArray, List.getElem?_set, valsL_length]
  rcases Nat.lt_or_ge j n with hj | hj
  · rw [valsL_at hj, valsL_at hj]
    by_cases e : i = j
    · subst e; simp [hj]
    · have e2 : ¬ j = i := fun h => e h.symm
      simp [e, e2]
  · rw [List.getElem?_eq_none (by rw [valsL_length]; exact hj), List.getElem?_eq_none (by rw [valsL_length]; exact hj)]
    by_cases e : i = j
    · subst e; simp [Nat.not_lt.2 hj]
    · simp [e]
end RowV
theorem rowV_made (w : World) (c : Array Value) (t : TypeId) (n : Nat) (f : Nat → Value) (hc : c = (valsL n f).toArray) : RowV (w.alloc (.cells c t)) w.heap.size t n f := by
  subst hc; exact heap_alloc_new w _
/-- k values laid over others from a place on -/
def putV (off k : Nat) (f cur : Nat → Value) (j : Nat) : Value := if off ≤ j ∧ j < off + k then f (j - off) else cur j
theorem splice_vals (m off k : Nat) (f cur : Nat → Value) (h : off + k ≤ m) : splice (valsL m cur) off (valsL k f) = valsL m (putV off k f cur) := by
  unfold splice valsL
  apply List.ext_getElem?
  intro j
  simp only [List.length_map, List.length_range, List.getElem?_append, List.getElem?_take, List.getElem?_drop, List.length_take, List.getElem?_map]
  rw [Nat.min_eq_left (show off ≤ m by omega)]
  unfold putV
  by_cases h1 : j < off
  · rw [if_pos h1, if_pos h1, List.getElem?_range (by omega)]
    simp only [Option.map_some]
    rw [if_neg (by omega)]
  · rw [if_neg h1]
    by_cases h2 : j < off + k
    · rw [if_pos (by omega), List.getElem?_range (by omega), List.getElem?_range (by omega)]
      simp only [Option.map_some]
      rw [if_pos ⟨by omega, h2⟩]
    · rw [if_neg (by omega), show off + k + (j - off - k) = j by omega]
      by_cases hj : j < m
      · rw [List.getElem?_range hj]
        simp only [Option.map_some]
        rw [if_neg (by omega)]
      · rw [List.getElem?_eq_none (by simpa using hj)]; rfl
theorem chg_setRow (w : World) (g : Nat) (cs : Array Value) : Chg g w (w.setRow g cs) := ⟨rfl, rfl, rfl, by simp [World.setRow], fun k _ hk => setRow_other w g k cs hk⟩
/-- copy of bytes into the middle of a block, as one step of a region that draws its order -/
theorem step_copyV {ops : Array Oper} {o : Oper} {a : Act} {w : World} {K : Act → World → Prop} {Q : Exit → Act → World → Prop} {E : Prop} (hgd : o.guard = none) (d s : Operand)
    (ho : o.op = .call { callee := .builtin .copy, args := #[d, s], argTypes := #[22, 22] })
    (g off dLen dCap : Nat) (A : Option Addr) (sLen sCap : Nat) (hd : a.eval d = .slice (some ⟨g, off, none⟩) dLen dCap) (hs : a.eval s = .slice A sLen sCap)
    (t : TypeId) (m : Nat) (cur : Nat → Value) (hg : RowV w g t m cur) (f : Nat → Nat) (hA : SlB w A sLen f) (k : Nat) (hk : k = Nat.min sLen dLen) (hfit : off + k ≤ m)
    (h : ∀ w', RowV w' g t m (putV off k (fun j => .int .u8 (f j : Nat)) cur) → Chg g w w' → K (a.put o.dst (goInt k)) w') : if Region.wanted o (yielded ops a.tmps) = true then Oper.wp Tryd.prog o a w K Q else E := by
  have hw : Region.wanted o (yielded ops a.tmps) = true := by simp [Region.wanted, hgd]
  rw [if_pos hw]
  have hl : (bytesL k f).length = k := by simp [bytesL]
  by_cases h0 : k = 0
  · subst h0
    have hrun := run_copy_none (P := Tryd.prog) w 22 22 o.type 5 (some ⟨g, off, none⟩) A dLen dCap sLen sCap Tryd.underlying22 sizeOf8 hk.symm
    unfold Oper.wp
    simp [execOp, ho, resolve, invoke, builtin, hd, hs, hrun, Result.andThen]
    refine h w ?_ (Chg.refl _ _)
    exact hg.congr fun j _ => by unfold putV; rw [if_neg (by omega)]
  · obtain ⟨_, ad, rfl, hsrc⟩ := copy_parts (k := k) hA (by rw [hk]; exact Nat.min_le_left _ _) (dp := some ⟨g, off, none⟩) (g := g) (off := off) (fun _ => rfl) (by rw [hl]; omega)
    have hrun := run_copy_row (P := Tryd.prog) w 22 22 o.type 5 g off dLen dCap ad sLen sCap (valsL m cur).toArray t (bytesL k f) Tryd.underlying22 sizeOf8 hg (by rw [hl, hk]) hsrc (by rw [hl]; simpa [valsL] using hfit) (bytes_one k f)
    unfold Oper.wp
    simp [execOp, ho, resolve, invoke, builtin, hd, hs, hrun, Result.andThen]
    rw [hl]
    refine h _ ?_ (chg_setRow w g _)
    unfold RowV
    rw [← splice_vals m off k _ cur hfit]
    have e : valsL k (fun j => Value.int .u8 (f j : Nat)) = bytesL k f := rfl
    rw [e]
    simpa [splice, hl] using setRow_heap w g _ _ t _ hg
end Go.Proofs.YtengejmkpkacgaaDoor
