/- 8 texts in one, in their order. -/
import Derived.Test.YtogcfaijphpgfaaDoorPk0
import Derived.Conc.MuLone
import Derived.Laws.NewBlocks
import Derived.Deep.WholeRow
import Derived.RegionCalls
import Derived.Orders
import Derived.Below
import Derived.WalkKit
import Derived.StillTail
import Derived.WalkSpells
/- More of rows of bytes in the middle of a block. -/
namespace Go.Proofs.YtogcfaijphpgfaaDoor
open Go.RowKit
/-- p[:] of an array of bytes behind a pointer -/
theorem all_arr (t : TypeId) (n g o : Nat) (hu : Tryd.prog.underlying t = some (.array n 5)) (hn : 0 < n) (w : World) :
    (Instr.sliceAt t (.pointer (some ⟨g, o, none⟩)) none none none).run Tryd.prog w = .ok (.slice (some ⟨g, o, none⟩) n n) w := by
  have he : Tryd.prog.elem t = 5 := by simp [Program.elem, hu]
  have hl : Tryd.prog.arrayLen t = n := by simp [Program.arrayLen, hu]
  rw [run_sliceAt_array_all (ht := by rw [hl, he]; exact hu), he, sizeU8]
  show Result.ok (slicedAt ⟨g, o, none⟩ _ _ _ 1) w = _
  rw [hl]
  unfold slicedAt
  rw [if_neg (by omega), Go.WideShapes.add_plain, Nat.zero_mul, Nat.add_zero, Nat.sub_zero]
theorem upto_step (f h : Nat → Nat) (k x : Nat) (hx : h k = x) (j : Nat) : (if j = k then x else if j < k then h j else f j) = if j < k + 1 then h j else f j := by
  by_cases e : j = k
  · subst e; rw [if_pos rfl, if_pos (Nat.lt_succ_self _), hx]
  · rw [if_neg e]
    by_cases h : j < k
    · rw [if_pos h, if_pos (by omega)]
    · rw [if_neg h, if_neg (by omega)]
theorem arr_of_list {w : World} {g o n : Nat} {f : Nat → Nat} {L : List Value} {t : TypeId} (h : w.heap[g]? = some (.cells L.toArray t (0, 0))) (hL : ∀ j, j < n → L[o + j]? = (bytesL n f)[j]?) : Arr w g o n f := fun j hj => by
  refine ⟨?_, by simp [World.frozen?, h]⟩
  simp only [World.cell?, h]
  rw [List.getElem?_toArray, hL j hj, bytesL_at hj]
  rfl
theorem cell_off {w : World} {g k j : Nat} (hkj : k ≠ j) (v : Value) : (w.setCell ⟨g, k, none⟩ v).cell? ⟨g, j, none⟩ = w.cell? ⟨g, j, none⟩ :=
  World.cell?_setCell_other w ⟨g, k, none⟩ ⟨g, j, none⟩ v (fun e => hkj (congrArg Addr.off e))
end Go.Proofs.YtogcfaijphpgfaaDoor
/- sync.Once, one goroutine: Do with a method value, by that method's contract. -/
namespace Go.Proofs.YtogcfaijphpgfaaDoor
open Go.MuLone

noncomputable abbrev muLink : Go.Conc.Locks.MuLink := { lock := 40, unlock := 41, ilock := 46, iunlock := 47, lockSlow := 56, unlockSlow := 59, disable := 52, enable := 54, acquire := 55, relMerge := 57, cas32 := 53, add32 := 58, tMutex := 50, tIMutex := 48, tPMutex := Tryd.f40.params.getD 0 0, tPIMutex := Tryd.f46.params.getD 0 0, tPI32 := 89, tUP := 91, tNoCopy := 42, tU32 := 44 }
/-- what a pointer's type says -/
theorem ptr_facts {p t : TypeId} (hu : Tryd.prog.underlying p = some (.pointer t)) (hi : (Tryd.prog.info? p).map (fun i => (i.zero, i.size)) = some (some (.pointer none), 1)) :
    (∀ w, Sem.run Tryd.prog (underlying p) w = .ok (.pointer t) w) ∧ (∀ w, Sem.run Tryd.prog (Go.sizeOf p) w = .ok 1 w) ∧ (∀ w, Sem.run Tryd.prog (isAgg p) w = .ok false w) ∧ (∀ w, Sem.run Tryd.prog (zeroValue p) w = .ok (.pointer none) w) := by
  have h1 : ∀ w, Sem.run Tryd.prog (underlying p) w = .ok (.pointer t) w := run_underlying hu
  refine ⟨h1, fun w => ?_, fun w => ?_, (zero_of_info hi).1⟩
  · have := (zero_of_info hi).2
    cases hq : Tryd.prog.info? p with
    | none => simp [hq] at this
    | some i => simp [hq] at this; simp [sizeOf, typeInfo, hq, this]
  · unfold isAgg
    rw [Sem.run_bind, h1]
    rfl
theorem muLib : Go.Conc.Locks.MuLib Tryd.prog muLink := by
  have pM := ptr_facts (p := muLink.tPMutex) (t := 50) (by kernel_rfl) (by kernel_rfl)
  have pIM := ptr_facts (p := muLink.tPIMutex) (t := 48) (by kernel_rfl) (by kernel_rfl)
  exact ⟨Tryd.func40, Tryd.func41, Tryd.func46, Tryd.func47, Tryd.func52, Tryd.func54, Tryd.func55, Tryd.func57, Tryd.func53, Tryd.func58, Tryd.underlying48, Tryd.runUnderlying48, Tryd.sizeOf48, Tryd.isAgg48, Tryd.zeroValue48, Tryd.underlying50, Tryd.runUnderlying50, Tryd.sizeOf50, Tryd.isAgg50, Tryd.zeroValue50, (by kernel_rfl), pM.1, pM.2.1, pM.2.2.1, pM.2.2.2, (by kernel_rfl), pIM.1, pIM.2.1, pIM.2.2.1, pIM.2.2.2, Tryd.underlying89, Tryd.runUnderlying89, Tryd.sizeOf89, Tryd.isAgg89, Tryd.zeroValue89, Tryd.underlying91, Tryd.runUnderlying91, Tryd.sizeOf91, Tryd.isAgg91, Tryd.zeroValue91, Tryd.underlying42, Tryd.runUnderlying42, Tryd.sizeOf42, Tryd.isAgg42, Tryd.zeroValue42, Tryd.underlying21, Tryd.runUnderlying21, Tryd.sizeOf21, Tryd.isAgg21, Tryd.zeroValue21, (by kernel_rfl)⟩

/-- '(*sync/atomic.Bool).Store(true)', entered as a deferred call -/
theorem store_deferred (a : Addr) (x : Value) (u : FrameMode) (w : World) (hc : w.cell? a = some x) (hz : w.frozen? a = false) :
    CallsD Tryd.prog 42 #[.pointer (some a), .bool true] u w fun e u' w' => u' = u ∧ (e = .returned (.tuple #[]) ∧ w' = w.drew.setCell a (.int .u32 1)) := by
  have hc' : w.drew.cell? a = some x := by go_simp
  have hz' : w.drew.frozen? a = false := by go_simp
  have hst := run_call_store (P := Tryd.prog) Tryd.func48 (by kernel_rfl) (by kernel_rfl) (by kernel_rfl) (by kernel_rfl) (k := .u32) (y := 1) hc' hz'
  go_enter_d Tryd.func42, Tryd.ntmps42
  go_wp2
  go_region_calls
  all_goals (go_end0; exact ⟨rfl, rfl⟩)

/-- what a world must have of a Once: its word and its lock -/
structure OnceAt (w : World) (b off : Nat) (d m : Int) : Prop where
  done : w.cell? ⟨b, off, none⟩ = some (.int .u32 d)
  lock : w.cell? ⟨b, off + 1, none⟩ = some (.int .i32 m)
  fdone : w.frozen? ⟨b, off, none⟩ = false
  flock : w.frozen? ⟨b, off + 1, none⟩ = false

/-- '(*sync.Once).Do', done already -/
theorem do_done (b off : Nat) (fv : Value) (m : Int) (w : World) (h : OnceAt w b off 1 m) :
    Calls Tryd.prog 21 #[.pointer (some ⟨b, off, none⟩), fv] w fun e w' => e = .returned (.tuple #[]) ∧ w' = w := by
  have hl := run_call_load (P := Tryd.prog) Tryd.func39 (by kernel_rfl) (by kernel_rfl) (by kernel_rfl) .u32 (by kernel_rfl) h.done
  have hnot : ∀ (x : Bool) (w : World), (Op.unary .not (.bool x)).run Tryd.prog w = .ok (.bool (!x)) w := fun _ _ => rfl
  go_enter Tryd.func21, Tryd.ntmps21
  go_wp2
  go_end0
  exact ⟨rfl, rfl⟩
end Go.Proofs.YtogcfaijphpgfaaDoor
/- sync.Once's slow road with a method, by that method's contract. -/
namespace Go.Proofs.YtogcfaijphpgfaaDoor
open Go.MuLone

set_option maxRecDepth 100000 in
set_option maxHeartbeats 1600000 in
theorem slow_mac (b off : Nat) (rv : Value) (w : World) (h : OnceAt w b off 0 0) (R : World → Prop)
    (hF : Calls Tryd.prog 22 #[rv] (w.setCell ⟨b, off + 1, none⟩ (.int .i32 1)) fun e w' => e = .returned (.tuple #[]) ∧ R w') (hR : ∀ w', R w' → OnceAt w' b off 0 1) :
    Calls Tryd.prog 31 #[.pointer (some ⟨b, off, none⟩), .func (.func 22) #[rv] #[]] w fun e w' => e = .returned (.tuple #[]) ∧
      ∃ w1, R w1 ∧ w' = (w1.drew.setCell ⟨b, off, none⟩ (.int .u32 1)).setCell ⟨b, off + 1, none⟩ (.int .i32 0) := by
  have hl := run_call_load (P := Tryd.prog) Tryd.func39 (by kernel_rfl) (by kernel_rfl) (by kernel_rfl) .u32 (by kernel_rfl) (w := w.setCell ⟨b, off + 1, none⟩ (.int .i32 1)) (a := ⟨b, off, none⟩) (x := 0) ((World.cell?_setCell_other _ ⟨b, off + 1, none⟩ ⟨b, off, none⟩ _ (by simp)).trans h.done)
  have hnot : ∀ (x : Bool) (w : World), (Op.unary .not (.bool x)).run Tryd.prog w = .ok (.bool (!x)) w := fun _ _ => rfl
  have HR := Lib.hid hR
  have HF := Lib.hid hF
  have H := Lib.hid h
  clear hR hF h
  go_enter_defers Tryd.func31, Tryd.ntmps31
  go_wp2_with (first | (go_at_call 40; refine (lock_free muLib ⟨b, off + 1, none⟩ _ H.out.lock H.out.flock).mono ?_; rintro e w' ⟨rfl, rfl⟩) | (go_at_call 30; go_in) | (go_at_call 22; refine HF.out.mono ?_; rintro e w' ⟨rfl, hw⟩; have HW := Lib.hid hw; clear hw))
  have h1 := HR.out _ HW.out
  -- the door: two deferred calls, the last laid first
  refine leaves_cons (f := 42) (args := #[.pointer (some ⟨b, off, none⟩), .bool true]) (by simp) (by simp [go_sem]) ?_
  refine (store_deferred ⟨b, off, none⟩ (.int .u32 0) .returning _ h1.done h1.fdone).mono ?_
  rintro e u' w'' ⟨rfl, rfl, rfl⟩
  refine leaves_cons (f := 41) (args := #[.pointer (some ⟨b, off + 1, none⟩)]) (by simp [settle]) (by simp [go_sem]) ?_
  refine (unlock_deferred muLib ⟨b, off + 1, none⟩ _ _ ?_ (by simp [h1.flock])).mono ?_
  · refine (World.cell?_setCell_other _ ⟨b, off, none⟩ ⟨b, off + 1, none⟩ _ (by simp)).trans ?_
    rw [World.cell?_drew]
    exact h1.lock
  rintro e u' w'' ⟨rfl, rfl, rfl⟩
  exact ⟨_, results_none rfl _ _ _, rfl, w', HW.out, rfl⟩

/-- '(*sync.Once).Do', not yet done, the lock free -/
theorem do_first_mac (b off : Nat) (rv : Value) (w : World) (h : OnceAt w b off 0 0) (R : World → Prop)
    (hF : Calls Tryd.prog 22 #[rv] (w.setCell ⟨b, off + 1, none⟩ (.int .i32 1)) fun e w' => e = .returned (.tuple #[]) ∧ R w') (hR : ∀ w', R w' → OnceAt w' b off 0 1) :
    Calls Tryd.prog 21 #[.pointer (some ⟨b, off, none⟩), .func (.func 22) #[rv] #[]] w fun e w' => e = .returned (.tuple #[]) ∧
      ∃ w1, R w1 ∧ w' = (w1.drew.setCell ⟨b, off, none⟩ (.int .u32 1)).setCell ⟨b, off + 1, none⟩ (.int .i32 0) := by
  have hl := run_call_load (P := Tryd.prog) Tryd.func39 (by kernel_rfl) (by kernel_rfl) (by kernel_rfl) .u32 (by kernel_rfl) h.done
  have hnot : ∀ (x : Bool) (w : World), (Op.unary .not (.bool x)).run Tryd.prog w = .ok (.bool (!x)) w := fun _ _ => rfl
  have HS := Lib.hid (slow_mac b off rv w h R hF hR)
  clear hR hF h
  go_enter Tryd.func21, Tryd.ntmps21
  go_wp2_with (first | (go_at_call 31; refine HS.out.mono ?_; rintro e w' ⟨rfl, hw⟩; have HW := Lib.hid hw; clear hw) | (go_at_call 30; go_in))
  go_end0
  exact ⟨rfl, HW.out⟩
end Go.Proofs.YtogcfaijphpgfaaDoor
/- A region that draws its order: whatever order is drawn, what each operation yields is told by a predicate of its own, which stays true as memory grows. Nothing here hangs on the program. -/
namespace Go.Proofs.YtogcfaijphpgfaaDoor.ord
open Go Go.RowKit

/-- carried out in world w, the operation yields a value v and leaves a world w' with N v w' -/
def makes (P : Program) (o : Oper) (a : Act) (w : World) (N : Value → World → Prop) : Prop :=
  match (execOp a.eval o).run P w with
  | .ok (.value u) w' => N u w'
  | .ok (.enter f args) w' => Calls P f args w' (fun e w'' => ∃ v, e = .returned v ∧ N v w'')
  | _ => False
theorem wp_of_makes {P : Program} {o : Oper} {a : Act} {w : World} {N : Value → World → Prop} {K : Act → World → Prop} {Q : Exit → Act → World → Prop} (h : makes P o a w N)
    (hK : ∀ v w', N v w' → K (a.put o.dst v) w') : o.wp P a w K Q := by
  unfold makes at h
  unfold Oper.wp
  generalize (execOp a.eval o).run P w = r at *
  cases r with
  | ok n w' =>
    cases n <;> simp only [Oper.upon] at h ⊢
    case value u => exact hK _ _ h
    case enter f args =>
      exact h.mono fun e w'' ⟨v, he, hn⟩ => by subst he; exact hK _ _ hn
  | halt x w' => exact h.elim

theorem nodup_inj {f : Nat × Nat → Nat} : ∀ {L : List (Nat × Nat)}, (L.map f).Nodup → ∀ {p q : Nat × Nat}, p ∈ L → q ∈ L → f p = f q → p = q
  | [], _, _, _, hp, _, _ => by cases hp
  | r :: L, h, p, q, hp, hq, e => by
    rw [List.map_cons, List.nodup_cons] at h
    rcases List.mem_cons.1 hp with rfl | hp' <;> rcases List.mem_cons.1 hq with rfl | hq'
    · rfl
    · exact absurd (List.mem_map.2 ⟨q, hq', e.symm⟩) h.1
    · exact absurd (List.mem_map.2 ⟨p, hp', e⟩) h.1
    · exact nodup_inj h.2 hp' hq' e
/-- how many are not listed -/
def todo (listed : Array Bool) : Nat → Nat
  | 0 => 0
  | n + 1 => todo listed n + if listed.getD n true then 0 else 1
theorem todo_set (listed : Array Bool) (i : Nat) (hi : listed.getD i true = false) : ∀ n, todo (listed.setIfInBounds i true) n + (if i < n then 1 else 0) = todo listed n
  | 0 => rfl
  | n + 1 => by
    have ih := todo_set listed i hi n
    unfold todo
    by_cases e : i = n
    · subst e
      have hlt : i < listed.size := by
        rcases Nat.lt_or_ge i listed.size with h | h
        · exact h
        · rw [Array.getD_eq_getD_getElem?, Array.getElem?_eq_none h] at hi; cases hi
      rw [hi, show (listed.setIfInBounds i true).getD i true = true by simp]
      rw [if_neg (Nat.lt_irrefl i)] at ih
      simp; omega
    · rw [getD_set_ne true e]
      by_cases h : i < n
      · rw [if_pos h] at ih; rw [if_pos (show i < n + 1 by omega)]; omega
      · rw [if_neg h] at ih; rw [if_neg (show ¬ i < n + 1 by omega)]; omega
/-- Act.put, quick to reckon -/
def put' (a : Act) (d : Nat) (v : Value) : Act := ⟨⟨a.tmps.toList.set d v⟩, a.defers⟩
theorem put'_eq (a : Act) (d : Nat) (v : Value) : put' a d v = a.put (some d) v := by
  unfold put' Act.put
  congr 1
  apply Array.ext'
  simp
/-- the slots of the operations q with c q, put -/
def puts (x : Nat → Value) (c : Nat → Bool) : List (Nat × Nat) → Act → Act
  | [], a => a
  | q :: r, a => puts x c r (if c q.1 then put' a q.2 (x q.1) else a)
theorem puts_defers (x : Nat → Value) (c : Nat → Bool) : ∀ (L : List (Nat × Nat)) (a : Act), (puts x c L a).defers = a.defers
  | [], _ => rfl
  | q :: r, a => by
    unfold puts; rw [puts_defers x c r]; split <;> rfl
theorem puts_size (x : Nat → Value) (c : Nat → Bool) : ∀ (L : List (Nat × Nat)) (a : Act), (puts x c L a).tmps.size = a.tmps.size
  | [], _ => rfl
  | q :: r, a => by
    unfold puts; rw [puts_size x c r]; split
    · simp [put'_eq, Act.put]
    · rfl
theorem puts_not (x : Nat → Value) (c : Nat → Bool) : ∀ (L : List (Nat × Nat)) (a : Act) (s : Nat), (∀ q ∈ L, q.2 = s → c q.1 = false) → (puts x c L a).tmps[s]? = a.tmps[s]?
  | [], _, _, _ => rfl
  | q :: r, a, s, h => by
    unfold puts
    rw [puts_not x c r _ s fun q' h' => h q' (List.mem_cons_of_mem _ h')]
    split
    · rename_i hc
      have hne : q.2 ≠ s := fun e => by have := h q (List.mem_cons_self ..) e; rw [this] at hc; cases hc
      simp [put'_eq, Act.put, Array.getElem?_setIfInBounds_ne hne]
    · rfl
theorem puts_at (x : Nat → Value) (c : Nat → Bool) : ∀ (L : List (Nat × Nat)) (a : Act) (q : Nat × Nat), (L.map (·.2)).Nodup → q ∈ L → c q.1 = true → q.2 < a.tmps.size → (puts x c L a).tmps[q.2]? = some (x q.1)
  | [], _, _, _, h, _, _ => by cases h
  | p :: r, a, q, hnd, hq, hc, hs => by
    unfold puts
    rw [List.map_cons, List.nodup_cons] at hnd
    rcases List.mem_cons.1 hq with rfl | hq'
    · rw [hc, if_pos rfl, puts_not x c r _ q.2 fun q' h' e => absurd (List.mem_map.2 ⟨q', h', e⟩) hnd.1]
      simp [put'_eq, Act.put, hs]
    · refine puts_at x c r _ q hnd.2 hq' hc ?_
      split
      · simpa [put'_eq, Act.put] using hs
      · exact hs

/-- does operation o wait for operation j? -/
def waits (o : Oper) (j : Nat) : Bool := o.after.toList.any fun e => Region.binds .any e && Nat.beq e.on j
/-- D: of each operation, what it waits for and looks at -/
def dep (D : List (List Nat)) (i j : Nat) : Bool := (D.getD i []).any (Nat.beq j)
/-- L: the operations that are not listed yet, each with its slot -/
def ok (ops : Array Oper) (listed : Array Bool) (n : Nat) (D : List (List Nat)) (L : List (Nat × Nat)) : Bool :=
  (listed.size == ops.size) && ((List.range ops.size).all fun i => listed.getD i true || (L.any fun q => q.1 == i)) &&
  (decide (L.map (·.1)).Nodup && decide (L.map (·.2)).Nodup) &&
  (L.all fun p => decide (p.2 < n) && decide (p.1 < listed.size) && !listed.getD p.1 true && match ops[p.1]? with
    | none => false
    | some o => (o.after.all fun e => decide (e.on < p.1)) && (((D.getD p.1 []).all fun j => waits o j) && o.dst == some p.2) && (match o.op with | .select .. => false | _ => true) &&
      (o.looksAt ops).all fun s => L.all fun q => !(q.2 == s) || dep D p.1 q.1 || match ops[q.1]? with
        | none => false
        | some o' => waits o' p.1)

section
variable {P : Program} {ops : Array Oper} {Q : Exit → Act → World → Prop} {D : List (List Nat)} {L : List (Nat × Nat)} {G : Nat → Value → World → Prop} {a0 : Act} {w0 : World} {listed0 : Array Bool}

/-- what is asked of one operation -/
def Step (P : Program) (ops : Array Oper) (D : List (List Nat)) (L : List (Nat × Nat)) (G : Nat → Value → World → Prop) (a0 : Act) (w0 : World) (p : Nat × Nat) : Prop :=
  ∀ o, ops[p.1]? = some o → ∀ (x : Nat → Value) (w : World), Below w0.heap.size w0 w → (∀ q ∈ L, dep D p.1 q.1 = true → G q.1 (x q.1) w) →
    (Region.wanted o (yielded ops (puts x (dep D p.1) L a0).tmps) = true ∧ makes P o (puts x (dep D p.1) L a0) w (fun v w' => Below w.heap.size w w' ∧ G p.1 v w')) ∨
    (Region.wanted o (yielded ops (puts x (dep D p.1) L a0).tmps) = false ∧ G p.1 undef w)

theorem steps_nil {S : Nat × Nat → Prop} : ∀ p ∈ ([] : List (Nat × Nat)), S p := fun _ h => by cases h
theorem steps_cons {S : Nat × Nat → Prop} {q : Nat × Nat} {L : List (Nat × Nat)} (h : S q) (t : ∀ p ∈ L, S p) : ∀ p ∈ q :: L, S p := fun p hp => by
  rcases List.mem_cons.1 hp with rfl | hp
  · exact h
  · exact t p hp

structure Inv (ops : Array Oper) (L : List (Nat × Nat)) (G : Nat → Value → World → Prop) (a0 : Act) (w0 : World) (listed0 listed : Array Bool) (a : Act) (w : World) : Prop where
  grow : Below w0.heap.size w0 w
  defers : a.defers = a0.defers
  size : a.tmps.size = a0.tmps.size
  lsize : listed.size = listed0.size
  old : ∀ s, (∀ q ∈ L, q.2 = s → listed.getD q.1 false = false) → a.tmps[s]? = a0.tmps[s]?
  new : ∀ q ∈ L, listed.getD q.1 false = true → ∃ v, a.tmps[q.2]? = some v ∧ G q.1 v w
  closed : ∀ q ∈ L, listed.getD q.1 false = true → ∀ o, ops[q.1]? = some o → ∀ j, waits o j = true → listed.getD j false = true
  rest : ∀ i, i < ops.size → (∀ q ∈ L, q.1 ≠ i) → listed.getD i true = true

theorem eval_of {a b : Act} {t : Nat} (h : a.tmps[t]? = b.tmps[t]?) : a.eval (.tmp t) = b.eval (.tmp t) := by
  simp [Act.eval, Array.getD_eq_getD_getElem?, h]
theorem wanted_of {o : Oper} {a b : Act} (h : ∀ t ∈ o.looksAt ops, a.tmps[t]? = b.tmps[t]?) : Region.wanted o (yielded ops a.tmps) = Region.wanted o (yielded ops b.tmps) := by
  unfold Region.wanted
  cases hg : o.guard with
  | none => rfl
  | some gw =>
    obtain ⟨g, want⟩ := gw
    have : yielded ops a.tmps g = yielded ops b.tmps g := by
      unfold yielded
      cases ht : (ops[g]?).bind (·.dst) with
      | none => rfl
      | some t =>
        have := h t (by simp [Oper.looksAt, hg, ht])
        simp [this]
    simp only [this]
theorem exec_of {o : Oper} {a b : Act} (hs : ∀ cs b, o.op ≠ .select cs b) (h : ∀ t ∈ o.looksAt ops, a.tmps[t]? = b.tmps[t]?) : execOp a.eval o = execOp b.eval o :=
  execOp_congr o hs fun x hx => by
    cases x with
    | tmp t => exact eval_of (h t (List.mem_append_left _ (List.mem_filterMap.2 ⟨.tmp t, by simpa using hx, rfl⟩)))
    | _ => rfl
theorem waits_iff {o : Oper} {j : Nat} : waits o j = true ↔ ∃ e ∈ o.after, Region.binds .any e = true ∧ e.on = j := by
  unfold waits
  rw [List.any_eq_true]
  simp

theorem step_inv (hok : ok ops listed0 a0.tmps.size D L = true) (hst : ∀ i v w w', G i v w → Below w.heap.size w w' → G i v w') (hstep : ∀ p ∈ L, Step P ops D L G a0 w0 p)
    {listed : Array Bool} {a : Act} {w : World} (I : Inv ops L G a0 w0 listed0 listed a w) {i : Nat} (hi : i ∈ Region.ready .any ops listed) :
    wpOp P ops Q i (fun a' w' => Inv ops L G a0 w0 listed0 (listed.setIfInBounds i true) a' w') a w := by
  obtain ⟨hun, o, ho, hdeps⟩ := mem_ready.1 hi
  have hdeps' : ∀ j, waits o j = true → listed.getD j false = true := fun j hj => by
    obtain ⟨e, he, hb, rfl⟩ := waits_iff.1 hj; exact hdeps e he hb
  have hlt : i < ops.size := (Array.getElem?_eq_some_iff.1 ho).1
  obtain ⟨p, hp, rfl⟩ : ∃ p ∈ L, p.1 = i := by
    rcases Classical.em (∃ p ∈ L, p.1 = i) with h | h
    · exact h
    · have := I.rest i hlt fun q hq e => h ⟨q, hq, e⟩
      rw [this] at hun; cases hun
  unfold ok at hok
  simp only [Bool.and_eq_true, decide_eq_true_eq, List.all_eq_true] at hok
  obtain ⟨⟨⟨_, _⟩, hn1, hn2⟩, hall⟩ := hok
  have hp0 := hall p hp
  obtain ⟨⟨⟨hsz, hls⟩, _⟩, hpo⟩ := hp0
  rw [ho] at hpo
  simp only [Bool.and_eq_true, List.all_eq_true, beq_iff_eq, Bool.or_eq_true, Bool.not_eq_true', beq_eq_false_iff_ne] at hpo
  obtain ⟨⟨⟨_, hDw, hdst⟩, hsel⟩, hlooks⟩ := hpo
  have hD : ∀ j, dep D p.1 j = true → waits o j = true := fun j hj => by
    unfold dep at hj
    obtain ⟨k, hk, e⟩ := List.any_eq_true.1 hj
    have := Nat.eq_of_beq_eq_true e
    subst this
    exact hDw _ hk
  have hsel' : ∀ cs b, o.op ≠ .select cs b := fun cs b e => by rw [e] at hsel; cases hsel
  have hli : p.1 < listed.size := by rw [I.lsize]; exact hls
  have hunF : listed.getD p.1 false = false := by
    simp only [Array.getD_eq_getD_getElem?, Array.getElem?_eq_getElem hli, Option.getD_some] at hun ⊢; exact hun
  -- the values of the listed operations
  have hx : ∃ x : Nat → Value, ∀ q ∈ L, listed.getD q.1 false = true → a.tmps[q.2]? = some (x q.1) ∧ G q.1 (x q.1) w := by
    refine ⟨fun j => match L.find? (fun q => q.1 == j) with | some q => a.tmps.getD q.2 undef | none => undef, fun q hq hl => ?_⟩
    obtain ⟨v, hv, hg⟩ := I.new q hq hl
    have hf : L.find? (fun r => r.1 == q.1) = some q := by
      cases hfd : L.find? (fun r => r.1 == q.1) with
      | none => have := List.find?_eq_none.1 hfd q hq; simp at this
      | some r =>
        have h1 := List.find?_some hfd
        have h2 := List.mem_of_find?_eq_some hfd
        have e : r.1 = q.1 := by simpa using h1
        have : r = q := by
          exact nodup_inj (f := (·.1)) hn1 h2 hq e
        rw [this]
    simp only [hf, Array.getD_eq_getD_getElem?, hv, Option.getD_some]
    exact ⟨trivial, hg⟩
  obtain ⟨x, hx⟩ := hx
  have hsame : ∀ t ∈ o.looksAt ops, a.tmps[t]? = (puts x (dep D p.1) L a0).tmps[t]? := fun t ht => by
    rcases Classical.em (∃ q ∈ L, q.2 = t ∧ dep D p.1 q.1 = true) with ⟨q, hq, rfl, hw⟩ | hno
    · have hsq : q.2 < a0.tmps.size := (hall q hq).1.1.1
      rw [puts_at x (dep D p.1) L a0 q hn2 hq hw hsq]
      exact (hx q hq (hdeps' _ (hD _ hw))).1
    · rw [puts_not x (dep D p.1) L a0 t fun q hq e => by
        cases hw : dep D p.1 q.1
        · rfl
        · exact absurd ⟨q, hq, e, hw⟩ hno]
      refine I.old t fun q hq e => ?_
      rcases hlooks t ht q hq with (h | h) | h
      · exact absurd e h
      · exact absurd ⟨q, hq, e, h⟩ hno
      · cases hl : listed.getD q.1 false
        · rfl
        · cases hoq : ops[q.1]? with
          | none => rw [hoq] at h; cases h
          | some o' =>
            rw [hoq] at h
            have := I.closed q hq hl o' hoq p.1 h
            rw [hunF] at this; cases this
  have hS := hstep p hp o ho x w I.grow fun q hq hw => (hx q hq (hdeps' _ (hD _ hw))).2
  rw [← wanted_of hsame] at hS
  have keep : ∀ v w', Below w.heap.size w w' → G p.1 v w' → Inv ops L G a0 w0 listed0 (listed.setIfInBounds p.1 true) (a.put o.dst v) w' := fun v w' hb hg => by
    have hput : ∀ s, s ≠ p.2 → (a.put o.dst v).tmps[s]? = a.tmps[s]? := fun s hs => by
      rw [hdst]; simp [Act.put, Array.getElem?_setIfInBounds_ne (Ne.symm hs)]
    have hputp : (a.put o.dst v).tmps[p.2]? = some v := by
      rw [hdst]; simp [Act.put, I.size, hsz]
    have hset : ∀ j, j ≠ p.1 → (listed.setIfInBounds p.1 true).getD j false = listed.getD j false := fun j hj => getD_set_ne false (Ne.symm hj)
    have hsetp : (listed.setIfInBounds p.1 true).getD p.1 false = true := by simp [hli]
    have uniq : ∀ q ∈ L, q.2 = p.2 → q = p := fun q hq e => by
      exact nodup_inj (f := (·.2)) hn2 hq hp e
    have uniq1 : ∀ q ∈ L, q.1 = p.1 → q = p := fun q hq e => by
      exact nodup_inj (f := (·.1)) hn1 hq hp e
    refine ⟨I.grow.trans (hb.mono I.grow.size), ?_, ?_, ?_, fun s hs => ?_, fun q hq hl => ?_, fun q hq hl o' ho' j hj => ?_, fun j hj hno => ?_⟩
    · rw [hdst]; exact I.defers
    · rw [hdst]; simp [Act.put, I.size]
    · simp [I.lsize]
    · have hsp : s ≠ p.2 := fun e => by
        have := hs p hp e.symm
        rw [hsetp] at this; cases this
      rw [hput s hsp]
      refine I.old s fun q hq e => ?_
      have := hs q hq e
      have hqp : q.1 ≠ p.1 := fun e2 => hsp (by rw [← e, uniq1 q hq e2])
      rwa [hset _ hqp] at this
    · by_cases e : q.1 = p.1
      · obtain rfl := uniq1 q hq e
        exact ⟨v, hputp, hg⟩
      · rw [hset _ e] at hl
        obtain ⟨u, hu, hgu⟩ := I.new q hq hl
        have : q.2 ≠ p.2 := fun e2 => e (by rw [uniq q hq e2])
        exact ⟨u, by rw [hput _ this]; exact hu, hst _ _ _ _ hgu hb⟩
    · by_cases e : q.1 = p.1
      · obtain rfl := uniq1 q hq e
        rw [ho] at ho'
        cases ho'
        have := hdeps' j hj
        exact getD_set_true this
      · rw [hset _ e] at hl
        exact getD_set_true (I.closed q hq hl o' ho' j hj)
    · have := I.rest j hj hno
      rw [getD_set_ne true (fun e => hno p hp e)]
      exact this
  unfold wpOp
  rw [ho]
  show if Region.wanted o (yielded ops a.tmps) = true then _ else _
  rcases hS with ⟨hw, hm⟩ | ⟨hw, hg⟩
  · rw [if_pos hw]
    refine Or.inl (wp_of_makes (N := fun v w' => Below w.heap.size w w' ∧ G p.1 v w') ?_ fun v w' h => keep v w' h.1 h.2)
    unfold makes at hm ⊢
    rw [exec_of hsel' hsame]
    exact hm
  · rw [hw, if_neg (by decide)]
    exact keep _ _ (Below.refl _ _) hg

theorem done_eq (hn2 : (L.map (·.2)).Nodup) (hsz : ∀ q ∈ L, q.2 < a0.tmps.size) {listed : Array Bool} {a : Act} {w : World} (I : Inv ops L G a0 w0 listed0 listed a w) (hl : ∀ q ∈ L, listed.getD q.1 false = true) (hn1 : (L.map (·.1)).Nodup) :
    ∃ x : Nat → Value, (∀ q ∈ L, G q.1 (x q.1) w) ∧ a = puts x (fun _ => true) L a0 := by
  have hx : ∃ x : Nat → Value, ∀ q ∈ L, a.tmps[q.2]? = some (x q.1) ∧ G q.1 (x q.1) w := by
    refine ⟨fun j => match L.find? (fun q => q.1 == j) with | some q => a.tmps.getD q.2 undef | none => undef, fun q hq => ?_⟩
    obtain ⟨v, hv, hg⟩ := I.new q hq (hl q hq)
    have hf : L.find? (fun r => r.1 == q.1) = some q := by
      cases hfd : L.find? (fun r => r.1 == q.1) with
      | none => have := List.find?_eq_none.1 hfd q hq; simp at this
      | some r =>
        have h1 := List.find?_some hfd
        have h2 := List.mem_of_find?_eq_some hfd
        have e : r.1 = q.1 := by simpa using h1
        have : r = q := by
          exact nodup_inj (f := (·.1)) hn1 h2 hq e
        rw [this]
    simp only [hf, Array.getD_eq_getD_getElem?, hv, Option.getD_some]
    exact ⟨trivial, hg⟩
  obtain ⟨x, hx⟩ := hx
  refine ⟨x, fun q hq => (hx q hq).2, ?_⟩
  have ht : a.tmps = (puts x (fun _ => true) L a0).tmps := by
    apply Array.ext_getElem?
    intro s
    rcases Classical.em (∃ q ∈ L, q.2 = s) with ⟨q, hq, rfl⟩ | hno
    · rw [puts_at x _ L a0 q hn2 hq rfl (hsz q hq), (hx q hq).1]
    · rw [puts_not x _ L a0 s fun q hq e => absurd ⟨q, hq, e⟩ hno]
      exact I.old s fun q hq e => absurd ⟨q, hq, e⟩ hno
  have hd : a.defers = (puts x (fun _ => true) L a0).defers := by rw [puts_defers, I.defers]
  cases a
  simp only at ht hd
  rw [ht, hd]

theorem wpAny_inv (hok : ok ops listed0 a0.tmps.size D L = true) (hst : ∀ i v w w', G i v w → Below w.heap.size w w' → G i v w') (hstep : ∀ p ∈ L, Step P ops D L G a0 w0 p)
    (hdone : ∀ (listed : Array Bool) (a : Act) (w : World), Inv ops L G a0 w0 listed0 listed a w → Region.ready .any ops listed = [] → Q .normal a w) :
    ∀ (fuel : Nat) (listed : Array Bool) (a : Act) (w : World), todo listed ops.size ≤ fuel → Inv ops L G a0 w0 listed0 listed a w → wpAny P .any ops Q fuel listed a w
  | 0, listed, a, w, hf, I => by
    have h0 : Region.ready .any ops listed = [] := by
      cases hr : Region.ready .any ops listed with
      | nil => rfl
      | cons i r =>
        have hi : i ∈ Region.ready .any ops listed := by rw [hr]; exact List.mem_cons_self ..
        obtain ⟨hun, o, ho, _⟩ := mem_ready.1 hi
        have hlt : i < ops.size := (Array.getElem?_eq_some_iff.1 ho).1
        have := todo_set listed i hun ops.size
        rw [if_pos hlt] at this
        omega
    exact ⟨h0, hdone _ _ _ I h0⟩
  | fuel + 1, listed, a, w, hf, I => by
    refine ⟨fun h0 => hdone _ _ _ I h0, fun i hi => ?_⟩
    refine wpOp_mono (fun a' w' I' => wpAny_inv hok hst hstep hdone fuel _ a' w' ?_ I') (step_inv hok hst hstep I hi)
    obtain ⟨hun, o, ho, _⟩ := mem_ready.1 hi
    have hlt : i < ops.size := (Array.getElem?_eq_some_iff.1 ho).1
    have := todo_set listed i hun ops.size
    rw [if_pos hlt] at this
    omega

/-- none is ready only where all are listed -/
theorem all_listed {n : Nat} (hok : ok ops listed0 n D L = true) {listed : Array Bool} (hs : listed.size = listed0.size) (hrest : ∀ i, i < ops.size → (∀ q ∈ L, q.1 ≠ i) → listed.getD i true = true) (h0 : Region.ready .any ops listed = []) :
    ∀ q ∈ L, listed.getD q.1 false = true := by
  unfold ok at hok
  simp only [Bool.and_eq_true, decide_eq_true_eq, List.all_eq_true, beq_iff_eq] at hok
  obtain ⟨⟨⟨hsz, _⟩, _, _⟩, hall⟩ := hok
  have key : ∀ k, ∀ q ∈ L, q.1 = k → listed.getD q.1 false = true := by
    intro k
    induction k using Nat.strongRecOn with
    | _ k ih =>
      intro q hq hk
      have hq0 := hall q hq
      obtain ⟨⟨⟨_, hls⟩, _⟩, hpo⟩ := hq0
      have hli : q.1 < listed.size := by rw [hs]; exact hls
      cases ho : ops[q.1]? with
      | none => rw [ho] at hpo; cases hpo
      | some o =>
        rw [ho] at hpo
        simp only [Bool.and_eq_true] at hpo
        have hlow := hpo.1.1.1
        rw [Array.all_eq_true_iff_forall_mem] at hlow
        cases hl : listed.getD q.1 true
        · exfalso
          have : q.1 ∈ Region.ready .any ops listed := mem_ready.2 ⟨hl, o, ho, fun e he _ => by
            have hlt : e.on < q.1 := by simpa using hlow e he
            rcases Classical.em (∃ r ∈ L, r.1 = e.on) with ⟨r, hr, hre⟩ | hno
            · rw [← hre]; exact ih r.1 (by omega) r hr rfl
            · have h1 := hrest e.on (by rw [← hsz]; omega) fun r hr e2 => hno ⟨r, hr, e2⟩
              have hli2 : e.on < listed.size := by omega
              simp only [Array.getD_eq_getD_getElem?, Array.getElem?_eq_getElem hli2, Option.getD_some] at h1 ⊢
              exact h1⟩
          rw [h0] at this; cases this
        · simp only [Array.getD_eq_getD_getElem?, Array.getElem?_eq_getElem hli, Option.getD_some] at hl ⊢
          exact hl
  exact fun q hq => key q.1 q hq rfl

/-- the region's rest, from a state on -/
theorem wpAny_ord {fuel : Nat} (D : List (List Nat)) (L : List (Nat × Nat)) (G : Nat → Value → World → Prop) (hok : ok ops listed0 a0.tmps.size D L = true) (hfuel : Nat.ble (todo listed0 ops.size) fuel = true)
    (hst : ∀ i v w w', G i v w → Below w.heap.size w w' → G i v w') (hstep : ∀ p ∈ L, Step P ops D L G a0 w0 p)
    (hdone : ∀ (x : Nat → Value) (w : World), Below w0.heap.size w0 w → (∀ q ∈ L, G q.1 (x q.1) w) → Q .normal (puts x (fun _ => true) L a0) w) :
    wpAny P .any ops Q fuel listed0 a0 w0 := by
  have hok' := hok
  unfold ok at hok'
  simp only [Bool.and_eq_true, decide_eq_true_eq, List.all_eq_true] at hok'
  obtain ⟨⟨⟨_, h1⟩, hn1, hn2⟩, hall⟩ := hok'
  have hF : ∀ q ∈ L, listed0.getD q.1 false = false := fun q hq => by
    obtain ⟨⟨_, hls⟩, hu⟩ := (hall q hq).1
    simp only [Bool.not_eq_true', Array.getD_eq_getD_getElem?, Array.getElem?_eq_getElem hls, Option.getD_some] at hu ⊢
    exact hu
  refine wpAny_inv (L := L) (G := G) (w0 := w0) hok hst hstep (fun listed a w I h0 => ?_) fuel _ _ _ (Nat.le_of_ble_eq_true hfuel) ⟨Below.refl _ _, rfl, rfl, rfl, fun _ _ => rfl, fun q hq hl => ?_, fun q hq hl => ?_, fun i hi hno => ?_⟩
  · obtain ⟨x, hx, rfl⟩ := done_eq hn2 (fun q hq => (hall q hq).1.1.1) I (all_listed hok I.lsize I.rest h0) hn1
    exact hdone x w I.grow hx
  · rw [hF q hq] at hl; cases hl
  · rw [hF q hq] at hl; cases hl
  · have := h1 i (List.mem_range.2 hi)
    rw [Bool.or_eq_true] at this
    rcases this with h | h
    · exact h
    · obtain ⟨q, hq, e⟩ := List.any_eq_true.1 h
      exact absurd (by simpa using e) (hno q hq)
end
end Go.Proofs.YtogcfaijphpgfaaDoor.ord
/- A region that draws its order, but for a tail that is forced (an append, an assignment behind all else): the head whatever its order, as in Ord, then the tail as it stands. Written by specs/mkordt.py out of Ord. Nothing here hangs on the program. -/
namespace Go.Proofs.YtogcfaijphpgfaaDoor.ord
open Go Go.RowKit

/-- L: the operations ahead of number N, each with its slot -/
def okT (N : Nat) (ops : Array Oper) (listed : Array Bool) (n : Nat) (D : List (List Nat)) (L : List (Nat × Nat)) : Bool :=
  (listed.size == ops.size) && ((List.range N).all fun i => L.any fun q => q.1 == i) &&
  (decide (L.map (·.1)).Nodup && decide (L.map (·.2)).Nodup) &&
  (L.all fun p => decide (p.1 < N) && (decide (p.2 < n) && decide (p.1 < listed.size) && !listed.getD p.1 true && match ops[p.1]? with
    | none => false
    | some o => (o.after.all fun e => decide (e.on < p.1)) && (((D.getD p.1 []).all fun j => waits o j) && o.dst == some p.2) && (match o.op with | .select .. => false | _ => true) &&
      (o.looksAt ops).all fun s => L.all fun q => !(q.2 == s) || dep D p.1 q.1 || match ops[q.1]? with
        | none => false
        | some o' => waits o' p.1))
section
variable {P : Program} {ops : Array Oper} {Q : Exit → Act → World → Prop} {D : List (List Nat)} {L : List (Nat × Nat)} {G : Nat → Value → World → Prop} {a0 : Act} {w0 : World} {listed0 : Array Bool}

structure InvT (N : Nat) (ops : Array Oper) (L : List (Nat × Nat)) (G : Nat → Value → World → Prop) (a0 : Act) (w0 : World) (listed0 listed : Array Bool) (a : Act) (w : World) : Prop where
  grow : Below w0.heap.size w0 w
  defers : a.defers = a0.defers
  size : a.tmps.size = a0.tmps.size
  lsize : listed.size = listed0.size
  old : ∀ s, (∀ q ∈ L, q.2 = s → listed.getD q.1 false = false) → a.tmps[s]? = a0.tmps[s]?
  new : ∀ q ∈ L, listed.getD q.1 false = true → ∃ v, a.tmps[q.2]? = some v ∧ G q.1 v w
  closed : ∀ q ∈ L, listed.getD q.1 false = true → ∀ o, ops[q.1]? = some o → ∀ j, waits o j = true → listed.getD j false = true
  tail : ∀ t, N ≤ t → t < ops.size → listed.getD t true = false

theorem step_invT {N : Nat} (hok : okT N ops listed0 a0.tmps.size D L = true) (hst : ∀ i v w w', G i v w → Below w.heap.size w w' → G i v w') (hstep : ∀ p ∈ L, Step P ops D L G a0 w0 p)
    {listed : Array Bool} {a : Act} {w : World} (I : InvT N ops L G a0 w0 listed0 listed a w) {i : Nat} (hi : i ∈ Region.ready .any ops listed) (hiN : i < N) :
    wpOp P ops Q i (fun a' w' => InvT N ops L G a0 w0 listed0 (listed.setIfInBounds i true) a' w') a w := by
  obtain ⟨hun, o, ho, hdeps⟩ := mem_ready.1 hi
  have hdeps' : ∀ j, waits o j = true → listed.getD j false = true := fun j hj => by
    obtain ⟨e, he, hb, rfl⟩ := waits_iff.1 hj; exact hdeps e he hb
  unfold okT at hok
  simp only [Bool.and_eq_true, decide_eq_true_eq, List.all_eq_true] at hok
  obtain ⟨p, hp, rfl⟩ : ∃ p ∈ L, p.1 = i := by
    obtain ⟨q, hq, e⟩ := List.any_eq_true.1 (hok.1.1.2 i (List.mem_range.2 hiN))
    exact ⟨q, hq, by simpa using e⟩
  obtain ⟨⟨⟨_, _⟩, hn1, hn2⟩, hall⟩ := hok
  have hp0 := hall p hp
  obtain ⟨hpN, ⟨⟨hsz, hls⟩, _⟩, hpo⟩ := hp0
  rw [ho] at hpo
  simp only [Bool.and_eq_true, List.all_eq_true, beq_iff_eq, Bool.or_eq_true, Bool.not_eq_true', beq_eq_false_iff_ne] at hpo
  obtain ⟨⟨⟨_, hDw, hdst⟩, hsel⟩, hlooks⟩ := hpo
  have hD : ∀ j, dep D p.1 j = true → waits o j = true := fun j hj => by
    unfold dep at hj
    obtain ⟨k, hk, e⟩ := List.any_eq_true.1 hj
    have := Nat.eq_of_beq_eq_true e
    subst this
    exact hDw _ hk
  have hsel' : ∀ cs b, o.op ≠ .select cs b := fun cs b e => by rw [e] at hsel; cases hsel
  have hli : p.1 < listed.size := by rw [I.lsize]; exact hls
  have hunF : listed.getD p.1 false = false := by
    simp only [Array.getD_eq_getD_getElem?, Array.getElem?_eq_getElem hli, Option.getD_some] at hun ⊢; exact hun
  -- the values of the listed operations
  have hx : ∃ x : Nat → Value, ∀ q ∈ L, listed.getD q.1 false = true → a.tmps[q.2]? = some (x q.1) ∧ G q.1 (x q.1) w := by
    refine ⟨fun j => match L.find? (fun q => q.1 == j) with | some q => a.tmps.getD q.2 undef | none => undef, fun q hq hl => ?_⟩
    obtain ⟨v, hv, hg⟩ := I.new q hq hl
    have hf : L.find? (fun r => r.1 == q.1) = some q := by
      cases hfd : L.find? (fun r => r.1 == q.1) with
      | none => have := List.find?_eq_none.1 hfd q hq; simp at this
      | some r =>
        have h1 := List.find?_some hfd
        have h2 := List.mem_of_find?_eq_some hfd
        have e : r.1 = q.1 := by simpa using h1
        have : r = q := by
          exact nodup_inj (f := (·.1)) hn1 h2 hq e
        rw [this]
    simp only [hf, Array.getD_eq_getD_getElem?, hv, Option.getD_some]
    exact ⟨trivial, hg⟩
  obtain ⟨x, hx⟩ := hx
  have hsame : ∀ t ∈ o.looksAt ops, a.tmps[t]? = (puts x (dep D p.1) L a0).tmps[t]? := fun t ht => by
    rcases Classical.em (∃ q ∈ L, q.2 = t ∧ dep D p.1 q.1 = true) with ⟨q, hq, rfl, hw⟩ | hno
    · have hsq : q.2 < a0.tmps.size := (hall q hq).2.1.1.1
      rw [puts_at x (dep D p.1) L a0 q hn2 hq hw hsq]
      exact (hx q hq (hdeps' _ (hD _ hw))).1
    · rw [puts_not x (dep D p.1) L a0 t fun q hq e => by
        cases hw : dep D p.1 q.1
        · rfl
        · exact absurd ⟨q, hq, e, hw⟩ hno]
      refine I.old t fun q hq e => ?_
      rcases hlooks t ht q hq with (h | h) | h
      · exact absurd e h
      · exact absurd ⟨q, hq, e, h⟩ hno
      · cases hl : listed.getD q.1 false
        · rfl
        · cases hoq : ops[q.1]? with
          | none => rw [hoq] at h; cases h
          | some o' =>
            rw [hoq] at h
            have := I.closed q hq hl o' hoq p.1 h
            rw [hunF] at this; cases this
  have hS := hstep p hp o ho x w I.grow fun q hq hw => (hx q hq (hdeps' _ (hD _ hw))).2
  rw [← wanted_of hsame] at hS
  have keep : ∀ v w', Below w.heap.size w w' → G p.1 v w' → InvT N ops L G a0 w0 listed0 (listed.setIfInBounds p.1 true) (a.put o.dst v) w' := fun v w' hb hg => by
    have hput : ∀ s, s ≠ p.2 → (a.put o.dst v).tmps[s]? = a.tmps[s]? := fun s hs => by
      rw [hdst]; simp [Act.put, Array.getElem?_setIfInBounds_ne (Ne.symm hs)]
    have hputp : (a.put o.dst v).tmps[p.2]? = some v := by
      rw [hdst]; simp [Act.put, I.size, hsz]
    have hset : ∀ j, j ≠ p.1 → (listed.setIfInBounds p.1 true).getD j false = listed.getD j false := fun j hj => getD_set_ne false (Ne.symm hj)
    have hsetp : (listed.setIfInBounds p.1 true).getD p.1 false = true := by simp [hli]
    have uniq : ∀ q ∈ L, q.2 = p.2 → q = p := fun q hq e => by
      exact nodup_inj (f := (·.2)) hn2 hq hp e
    have uniq1 : ∀ q ∈ L, q.1 = p.1 → q = p := fun q hq e => by
      exact nodup_inj (f := (·.1)) hn1 hq hp e
    refine ⟨I.grow.trans (hb.mono I.grow.size), ?_, ?_, ?_, fun s hs => ?_, fun q hq hl => ?_, fun q hq hl o' ho' j hj => ?_, fun s hs ht => ?_⟩
    · rw [hdst]; exact I.defers
    · rw [hdst]; simp [Act.put, I.size]
    · simp [I.lsize]
    · have hsp : s ≠ p.2 := fun e => by
        have := hs p hp e.symm
        rw [hsetp] at this; cases this
      rw [hput s hsp]
      refine I.old s fun q hq e => ?_
      have := hs q hq e
      have hqp : q.1 ≠ p.1 := fun e2 => hsp (by rw [← e, uniq1 q hq e2])
      rwa [hset _ hqp] at this
    · by_cases e : q.1 = p.1
      · obtain rfl := uniq1 q hq e
        exact ⟨v, hputp, hg⟩
      · rw [hset _ e] at hl
        obtain ⟨u, hu, hgu⟩ := I.new q hq hl
        have : q.2 ≠ p.2 := fun e2 => e (by rw [uniq q hq e2])
        exact ⟨u, by rw [hput _ this]; exact hu, hst _ _ _ _ hgu hb⟩
    · by_cases e : q.1 = p.1
      · obtain rfl := uniq1 q hq e
        rw [ho] at ho'
        cases ho'
        have := hdeps' j hj
        exact getD_set_true this
      · rw [hset _ e] at hl
        exact getD_set_true (I.closed q hq hl o' ho' j hj)
    · rw [getD_set_ne true (show p.1 ≠ s by omega)]
      exact I.tail s hs ht
  unfold wpOp
  rw [ho]
  show if Region.wanted o (yielded ops a.tmps) = true then _ else _
  rcases hS with ⟨hw, hm⟩ | ⟨hw, hg⟩
  · rw [if_pos hw]
    refine Or.inl (wp_of_makes (N := fun v w' => Below w.heap.size w w' ∧ G p.1 v w') ?_ fun v w' h => keep v w' h.1 h.2)
    unfold makes at hm ⊢
    rw [exec_of hsel' hsame]
    exact hm
  · rw [hw, if_neg (by decide)]
    exact keep _ _ (Below.refl _ _) hg
theorem done_eqT {N : Nat} (hn2 : (L.map (·.2)).Nodup) (hsz : ∀ q ∈ L, q.2 < a0.tmps.size) {listed : Array Bool} {a : Act} {w : World} (I : InvT N ops L G a0 w0 listed0 listed a w) (hl : ∀ q ∈ L, listed.getD q.1 false = true) (hn1 : (L.map (·.1)).Nodup) :
    ∃ x : Nat → Value, (∀ q ∈ L, G q.1 (x q.1) w) ∧ a = puts x (fun _ => true) L a0 := by
  have hx : ∃ x : Nat → Value, ∀ q ∈ L, a.tmps[q.2]? = some (x q.1) ∧ G q.1 (x q.1) w := by
    refine ⟨fun j => match L.find? (fun q => q.1 == j) with | some q => a.tmps.getD q.2 undef | none => undef, fun q hq => ?_⟩
    obtain ⟨v, hv, hg⟩ := I.new q hq (hl q hq)
    have hf : L.find? (fun r => r.1 == q.1) = some q := by
      cases hfd : L.find? (fun r => r.1 == q.1) with
      | none => have := List.find?_eq_none.1 hfd q hq; simp at this
      | some r =>
        have h1 := List.find?_some hfd
        have h2 := List.mem_of_find?_eq_some hfd
        have e : r.1 = q.1 := by simpa using h1
        have : r = q := by
          exact nodup_inj (f := (·.1)) hn1 h2 hq e
        rw [this]
    simp only [hf, Array.getD_eq_getD_getElem?, hv, Option.getD_some]
    exact ⟨trivial, hg⟩
  obtain ⟨x, hx⟩ := hx
  refine ⟨x, fun q hq => (hx q hq).2, ?_⟩
  have ht : a.tmps = (puts x (fun _ => true) L a0).tmps := by
    apply Array.ext_getElem?
    intro s
    rcases Classical.em (∃ q ∈ L, q.2 = s) with ⟨q, hq, rfl⟩ | hno
    · rw [puts_at x _ L a0 q hn2 hq rfl (hsz q hq), (hx q hq).1]
    · rw [puts_not x _ L a0 s fun q hq e => absurd ⟨q, hq, e⟩ hno]
      exact I.old s fun q hq e => absurd ⟨q, hq, e⟩ hno
  have hd : a.defers = (puts x (fun _ => true) L a0).defers := by rw [puts_defers, I.defers]
  cases a
  simp only at ht hd
  rw [ht, hd]
/-- none is ready only where all are listed -/
theorem all_listedT {N n : Nat} (hok : okT N ops listed0 n D L = true) {listed : Array Bool} (hs : listed.size = listed0.size) (h0 : Region.ready .any ops listed = []) :
    ∀ q ∈ L, listed.getD q.1 false = true := by
  unfold okT at hok
  simp only [Bool.and_eq_true, decide_eq_true_eq, List.all_eq_true, beq_iff_eq] at hok
  obtain ⟨⟨⟨_, hany⟩, _, _⟩, hall⟩ := hok
  have key : ∀ k, ∀ q ∈ L, q.1 = k → listed.getD q.1 false = true := by
    intro k
    induction k using Nat.strongRecOn with
    | _ k ih =>
      intro q hq hk
      have hq0 := hall q hq
      obtain ⟨hqN, ⟨⟨_, hls⟩, _⟩, hpo⟩ := hq0
      have hli : q.1 < listed.size := by rw [hs]; exact hls
      cases ho : ops[q.1]? with
      | none => rw [ho] at hpo; cases hpo
      | some o =>
        rw [ho] at hpo
        simp only [Bool.and_eq_true] at hpo
        have hlow := hpo.1.1.1
        rw [Array.all_eq_true_iff_forall_mem] at hlow
        cases hl : listed.getD q.1 true
        · exfalso
          have : q.1 ∈ Region.ready .any ops listed := mem_ready.2 ⟨hl, o, ho, fun e he _ => by
            have hlt : e.on < q.1 := by simpa using hlow e he
            obtain ⟨r, hr, er⟩ := List.any_eq_true.1 (hany e.on (List.mem_range.2 (by omega)))
            have hre : r.1 = e.on := by simpa using er
            rw [← hre]; exact ih r.1 (by omega) r hr rfl⟩
          rw [h0] at this; cases this
        · simp only [Array.getD_eq_getD_getElem?, Array.getElem?_eq_getElem hli, Option.getD_some] at hl ⊢
          exact hl
  exact fun q hq => key q.1 q hq rfl

theorem head_of {N : Nat} {listed : Array Bool} {a : Act} {w : World} (hls : listed0.size = ops.size) (hany : ∀ i, i < N → ∃ q ∈ L, q.1 = i) (I : InvT N ops L G a0 w0 listed0 listed a w) : HeadInv .any ops N listed := by
  refine ⟨by rw [I.lsize, hls], fun j oj hj hl e he hb => ?_, I.tail⟩
  have hlt : j < ops.size := (Array.getElem?_eq_some_iff.1 hj).1
  rcases Nat.lt_or_ge j N with h | h
  · obtain ⟨q, hq, rfl⟩ := hany j h
    exact I.closed q hq hl oj hj e.on (waits_iff.2 ⟨e, he, hb, rfl⟩)
  · have h1 := I.tail j h hlt
    have hs : listed.size = ops.size := by rw [I.lsize, hls]
    have hlt2 : j < listed.size := by omega
    simp only [Array.getD_eq_getD_getElem?, Array.getElem?_eq_getElem hlt2, Option.getD_some] at h1 hl
    rw [h1] at hl; cases hl
theorem todo_zero (listed : Array Bool) : ∀ n, todo listed n = 0 → ∀ i, i < n → listed.getD i true = true
  | 0, _, i, hi => absurd hi (Nat.not_lt_zero i)
  | n + 1, h, i, hi => by
    unfold todo at h
    by_cases e : listed.getD n true = true
    · rcases Nat.lt_or_ge i n with h1 | h1
      · exact todo_zero listed n (by omega) i h1
      · obtain rfl : i = n := by omega
        exact e
    · rw [if_neg e] at h; omega
theorem todo_pos (listed : Array Bool) (n : Nat) (h : 0 < todo listed n) : ∃ i, i < n ∧ listed.getD i true = false := by
  induction n with
  | zero => exact absurd h (Nat.lt_irrefl 0)
  | succ n ih =>
    unfold todo at h
    by_cases e : listed.getD n true = true
    · rw [if_pos e] at h
      obtain ⟨i, hi, h1⟩ := ih (by omega)
      exact ⟨i, by omega, h1⟩
    · exact ⟨n, Nat.lt_succ_self n, by simpa using e⟩
theorem wpAny_T {N g : Nat} (hok : okT N ops listed0 a0.tmps.size D L = true) (hN : N < ops.size) (hs : Region.sinkB .any ops N = true) (hc : Region.chainB .any ops N = true)
    (hst : ∀ i v w w', G i v w → Below w.heap.size w w' → G i v w') (hstep : ∀ p ∈ L, Step P ops D L G a0 w0 p)
    (hdone : ∀ (listed : Array Bool) (a : Act) (w : World), InvT N ops L G a0 w0 listed0 listed a w → (∀ i, i < N → listed.getD i true = true) → wpAny P .any ops Q g listed a w) :
    ∀ (m : Nat) (listed : Array Bool) (a : Act) (w : World), todo listed N = m → InvT N ops L G a0 w0 listed0 listed a w → wpAny P .any ops Q (m + g) listed a w
  | 0, listed, a, w, hm, I => by
    rw [Nat.zero_add]
    exact hdone _ _ _ I (todo_zero listed N hm)
  | m + 1, listed, a, w, hm, I => by
    have hok' := hok
    unfold okT at hok'
    simp only [Bool.and_eq_true, decide_eq_true_eq, List.all_eq_true, beq_iff_eq] at hok'
    obtain ⟨⟨⟨hls, hany⟩, _, _⟩, _⟩ := hok'
    have hany' : ∀ i, i < N → ∃ q ∈ L, q.1 = i := fun i hi => by
      obtain ⟨q, hq, e⟩ := List.any_eq_true.1 (hany i (List.mem_range.2 hi))
      exact ⟨q, hq, by simpa using e⟩
    have HI := head_of hls hany' I
    obtain ⟨i0, hi0, hu0⟩ := todo_pos listed N (by omega)
    rw [show m + 1 + g = (m + g) + 1 by omega]
    refine ⟨fun h0 => ?_, fun i hi => ?_⟩
    · exfalso
      obtain ⟨q, hq, rfl⟩ := hany' i0 hi0
      have := all_listedT hok I.lsize h0 q hq
      have hlt : q.1 < listed.size := by rw [I.lsize, hls]; omega
      simp only [Array.getD_eq_getD_getElem?, Array.getElem?_eq_getElem hlt, Option.getD_some] at this hu0
      rw [this] at hu0; cases hu0
    · have hiN : i < N := by
        rcases Nat.lt_or_ge i N with h | h
        · exact h
        · exact absurd hi (tail_waits hs hc hN HI _ i0 rfl hi0 hu0 i h)
      refine wpOp_mono (fun a' w' I' => wpAny_T hok hN hs hc hst hstep hdone m _ a' w' ?_ I') (step_invT hok hst hstep I hi hiN)
      have := todo_set listed i (mem_ready.1 hi).1 N
      rw [if_pos hiN] at this
      omega
theorem todo_none (n : Nat) : ∀ m, m ≤ n → todo (Array.replicate n false) m = m
  | 0, _ => rfl
  | m + 1, h => by
    unfold todo
    rw [todo_none n m (by omega), if_neg]
    simp [show m < n by omega]
end
/-- a region whose tail is forced: from its begin on -/
theorem wp_region_ordT {P : Program} {l : List Oper} {Q : Exit → Act → World → Prop} {a0 : Act} {w : World} {id : Nat} (N : Nat) (D : List (List Nat)) (L : List (Nat × Nat)) (G : Nat → Value → World → Prop) (hm : P.follows .mixedOrders = true)
    (hok : okT N l.toArray (Array.replicate l.toArray.size false) a0.tmps.size D L = true) (hB : (decide (N < l.toArray.size) && Region.sinkB .any l.toArray N && Region.chainB .any l.toArray N && Region.seqB .any l.toArray (l.toArray.size - N) N (Array.replicate N true ++ Array.replicate (l.toArray.size - N) false)) = true)
    (hst : ∀ i v w w', G i v w → Below w.heap.size w w' → G i v w') (hstep : ∀ p ∈ L, Step P l.toArray D L G a0 w.drew p)
    (hdone : ∀ (x : Nat → Value) (w' : World), Below w.heap.size w w' → (∀ q ∈ L, G q.1 (x q.1) w') → wpList P l.toArray Q (l.drop N) (puts x (fun _ => true) L a0) w') :
    (Code.region id l.toArray true).wp P Q a0 w := by
  simp only [Bool.and_eq_true, decide_eq_true_eq] at hB
  obtain ⟨⟨⟨hN, hs⟩, hc⟩, hseq⟩ := hB
  have hok' := hok
  unfold okT at hok'
  simp only [Bool.and_eq_true, decide_eq_true_eq, List.all_eq_true, beq_iff_eq] at hok'
  obtain ⟨⟨_, hn1, hn2⟩, hall⟩ := hok'
  refine wp_region_any hm ?_
  have hF : ∀ i, (Array.replicate l.toArray.size false).getD i false = false := fun i => getD_replicate_false _ _
  have key := wpAny_T (P := P) (Q := Q) (w0 := w.drew) (g := l.toArray.size - N) hok hN hs hc hst hstep (fun listed a w1 I hl => by
    have hall' : ∀ q ∈ L, listed.getD q.1 false = true := fun q hq => by
      have h1 := hl q.1 (hall q hq).1
      have hlt : q.1 < listed.size := by rw [I.lsize]; simp; have := (hall q hq).1; simp at hN; omega
      simp only [Array.getD_eq_getD_getElem?, Array.getElem?_eq_getElem hlt, Option.getD_some] at h1 ⊢
      exact h1
    obtain ⟨x, hx, rfl⟩ := done_eqT hn2 (fun q hq => (hall q hq).2.1.1.1) I hall' hn1
    have hls : listed.size = l.toArray.size := by rw [I.lsize]; simp
    have hle : listed = Array.replicate N true ++ Array.replicate (l.toArray.size - N) false := by
      apply Array.ext
      · simp at hls hN ⊢; omega
      · intro i h1 h2
        rcases Nat.lt_or_ge i N with h | h
        · have h3 := hl i h
          simp only [Array.getD_eq_getD_getElem?, Array.getElem?_eq_getElem h1, Option.getD_some] at h3
          rw [h3, Array.getElem_append_left (by simpa using h)]; simp
        · have h3 := I.tail i h (by omega)
          simp only [Array.getD_eq_getD_getElem?, Array.getElem?_eq_getElem h1, Option.getD_some] at h3
          rw [h3, Array.getElem_append_right (by simpa using h)]; simp
    have hdl : (l.drop N).length = l.toArray.size - N := by simp
    have := wpAny_of_seq (P := P) (md := .any) (Q' := Q) (ops := l.toArray) (l.drop N) N listed (puts x (fun _ => true) L a0) w1 (fun j => by simp [List.getElem?_drop]) (by rw [hdl, hle]; exact hseq) (hdone x w1 ⟨I.grow.os, I.grow.tape, I.grow.output, I.grow.size, I.grow.block⟩ hx)
    rwa [hdl] at this) N (Array.replicate l.toArray.size false) a0 w.drew (todo_none _ _ (Nat.le_of_lt hN)) ⟨Below.refl _ _, rfl, rfl, rfl, fun _ _ => rfl, (fun q hq hl => absurd hl (by rw [hF]; decide)), (fun q hq hl => absurd hl (by rw [hF]; decide)), (fun t _ ht => getD_in (by simpa using ht) (hF t))⟩
  rw [show N + (l.toArray.size - N) = l.toArray.size by omega] at key
  exact key
end Go.Proofs.YtogcfaijphpgfaaDoor.ord
/- What single operations yield: for regions that draw their order (beside Ord). Nothing here hangs on the program. -/
namespace Go.Proofs.YtogcfaijphpgfaaDoor.ord
open Go Go.RowKit
section
variable {P : Program} {ops : Array Oper} {o : Oper} {a : Act} {w : World} {N : Value → World → Prop}
theorem want0 (h : o.guard = none) : Region.wanted o (yielded ops a.tmps) = true := by unfold Region.wanted; rw [h]
theorem wantG {g d : Nat} {b : Bool} (h : o.guard = some (g, b)) (hd : (ops[g]?).bind (·.dst) = some d) (ht : a.eval (.tmp d) = .bool b) : Region.wanted o (yielded ops a.tmps) = true := by
  unfold Region.wanted
  rw [h]
  have : yielded ops a.tmps g = some b := by
    unfold yielded
    rw [hd]
    have h2 : a.tmps.getD d undef = .bool b := ht
    rw [Array.getD_eq_getD_getElem?] at h2
    show (match a.tmps[d]? with | some (.bool b) => some b | _ => none) = some b
    cases h3 : a.tmps[d]? with
    | none => rw [h3] at h2; cases h2
    | some v =>
      rw [h3] at h2
      have h4 : v = .bool b := h2
      subst h4; rfl
  simp [this]
theorem makes_move {s : Operand} (ho : o.op = .move s) (hN : N (a.eval s) w) : makes P o a w N := by
  unfold makes; simp [execOp, ho]; exact hN
theorem makes_assign {s : Operand} (ho : o.op = .assign s) (hN : N (a.eval s) w) : makes P o a w N := by
  unfold makes; simp [execOp, ho]; exact hN
theorem makes_pick {c y n : Operand} {b : Bool} (ho : o.op = .pick c y n) (hc : a.eval c = .bool b) (hN : N (if b then a.eval y else a.eval n) w) : makes P o a w N := by
  unfold makes
  cases b <;> simp [execOp, ho, hc, asBool] <;> exact hN
theorem makes_bin {op : BinOp} {t t' : TypeId} {x y : Operand} {vx vy u : Value} (ho : o.op = .binOp op t x y t') (hx : a.eval x = vx) (hy : a.eval y = vy)
    (hrun : (do eqGuard op t x y vx vy; binOp op t vx vy : Sem Value).run P w = .ok u w) (hN : N u w) : makes P o a w N := by
  unfold makes
  have : (execOp a.eval o).run P w = .ok (.value u) w := by
    show ((execOp a.eval o).run P w) = _
    simp only [execOp, ho, hx, hy, Sem.run_bind] at hrun ⊢
    rw [hrun]; rfl
  rw [this]; exact hN
theorem makes_conv {src dst : TypeId} {x : Operand} {vx u : Value} {w' : World} (ho : o.op = .convert src dst x) (hx : a.eval x = vx) (hrun : (convert src dst vx).run P w = .ok u w') (hN : N u w') : makes P o a w N := by
  unfold makes
  have : (execOp a.eval o).run P w = .ok (.value u) w' := by
    simp only [execOp, ho, hx, Sem.run_bind]
    rw [hrun]; rfl
  rw [this]; exact hN
theorem makes_slice {t : TypeId} {x : Operand} {lo hi mx : Option Operand} {vx u : Value} {vl vh vm : Option Value} (ho : o.op = .slice t x lo hi mx) (hx : a.eval x = vx) (hl : lo.map a.eval = vl) (hh : hi.map a.eval = vh) (hm : mx.map a.eval = vm)
    (hrun : (Instr.sliceAt t vx vl vh vm).run P w = .ok u w) (hN : N u w) : makes P o a w N := by
  unfold makes
  have : (execOp a.eval o).run P w = .ok (.value u) w := by
    simp only [execOp, ho, hx, hl, hh, hm, Sem.run_bind]
    rw [hrun]; rfl
  rw [this]; exact hN
theorem makes_build {t : TypeId} {len : Nat} {parts : Array (Nat × Operand)} {vs : Array (Nat × Value)} {u : Value} {w' : World} (ho : o.op = .buildSlice t len parts) (hp : (parts.map fun (i, x) => (i, a.eval x)) = vs)
    (hrun : (Instr.buildSlice t len vs).run P w = .ok u w') (hN : N u w') : makes P o a w N := by
  unfold makes
  have : (execOp a.eval o).run P w = .ok (.value u) w' := by
    simp only [execOp, ho, hp, Sem.run_bind]
    rw [hrun]; rfl
  rw [this]; exact hN
theorem makes_call {F : FuncId} {fn : Func} {args : Array Operand} {ts : Array TypeId} {vs : Array Value} {post : Ending → World → Prop} (hf : P.funcs[F]? = some fn) (hname : (fn.name == "runtime.NumGoroutine") = false) (hb : fn.body.isNone = false)
    (ho : o.op = .call { callee := .value (.func F), args := args, argTypes := ts }) (hp : args.map a.eval = vs)
    (hc : Calls P F vs w post) (hN : ∀ e w', post e w' → ∃ v, e = .returned v ∧ N v w') : makes P o a w N := by
  unfold makes
  have : (execOp a.eval o).run P w = .ok (.enter F vs) w := by
    have hname' : ¬ fn.name = "runtime.NumGoroutine" := by simpa using hname
    have hb' : ¬ fn.body = none := by intro h; rw [h] at hb; cases hb
    simp [execOp, ho, resolve, invoke, hp, Act.eval, Deferred.ofValue, callFunc, hf, hname', hb']
  rw [this]
  exact hc.mono hN
theorem makes_build1 {t : TypeId} {len i1 : Nat} {o1 : Operand} {v1 u : Value} {w' : World} (ho : o.op = .buildSlice t len #[(i1, o1)]) (h1 : a.eval o1 = v1)
    (hrun : (Instr.buildSlice t len #[(i1, v1)]).run P w = .ok u w') (hN : N u w') : makes P o a w N := makes_build ho (by simp [h1]) hrun hN
theorem makes_build2 {t : TypeId} {len i1 i2 : Nat} {o1 o2 : Operand} {v1 v2 u : Value} {w' : World} (ho : o.op = .buildSlice t len #[(i1, o1), (i2, o2)]) (h1 : a.eval o1 = v1) (h2 : a.eval o2 = v2)
    (hrun : (Instr.buildSlice t len #[(i1, v1), (i2, v2)]).run P w = .ok u w') (hN : N u w') : makes P o a w N := makes_build ho (by simp [h1, h2]) hrun hN
theorem makes_build3 {t : TypeId} {len i1 i2 i3 : Nat} {o1 o2 o3 : Operand} {v1 v2 v3 u : Value} {w' : World} (ho : o.op = .buildSlice t len #[(i1, o1), (i2, o2), (i3, o3)]) (h1 : a.eval o1 = v1) (h2 : a.eval o2 = v2) (h3 : a.eval o3 = v3)
    (hrun : (Instr.buildSlice t len #[(i1, v1), (i2, v2), (i3, v3)]).run P w = .ok u w') (hN : N u w') : makes P o a w N := makes_build ho (by simp [h1, h2, h3]) hrun hN
theorem makes_call1 {F : FuncId} {fn : Func} {o1 : Operand} {ts : Array TypeId} {v1 : Value} {post : Ending → World → Prop} (hf : P.funcs[F]? = some fn) (hname : (fn.name == "runtime.NumGoroutine") = false) (hb : fn.body.isNone = false)
    (ho : o.op = .call { callee := .value (.func F), args := #[o1], argTypes := ts }) (h1 : a.eval o1 = v1)
    (hc : Calls P F #[v1] w post) (hN : ∀ e w', post e w' → ∃ v, e = .returned v ∧ N v w') : makes P o a w N := makes_call hf hname hb ho (by simp [h1]) hc hN
theorem makes_call2 {F : FuncId} {fn : Func} {o1 o2 : Operand} {ts : Array TypeId} {v1 v2 : Value} {post : Ending → World → Prop} (hf : P.funcs[F]? = some fn) (hname : (fn.name == "runtime.NumGoroutine") = false) (hb : fn.body.isNone = false)
    (ho : o.op = .call { callee := .value (.func F), args := #[o1, o2], argTypes := ts }) (h1 : a.eval o1 = v1) (h2 : a.eval o2 = v2)
    (hc : Calls P F #[v1, v2] w post) (hN : ∀ e w', post e w' → ∃ v, e = .returned v ∧ N v w') : makes P o a w N := makes_call hf hname hb ho (by simp [h1, h2]) hc hN
end
end Go.Proofs.YtogcfaijphpgfaaDoor.ord
/- Contracts of package sha: the words of a block. -/
namespace Go.Proofs.YtogcfaijphpgfaaDoor
open Go.RowKit
theorem rowV_new {W : World} {c : Array Value} {t : TypeId} {n g : Nat} {f : Nat → Value} (hc : c = (valsL n f).toArray) (hg : g = W.heap.size) : RowV (W.alloc (.cells c t)) g t n f := by
  subst hg; exact rowV_made W c t n f hc
/-- p[l:] of an array of bytes behind a pointer -/
theorem sl_from (t : TypeId) (n g o l : Nat) (hu : Tryd.prog.underlying t = some (.array n 5)) (hl : l < n) (li : Int) (el : li = (l : Nat)) (w : World) :
    (Instr.sliceAt t (.pointer (some ⟨g, o, none⟩)) (some (.int .i64 li)) none none).run Tryd.prog w = .ok (.slice (some ⟨g, o + l, none⟩) (n - l) (n - l)) w := by
  subst el
  have he : Tryd.prog.elem t = 5 := by simp [Program.elem, hu]
  have hn : Tryd.prog.arrayLen t = n := by simp [Program.arrayLen, hu]
  rw [run_sliceAt_array_l (h0 := by omega) (h1 := by rw [hn]; omega) (ht := by rw [hn, he]; exact hu), he, sizeU8]
  show Result.ok (slicedAt ⟨g, o, none⟩ _ _ _ 1) w = _
  rw [hn, Int.toNat_natCast]
  unfold slicedAt
  rw [if_neg (by omega), Go.WideShapes.add_plain, Nat.mul_one]
/-- the first k words -/
def wz (b : Nat → Nat) (k j : Nat) : Nat := if j < k then be b (4 * j) else 0
theorem wz_step (b : Nat → Nat) (k j x : Nat) (hx : be b (4 * k) = x) : (if j = k then Value.int .u32 (x : Nat) else .int .u32 (wz b k j : Nat)) = .int .u32 (wz b (k + 1) j : Nat) := by
  subst hx
  unfold wz
  by_cases e : j = k
  · subst e; rw [if_pos rfl, if_pos (Nat.lt_succ_self _)]
  · rw [if_neg e]
    by_cases h : j < k
    · rw [if_pos h, if_pos (by omega)]
    · rw [if_neg h, if_neg (by omega)]
theorem wn_step (b : Nat → Nat) (n j x : Nat) (hx : x = (wn b n n + ls0 (wn b n (n + 1)) + wn b n (n + 9) + ls1 (wn b n (n + 14))) % 4294967296) : (if j = 16 + n then Value.int .u32 (x : Nat) else .int .u32 (wn b n j : Nat)) = .int .u32 (wn b (n + 1) j : Nat) := by
  subst hx
  rw [wn]
  by_cases e : j = 16 + n
  · rw [if_pos e, if_pos e]
  · rw [if_neg e, if_neg e]
theorem size64 : (Tryd.prog.info? 76).map (·.size) = some 64 := by kernel_rfl
/-- a result that is an array -/
theorem results_cellV {fn : Func} {p : Tmp} {ty : TypeId} (h : fn.results = #[.cell p ty]) (tmps : Array Value) (w : World) (b o n : Nat) (f : Nat → Value) (hp : tmps.getD p undef = .pointer (some ⟨b, o, none⟩)) (hc : ArrV w b o n f)
    (d : TypeDesc) (hu : Tryd.prog.underlying ty = some d) (hd : d.isRow = true) (hi : (Tryd.prog.info? ty).map (·.size) = some n) : (results fn tmps).run Tryd.prog w = .ok (.agg (valsL n f).toArray) w := by
  have hp' : tmps[p]?.getD undef = .pointer (some ⟨b, o, none⟩) := by simpa using hp
  have hl := run_loadVar_mid (P := Tryd.prog) w b o ty (valsL n f) d hc.range hu hd (by rw [valsL_length]; exact hi)
  simp [results, h, hp', asAddr, hl]
set_option maxRecDepth 100000 in
set_option maxHeartbeats 1600000 in
theorem stretch_any (g : Nat) (b : Nat → Nat) (w : World) (hb : By 64 b) (hB : Arr w g 8 64 b) :
    Calls Tryd.prog 43 #[.pointer (some ⟨g, 0, none⟩)] w fun e w' => e = .returned (.agg (valsL 64 fun j => .int .u32 (wn b 48 j : Nat)).toArray) ∧ Below w.heap.size w w' := by
  have HB := Lib.hid hB
  have HY := Lib.hid hb
  clear hB hb
  go_enter Tryd.func43, Tryd.ntmps43
  go_wp2_with fail
  go_loopw [10] (fun v wr => ∃ k : Nat, k ≤ 16 ∧ v = .int .i64 k ∧ RowV wr w.heap.size 76 64 (fun _ => .int .u32 0) ∧ RowV wr (w.heap.size + 1) 76 64 (fun j => .int .u32 (wz b k j : Nat)) ∧ Arr wr g 8 64 b ∧ Below w.heap.size w wr) (fun v _ => 16 - (intOf v).toNat)
  case atStart =>
    refine ⟨0, by decide, rfl, ?_, rowV_new rfl (by simp), (HB.out.alloc _).alloc _, ((Below.refl _ _).alloc (Nat.le_refl _) _).alloc (by simp) _⟩
    refine RowV.alloc ?_ _
    exact rowV_new rfl rfl
  case round =>
    obtain ⟨k, hk, rfl, h1, h2, h3, h4⟩ := hrel
    have H1 := Lib.hid h1
    have H2 := Lib.hid h2
    have H3 := Lib.hid h3
    have H4 := Lib.hid h4
    clear h1 h2 h3 h4
    by_cases hlt : k < 16
    · have hsl := sl_from 40 64 g 8 (4 * k) Tryd.underlying40 (by omega) ((k : Int) * 4) (by omega)
      have HS := Lib.hid (((H3.out.sub (a := 4 * k) (m := 64 - 4 * k) (by omega) rfl).slB (fun j hj => HY.out _ (by omega))))
      have hki : (k : Int) < 16 := by omega
      go_wp2_with fail
      refine (wordAt_any _ _ _ _ _ HS.out (by omega) (by omega)).mono ?_
      rintro e w2 ⟨rfl, n2, rfl⟩
      obtain ⟨x, hx⟩ : ∃ x, be b (4 * k) = x := ⟨_, rfl⟩
      have hx2 : be (fun j => b (4 * k + j)) 0 = x := hx
      rw [hx2]
      have HX := Lib.hid hx
      clear hx hx2
      have hc := (H2.out.drewN n2).cell (i := k) (by omega)
      have hf := (H2.out.drewN n2).frozen (i := k) (by omega)
      have HR := Lib.hid ((H2.out.drewN n2).set k (.int .u32 (x : Nat)))
      have HZ := Lib.hid ((H1.out.drewN n2).setOther (a := ⟨w.heap.size + 1, k, none⟩) (by simp) (.int .u32 (x : Nat)))
      have HW := Lib.hid ((drawn H4.out n2).setCell (p := ⟨w.heap.size + 1, k, none⟩) (Nat.le_succ _) (.int .u32 (x : Nat)))
      have HA := Lib.hid ((H3.out.drewN n2).setOther (a := ⟨w.heap.size + 1, k, none⟩) (by have := HB.out.lt (by decide); show g ≠ w.heap.size + 1; omega) (.int .u32 (x : Nat)))
      go_wp2_with fail
      go_roundw
      case rel => exact ⟨k + 1, by omega, by go_num, HZ.out, HR.out.congr fun j _ => wz_step b k j x HX.out, HA.out, HW.out⟩
      case measure => simp [intOf]; omega
    · obtain rfl : k = 16 := by omega
      have HR := Lib.hid (H2.out.congr (f := fun j => .int .u32 (wn b 0 j : Nat)) fun j _ => rfl)
      clear H2 hk hlt
      rw [show ((16 : Nat) : Int) = 16 from rfl]
      go_wp2_with fail
      generalize wr = wq at *
      go_loopw [5] (fun v wr => ∃ n : Nat, n ≤ 48 ∧ v = .int .i64 ((16 + n : Nat) : Int) ∧ RowV wr w.heap.size 76 64 (fun _ => .int .u32 0) ∧ RowV wr (w.heap.size + 1) 76 64 (fun j => .int .u32 (wn b n j : Nat)) ∧ Below w.heap.size w wr) (fun v _ => 64 - (intOf v).toNat)
      case atStart => exact ⟨0, Nat.zero_le _, rfl, H1.out, HR.out, H4.out⟩
      case round =>
        obtain ⟨n, hn, rfl, h1, h2, h3⟩ := hrel
        have G1 := Lib.hid h1
        have G2 := Lib.hid h2
        have G3 := Lib.hid h3
        clear h1 h2 h3 HR H1 H4
        by_cases hlt : n < 48
        · obtain ⟨t, ht⟩ : ∃ t, 16 + n = t := ⟨_, rfl⟩
          have ht1 : 16 ≤ t := by omega
          have ht2 : t < 64 := by omega
          have ci2 := G2.out.cell (i := t - 2) (by omega)
          have ci15 := G2.out.cell (i := t - 15) (by omega)
          have ci16 := G2.out.cell (i := t - 16) (by omega)
          have ci7 := G2.out.cell (i := t - 7) (by omega)
          have l2 := wn_lt HY.out n (t - 2)
          have l15 := wn_lt HY.out n (t - 15)
          have l16 := wn_lt HY.out n (t - 16)
          have l7 := wn_lt HY.out n (t - 7)
          have HE := Lib.hid (show (wn b n (t - 16) + ls0 (wn b n (t - 15)) + wn b n (t - 7) + ls1 (wn b n (t - 2))) % 4294967296 = (wn b n n + ls0 (wn b n (n + 1)) + wn b n (n + 9) + ls1 (wn b n (n + 14))) % 4294967296 by
            rw [show t - 16 = n by omega, show t - 15 = n + 1 by omega, show t - 7 = n + 9 by omega, show t - 2 = n + 14 by omega])
          have HN := Lib.hid ht
          have hf := G2.out.frozen (i := t) (by omega)
          have hc := G2.out.cell (i := t) (by omega)
          rw [ht]
          clear ht hn hlt
          generalize wn b n (t - 2) = x2 at *
          generalize wn b n (t - 15) = x15 at *
          generalize wn b n (t - 16) = x16 at *
          generalize wn b n (t - 7) = x7 at *
          go_wp2_with fail
          go_quiet (fail)
          have ci16 : (wr.drewN nq).cell? ⟨w.heap.size + 1, t - 16, none⟩ = some (.int .u32 (x16 : Nat)) := ci16
          have ci7 : (wr.drewN nq).cell? ⟨w.heap.size + 1, t - 7, none⟩ = some (.int .u32 (x7 : Nat)) := ci7
          have hc : (wr.drewN nq).cell? ⟨w.heap.size + 1, t, none⟩ = some (.int .u32 (wn b n t : Nat)) := hc
          have hf : (wr.drewN nq).frozen? ⟨w.heap.size + 1, t, none⟩ = false := hf
          have K1 := Lib.hid (G1.out.drewN nq)
          have K2 := Lib.hid (G2.out.drewN nq)
          have K3 := Lib.hid (drawn G3.out nq)
          clear G1 G2 G3
          generalize wr.drewN nq = w2 at *
          go_wp2_with fail
          refine (right_any 7 x15 _ l15 (by decide) (by decide)).mono ?_
          rintro e w3 ⟨rfl, rfl⟩
          go_wp2_with fail
          refine (right_any 18 x15 _ l15 (by decide) (by decide)).mono ?_
          rintro e w3 ⟨rfl, rfl⟩
          have hxa := u32_xor_nat _ _ (rr_lt (n := 7) l15) (rr_lt (n := 18) l15)
          have hxb : bits BinOp.xor .u32 ((rr 7 x15 ^^^ rr 18 x15 : Nat) : Int) ((x15 : Int) / 8) = ((ls0 x15 : Nat) : Int) := u32_xor_nat _ (x15 / 8) (xor32 (rr_lt l15) (rr_lt l15)) (by omega)
          have hl0 := ls0_lt l15
          generalize rr 7 x15 ^^^ rr 18 x15 = a1 at *
          generalize rr 7 x15 = a2 at *
          generalize rr 18 x15 = a3 at *
          generalize ls0 x15 = s0 at *
          go_wp2_with fail
          refine (right_any 17 x2 _ l2 (by decide) (by decide)).mono ?_
          rintro e w3 ⟨rfl, rfl⟩
          go_wp2_with fail
          refine (right_any 19 x2 _ l2 (by decide) (by decide)).mono ?_
          rintro e w3 ⟨rfl, rfl⟩
          have hxc := u32_xor_nat _ _ (rr_lt (n := 17) l2) (rr_lt (n := 19) l2)
          have hxd : bits BinOp.xor .u32 ((rr 17 x2 ^^^ rr 19 x2 : Nat) : Int) ((x2 : Int) / 1024) = ((ls1 x2 : Nat) : Int) := u32_xor_nat _ (x2 / 1024) (xor32 (rr_lt l2) (rr_lt l2)) (by omega)
          have hl1 := ls1_lt l2
          generalize rr 17 x2 ^^^ rr 19 x2 = a4 at *
          generalize rr 17 x2 = a5 at *
          generalize rr 19 x2 = a6 at *
          generalize ls1 x2 = s1 at *
          go_wp2_with fail
          go_region
          have hval : ((x16 : Int) + (s0 : Int) + (x7 : Int) + (s1 : Int)) % 4294967296 = (((x16 + s0 + x7 + s1) % 4294967296 : Nat) : Int) := by omega
          rw [hval]
          have R2 := Lib.hid ((K2.out.set t (.int .u32 ((x16 + s0 + x7 + s1) % 4294967296 : Nat))).drew)
          have R1 := Lib.hid ((K1.out.setOther (a := ⟨w.heap.size + 1, t, none⟩) (by simp) (.int .u32 ((x16 + s0 + x7 + s1) % 4294967296 : Nat))).drew)
          have R3 := Lib.hid (drawn (K3.out.setCell (p := ⟨w.heap.size + 1, t, none⟩) (Nat.le_succ _) (.int .u32 ((x16 + s0 + x7 + s1) % 4294967296 : Nat))) 1)
          have R3' := Lib.hid (show Below w.heap.size w (w2.setCell ⟨w.heap.size + 1, t, none⟩ (.int .u32 ((x16 + s0 + x7 + s1) % 4294967296 : Nat))).drew from R3.out)
          clear R3
          generalize (w2.setCell ⟨w.heap.size + 1, t, none⟩ (.int .u32 ((x16 + s0 + x7 + s1) % 4294967296 : Nat))).drew = w3 at *
          go_wp2_with fail
          go_roundw
          case rel => exact ⟨n + 1, by have := HN.out; omega, by rw [← HN.out]; go_num, R1.out, R2.out.congr fun j _ => by
              rw [← HN.out]
              exact wn_step b n j _ HE.out, R3'.out⟩
          case measure => have := HN.out; simp [intOf]; omega
        · obtain rfl : n = 48 := by omega
          have HL := Lib.hid G2.out.arr.range
          have HL1 := Lib.hid G1.out.arr
          clear hn hlt G1 G2
          go_wp2_with (first | (refine wpList_load_mid rfl 76 (.tmp 3) rfl (w.heap.size + 1) 0 rfl _ _ HL.out Tryd.underlying76 rfl (by rw [valsL_length]; exact size64) ?_) |
            (refine wpList_store_mid rfl 76 (.tmp 2) (.tmp 66) rfl w.heap.size 0 (valsL 64 fun j => Value.int .u32 (wn b 48 j : Nat)).toArray rfl rfl (HL1.out.there' _) (by rw [List.size_toArray, valsL_length]; exact size64) (all_oneCell_toArray (vals_one fun _ _ => rfl)) ?_))
          have HR := Lib.hid (HL1.out.setCells (fun j => Value.int .u32 (wn b 48 j : Nat)))
          have HC := Lib.hid (setCells_below w wr w.heap.size w.heap.size (Nat.le_refl _) (valsL 64 fun j => Value.int .u32 (wn b 48 j : Nat)) 0 G3.out)
          refine bodyPost_ret (results_cellV rfl _ _ w.heap.size 0 64 _ rfl HR.out _ Tryd.underlying76 rfl size64) rfl ⟨rfl, HC.out⟩
end Go.Proofs.YtogcfaijphpgfaaDoor
/- Contracts of package sha: a block is added. -/
namespace Go.Proofs.YtogcfaijphpgfaaDoor
open Go.RowKit
theorem xor_max (e : Nat) (he : e < 4294967296) : 4294967295 ^^^ e = 4294967295 - e := by
  apply Nat.eq_of_testBit_eq
  intro i
  rw [Nat.testBit_xor, not_bit e i he, show (4294967295 : Nat) = 2 ^ 32 - 1 from rfl, Nat.testBit_two_pow_sub_one]
  by_cases h : i < 32
  · simp [h]
  · have h32 : 2 ^ 32 ≤ 2 ^ i := Nat.pow_le_pow_right (by decide) (by omega)
    have : e.testBit i = false := Nat.testBit_lt_two_pow (Nat.lt_of_lt_of_le he h32)
    simp [h, this]
theorem sizeU32 (w : World) : (sizeOf 44).run Tryd.prog w = .ok 1 w := by
  have h : (Tryd.prog.info? 44).map (·.size) = some 1 := by kernel_rfl
  cases hq : Tryd.prog.info? 44 with
  | none => rw [hq] at h; cases h
  | some i =>
    rw [hq] at h
    have hs : i.size = 1 := by simpa using h
    simp [sizeOf, typeInfo, hq, hs]
/-- a[k] of an array's value -/
theorem index_vals (t : TypeId) (n : Nat) (f : Nat → Value) (k : Nat) (hu : Tryd.prog.underlying t = some (.array n 44)) (hk : k < n) (w : World) :
    (Instr.index t (.agg (valsL n f).toArray) (.int .i64 (k : Nat))).run Tryd.prog w = .ok (f k) w := by
  have hz := sizeU32 w
  unfold Instr.index
  simp [asIntOf, Sem.run_bind, run_underlying hu w, hz, part]
  rw [if_pos hk, valsL_at hk]
  rfl
/-- the store of an array -/
theorem wpList_storeV {ops : Array Oper} {rest : List Oper} {op : Oper} {a : Act} {w : World} {Q : Exit → Act → World → Prop} (hgd : op.guard = none) (ty : TypeId) (x y : Operand) (ho : op.op = .store ty x y)
    (b o n : Nat) (f cur : Nat → Value) (hx : a.eval x = .pointer (some ⟨b, o, none⟩)) (hy : a.eval y = .agg (valsL n f).toArray) (hc : ArrV w b o n cur) (h1 : ∀ j, j < n → (f j).oneCell' = true) (hi : (Tryd.prog.info? ty).map (·.size) = some n)
    (h : ∀ w', ArrV w' b o n f → Chg b w w' → wpList Tryd.prog ops Q rest (a.put op.dst undef) w') : wpList Tryd.prog ops Q (op :: rest) a w := by
  refine wpList_store_mid hgd ty x y ho b o (valsL n f).toArray hx hy (hc.there' f) (by rw [List.size_toArray, valsL_length]; exact hi) (all_oneCell_toArray (vals_one h1)) ?_
  rw [List.toList_toArray]
  exact h _ (hc.setCells f) (Chg.setCells b (Or.inl rfl) _ _ w (Chg.refl _ _))
abbrev z64 : Array Value := #[.int .u32 0, .int .u32 0, .int .u32 0, .int .u32 0, .int .u32 0, .int .u32 0, .int .u32 0, .int .u32 0, .int .u32 0, .int .u32 0, .int .u32 0, .int .u32 0, .int .u32 0, .int .u32 0, .int .u32 0, .int .u32 0, .int .u32 0, .int .u32 0, .int .u32 0, .int .u32 0, .int .u32 0, .int .u32 0, .int .u32 0, .int .u32 0, .int .u32 0, .int .u32 0, .int .u32 0, .int .u32 0, .int .u32 0, .int .u32 0, .int .u32 0, .int .u32 0, .int .u32 0, .int .u32 0, .int .u32 0, .int .u32 0, .int .u32 0, .int .u32 0, .int .u32 0, .int .u32 0, .int .u32 0, .int .u32 0, .int .u32 0, .int .u32 0, .int .u32 0, .int .u32 0, .int .u32 0, .int .u32 0, .int .u32 0, .int .u32 0, .int .u32 0, .int .u32 0, .int .u32 0, .int .u32 0, .int .u32 0, .int .u32 0, .int .u32 0, .int .u32 0, .int .u32 0, .int .u32 0, .int .u32 0, .int .u32 0, .int .u32 0, .int .u32 0]
/-- a Hash's cells -/
def hv (s : S8) (b : Nat → Nat) (n : Nat) (j : Nat) : Value := if j < 8 then .int .u32 (at8 s j : Nat) else if j < 72 then .int .u8 (b (j - 8) : Nat) else .int .i64 (n : Nat)
theorem hv_state (s : S8) (b : Nat → Nat) (n j : Nat) (hj : j < 8) : hv s b n j = .int .u32 (at8 s j : Nat) := if_pos hj
theorem hv_block (s : S8) (b : Nat → Nat) (n j : Nat) (hj : j < 64) : hv s b n (8 + j) = .int .u8 (b j : Nat) := by
  unfold hv; rw [if_neg (by omega), if_pos (by omega), Nat.add_sub_cancel_left]
theorem hv_count (s : S8) (b : Nat → Nat) (n : Nat) : hv s b n 72 = .int .i64 (n : Nat) := rfl
theorem hv_arr {w : World} {g : Nat} {t : TypeId} {s : S8} {b : Nat → Nat} {n : Nat} (h : RowV w g t 73 (hv s b n)) : Arr w g 8 64 b := fun j hj => by
  have := h.arr (8 + j) (by omega)
  rw [Nat.zero_add, hv_block _ _ _ _ hj] at this
  exact this
theorem arrV_zero (w : World) : ArrV (w.alloc (.cells z64 76)) w.heap.size 0 64 (fun _ => .int .u32 0) := arrV_made w _ _ 64 _ rfl
/-- k of the eight words added -/
def hvp (s t : S8) (b : Nat → Nat) (n k : Nat) (j : Nat) : Value := if j < k then .int .u32 (at8 (add8 s t) j : Nat) else hv s b n j
theorem hvp_step (s t : S8) (b : Nat → Nat) (n k j : Nat) : (if j = k then Value.int .u32 (at8 (add8 s t) k : Nat) else hvp s t b n k j) = hvp s t b n (k + 1) j := by
  unfold hvp
  by_cases e : j = k
  · subst e; rw [if_pos rfl, if_pos (Nat.lt_succ_self _)]
  · rw [if_neg e]
    by_cases h : j < k
    · rw [if_pos h, if_pos (by omega)]
    · rw [if_neg h, if_neg (by omega)]
theorem hvp_all (s t : S8) (b : Nat → Nat) (n j : Nat) : hvp s t b n 8 j = hv (add8 s t) b n j := by
  unfold hvp
  by_cases h : j < 8
  · rw [if_pos h, hv_state _ _ _ _ h]
  · rw [if_neg h]; unfold hv; rw [if_neg h, if_neg h]
theorem eight_lit (T : S8) : (Value.agg #[.int .u32 (T.a : Nat), .int .u32 (T.b : Nat), .int .u32 (T.c : Nat), .int .u32 (T.d : Nat), .int .u32 (T.e : Nat), .int .u32 (T.f : Nat), .int .u32 (T.g : Nat), .int .u32 (T.h : Nat)]) = .agg (valsL 8 fun j => .int .u32 (at8 T j : Nat)).toArray := rfl
theorem index_eight (T : S8) (k : Nat) (hk : k < 8) (w : World) : (Instr.index 64 (.agg #[.int .u32 (T.a : Nat), .int .u32 (T.b : Nat), .int .u32 (T.c : Nat), .int .u32 (T.d : Nat), .int .u32 (T.e : Nat), .int .u32 (T.f : Nat), .int .u32 (T.g : Nat), .int .u32 (T.h : Nat)]) (.int .i64 (k : Nat))).run Tryd.prog w = .ok (.int .u32 (at8 T k : Nat)) w := by
  rw [eight_lit]
  exact index_vals 64 8 (fun j => .int .u32 (at8 T j : Nat)) k Tryd.underlying64 hk w
set_option maxRecDepth 100000 in
set_option maxHeartbeats 1600000 in
theorem add_any (g n : Nat) (s : S8) (b : Nat → Nat) (w : World) (hs : s.ok) (hb : By 64 b) (hr : RowV w g 66 73 (hv s b n)) (ht : GT w) (hg : 1 ≠ g ∧ 0 ≠ g) :
    Calls Tryd.prog 32 #[.pointer (some ⟨g, 0, none⟩)] w fun e w' => e = .returned (.tuple #[]) ∧ (RowV w' g 66 73 (hv (comp s b) b n) ∧ Chg g w w') := by
  have HR := Lib.hid hr
  have HY := Lib.hid hb
  have HT := Lib.hid ht
  have HG := Lib.hid hg
  have HS := Lib.hid hs
  clear hr hb ht hg hs
  go_enter Tryd.func32, Tryd.ntmps32
  go_wp2_with fail
  refine (stretch_any g b w HY.out (hv_arr HR.out)).mono ?_
  rintro e w1 ⟨rfl, h1⟩
  have HR1 := Lib.hid (HR.out.keep h1)
  have HT1 := Lib.hid (HT.out.keep h1)
  have HC1 := Lib.hid (Chg.of_below (K := g) h1)
  have HWL := Lib.hid (fun j (hj : j < 64) => wn_lt HY.out 48 j)
  clear h1
  obtain ⟨V, hV⟩ : ∃ V, (Value.agg (valsL 64 fun j => .int .u32 (wn b 48 j : Nat)).toArray) = V := ⟨_, rfl⟩
  rw [hV]
  have HV := Lib.hid hV
  clear hV
  have HA1 := Lib.hid (arrV_zero w1)
  go_wp2_with (refine wpList_storeV rfl 76 (.tmp 2) (.tmp 18) rfl w1.heap.size 0 64 _ _ rfl HV.out.symm HA1.out (fun _ _ => rfl) size64 ?_; intro w2 h1 h2; have HA2 := Lib.hid h1; have HC2 := Lib.hid h2; clear h1 h2)
  have hne : g ≠ w1.heap.size := Nat.ne_of_lt HR1.out.lt
  have HR2 := Lib.hid ((HR1.out.alloc (.cells z64 76)).chg HC2.out hne)
  have HT2 := Lib.hid ((HT1.out.alloc (.cells z64 76)).chg HC2.out ⟨Nat.ne_of_lt HT1.out.ltk, Nat.ne_of_lt HT1.out.lth⟩)
  have HC3 := Lib.hid ((HC1.out.alloc (.cells z64 76)).thenNew HC2.out HC1.out.size)
  have HRG := Lib.hid HA2.out.range
  have HN := Lib.hid hne
  clear HC2 HC1 HT1 HR1 HA1 HA2 HT HR hne
  generalize w1.heap.size = L at *
  clear w1
  have c0 : w2.cell? ⟨g, 0, none⟩ = some (.int .u32 (s.a : Nat)) := HR2.out.cell (i := 0) (by decide)
  have c1 : w2.cell? ⟨g, 1, none⟩ = some (.int .u32 (s.b : Nat)) := HR2.out.cell (i := 1) (by decide)
  have c2 : w2.cell? ⟨g, 2, none⟩ = some (.int .u32 (s.c : Nat)) := HR2.out.cell (i := 2) (by decide)
  have c3 : w2.cell? ⟨g, 3, none⟩ = some (.int .u32 (s.d : Nat)) := HR2.out.cell (i := 3) (by decide)
  go_quiet (fail)
  have HR3 := Lib.hid (HR2.out.drewN nq)
  have HT3 := Lib.hid (HT2.out.drewN nq)
  have HC4 := Lib.hid (HC3.out.drewN nq)
  have HRG3 := Lib.hid (show (w2.drewN nq).rangeAt L 0 _ from HRG.out)
  clear HR2 HT2 HC3 HRG c0 c1 c2 c3
  generalize w2.drewN nq = w3 at *
  have c0 : w3.cell? ⟨g, 4, none⟩ = some (.int .u32 (s.e : Nat)) := HR3.out.cell (i := 4) (by decide)
  have c1 : w3.cell? ⟨g, 5, none⟩ = some (.int .u32 (s.f : Nat)) := HR3.out.cell (i := 5) (by decide)
  have c2 : w3.cell? ⟨g, 6, none⟩ = some (.int .u32 (s.g : Nat)) := HR3.out.cell (i := 6) (by decide)
  have c3 : w3.cell? ⟨g, 7, none⟩ = some (.int .u32 (s.h : Nat)) := HR3.out.cell (i := 7) (by decide)
  go_wp2_with fail
  go_quiet (fail)
  have HR4 := Lib.hid (HR3.out.drewN nq)
  have HT4 := Lib.hid (HT3.out.drewN nq)
  have HC5 := Lib.hid (HC4.out.drewN nq)
  have HRG4 := Lib.hid (show (w3.drewN nq).rangeAt L 0 _ from HRG3.out)
  clear HR3 HT3 HC4 HRG3 c0 c1 c2 c3
  generalize w3.drewN nq = w4 at *
  go_wp2_with ((refine wpList_load_mid rfl 76 (.tmp 2) rfl L 0 rfl _ _ HRG4.out Tryd.underlying76 rfl (by rw [valsL_length]; exact size64) ?_); rw [HV.out])
  go_loopw [3, 4, 5, 6, 7, 8, 9, 10, 60] (fun va vb vc vd ve vf vg vh v wr => ∃ k : Nat, k ≤ 64 ∧ v = .int .i64 k ∧ va = .int .u32 ((rs (wn b 48) s k).a : Nat) ∧ vb = .int .u32 ((rs (wn b 48) s k).b : Nat) ∧ vc = .int .u32 ((rs (wn b 48) s k).c : Nat) ∧ vd = .int .u32 ((rs (wn b 48) s k).d : Nat) ∧
    ve = .int .u32 ((rs (wn b 48) s k).e : Nat) ∧ vf = .int .u32 ((rs (wn b 48) s k).f : Nat) ∧ vg = .int .u32 ((rs (wn b 48) s k).g : Nat) ∧ vh = .int .u32 ((rs (wn b 48) s k).h : Nat) ∧
    RowV wr g 66 73 (hv s b n) ∧ GT wr ∧ Chg g w wr) (fun _ _ _ _ _ _ _ _ v _ => 64 - (intOf v).toNat)
  case atStart => exact ⟨0, Nat.zero_le _, rfl, rfl, rfl, rfl, rfl, rfl, rfl, rfl, rfl, HR4.out, HT4.out, HC5.out⟩
  case round =>
    obtain ⟨k, hk, rfl, rfl, rfl, rfl, rfl, rfl, rfl, rfl, rfl, h1, h2, h3⟩ := hrel
    have H1 := Lib.hid h1
    have H2 := Lib.hid h2
    have H3 := Lib.hid h3
    clear h1 h2 h3 HR4 HT4 HC5 HRG4
    by_cases hlt : k < 64
    · have hsok := rs_ok (W := wn b 48) HS.out k
      have HXa := Lib.hid (show (rs (wn b 48) s (k + 1)).a = (((rs (wn b 48) s k).h + bs1 (rs (wn b 48) s k).e + chn (rs (wn b 48) s k).e (rs (wn b 48) s k).f (rs (wn b 48) s k).g + kc k + wn b 48 k) + (bs0 (rs (wn b 48) s k).a + maj (rs (wn b 48) s k).a (rs (wn b 48) s k).b (rs (wn b 48) s k).c)) % 4294967296 from rfl)
      have HXb := Lib.hid (show (rs (wn b 48) s (k + 1)).b = (rs (wn b 48) s k).a from rfl)
      have HXc := Lib.hid (show (rs (wn b 48) s (k + 1)).c = (rs (wn b 48) s k).b from rfl)
      have HXd := Lib.hid (show (rs (wn b 48) s (k + 1)).d = (rs (wn b 48) s k).c from rfl)
      have HXe := Lib.hid (show (rs (wn b 48) s (k + 1)).e = ((rs (wn b 48) s k).d + ((rs (wn b 48) s k).h + bs1 (rs (wn b 48) s k).e + chn (rs (wn b 48) s k).e (rs (wn b 48) s k).f (rs (wn b 48) s k).g + kc k + wn b 48 k)) % 4294967296 from rfl)
      have HXf := Lib.hid (show (rs (wn b 48) s (k + 1)).f = (rs (wn b 48) s k).e from rfl)
      have HXg := Lib.hid (show (rs (wn b 48) s (k + 1)).g = (rs (wn b 48) s k).f from rfl)
      have HXh := Lib.hid (show (rs (wn b 48) s (k + 1)).h = (rs (wn b 48) s k).g from rfl)
      have la := hsok.a
      have lb := hsok.b
      have lc' := hsok.c
      have ld := hsok.d
      have le := hsok.e
      have lf := hsok.f
      have lg := hsok.g
      have lh := hsok.h
      have lk := kc_lt k
      have lw := HWL.out k hlt
      have ck := H2.out.k k hlt
      have hix := index_vals 76 64 (fun j => .int .u32 (wn b 48 j : Nat)) k Tryd.underlying76 hlt
      rw [HV.out] at hix
      clear hsok
      generalize (rs (wn b 48) s k).a = xa at *
      generalize (rs (wn b 48) s k).b = xb at *
      generalize (rs (wn b 48) s k).c = xc at *
      generalize (rs (wn b 48) s k).d = xd at *
      generalize (rs (wn b 48) s k).e = xe at *
      generalize (rs (wn b 48) s k).f = xf at *
      generalize (rs (wn b 48) s k).g = xg at *
      generalize (rs (wn b 48) s k).h = xh at *
      generalize kc k = xk at *
      generalize wn b 48 k = xw at *
      have HTE := Lib.hid fun w => turn_any 6 11 25 xe w le (by decide) (by decide) (by decide) (by decide) (by decide) (by decide)
      have HTA := Lib.hid fun w => turn_any 2 13 22 xa w la (by decide) (by decide) (by decide) (by decide) (by decide) (by decide)
      rw [show (rr 6 xe ^^^ rr 11 xe) ^^^ rr 25 xe = bs1 xe from rfl] at HTE
      rw [show (rr 2 xa ^^^ rr 13 xa) ^^^ rr 22 xa = bs0 xa from rfl] at HTA
      have ls1 := bs1_lt le
      have ls0 := bs0_lt la
      have p1 := u32_and_nat xe xf le lf
      have p2 : bits BinOp.xor .u32 IntKind.u32.max (xe : Int) = ((4294967295 - xe : Nat) : Int) := (u32_xor_nat 4294967295 xe (by decide) le).trans (by rw [xor_max xe le])
      have hsg : IntKind.u32.signed = false := rfl
      have ln : 4294967295 - xe < 4294967296 := by omega
      have p3 := u32_and_nat (4294967295 - xe) xg ln lg
      have p4 : bits BinOp.xor .u32 ((xe &&& xf : Nat) : Int) ((4294967295 - xe &&& xg : Nat) : Int) = ((chn xe xf xg : Nat) : Int) := u32_xor_nat _ _ (and32' lf) (and32' lg)
      have lc := chn_lt (e := xe) lf lg
      have q1 := u32_and_nat xa xb la lb
      have q2 := u32_and_nat xa xc la lc'
      have q3 := u32_xor_nat _ _ (and32 (b := xb) la) (and32 (b := xc) la)
      have q4 := u32_and_nat xb xc lb lc'
      have q5 : bits BinOp.xor .u32 (((xa &&& xb) ^^^ (xa &&& xc) : Nat) : Int) ((xb &&& xc : Nat) : Int) = ((maj xa xb xc : Nat) : Int) := u32_xor_nat _ _ (xor32 (and32 la) (and32 la)) (and32 lb)
      have lm := maj_lt (c := xc) la lb
      generalize bs1 xe = s1 at *
      generalize bs0 xa = s0 at *
      generalize chn xe xf xg = cc at *
      generalize maj xa xb xc = mm at *
      generalize (xa &&& xb) ^^^ (xa &&& xc) = v1 at *
      generalize xe &&& xf = v2 at *
      generalize 4294967295 - xe &&& xg = v3 at *
      generalize 4294967295 - xe = v4 at *
      generalize xa &&& xb = v5 at *
      generalize xa &&& xc = v6 at *
      generalize xb &&& xc = v7 at *
      go_wp2_with fail
      go_quiet ((go_at_call 44; exact Calls.quiet_of_same (same_flip (HTE.out _))))
      obtain ⟨X, hX⟩ : ∃ X : Nat, (xh + s1 + cc + xk + xw) % 4294967296 = X := ⟨_, rfl⟩
      have hXi : (((xh : Int) + (s1 : Int) + (cc : Int) + (xk : Int)) % 4294967296 + (xw : Int)) % 4294967296 = (X : Int) := by omega
      have lX : X < 4294967296 := by omega
      rw [hXi]
      have HX := Lib.hid hX
      have K1 := Lib.hid (H1.out.drewN nq)
      have K2 := Lib.hid (H2.out.drewN nq)
      have K3 := Lib.hid (H3.out.drewN nq)
      clear hX hXi p1 p2 p3 p4 ck hix H1 H2 H3
      generalize wr.drewN nq = w5 at *
      go_wp2_with fail
      refine (HTA.out _).mono ?_
      rintro e w6 ⟨rfl, rfl⟩
      go_wp2_with fail
      go_roundw
      case rel => exact ⟨k + 1, by omega, by go_num, by
        rw [HXa.out]; exact congrArg _ (by have := HX.out; omega), by rw [HXb.out], by rw [HXc.out], by rw [HXd.out], by
        rw [HXe.out]; exact congrArg _ (by have := HX.out; omega), by rw [HXf.out], by rw [HXg.out], by rw [HXh.out], K1.out, K2.out, K3.out⟩
      case measure => simp [intOf]; omega
    · obtain rfl : k = 64 := by omega
      have HE := Lib.hid (show comp s b = add8 s (rs (wn b 48) s 64) from rfl)
      have TOK := Lib.hid (rs_ok (W := wn b 48) HS.out 64)
      generalize rs (wn b 48) s 64 = T at *
      have HR5 := Lib.hid (H1.out.congr (f := hvp s T b n 0) fun j _ => (if_neg (Nat.not_lt_zero j)).symm)
      clear H1 H2
      rw [show ((64 : Nat) : Int) = 64 from rfl]
      go_wp2_with fail
      go_loopw [119] (fun v wx => ∃ k : Nat, k ≤ 8 ∧ v = .int .i64 k ∧ RowV wx g 66 73 (hvp s T b n k) ∧ Chg g w wx) (fun v _ => 8 - (intOf v).toNat)
      case atStart => exact ⟨0, Nat.zero_le _, rfl, HR5.out, H3.out⟩
      case round =>
        obtain ⟨k, hk, rfl, h1, h2⟩ := hrel
        have H1 := Lib.hid h1
        have H2 := Lib.hid h2
        clear h1 h2 HR5 H3
        by_cases hlt : k < 8
        · have hix := index_eight T k hlt
          have hc := H1.out.cell (i := k) (by omega)
          have hf := H1.out.frozen (i := k) (by omega)
          rw [show hvp s T b n k k = .int .u32 (at8 s k : Nat) by unfold hvp; rw [if_neg (Nat.lt_irrefl k), hv_state _ _ _ _ hlt]] at hc
          have l1 := at8_lt HS.out k
          have l2 := at8_lt TOK.out k
          have HA := Lib.hid (at8_add s T k hlt)
          generalize at8 s k = y1 at *
          generalize at8 T k = y2 at *
          go_wp2_with fail
          go_region
          have hval : ((y1 : Int) + (y2 : Int)) % 4294967296 = (((y1 + y2) % 4294967296 : Nat) : Int) := by omega
          rw [hval, ← HA.out]
          have K1 := Lib.hid ((H1.out.set k (.int .u32 (at8 (add8 s T) k : Nat))).drew)
          have K2 := Lib.hid ((H2.out.setCell (a := ⟨g, k, none⟩) (Or.inl rfl) (.int .u32 (at8 (add8 s T) k : Nat))).drew)
          clear hval hc hf
          generalize (wr.setCell ⟨g, k, none⟩ (.int .u32 (at8 (add8 s T) k : Nat))).drew = w6 at *
          go_wp2_with fail
          go_roundw
          case rel => exact ⟨k + 1, by omega, by go_num, K1.out.congr fun j _ => hvp_step s T b n k j, K2.out⟩
          case measure => simp [intOf]; omega
        · obtain rfl : k = 8 := by omega
          go_wp2_with fail
          go_end0
          refine ⟨rfl, ?_, H2.out⟩
          rw [HE.out]
          exact H1.out.congr fun j _ => hvp_all s T b n j
end Go.Proofs.YtogcfaijphpgfaaDoor
