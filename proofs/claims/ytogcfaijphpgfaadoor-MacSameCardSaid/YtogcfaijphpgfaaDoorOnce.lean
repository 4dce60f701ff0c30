/- sync.Once, one goroutine: Do with a method value, by that method's contract. -/
import Derived.Test.YtogcfaijphpgfaaDoorBase
import Derived.Conc.MuLone
import Derived.Laws.NewBlocks
import Derived.Deep.WholeRow
import Derived.RegionCalls
namespace Go.Proofs.YtogcfaijphpgfaaDoor
open Go.MuLone

noncomputable abbrev muLink : Go.Conc.Locks.MuLink := { lock := 40, unlock := 41, ilock := 46, iunlock := 47, lockSlow := 56, unlockSlow := 59, disable := 52, enable := 54, acquire := 55, relMerge := 57, cas32 := 53, add32 := 58, tMutex := 50, tIMutex := 48, tPMutex := Tryd.f40.params.getD 0 0, tPIMutex := Tryd.f46.params.getD 0 0, tPI32 := 89, tUP := 91, tNoCopy := 42, tU32 := 44 }
/-- what a pointer's type says -/
theorem ptr_facts {p t : TypeId} (hu : Tryd.prog.underlying p = some (.pointer t)) (hi : (Tryd.prog.info? p).map (fun i => (i.zero, i.size)) = some (some (.pointer none), 1)) :
    (∀ w, Sem.run Tryd.prog (underlying p) w = .ok (.pointer t) w) ∧ (∀ w, Sem.run Tryd.prog (Go.sizeOf p) w = .ok 1 w) ∧ (∀ w, Sem.run Tryd.prog (isAgg p) w = .ok false w) ∧ (∀ w, Sem.run Tryd.prog (zeroValue p) w = .ok (.pointer none) w) := by
  have h1 : ∀ w, Sem.run Tryd.prog (underlying p) w = .ok (.pointer t) w := run_underlying hu
  refine ⟨h1, fun w => ?_, fun w => ?_, (zero_of_info hi).1⟩
  · have := (zero_of_info hi).2
    cases hq : Tryd.prog.info? p with
    | none => simp [hq] at this
    | some i => simp [hq] at this; simp [sizeOf, typeInfo, hq, this]
  · unfold isAgg
    rw [Sem.run_bind, h1]
    rfl
theorem muLib : Go.Conc.Locks.MuLib Tryd.prog muLink := by
  have pM := ptr_facts (p := muLink.tPMutex) (t := 50) (by kernel_rfl) (by kernel_rfl)
  have pIM := ptr_facts (p := muLink.tPIMutex) (t := 48) (by kernel_rfl) (by kernel_rfl)
  exact ⟨Tryd.func40, Tryd.func41, Tryd.func46, Tryd.func47, Tryd.func52, Tryd.func54, Tryd.func55, Tryd.func57, Tryd.func53, Tryd.func58, Tryd.underlying48, Tryd.runUnderlying48, Tryd.sizeOf48, Tryd.isAgg48, Tryd.zeroValue48, Tryd.underlying50, Tryd.runUnderlying50, Tryd.sizeOf50, Tryd.isAgg50, Tryd.zeroValue50, (by kernel_rfl), pM.1, pM.2.1, pM.2.2.1, pM.2.2.2, (by kernel_rfl), pIM.1, pIM.2.1, pIM.2.2.1, pIM.2.2.2, Tryd.underlying89, Tryd.runUnderlying89, Tryd.sizeOf89, Tryd.isAgg89, Tryd.zeroValue89, Tryd.underlying91, Tryd.runUnderlying91, Tryd.sizeOf91, Tryd.isAgg91, Tryd.zeroValue91, Tryd.underlying42, Tryd.runUnderlying42, Tryd.sizeOf42, Tryd.isAgg42, Tryd.zeroValue42, Tryd.underlying21, Tryd.runUnderlying21, Tryd.sizeOf21, Tryd.isAgg21, Tryd.zeroValue21, (by kernel_rfl)⟩

/-- '(*sync/atomic.Bool).Store(true)', entered as a deferred call -/
theorem store_deferred (a : Addr) (x : Value) (u : FrameMode) (w : World) (hc : w.cell? a = some x) (hz : w.frozen? a = false) :
    CallsD Tryd.prog 42 #[.pointer (some a), .bool true] u w fun e u' w' => u' = u ∧ (e = .returned (.tuple #[]) ∧ w' = w.drew.setCell a (.int .u32 1)) := by
  have hc' : w.drew.cell? a = some x := by go_simp
  have hz' : w.drew.frozen? a = false := by go_simp
  have hst := run_call_store (P := Tryd.prog) Tryd.func48 (by kernel_rfl) (by kernel_rfl) (by kernel_rfl) (by kernel_rfl) (k := .u32) (y := 1) hc' hz'
  go_enter_d Tryd.func42, Tryd.ntmps42
  go_wp2
  go_region_calls
  all_goals (go_end0; exact ⟨rfl, rfl⟩)

/-- what a world must have of a Once: its word and its lock -/
structure OnceAt (w : World) (b off : Nat) (d m : Int) : Prop where
  done : w.cell? ⟨b, off, none⟩ = some (.int .u32 d)
  lock : w.cell? ⟨b, off + 1, none⟩ = some (.int .i32 m)
  fdone : w.frozen? ⟨b, off, none⟩ = false
  flock : w.frozen? ⟨b, off + 1, none⟩ = false

/-- '(*sync.Once).Do', done already -/
theorem do_done (b off : Nat) (fv : Value) (m : Int) (w : World) (h : OnceAt w b off 1 m) :
    Calls Tryd.prog 21 #[.pointer (some ⟨b, off, none⟩), fv] w fun e w' => e = .returned (.tuple #[]) ∧ w' = w := by
  have hl := run_call_load (P := Tryd.prog) Tryd.func39 (by kernel_rfl) (by kernel_rfl) (by kernel_rfl) .u32 (by kernel_rfl) h.done
  have hnot : ∀ (x : Bool) (w : World), (Op.unary .not (.bool x)).run Tryd.prog w = .ok (.bool (!x)) w := fun _ _ => rfl
  go_enter Tryd.func21, Tryd.ntmps21
  go_wp2
  go_end0
  exact ⟨rfl, rfl⟩
end Go.Proofs.YtogcfaijphpgfaaDoor
