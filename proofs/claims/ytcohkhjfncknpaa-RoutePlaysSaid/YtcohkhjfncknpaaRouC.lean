/- Layer 15, the code: Put, Drop. -/
import Derived.Test.YtcohkhjfncknpaaRouB
import Derived.Test.YtcohkhjfncknpaaShClone
namespace Go.Proofs.Ytcohkhjfncknpaa
set_option maxRecDepth 100000
open Go.RowKit
theorem puK_isP (p : ByteArray) (t : Int) : puK p t = (isP p && decide (1 ≤ t ∧ t ≤ 99)) := by
  unfold puK isP
  rw [Bool.eq_iff_iff]
  simp only [decide_eq_true_eq, Bool.and_eq_true]
  exact ⟨fun ⟨a, b, c⟩ => ⟨⟨a, b⟩, c⟩, fun ⟨⟨a, b⟩, c⟩ => ⟨a, b, c⟩⟩
/-- nothing is put -/
theorem TblA.stay {u : World} {G B : Nat} {w w' : World} {L : List Rt} {O : Nat → Prop} (h : TblA u G B w L O) (hb : Below w.heap.size w w') : TStep (TblA u G B) w O w' L :=
  ⟨O, h.below hb, ChgS.of_below hb, fun _ hk => Or.inl hk⟩
theorem drawnB (w : World) (n : Nat) : Below w.heap.size w (w.drewN n) := ⟨rfl, rfl, rfl, Nat.le_refl _, fun _ _ => rfl⟩
theorem MpW.drewN {w : World} {B : Nat} {L : List Rt} (h : MpW w B L) (n : Nat) : MpW (w.drewN n) B L := h.block rfl
/-- a prefix or a target that is none -/
theorem cput_arg {u : World} {G B : Nat} {w : World} {L : List Rt} {O : Nat → Prop} (h : TblA u G B w L O) (p : ByteArray) (t : Int) (hp : p.size ≤ maxLen) (hk : puK p t = false) :
    Calls Try.prog 11 #[.pointer (some ⟨G, 0, none⟩), .string p, .int .i64 t] w fun e w' => e = .returned (.int .i64 (puE L p t)) ∧ TStep (TblA u G B) w O w' (puN L p t) := by
  have he : puE L p t = 1 := by unfold puE; rw [if_neg (by rw [hk]; decide)]
  have hn : puN L p t = L := by unfold puN; rw [if_neg (by rw [he]; decide)]
  have HE := Lib.hid he
  have HN := Lib.hid hn
  have HT := Lib.hid h
  have HP := Lib.hid (isp_any p w hp)
  rw [puK_isP] at hk
  clear he hn hp h
  cases hi : isP p with
  | false =>
    rw [hi] at HP
    clear hk hi
    go_enter Try.func11, Try.ntmps11
    go_wp2_with fail
    refine HP.out.mono ?_
    rintro e w1 ⟨rfl, n, rfl⟩
    clear HP
    go_wp2_with fail
    go_ret
    rw [HE.out, HN.out]
    exact ⟨rfl, HT.out.stay (drawnB _ _)⟩
  | true =>
    rw [hi, Bool.true_and, decide_eq_false_iff_not] at hk
    rw [hi] at HP
    clear hi
    by_cases h1 : t < 1
    · have t1 : decide (t < 1) = true := decide_eq_true h1
      clear hk h1
      go_enter Try.func11, Try.ntmps11
      go_wp2_with fail
      refine HP.out.mono ?_
      rintro e w1 ⟨rfl, n, rfl⟩
      clear HP
      go_wp2_with fail
      go_ret
      rw [HE.out, HN.out]
      exact ⟨rfl, HT.out.stay (drawnB _ _)⟩
    · have t1 : decide (t < 1) = false := decide_eq_false h1
      have t2 : decide (99 < t) = true := decide_eq_true (by omega)
      clear hk h1
      go_enter Try.func11, Try.ntmps11
      go_wp2_with fail
      refine HP.out.mono ?_
      rintro e w1 ⟨rfl, n, rfl⟩
      clear HP
      go_wp2_with fail
      go_ret
      rw [HE.out, HN.out]
      exact ⟨rfl, HT.out.stay (drawnB _ _)⟩
/-- a table that is full -/
theorem cput_full {u : World} {G B : Nat} {w : World} {L : List Rt} {O : Nat → Prop} (h : TblA u G B w L O) (p : ByteArray) (t : Int) (hp : p.size ≤ maxLen) (hk : puK p t = true) (ha : (atR L p).isSome = false) (hf : 24 ≤ L.length) :
    Calls Try.prog 11 #[.pointer (some ⟨G, 0, none⟩), .string p, .int .i64 t] w fun e w' => e = .returned (.int .i64 (puE L p t)) ∧ TStep (TblA u G B) w O w' (puN L p t) := by
  have he : puE L p t = 14 := by unfold puE; rw [if_pos hk, if_neg (by rw [ha]; decide), if_pos hf]
  have hn : puN L p t = L := by unfold puN; rw [if_neg (by rw [he]; decide)]
  have HE := Lib.hid he
  have HN := Lib.hid hn
  have HT := Lib.hid h
  have HP := Lib.hid (isp_any p w hp)
  rw [puK_isP, Bool.and_eq_true, decide_eq_true_eq] at hk
  rw [hk.1] at HP
  have t1 : decide (t < 1) = false := decide_eq_false (by omega)
  have t2 : decide (99 < t) = false := decide_eq_false (by omega)
  have t3 : decide ((24 : Int) ≤ ((L.length : Nat) : Int)) = true := decide_eq_true (by omega)
  have c0 : ∀ n, (w.drewN n).cell? ⟨G, 0, none⟩ = some (.map (some B)) := fun _ => h.cell
  have m0 : ∀ n, (Instr.lookup 48 (.map (some B)) (.string p) true).run Try.prog (w.drewN n) = .ok (.tuple #[.int .i64 ((atR L p).getD 0), .bool false]) (w.drewN n) := fun n => by rw [(h.mp.drewN n).look p hp, ha]
  have m1 : ∀ n ty, (Builtin.len_ #[48] ty #[.map (some B)]).run Try.prog (w.drewN n) = .ok (.int .i64 (L.length : Nat)) (w.drewN n) := fun n ty => (h.mp.drewN n).len ty
  clear he hn hp h hk ha hf
  generalize (atR L p).getD 0 = x0 at *
  generalize L.length = ll at *
  go_enter Try.func11, Try.ntmps11
  go_wp2_with fail
  refine HP.out.mono ?_
  rintro e w1 ⟨rfl, n, rfl⟩
  clear HP
  have c0 := c0 n
  have m0 := m0 n
  have m1 := m1 n
  go_wp2_with fail
  go_ret
  rw [HE.out, HN.out]
  exact ⟨rfl, HT.out.stay (drawnB _ _)⟩
end Go.Proofs.Ytcohkhjfncknpaa
