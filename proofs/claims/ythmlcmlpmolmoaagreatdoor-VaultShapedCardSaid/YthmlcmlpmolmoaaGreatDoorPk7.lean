/- 7 texts in one, in their order. -/
import Derived.Test.YthmlcmlpmolmoaaGreatDoorPk6
import Derived.Orders
import Derived.Below
import Derived.WalkKit
import Derived.StillTail
import Derived.WalkSpells
/- A region that draws its order: whatever order is drawn, what each operation yields is told by a predicate of its own, which stays true as memory grows. Nothing here hangs on the program. -/
namespace Go.Proofs.YthmlcmlpmolmoaaGreatDoor.ord
open Go Go.RowKit

/-- carried out in world w, the operation yields a value v and leaves a world w' with N v w' -/
def makes (P : Program) (o : Oper) (a : Act) (w : World) (N : Value → World → Prop) : Prop :=
  match (execOp a.eval o).run P w with
  | .ok (.value u) w' => N u w'
  | .ok (.enter f args) w' => Calls P f args w' (fun e w'' => ∃ v, e = .returned v ∧ N v w'')
  | _ => False
theorem wp_of_makes {P : Program} {o : Oper} {a : Act} {w : World} {N : Value → World → Prop} {K : Act → World → Prop} {Q : Exit → Act → World → Prop} (h : makes P o a w N)
    (hK : ∀ v w', N v w' → K (a.put o.dst v) w') : o.wp P a w K Q := by
  unfold makes at h
  unfold Oper.wp
  generalize (execOp a.eval o).run P w = r at *
  cases r with
  | ok n w' =>
    cases n <;> simp only [Oper.upon] at h ⊢
    case value u => exact hK _ _ h
    case enter f args =>
      exact h.mono fun e w'' ⟨v, he, hn⟩ => by subst he; exact hK _ _ hn
  | halt x w' => exact h.elim

theorem nodup_inj {f : Nat × Nat → Nat} : ∀ {L : List (Nat × Nat)}, (L.map f).Nodup → ∀ {p q : Nat × Nat}, p ∈ L → q ∈ L → f p = f q → p = q
  | [], _, _, _, hp, _, _ => by cases hp
  | r :: L, h, p, q, hp, hq, e => by
    rw [List.map_cons, List.nodup_cons] at h
    rcases List.mem_cons.1 hp with rfl | hp' <;> rcases List.mem_cons.1 hq with rfl | hq'
    · rfl
    · exact absurd (List.mem_map.2 ⟨q, hq', e.symm⟩) h.1
    · exact absurd (List.mem_map.2 ⟨p, hp', e⟩) h.1
    · exact nodup_inj h.2 hp' hq' e
/-- how many are not listed -/
def todo (listed : Array Bool) : Nat → Nat
  | 0 => 0
  | n + 1 => todo listed n + if listed.getD n true then 0 else 1
theorem todo_set (listed : Array Bool) (i : Nat) (hi : listed.getD i true = false) : ∀ n, todo (listed.setIfInBounds i true) n + (if i < n then 1 else 0) = todo listed n
  | 0 => rfl
  | n + 1 => by
    have ih := todo_set listed i hi n
    unfold todo
    by_cases e : i = n
    · subst e
      have hlt : i < listed.size := by
        rcases Nat.lt_or_ge i listed.size with h | h
        · exact h
        · rw [Array.getD_eq_getD_getElem?, Array.getElem?_eq_none h] at hi; cases hi
      rw [hi, show (listed.setIfInBounds i true).getD i true = true by simp]
      rw [if_neg (Nat.lt_irrefl i)] at ih
      simp; omega
    · rw [getD_set_ne true e]
      by_cases h : i < n
      · rw [if_pos h] at ih; rw [if_pos (show i < n + 1 by omega)]; omega
      · rw [if_neg h] at ih; rw [if_neg (show ¬ i < n + 1 by omega)]; omega
/-- Act.put, quick to reckon -/
def put' (a : Act) (d : Nat) (v : Value) : Act := ⟨⟨a.tmps.toList.set d v⟩, a.defers⟩
theorem put'_eq (a : Act) (d : Nat) (v : Value) : put' a d v = a.put (some d) v := by
  unfold put' Act.put
  congr 1
  apply Array.ext'
  simp
/-- the slots of the operations q with c q, put -/
def puts (x : Nat → Value) (c : Nat → Bool) : List (Nat × Nat) → Act → Act
  | [], a => a
  | q :: r, a => puts x c r (if c q.1 then put' a q.2 (x q.1) else a)
theorem puts_defers (x : Nat → Value) (c : Nat → Bool) : ∀ (L : List (Nat × Nat)) (a : Act), (puts x c L a).defers = a.defers
  | [], _ => rfl
  | q :: r, a => by
    unfold puts; rw [puts_defers x c r]; split <;> rfl
theorem puts_size (x : Nat → Value) (c : Nat → Bool) : ∀ (L : List (Nat × Nat)) (a : Act), (puts x c L a).tmps.size = a.tmps.size
  | [], _ => rfl
  | q :: r, a => by
    unfold puts; rw [puts_size x c r]; split
    · simp [put'_eq, Act.put]
    · rfl
theorem puts_not (x : Nat → Value) (c : Nat → Bool) : ∀ (L : List (Nat × Nat)) (a : Act) (s : Nat), (∀ q ∈ L, q.2 = s → c q.1 = false) → (puts x c L a).tmps[s]? = a.tmps[s]?
  | [], _, _, _ => rfl
  | q :: r, a, s, h => by
    unfold puts
    rw [puts_not x c r _ s fun q' h' => h q' (List.mem_cons_of_mem _ h')]
    split
    · rename_i hc
      have hne : q.2 ≠ s := fun e => by have := h q (List.mem_cons_self ..) e; rw [this] at hc; cases hc
      simp [put'_eq, Act.put, Array.getElem?_setIfInBounds_ne hne]
    · rfl
theorem puts_at (x : Nat → Value) (c : Nat → Bool) : ∀ (L : List (Nat × Nat)) (a : Act) (q : Nat × Nat), (L.map (·.2)).Nodup → q ∈ L → c q.1 = true → q.2 < a.tmps.size → (puts x c L a).tmps[q.2]? = some (x q.1)
  | [], _, _, _, h, _, _ => by cases h
  | p :: r, a, q, hnd, hq, hc, hs => by
    unfold puts
    rw [List.map_cons, List.nodup_cons] at hnd
    rcases List.mem_cons.1 hq with rfl | hq'
    · rw [hc, if_pos rfl, puts_not x c r _ q.2 fun q' h' e => absurd (List.mem_map.2 ⟨q', h', e⟩) hnd.1]
      simp [put'_eq, Act.put, hs]
    · refine puts_at x c r _ q hnd.2 hq' hc ?_
      split
      · simpa [put'_eq, Act.put] using hs
      · exact hs

/-- does operation o wait for operation j? -/
def waits (o : Oper) (j : Nat) : Bool := o.after.toList.any fun e => Region.binds .any e && Nat.beq e.on j
/-- D: of each operation, what it waits for and looks at -/
def dep (D : List (List Nat)) (i j : Nat) : Bool := (D.getD i []).any (Nat.beq j)
/-- L: the operations that are not listed yet, each with its slot -/
def ok (ops : Array Oper) (listed : Array Bool) (n : Nat) (D : List (List Nat)) (L : List (Nat × Nat)) : Bool :=
  (listed.size == ops.size) && ((List.range ops.size).all fun i => listed.getD i true || (L.any fun q => q.1 == i)) &&
  (decide (L.map (·.1)).Nodup && decide (L.map (·.2)).Nodup) &&
  (L.all fun p => decide (p.2 < n) && decide (p.1 < listed.size) && !listed.getD p.1 true && match ops[p.1]? with
    | none => false
    | some o => (o.after.all fun e => decide (e.on < p.1)) && (((D.getD p.1 []).all fun j => waits o j) && o.dst == some p.2) && (match o.op with | .select .. => false | _ => true) &&
      (o.looksAt ops).all fun s => L.all fun q => !(q.2 == s) || dep D p.1 q.1 || match ops[q.1]? with
        | none => false
        | some o' => waits o' p.1)

section
variable {P : Program} {ops : Array Oper} {Q : Exit → Act → World → Prop} {D : List (List Nat)} {L : List (Nat × Nat)} {G : Nat → Value → World → Prop} {a0 : Act} {w0 : World} {listed0 : Array Bool}

/-- what is asked of one operation -/
def Step (P : Program) (ops : Array Oper) (D : List (List Nat)) (L : List (Nat × Nat)) (G : Nat → Value → World → Prop) (a0 : Act) (w0 : World) (p : Nat × Nat) : Prop :=
  ∀ o, ops[p.1]? = some o → ∀ (x : Nat → Value) (w : World), Below w0.heap.size w0 w → (∀ q ∈ L, dep D p.1 q.1 = true → G q.1 (x q.1) w) →
    (Region.wanted o (yielded ops (puts x (dep D p.1) L a0).tmps) = true ∧ makes P o (puts x (dep D p.1) L a0) w (fun v w' => Below w.heap.size w w' ∧ G p.1 v w')) ∨
    (Region.wanted o (yielded ops (puts x (dep D p.1) L a0).tmps) = false ∧ G p.1 undef w)

theorem steps_nil {S : Nat × Nat → Prop} : ∀ p ∈ ([] : List (Nat × Nat)), S p := fun _ h => by cases h
theorem steps_cons {S : Nat × Nat → Prop} {q : Nat × Nat} {L : List (Nat × Nat)} (h : S q) (t : ∀ p ∈ L, S p) : ∀ p ∈ q :: L, S p := fun p hp => by
  rcases List.mem_cons.1 hp with rfl | hp
  · exact h
  · exact t p hp

structure Inv (ops : Array Oper) (L : List (Nat × Nat)) (G : Nat → Value → World → Prop) (a0 : Act) (w0 : World) (listed0 listed : Array Bool) (a : Act) (w : World) : Prop where
  grow : Below w0.heap.size w0 w
  defers : a.defers = a0.defers
  size : a.tmps.size = a0.tmps.size
  lsize : listed.size = listed0.size
  old : ∀ s, (∀ q ∈ L, q.2 = s → listed.getD q.1 false = false) → a.tmps[s]? = a0.tmps[s]?
  new : ∀ q ∈ L, listed.getD q.1 false = true → ∃ v, a.tmps[q.2]? = some v ∧ G q.1 v w
  closed : ∀ q ∈ L, listed.getD q.1 false = true → ∀ o, ops[q.1]? = some o → ∀ j, waits o j = true → listed.getD j false = true
  rest : ∀ i, i < ops.size → (∀ q ∈ L, q.1 ≠ i) → listed.getD i true = true

theorem eval_of {a b : Act} {t : Nat} (h : a.tmps[t]? = b.tmps[t]?) : a.eval (.tmp t) = b.eval (.tmp t) := by
  simp [Act.eval, Array.getD_eq_getD_getElem?, h]
theorem wanted_of {o : Oper} {a b : Act} (h : ∀ t ∈ o.looksAt ops, a.tmps[t]? = b.tmps[t]?) : Region.wanted o (yielded ops a.tmps) = Region.wanted o (yielded ops b.tmps) := by
  unfold Region.wanted
  cases hg : o.guard with
  | none => rfl
  | some gw =>
    obtain ⟨g, want⟩ := gw
    have : yielded ops a.tmps g = yielded ops b.tmps g := by
      unfold yielded
      cases ht : (ops[g]?).bind (·.dst) with
      | none => rfl
      | some t =>
        have := h t (by simp [Oper.looksAt, hg, ht])
        simp [this]
    simp only [this]
theorem exec_of {o : Oper} {a b : Act} (hs : ∀ cs b, o.op ≠ .select cs b) (h : ∀ t ∈ o.looksAt ops, a.tmps[t]? = b.tmps[t]?) : execOp a.eval o = execOp b.eval o :=
  execOp_congr o hs fun x hx => by
    cases x with
    | tmp t => exact eval_of (h t (List.mem_append_left _ (List.mem_filterMap.2 ⟨.tmp t, by simpa using hx, rfl⟩)))
    | _ => rfl
theorem waits_iff {o : Oper} {j : Nat} : waits o j = true ↔ ∃ e ∈ o.after, Region.binds .any e = true ∧ e.on = j := by
  unfold waits
  rw [List.any_eq_true]
  simp

theorem step_inv (hok : ok ops listed0 a0.tmps.size D L = true) (hst : ∀ i v w w', G i v w → Below w.heap.size w w' → G i v w') (hstep : ∀ p ∈ L, Step P ops D L G a0 w0 p)
    {listed : Array Bool} {a : Act} {w : World} (I : Inv ops L G a0 w0 listed0 listed a w) {i : Nat} (hi : i ∈ Region.ready .any ops listed) :
    wpOp P ops Q i (fun a' w' => Inv ops L G a0 w0 listed0 (listed.setIfInBounds i true) a' w') a w := by
  obtain ⟨hun, o, ho, hdeps⟩ := mem_ready.1 hi
  have hdeps' : ∀ j, waits o j = true → listed.getD j false = true := fun j hj => by
    obtain ⟨e, he, hb, rfl⟩ := waits_iff.1 hj; exact hdeps e he hb
  have hlt : i < ops.size := (Array.getElem?_eq_some_iff.1 ho).1
  obtain ⟨p, hp, rfl⟩ : ∃ p ∈ L, p.1 = i := by
    rcases Classical.em (∃ p ∈ L, p.1 = i) with h | h
    · exact h
    · have := I.rest i hlt fun q hq e => h ⟨q, hq, e⟩
      rw [this] at hun; cases hun
  unfold ok at hok
  simp only [Bool.and_eq_true, decide_eq_true_eq, List.all_eq_true] at hok
  obtain ⟨⟨⟨_, _⟩, hn1, hn2⟩, hall⟩ := hok
  have hp0 := hall p hp
  obtain ⟨⟨⟨hsz, hls⟩, _⟩, hpo⟩ := hp0
  rw [ho] at hpo
  simp only [Bool.and_eq_true, List.all_eq_true, beq_iff_eq, Bool.or_eq_true, Bool.not_eq_true', beq_eq_false_iff_ne] at hpo
  obtain ⟨⟨⟨_, hDw, hdst⟩, hsel⟩, hlooks⟩ := hpo
  have hD : ∀ j, dep D p.1 j = true → waits o j = true := fun j hj => by
    unfold dep at hj
    obtain ⟨k, hk, e⟩ := List.any_eq_true.1 hj
    have := Nat.eq_of_beq_eq_true e
    subst this
    exact hDw _ hk
  have hsel' : ∀ cs b, o.op ≠ .select cs b := fun cs b e => by rw [e] at hsel; cases hsel
  have hli : p.1 < listed.size := by rw [I.lsize]; exact hls
  have hunF : listed.getD p.1 false = false := by
    simp only [Array.getD_eq_getD_getElem?, Array.getElem?_eq_getElem hli, Option.getD_some] at hun ⊢; exact hun
  -- the values of the listed operations
  have hx : ∃ x : Nat → Value, ∀ q ∈ L, listed.getD q.1 false = true → a.tmps[q.2]? = some (x q.1) ∧ G q.1 (x q.1) w := by
    refine ⟨fun j => match L.find? (fun q => q.1 == j) with | some q => a.tmps.getD q.2 undef | none => undef, fun q hq hl => ?_⟩
    obtain ⟨v, hv, hg⟩ := I.new q hq hl
    have hf : L.find? (fun r => r.1 == q.1) = some q := by
      cases hfd : L.find? (fun r => r.1 == q.1) with
      | none => have := List.find?_eq_none.1 hfd q hq; simp at this
      | some r =>
        have h1 := List.find?_some hfd
        have h2 := List.mem_of_find?_eq_some hfd
        have e : r.1 = q.1 := by simpa using h1
        have : r = q := by
          exact nodup_inj (f := (·.1)) hn1 h2 hq e
        rw [this]
    simp only [hf, Array.getD_eq_getD_getElem?, hv, Option.getD_some]
    exact ⟨trivial, hg⟩
  obtain ⟨x, hx⟩ := hx
  have hsame : ∀ t ∈ o.looksAt ops, a.tmps[t]? = (puts x (dep D p.1) L a0).tmps[t]? := fun t ht => by
    rcases Classical.em (∃ q ∈ L, q.2 = t ∧ dep D p.1 q.1 = true) with ⟨q, hq, rfl, hw⟩ | hno
    · have hsq : q.2 < a0.tmps.size := (hall q hq).1.1.1
      rw [puts_at x (dep D p.1) L a0 q hn2 hq hw hsq]
      exact (hx q hq (hdeps' _ (hD _ hw))).1
    · rw [puts_not x (dep D p.1) L a0 t fun q hq e => by
        cases hw : dep D p.1 q.1
        · rfl
        · exact absurd ⟨q, hq, e, hw⟩ hno]
      refine I.old t fun q hq e => ?_
      rcases hlooks t ht q hq with (h | h) | h
      · exact absurd e h
      · exact absurd ⟨q, hq, e, h⟩ hno
      · cases hl : listed.getD q.1 false
        · rfl
        · cases hoq : ops[q.1]? with
          | none => rw [hoq] at h; cases h
          | some o' =>
            rw [hoq] at h
            have := I.closed q hq hl o' hoq p.1 h
            rw [hunF] at this; cases this
  have hS := hstep p hp o ho x w I.grow fun q hq hw => (hx q hq (hdeps' _ (hD _ hw))).2
  rw [← wanted_of hsame] at hS
  have keep : ∀ v w', Below w.heap.size w w' → G p.1 v w' → Inv ops L G a0 w0 listed0 (listed.setIfInBounds p.1 true) (a.put o.dst v) w' := fun v w' hb hg => by
    have hput : ∀ s, s ≠ p.2 → (a.put o.dst v).tmps[s]? = a.tmps[s]? := fun s hs => by
      rw [hdst]; simp [Act.put, Array.getElem?_setIfInBounds_ne (Ne.symm hs)]
    have hputp : (a.put o.dst v).tmps[p.2]? = some v := by
      rw [hdst]; simp [Act.put, I.size, hsz]
    have hset : ∀ j, j ≠ p.1 → (listed.setIfInBounds p.1 true).getD j false = listed.getD j false := fun j hj => getD_set_ne false (Ne.symm hj)
    have hsetp : (listed.setIfInBounds p.1 true).getD p.1 false = true := by simp [hli]
    have uniq : ∀ q ∈ L, q.2 = p.2 → q = p := fun q hq e => by
      exact nodup_inj (f := (·.2)) hn2 hq hp e
    have uniq1 : ∀ q ∈ L, q.1 = p.1 → q = p := fun q hq e => by
      exact nodup_inj (f := (·.1)) hn1 hq hp e
    refine ⟨I.grow.trans (hb.mono I.grow.size), ?_, ?_, ?_, fun s hs => ?_, fun q hq hl => ?_, fun q hq hl o' ho' j hj => ?_, fun j hj hno => ?_⟩
    · rw [hdst]; exact I.defers
    · rw [hdst]; simp [Act.put, I.size]
    · simp [I.lsize]
    · have hsp : s ≠ p.2 := fun e => by
        have := hs p hp e.symm
        rw [hsetp] at this; cases this
      rw [hput s hsp]
      refine I.old s fun q hq e => ?_
      have := hs q hq e
      have hqp : q.1 ≠ p.1 := fun e2 => hsp (by rw [← e, uniq1 q hq e2])
      rwa [hset _ hqp] at this
    · by_cases e : q.1 = p.1
      · obtain rfl := uniq1 q hq e
        exact ⟨v, hputp, hg⟩
      · rw [hset _ e] at hl
        obtain ⟨u, hu, hgu⟩ := I.new q hq hl
        have : q.2 ≠ p.2 := fun e2 => e (by rw [uniq q hq e2])
        exact ⟨u, by rw [hput _ this]; exact hu, hst _ _ _ _ hgu hb⟩
    · by_cases e : q.1 = p.1
      · obtain rfl := uniq1 q hq e
        rw [ho] at ho'
        cases ho'
        have := hdeps' j hj
        exact getD_set_true this
      · rw [hset _ e] at hl
        exact getD_set_true (I.closed q hq hl o' ho' j hj)
    · have := I.rest j hj hno
      rw [getD_set_ne true (fun e => hno p hp e)]
      exact this
  unfold wpOp
  rw [ho]
  show if Region.wanted o (yielded ops a.tmps) = true then _ else _
  rcases hS with ⟨hw, hm⟩ | ⟨hw, hg⟩
  · rw [if_pos hw]
    refine Or.inl (wp_of_makes (N := fun v w' => Below w.heap.size w w' ∧ G p.1 v w') ?_ fun v w' h => keep v w' h.1 h.2)
    unfold makes at hm ⊢
    rw [exec_of hsel' hsame]
    exact hm
  · rw [hw, if_neg (by decide)]
    exact keep _ _ (Below.refl _ _) hg

theorem done_eq (hn2 : (L.map (·.2)).Nodup) (hsz : ∀ q ∈ L, q.2 < a0.tmps.size) {listed : Array Bool} {a : Act} {w : World} (I : Inv ops L G a0 w0 listed0 listed a w) (hl : ∀ q ∈ L, listed.getD q.1 false = true) (hn1 : (L.map (·.1)).Nodup) :
    ∃ x : Nat → Value, (∀ q ∈ L, G q.1 (x q.1) w) ∧ a = puts x (fun _ => true) L a0 := by
  have hx : ∃ x : Nat → Value, ∀ q ∈ L, a.tmps[q.2]? = some (x q.1) ∧ G q.1 (x q.1) w := by
    refine ⟨fun j => match L.find? (fun q => q.1 == j) with | some q => a.tmps.getD q.2 undef | none => undef, fun q hq => ?_⟩
    obtain ⟨v, hv, hg⟩ := I.new q hq (hl q hq)
    have hf : L.find? (fun r => r.1 == q.1) = some q := by
      cases hfd : L.find? (fun r => r.1 == q.1) with
      | none => have := List.find?_eq_none.1 hfd q hq; simp at this
      | some r =>
        have h1 := List.find?_some hfd
        have h2 := List.mem_of_find?_eq_some hfd
        have e : r.1 = q.1 := by simpa using h1
        have : r = q := by
          exact nodup_inj (f := (·.1)) hn1 h2 hq e
        rw [this]
    simp only [hf, Array.getD_eq_getD_getElem?, hv, Option.getD_some]
    exact ⟨trivial, hg⟩
  obtain ⟨x, hx⟩ := hx
  refine ⟨x, fun q hq => (hx q hq).2, ?_⟩
  have ht : a.tmps = (puts x (fun _ => true) L a0).tmps := by
    apply Array.ext_getElem?
    intro s
    rcases Classical.em (∃ q ∈ L, q.2 = s) with ⟨q, hq, rfl⟩ | hno
    · rw [puts_at x _ L a0 q hn2 hq rfl (hsz q hq), (hx q hq).1]
    · rw [puts_not x _ L a0 s fun q hq e => absurd ⟨q, hq, e⟩ hno]
      exact I.old s fun q hq e => absurd ⟨q, hq, e⟩ hno
  have hd : a.defers = (puts x (fun _ => true) L a0).defers := by rw [puts_defers, I.defers]
  cases a
  simp only at ht hd
  rw [ht, hd]

theorem wpAny_inv (hok : ok ops listed0 a0.tmps.size D L = true) (hst : ∀ i v w w', G i v w → Below w.heap.size w w' → G i v w') (hstep : ∀ p ∈ L, Step P ops D L G a0 w0 p)
    (hdone : ∀ (listed : Array Bool) (a : Act) (w : World), Inv ops L G a0 w0 listed0 listed a w → Region.ready .any ops listed = [] → Q .normal a w) :
    ∀ (fuel : Nat) (listed : Array Bool) (a : Act) (w : World), todo listed ops.size ≤ fuel → Inv ops L G a0 w0 listed0 listed a w → wpAny P .any ops Q fuel listed a w
  | 0, listed, a, w, hf, I => by
    have h0 : Region.ready .any ops listed = [] := by
      cases hr : Region.ready .any ops listed with
      | nil => rfl
      | cons i r =>
        have hi : i ∈ Region.ready .any ops listed := by rw [hr]; exact List.mem_cons_self ..
        obtain ⟨hun, o, ho, _⟩ := mem_ready.1 hi
        have hlt : i < ops.size := (Array.getElem?_eq_some_iff.1 ho).1
        have := todo_set listed i hun ops.size
        rw [if_pos hlt] at this
        omega
    exact ⟨h0, hdone _ _ _ I h0⟩
  | fuel + 1, listed, a, w, hf, I => by
    refine ⟨fun h0 => hdone _ _ _ I h0, fun i hi => ?_⟩
    refine wpOp_mono (fun a' w' I' => wpAny_inv hok hst hstep hdone fuel _ a' w' ?_ I') (step_inv hok hst hstep I hi)
    obtain ⟨hun, o, ho, _⟩ := mem_ready.1 hi
    have hlt : i < ops.size := (Array.getElem?_eq_some_iff.1 ho).1
    have := todo_set listed i hun ops.size
    rw [if_pos hlt] at this
    omega

/-- none is ready only where all are listed -/
theorem all_listed {n : Nat} (hok : ok ops listed0 n D L = true) {listed : Array Bool} (hs : listed.size = listed0.size) (hrest : ∀ i, i < ops.size → (∀ q ∈ L, q.1 ≠ i) → listed.getD i true = true) (h0 : Region.ready .any ops listed = []) :
    ∀ q ∈ L, listed.getD q.1 false = true := by
  unfold ok at hok
  simp only [Bool.and_eq_true, decide_eq_true_eq, List.all_eq_true, beq_iff_eq] at hok
  obtain ⟨⟨⟨hsz, _⟩, _, _⟩, hall⟩ := hok
  have key : ∀ k, ∀ q ∈ L, q.1 = k → listed.getD q.1 false = true := by
    intro k
    induction k using Nat.strongRecOn with
    | _ k ih =>
      intro q hq hk
      have hq0 := hall q hq
      obtain ⟨⟨⟨_, hls⟩, _⟩, hpo⟩ := hq0
      have hli : q.1 < listed.size := by rw [hs]; exact hls
      cases ho : ops[q.1]? with
      | none => rw [ho] at hpo; cases hpo
      | some o =>
        rw [ho] at hpo
        simp only [Bool.and_eq_true] at hpo
        have hlow := hpo.1.1.1
        rw [Array.all_eq_true_iff_forall_mem] at hlow
        cases hl : listed.getD q.1 true
        · exfalso
          have : q.1 ∈ Region.ready .any ops listed := mem_ready.2 ⟨hl, o, ho, fun e he _ => by
            have hlt : e.on < q.1 := by simpa using hlow e he
            rcases Classical.em (∃ r ∈ L, r.1 = e.on) with ⟨r, hr, hre⟩ | hno
            · rw [← hre]; exact ih r.1 (by omega) r hr rfl
            · have h1 := hrest e.on (by rw [← hsz]; omega) fun r hr e2 => hno ⟨r, hr, e2⟩
              have hli2 : e.on < listed.size := by omega
              simp only [Array.getD_eq_getD_getElem?, Array.getElem?_eq_getElem hli2, Option.getD_some] at h1 ⊢
              exact h1⟩
          rw [h0] at this; cases this
        · simp only [Array.getD_eq_getD_getElem?, Array.getElem?_eq_getElem hli, Option.getD_some] at hl ⊢
          exact hl
  exact fun q hq => key q.1 q hq rfl

/-- the region's rest, from a state on -/
theorem wpAny_ord {fuel : Nat} (D : List (List Nat)) (L : List (Nat × Nat)) (G : Nat → Value → World → Prop) (hok : ok ops listed0 a0.tmps.size D L = true) (hfuel : Nat.ble (todo listed0 ops.size) fuel = true)
    (hst : ∀ i v w w', G i v w → Below w.heap.size w w' → G i v w') (hstep : ∀ p ∈ L, Step P ops D L G a0 w0 p)
    (hdone : ∀ (x : Nat → Value) (w : World), Below w0.heap.size w0 w → (∀ q ∈ L, G q.1 (x q.1) w) → Q .normal (puts x (fun _ => true) L a0) w) :
    wpAny P .any ops Q fuel listed0 a0 w0 := by
  have hok' := hok
  unfold ok at hok'
  simp only [Bool.and_eq_true, decide_eq_true_eq, List.all_eq_true] at hok'
  obtain ⟨⟨⟨_, h1⟩, hn1, hn2⟩, hall⟩ := hok'
  have hF : ∀ q ∈ L, listed0.getD q.1 false = false := fun q hq => by
    obtain ⟨⟨_, hls⟩, hu⟩ := (hall q hq).1
    simp only [Bool.not_eq_true', Array.getD_eq_getD_getElem?, Array.getElem?_eq_getElem hls, Option.getD_some] at hu ⊢
    exact hu
  refine wpAny_inv (L := L) (G := G) (w0 := w0) hok hst hstep (fun listed a w I h0 => ?_) fuel _ _ _ (Nat.le_of_ble_eq_true hfuel) ⟨Below.refl _ _, rfl, rfl, rfl, fun _ _ => rfl, fun q hq hl => ?_, fun q hq hl => ?_, fun i hi hno => ?_⟩
  · obtain ⟨x, hx, rfl⟩ := done_eq hn2 (fun q hq => (hall q hq).1.1.1) I (all_listed hok I.lsize I.rest h0) hn1
    exact hdone x w I.grow hx
  · rw [hF q hq] at hl; cases hl
  · rw [hF q hq] at hl; cases hl
  · have := h1 i (List.mem_range.2 hi)
    rw [Bool.or_eq_true] at this
    rcases this with h | h
    · exact h
    · obtain ⟨q, hq, e⟩ := List.any_eq_true.1 h
      exact absurd (by simpa using e) (hno q hq)
end
end Go.Proofs.YthmlcmlpmolmoaaGreatDoor.ord
/- A region that draws its order, but for a tail that is forced (an append, an assignment behind all else): the head whatever its order, as in Ord, then the tail as it stands. Written by specs/mkordt.py out of Ord. Nothing here hangs on the program. -/
namespace Go.Proofs.YthmlcmlpmolmoaaGreatDoor.ord
open Go Go.RowKit

/-- L: the operations ahead of number N, each with its slot -/
def okT (N : Nat) (ops : Array Oper) (listed : Array Bool) (n : Nat) (D : List (List Nat)) (L : List (Nat × Nat)) : Bool :=
  (listed.size == ops.size) && ((List.range N).all fun i => L.any fun q => q.1 == i) &&
  (decide (L.map (·.1)).Nodup && decide (L.map (·.2)).Nodup) &&
  (L.all fun p => decide (p.1 < N) && (decide (p.2 < n) && decide (p.1 < listed.size) && !listed.getD p.1 true && match ops[p.1]? with
    | none => false
    | some o => (o.after.all fun e => decide (e.on < p.1)) && (((D.getD p.1 []).all fun j => waits o j) && o.dst == some p.2) && (match o.op with | .select .. => false | _ => true) &&
      (o.looksAt ops).all fun s => L.all fun q => !(q.2 == s) || dep D p.1 q.1 || match ops[q.1]? with
        | none => false
        | some o' => waits o' p.1))
section
variable {P : Program} {ops : Array Oper} {Q : Exit → Act → World → Prop} {D : List (List Nat)} {L : List (Nat × Nat)} {G : Nat → Value → World → Prop} {a0 : Act} {w0 : World} {listed0 : Array Bool}

structure InvT (N : Nat) (ops : Array Oper) (L : List (Nat × Nat)) (G : Nat → Value → World → Prop) (a0 : Act) (w0 : World) (listed0 listed : Array Bool) (a : Act) (w : World) : Prop where
  grow : Below w0.heap.size w0 w
  defers : a.defers = a0.defers
  size : a.tmps.size = a0.tmps.size
  lsize : listed.size = listed0.size
  old : ∀ s, (∀ q ∈ L, q.2 = s → listed.getD q.1 false = false) → a.tmps[s]? = a0.tmps[s]?
  new : ∀ q ∈ L, listed.getD q.1 false = true → ∃ v, a.tmps[q.2]? = some v ∧ G q.1 v w
  closed : ∀ q ∈ L, listed.getD q.1 false = true → ∀ o, ops[q.1]? = some o → ∀ j, waits o j = true → listed.getD j false = true
  tail : ∀ t, N ≤ t → t < ops.size → listed.getD t true = false

theorem step_invT {N : Nat} (hok : okT N ops listed0 a0.tmps.size D L = true) (hst : ∀ i v w w', G i v w → Below w.heap.size w w' → G i v w') (hstep : ∀ p ∈ L, Step P ops D L G a0 w0 p)
    {listed : Array Bool} {a : Act} {w : World} (I : InvT N ops L G a0 w0 listed0 listed a w) {i : Nat} (hi : i ∈ Region.ready .any ops listed) (hiN : i < N) :
    wpOp P ops Q i (fun a' w' => InvT N ops L G a0 w0 listed0 (listed.setIfInBounds i true) a' w') a w := by
  obtain ⟨hun, o, ho, hdeps⟩ := mem_ready.1 hi
  have hdeps' : ∀ j, waits o j = true → listed.getD j false = true := fun j hj => by
    obtain ⟨e, he, hb, rfl⟩ := waits_iff.1 hj; exact hdeps e he hb
  unfold okT at hok
  simp only [Bool.and_eq_true, decide_eq_true_eq, List.all_eq_true] at hok
  obtain ⟨p, hp, rfl⟩ : ∃ p ∈ L, p.1 = i := by
    obtain ⟨q, hq, e⟩ := List.any_eq_true.1 (hok.1.1.2 i (List.mem_range.2 hiN))
    exact ⟨q, hq, by simpa using e⟩
  obtain ⟨⟨⟨_, _⟩, hn1, hn2⟩, hall⟩ := hok
  have hp0 := hall p hp
  obtain ⟨hpN, ⟨⟨hsz, hls⟩, _⟩, hpo⟩ := hp0
  rw [ho] at hpo
  simp only [Bool.and_eq_true, List.all_eq_true, beq_iff_eq, Bool.or_eq_true, Bool.not_eq_true', beq_eq_false_iff_ne] at hpo
  obtain ⟨⟨⟨_, hDw, hdst⟩, hsel⟩, hlooks⟩ := hpo
  have hD : ∀ j, dep D p.1 j = true → waits o j = true := fun j hj => by
    unfold dep at hj
    obtain ⟨k, hk, e⟩ := List.any_eq_true.1 hj
    have := Nat.eq_of_beq_eq_true e
    subst this
    exact hDw _ hk
  have hsel' : ∀ cs b, o.op ≠ .select cs b := fun cs b e => by rw [e] at hsel; cases hsel
  have hli : p.1 < listed.size := by rw [I.lsize]; exact hls
  have hunF : listed.getD p.1 false = false := by
    simp only [Array.getD_eq_getD_getElem?, Array.getElem?_eq_getElem hli, Option.getD_some] at hun ⊢; exact hun
  -- the values of the listed operations
  have hx : ∃ x : Nat → Value, ∀ q ∈ L, listed.getD q.1 false = true → a.tmps[q.2]? = some (x q.1) ∧ G q.1 (x q.1) w := by
    refine ⟨fun j => match L.find? (fun q => q.1 == j) with | some q => a.tmps.getD q.2 undef | none => undef, fun q hq hl => ?_⟩
    obtain ⟨v, hv, hg⟩ := I.new q hq hl
    have hf : L.find? (fun r => r.1 == q.1) = some q := by
      cases hfd : L.find? (fun r => r.1 == q.1) with
      | none => have := List.find?_eq_none.1 hfd q hq; simp at this
      | some r =>
        have h1 := List.find?_some hfd
        have h2 := List.mem_of_find?_eq_some hfd
        have e : r.1 = q.1 := by simpa using h1
        have : r = q := by
          exact nodup_inj (f := (·.1)) hn1 h2 hq e
        rw [this]
    simp only [hf, Array.getD_eq_getD_getElem?, hv, Option.getD_some]
    exact ⟨trivial, hg⟩
  obtain ⟨x, hx⟩ := hx
  have hsame : ∀ t ∈ o.looksAt ops, a.tmps[t]? = (puts x (dep D p.1) L a0).tmps[t]? := fun t ht => by
    rcases Classical.em (∃ q ∈ L, q.2 = t ∧ dep D p.1 q.1 = true) with ⟨q, hq, rfl, hw⟩ | hno
    · have hsq : q.2 < a0.tmps.size := (hall q hq).2.1.1.1
      rw [puts_at x (dep D p.1) L a0 q hn2 hq hw hsq]
      exact (hx q hq (hdeps' _ (hD _ hw))).1
    · rw [puts_not x (dep D p.1) L a0 t fun q hq e => by
        cases hw : dep D p.1 q.1
        · rfl
        · exact absurd ⟨q, hq, e, hw⟩ hno]
      refine I.old t fun q hq e => ?_
      rcases hlooks t ht q hq with (h | h) | h
      · exact absurd e h
      · exact absurd ⟨q, hq, e, h⟩ hno
      · cases hl : listed.getD q.1 false
        · rfl
        · cases hoq : ops[q.1]? with
          | none => rw [hoq] at h; cases h
          | some o' =>
            rw [hoq] at h
            have := I.closed q hq hl o' hoq p.1 h
            rw [hunF] at this; cases this
  have hS := hstep p hp o ho x w I.grow fun q hq hw => (hx q hq (hdeps' _ (hD _ hw))).2
  rw [← wanted_of hsame] at hS
  have keep : ∀ v w', Below w.heap.size w w' → G p.1 v w' → InvT N ops L G a0 w0 listed0 (listed.setIfInBounds p.1 true) (a.put o.dst v) w' := fun v w' hb hg => by
    have hput : ∀ s, s ≠ p.2 → (a.put o.dst v).tmps[s]? = a.tmps[s]? := fun s hs => by
      rw [hdst]; simp [Act.put, Array.getElem?_setIfInBounds_ne (Ne.symm hs)]
    have hputp : (a.put o.dst v).tmps[p.2]? = some v := by
      rw [hdst]; simp [Act.put, I.size, hsz]
    have hset : ∀ j, j ≠ p.1 → (listed.setIfInBounds p.1 true).getD j false = listed.getD j false := fun j hj => getD_set_ne false (Ne.symm hj)
    have hsetp : (listed.setIfInBounds p.1 true).getD p.1 false = true := by simp [hli]
    have uniq : ∀ q ∈ L, q.2 = p.2 → q = p := fun q hq e => by
      exact nodup_inj (f := (·.2)) hn2 hq hp e
    have uniq1 : ∀ q ∈ L, q.1 = p.1 → q = p := fun q hq e => by
      exact nodup_inj (f := (·.1)) hn1 hq hp e
    refine ⟨I.grow.trans (hb.mono I.grow.size), ?_, ?_, ?_, fun s hs => ?_, fun q hq hl => ?_, fun q hq hl o' ho' j hj => ?_, fun s hs ht => ?_⟩
    · rw [hdst]; exact I.defers
    · rw [hdst]; simp [Act.put, I.size]
    · simp [I.lsize]
    · have hsp : s ≠ p.2 := fun e => by
        have := hs p hp e.symm
        rw [hsetp] at this; cases this
      rw [hput s hsp]
      refine I.old s fun q hq e => ?_
      have := hs q hq e
      have hqp : q.1 ≠ p.1 := fun e2 => hsp (by rw [← e, uniq1 q hq e2])
      rwa [hset _ hqp] at this
    · by_cases e : q.1 = p.1
      · obtain rfl := uniq1 q hq e
        exact ⟨v, hputp, hg⟩
      · rw [hset _ e] at hl
        obtain ⟨u, hu, hgu⟩ := I.new q hq hl
        have : q.2 ≠ p.2 := fun e2 => e (by rw [uniq q hq e2])
        exact ⟨u, by rw [hput _ this]; exact hu, hst _ _ _ _ hgu hb⟩
    · by_cases e : q.1 = p.1
      · obtain rfl := uniq1 q hq e
        rw [ho] at ho'
        cases ho'
        have := hdeps' j hj
        exact getD_set_true this
      · rw [hset _ e] at hl
        exact getD_set_true (I.closed q hq hl o' ho' j hj)
    · rw [getD_set_ne true (show p.1 ≠ s by omega)]
      exact I.tail s hs ht
  unfold wpOp
  rw [ho]
  show if Region.wanted o (yielded ops a.tmps) = true then _ else _
  rcases hS with ⟨hw, hm⟩ | ⟨hw, hg⟩
  · rw [if_pos hw]
    refine Or.inl (wp_of_makes (N := fun v w' => Below w.heap.size w w' ∧ G p.1 v w') ?_ fun v w' h => keep v w' h.1 h.2)
    unfold makes at hm ⊢
    rw [exec_of hsel' hsame]
    exact hm
  · rw [hw, if_neg (by decide)]
    exact keep _ _ (Below.refl _ _) hg
theorem done_eqT {N : Nat} (hn2 : (L.map (·.2)).Nodup) (hsz : ∀ q ∈ L, q.2 < a0.tmps.size) {listed : Array Bool} {a : Act} {w : World} (I : InvT N ops L G a0 w0 listed0 listed a w) (hl : ∀ q ∈ L, listed.getD q.1 false = true) (hn1 : (L.map (·.1)).Nodup) :
    ∃ x : Nat → Value, (∀ q ∈ L, G q.1 (x q.1) w) ∧ a = puts x (fun _ => true) L a0 := by
  have hx : ∃ x : Nat → Value, ∀ q ∈ L, a.tmps[q.2]? = some (x q.1) ∧ G q.1 (x q.1) w := by
    refine ⟨fun j => match L.find? (fun q => q.1 == j) with | some q => a.tmps.getD q.2 undef | none => undef, fun q hq => ?_⟩
    obtain ⟨v, hv, hg⟩ := I.new q hq (hl q hq)
    have hf : L.find? (fun r => r.1 == q.1) = some q := by
      cases hfd : L.find? (fun r => r.1 == q.1) with
      | none => have := List.find?_eq_none.1 hfd q hq; simp at this
      | some r =>
        have h1 := List.find?_some hfd
        have h2 := List.mem_of_find?_eq_some hfd
        have e : r.1 = q.1 := by simpa using h1
        have : r = q := by
          exact nodup_inj (f := (·.1)) hn1 h2 hq e
        rw [this]
    simp only [hf, Array.getD_eq_getD_getElem?, hv, Option.getD_some]
    exact ⟨trivial, hg⟩
  obtain ⟨x, hx⟩ := hx
  refine ⟨x, fun q hq => (hx q hq).2, ?_⟩
  have ht : a.tmps = (puts x (fun _ => true) L a0).tmps := by
    apply Array.ext_getElem?
    intro s
    rcases Classical.em (∃ q ∈ L, q.2 = s) with ⟨q, hq, rfl⟩ | hno
    · rw [puts_at x _ L a0 q hn2 hq rfl (hsz q hq), (hx q hq).1]
    · rw [puts_not x _ L a0 s fun q hq e => absurd ⟨q, hq, e⟩ hno]
      exact I.old s fun q hq e => absurd ⟨q, hq, e⟩ hno
  have hd : a.defers = (puts x (fun _ => true) L a0).defers := by rw [puts_defers, I.defers]
  cases a
  simp only at ht hd
  rw [ht, hd]
/-- none is ready only where all are listed -/
theorem all_listedT {N n : Nat} (hok : okT N ops listed0 n D L = true) {listed : Array Bool} (hs : listed.size = listed0.size) (h0 : Region.ready .any ops listed = []) :
    ∀ q ∈ L, listed.getD q.1 false = true := by
  unfold okT at hok
  simp only [Bool.and_eq_true, decide_eq_true_eq, List.all_eq_true, beq_iff_eq] at hok
  obtain ⟨⟨⟨_, hany⟩, _, _⟩, hall⟩ := hok
  have key : ∀ k, ∀ q ∈ L, q.1 = k → listed.getD q.1 false = true := by
    intro k
    induction k using Nat.strongRecOn with
    | _ k ih =>
      intro q hq hk
      have hq0 := hall q hq
      obtain ⟨hqN, ⟨⟨_, hls⟩, _⟩, hpo⟩ := hq0
      have hli : q.1 < listed.size := by rw [hs]; exact hls
      cases ho : ops[q.1]? with
      | none => rw [ho] at hpo; cases hpo
      | some o =>
        rw [ho] at hpo
        simp only [Bool.and_eq_true] at hpo
        have hlow := hpo.1.1.1
        rw [Array.all_eq_true_iff_forall_mem] at hlow
        cases hl : listed.getD q.1 true
        · exfalso
          have : q.1 ∈ Region.ready .any ops listed := mem_ready.2 ⟨hl, o, ho, fun e he _ => by
            have hlt : e.on < q.1 := by simpa using hlow e he
            obtain ⟨r, hr, er⟩ := List.any_eq_true.1 (hany e.on (List.mem_range.2 (by omega)))
            have hre : r.1 = e.on := by simpa using er
            rw [← hre]; exact ih r.1 (by omega) r hr rfl⟩
          rw [h0] at this; cases this
        · simp only [Array.getD_eq_getD_getElem?, Array.getElem?_eq_getElem hli, Option.getD_some] at hl ⊢
          exact hl
  exact fun q hq => key q.1 q hq rfl

theorem head_of {N : Nat} {listed : Array Bool} {a : Act} {w : World} (hls : listed0.size = ops.size) (hany : ∀ i, i < N → ∃ q ∈ L, q.1 = i) (I : InvT N ops L G a0 w0 listed0 listed a w) : HeadInv .any ops N listed := by
  refine ⟨by rw [I.lsize, hls], fun j oj hj hl e he hb => ?_, I.tail⟩
  have hlt : j < ops.size := (Array.getElem?_eq_some_iff.1 hj).1
  rcases Nat.lt_or_ge j N with h | h
  · obtain ⟨q, hq, rfl⟩ := hany j h
    exact I.closed q hq hl oj hj e.on (waits_iff.2 ⟨e, he, hb, rfl⟩)
  · have h1 := I.tail j h hlt
    have hs : listed.size = ops.size := by rw [I.lsize, hls]
    have hlt2 : j < listed.size := by omega
    simp only [Array.getD_eq_getD_getElem?, Array.getElem?_eq_getElem hlt2, Option.getD_some] at h1 hl
    rw [h1] at hl; cases hl
theorem todo_zero (listed : Array Bool) : ∀ n, todo listed n = 0 → ∀ i, i < n → listed.getD i true = true
  | 0, _, i, hi => absurd hi (Nat.not_lt_zero i)
  | n + 1, h, i, hi => by
    unfold todo at h
    by_cases e : listed.getD n true = true
    · rcases Nat.lt_or_ge i n with h1 | h1
      · exact todo_zero listed n (by omega) i h1
      · obtain rfl : i = n := by omega
        exact e
    · rw [if_neg e] at h; omega
theorem todo_pos (listed : Array Bool) (n : Nat) (h : 0 < todo listed n) : ∃ i, i < n ∧ listed.getD i true = false := by
  induction n with
  | zero => exact absurd h (Nat.lt_irrefl 0)
  | succ n ih =>
    unfold todo at h
    by_cases e : listed.getD n true = true
    · rw [if_pos e] at h
      obtain ⟨i, hi, h1⟩ := ih (by omega)
      exact ⟨i, by omega, h1⟩
    · exact ⟨n, Nat.lt_succ_self n, by simpa using e⟩
theorem wpAny_T {N g : Nat} (hok : okT N ops listed0 a0.tmps.size D L = true) (hN : N < ops.size) (hs : Region.sinkB .any ops N = true) (hc : Region.chainB .any ops N = true)
    (hst : ∀ i v w w', G i v w → Below w.heap.size w w' → G i v w') (hstep : ∀ p ∈ L, Step P ops D L G a0 w0 p)
    (hdone : ∀ (listed : Array Bool) (a : Act) (w : World), InvT N ops L G a0 w0 listed0 listed a w → (∀ i, i < N → listed.getD i true = true) → wpAny P .any ops Q g listed a w) :
    ∀ (m : Nat) (listed : Array Bool) (a : Act) (w : World), todo listed N = m → InvT N ops L G a0 w0 listed0 listed a w → wpAny P .any ops Q (m + g) listed a w
  | 0, listed, a, w, hm, I => by
    rw [Nat.zero_add]
    exact hdone _ _ _ I (todo_zero listed N hm)
  | m + 1, listed, a, w, hm, I => by
    have hok' := hok
    unfold okT at hok'
    simp only [Bool.and_eq_true, decide_eq_true_eq, List.all_eq_true, beq_iff_eq] at hok'
    obtain ⟨⟨⟨hls, hany⟩, _, _⟩, _⟩ := hok'
    have hany' : ∀ i, i < N → ∃ q ∈ L, q.1 = i := fun i hi => by
      obtain ⟨q, hq, e⟩ := List.any_eq_true.1 (hany i (List.mem_range.2 hi))
      exact ⟨q, hq, by simpa using e⟩
    have HI := head_of hls hany' I
    obtain ⟨i0, hi0, hu0⟩ := todo_pos listed N (by omega)
    rw [show m + 1 + g = (m + g) + 1 by omega]
    refine ⟨fun h0 => ?_, fun i hi => ?_⟩
    · exfalso
      obtain ⟨q, hq, rfl⟩ := hany' i0 hi0
      have := all_listedT hok I.lsize h0 q hq
      have hlt : q.1 < listed.size := by rw [I.lsize, hls]; omega
      simp only [Array.getD_eq_getD_getElem?, Array.getElem?_eq_getElem hlt, Option.getD_some] at this hu0
      rw [this] at hu0; cases hu0
    · have hiN : i < N := by
        rcases Nat.lt_or_ge i N with h | h
        · exact h
        · exact absurd hi (tail_waits hs hc hN HI _ i0 rfl hi0 hu0 i h)
      refine wpOp_mono (fun a' w' I' => wpAny_T hok hN hs hc hst hstep hdone m _ a' w' ?_ I') (step_invT hok hst hstep I hi hiN)
      have := todo_set listed i (mem_ready.1 hi).1 N
      rw [if_pos hiN] at this
      omega
theorem todo_none (n : Nat) : ∀ m, m ≤ n → todo (Array.replicate n false) m = m
  | 0, _ => rfl
  | m + 1, h => by
    unfold todo
    rw [todo_none n m (by omega), if_neg]
    simp [show m < n by omega]
end
/-- a region whose tail is forced: from its begin on -/
theorem wp_region_ordT {P : Program} {l : List Oper} {Q : Exit → Act → World → Prop} {a0 : Act} {w : World} {id : Nat} (N : Nat) (D : List (List Nat)) (L : List (Nat × Nat)) (G : Nat → Value → World → Prop) (hm : P.follows .mixedOrders = true)
    (hok : okT N l.toArray (Array.replicate l.toArray.size false) a0.tmps.size D L = true) (hB : (decide (N < l.toArray.size) && Region.sinkB .any l.toArray N && Region.chainB .any l.toArray N && Region.seqB .any l.toArray (l.toArray.size - N) N (Array.replicate N true ++ Array.replicate (l.toArray.size - N) false)) = true)
    (hst : ∀ i v w w', G i v w → Below w.heap.size w w' → G i v w') (hstep : ∀ p ∈ L, Step P l.toArray D L G a0 w.drew p)
    (hdone : ∀ (x : Nat → Value) (w' : World), Below w.heap.size w w' → (∀ q ∈ L, G q.1 (x q.1) w') → wpList P l.toArray Q (l.drop N) (puts x (fun _ => true) L a0) w') :
    (Code.region id l.toArray true).wp P Q a0 w := by
  simp only [Bool.and_eq_true, decide_eq_true_eq] at hB
  obtain ⟨⟨⟨hN, hs⟩, hc⟩, hseq⟩ := hB
  have hok' := hok
  unfold okT at hok'
  simp only [Bool.and_eq_true, decide_eq_true_eq, List.all_eq_true, beq_iff_eq] at hok'
  obtain ⟨⟨_, hn1, hn2⟩, hall⟩ := hok'
  refine wp_region_any hm ?_
  have hF : ∀ i, (Array.replicate l.toArray.size false).getD i false = false := fun i => getD_replicate_false _ _
  have key := wpAny_T (P := P) (Q := Q) (w0 := w.drew) (g := l.toArray.size - N) hok hN hs hc hst hstep (fun listed a w1 I hl => by
    have hall' : ∀ q ∈ L, listed.getD q.1 false = true := fun q hq => by
      have h1 := hl q.1 (hall q hq).1
      have hlt : q.1 < listed.size := by rw [I.lsize]; simp; have := (hall q hq).1; simp at hN; omega
      simp only [Array.getD_eq_getD_getElem?, Array.getElem?_eq_getElem hlt, Option.getD_some] at h1 ⊢
      exact h1
    obtain ⟨x, hx, rfl⟩ := done_eqT hn2 (fun q hq => (hall q hq).2.1.1.1) I hall' hn1
    have hls : listed.size = l.toArray.size := by rw [I.lsize]; simp
    have hle : listed = Array.replicate N true ++ Array.replicate (l.toArray.size - N) false := by
      apply Array.ext
      · simp at hls hN ⊢; omega
      · intro i h1 h2
        rcases Nat.lt_or_ge i N with h | h
        · have h3 := hl i h
          simp only [Array.getD_eq_getD_getElem?, Array.getElem?_eq_getElem h1, Option.getD_some] at h3
          rw [h3, Array.getElem_append_left (by simpa using h)]; simp
        · have h3 := I.tail i h (by omega)
          simp only [Array.getD_eq_getD_getElem?, Array.getElem?_eq_getElem h1, Option.getD_some] at h3
          rw [h3, Array.getElem_append_right (by simpa using h)]; simp
    have hdl : (l.drop N).length = l.toArray.size - N := by simp
    have := wpAny_of_seq (P := P) (md := .any) (Q' := Q) (ops := l.toArray) (l.drop N) N listed (puts x (fun _ => true) L a0) w1 (fun j => by simp [List.getElem?_drop]) (by rw [hdl, hle]; exact hseq) (hdone x w1 ⟨I.grow.os, I.grow.tape, I.grow.output, I.grow.size, I.grow.block⟩ hx)
    rwa [hdl] at this) N (Array.replicate l.toArray.size false) a0 w.drew (todo_none _ _ (Nat.le_of_lt hN)) ⟨Below.refl _ _, rfl, rfl, rfl, fun _ _ => rfl, (fun q hq hl => absurd hl (by rw [hF]; decide)), (fun q hq hl => absurd hl (by rw [hF]; decide)), (fun t _ ht => getD_in (by simpa using ht) (hF t))⟩
  rw [show N + (l.toArray.size - N) = l.toArray.size by omega] at key
  exact key
end Go.Proofs.YthmlcmlpmolmoaaGreatDoor.ord
/- As OrdT, but some operations (mu) may write what the region itself has made: an append to a row of its own. What an operation yields need then hold only until the last operation that looks at it, but for those that are steady (st). Written by specs/mkordm.py out of OrdT. Nothing here hangs on the program. -/
namespace Go.Proofs.YthmlcmlpmolmoaaGreatDoor.ord
open Go Go.RowKit

/-- does q wait for p, over others too? -/
def behind (ops : Array Oper) : Nat → Nat → Nat → Bool
  | 0, _, _ => false
  | n + 1, q, p => match ops[q]? with
    | none => false
    | some o => o.after.toList.any fun e => Region.binds .any e && (Nat.beq e.on p || behind ops n e.on p)
theorem behind_listed {ops : Array Oper} {listed : Array Bool} (hc : ∀ j oj, ops[j]? = some oj → listed.getD j false = true → ∀ e ∈ oj.after, Region.binds .any e = true → listed.getD e.on false = true) : ∀ (n q p : Nat), behind ops n q p = true → listed.getD q false = true → listed.getD p false = true
  | 0, _, _, h, _ => by cases h
  | n + 1, q, p, h, hq => by
    unfold behind at h
    cases ho : ops[q]? with
    | none => rw [ho] at h; cases h
    | some o =>
      rw [ho] at h
      obtain ⟨e, he, h1⟩ := List.any_eq_true.1 h
      simp only [Bool.and_eq_true, Bool.or_eq_true] at h1
      have h2 := hc q o ho hq e (by simpa using he) h1.1
      rcases h1.2 with h3 | h3
      · rw [Nat.eq_of_beq_eq_true h3] at h2; exact h2
      · exact behind_listed hc n e.on p h3 h2
/-- nothing that is looked at later hangs on what p may write -/
def okMu (ops : Array Oper) (D : List (List Nat)) (L : List (Nat × Nat)) (mu st : Nat → Bool) : Bool :=
  L.all fun p => !mu p.1 || L.all fun q => q.1 == p.1 || st q.1 || behind ops ops.size q.1 p.1 || L.all fun r => !dep D r.1 q.1 || r.1 == p.1 || match ops[p.1]? with
    | none => false
    | some o => waits o r.1

section
variable {P : Program} {ops : Array Oper} {Q : Exit → Act → World → Prop} {D : List (List Nat)} {L : List (Nat × Nat)} {G : Nat → Value → World → Prop} {a0 : Act} {w0 : World} {listed0 : Array Bool} {mu st : Nat → Bool}
/-- what is asked of one operation -/
def StepM (P : Program) (ops : Array Oper) (D : List (List Nat)) (L : List (Nat × Nat)) (G : Nat → Value → World → Prop) (mu : Nat → Bool) (a0 : Act) (w0 : World) (p : Nat × Nat) : Prop :=
  ∀ o, ops[p.1]? = some o → ∀ (x : Nat → Value) (w : World), Below w0.heap.size w0 w → (∀ q ∈ L, dep D p.1 q.1 = true → G q.1 (x q.1) w) →
    (Region.wanted o (yielded ops (puts x (dep D p.1) L a0).tmps) = true ∧ makes P o (puts x (dep D p.1) L a0) w (fun v w' => Below (if mu p.1 then w0.heap.size else w.heap.size) w w' ∧ G p.1 v w')) ∨
    (Region.wanted o (yielded ops (puts x (dep D p.1) L a0).tmps) = false ∧ G p.1 undef w)
/-- is it looked at again, or steady? -/
def live (D : List (List Nat)) (L : List (Nat × Nat)) (st : Nat → Bool) (listed : Array Bool) (q : Nat) : Prop := st q = true ∨ ∃ r ∈ L, dep D r.1 q = true ∧ listed.getD r.1 false = false

structure InvM (N : Nat) (ops : Array Oper) (D : List (List Nat)) (st : Nat → Bool) (L : List (Nat × Nat)) (G : Nat → Value → World → Prop) (a0 : Act) (w0 : World) (listed0 listed : Array Bool) (a : Act) (w : World) : Prop where
  grow : Below w0.heap.size w0 w
  defers : a.defers = a0.defers
  size : a.tmps.size = a0.tmps.size
  lsize : listed.size = listed0.size
  old : ∀ s, (∀ q ∈ L, q.2 = s → listed.getD q.1 false = false) → a.tmps[s]? = a0.tmps[s]?
  new : ∀ q ∈ L, listed.getD q.1 false = true → ∃ v, a.tmps[q.2]? = some v ∧ (live D L st listed q.1 → G q.1 v w)
  closed : ∀ q ∈ L, listed.getD q.1 false = true → ∀ o, ops[q.1]? = some o → ∀ j, waits o j = true → listed.getD j false = true
  tail : ∀ t, N ≤ t → t < ops.size → listed.getD t true = false

theorem step_invM {N : Nat} (hok : okT N ops listed0 a0.tmps.size D L = true) (hmu : okMu ops D L mu st = true) (hst : ∀ i v w w', G i v w → Below w.heap.size w w' → G i v w') (hst2 : ∀ i v w w', st i = true → G i v w → Below w0.heap.size w w' → G i v w') (hstep : ∀ p ∈ L, StepM P ops D L G mu a0 w0 p)
    {listed : Array Bool} {a : Act} {w : World} (I : InvM N ops D st L G a0 w0 listed0 listed a w) {i : Nat} (hi : i ∈ Region.ready .any ops listed) (hiN : i < N) :
    wpOp P ops Q i (fun a' w' => InvM N ops D st L G a0 w0 listed0 (listed.setIfInBounds i true) a' w') a w := by
  obtain ⟨hun, o, ho, hdeps⟩ := mem_ready.1 hi
  have hdeps' : ∀ j, waits o j = true → listed.getD j false = true := fun j hj => by
    obtain ⟨e, he, hb, rfl⟩ := waits_iff.1 hj; exact hdeps e he hb
  unfold okT at hok
  simp only [Bool.and_eq_true, decide_eq_true_eq, List.all_eq_true] at hok
  obtain ⟨p, hp, rfl⟩ : ∃ p ∈ L, p.1 = i := by
    obtain ⟨q, hq, e⟩ := List.any_eq_true.1 (hok.1.1.2 i (List.mem_range.2 hiN))
    exact ⟨q, hq, by simpa using e⟩
  have hls0 : listed0.size = ops.size := by simpa using hok.1.1.1
  have hany0 := hok.1.1.2
  obtain ⟨⟨⟨_, _⟩, hn1, hn2⟩, hall⟩ := hok
  have hp0 := hall p hp
  obtain ⟨hpN, ⟨⟨hsz, hls⟩, _⟩, hpo⟩ := hp0
  rw [ho] at hpo
  simp only [Bool.and_eq_true, List.all_eq_true, beq_iff_eq, Bool.or_eq_true, Bool.not_eq_true', beq_eq_false_iff_ne] at hpo
  obtain ⟨⟨⟨_, hDw, hdst⟩, hsel⟩, hlooks⟩ := hpo
  have hD : ∀ j, dep D p.1 j = true → waits o j = true := fun j hj => by
    unfold dep at hj
    obtain ⟨k, hk, e⟩ := List.any_eq_true.1 hj
    have := Nat.eq_of_beq_eq_true e
    subst this
    exact hDw _ hk
  have hsel' : ∀ cs b, o.op ≠ .select cs b := fun cs b e => by rw [e] at hsel; cases hsel
  have hli : p.1 < listed.size := by rw [I.lsize]; exact hls
  have hunF : listed.getD p.1 false = false := by
    simp only [Array.getD_eq_getD_getElem?, Array.getElem?_eq_getElem hli, Option.getD_some] at hun ⊢; exact hun
  have HCL : ∀ j oj, ops[j]? = some oj → listed.getD j false = true → ∀ e ∈ oj.after, Region.binds .any e = true → listed.getD e.on false = true := fun j oj hj hl e he hb => by
    have hlt : j < ops.size := (Array.getElem?_eq_some_iff.1 hj).1
    rcases Nat.lt_or_ge j N with h | h
    · obtain ⟨q, hq, eq⟩ := List.any_eq_true.1 (hany0 j (List.mem_range.2 h))
      have eq' : q.1 = j := by simpa using eq
      subst eq'
      exact I.closed q hq hl oj hj e.on (waits_iff.2 ⟨e, he, hb, rfl⟩)
    · have h1 := I.tail j h hlt
      have hlt2 : j < listed.size := by rw [I.lsize, hls0]; exact hlt
      simp only [Array.getD_eq_getD_getElem?, Array.getElem?_eq_getElem hlt2, Option.getD_some] at h1 hl
      rw [h1] at hl; cases hl
  have hx : ∃ x : Nat → Value, ∀ q ∈ L, listed.getD q.1 false = true → a.tmps[q.2]? = some (x q.1) ∧ (live D L st listed q.1 → G q.1 (x q.1) w) := by
    refine ⟨fun j => match L.find? (fun q => q.1 == j) with | some q => a.tmps.getD q.2 undef | none => undef, fun q hq hl => ?_⟩
    obtain ⟨v, hv, hg⟩ := I.new q hq hl
    have hf : L.find? (fun r => r.1 == q.1) = some q := by
      cases hfd : L.find? (fun r => r.1 == q.1) with
      | none => have := List.find?_eq_none.1 hfd q hq; simp at this
      | some r =>
        have h1 := List.find?_some hfd
        have h2 := List.mem_of_find?_eq_some hfd
        have e : r.1 = q.1 := by simpa using h1
        have : r = q := by
          exact nodup_inj (f := (·.1)) hn1 h2 hq e
        rw [this]
    simp only [hf, Array.getD_eq_getD_getElem?, hv, Option.getD_some]
    exact ⟨trivial, hg⟩
  obtain ⟨x, hx⟩ := hx
  have hsame : ∀ t ∈ o.looksAt ops, a.tmps[t]? = (puts x (dep D p.1) L a0).tmps[t]? := fun t ht => by
    rcases Classical.em (∃ q ∈ L, q.2 = t ∧ dep D p.1 q.1 = true) with ⟨q, hq, rfl, hw⟩ | hno
    · have hsq : q.2 < a0.tmps.size := (hall q hq).2.1.1.1
      rw [puts_at x (dep D p.1) L a0 q hn2 hq hw hsq]
      exact (hx q hq (hdeps' _ (hD _ hw))).1
    · rw [puts_not x (dep D p.1) L a0 t fun q hq e => by
        cases hw : dep D p.1 q.1
        · rfl
        · exact absurd ⟨q, hq, e, hw⟩ hno]
      refine I.old t fun q hq e => ?_
      rcases hlooks t ht q hq with (h | h) | h
      · exact absurd e h
      · exact absurd ⟨q, hq, e, h⟩ hno
      · cases hl : listed.getD q.1 false
        · rfl
        · cases hoq : ops[q.1]? with
          | none => rw [hoq] at h; cases h
          | some o' =>
            rw [hoq] at h
            have := I.closed q hq hl o' hoq p.1 h
            rw [hunF] at this; cases this
  have hS := hstep p hp o ho x w I.grow fun q hq hw => (hx q hq (hdeps' _ (hD _ hw))).2 (Or.inr ⟨p, hp, hw, hunF⟩)
  rw [← wanted_of hsame] at hS
  have keep : ∀ v w', Below (if mu p.1 then w0.heap.size else w.heap.size) w w' → G p.1 v w' → InvM N ops D st L G a0 w0 listed0 (listed.setIfInBounds p.1 true) (a.put o.dst v) w' := fun v w' hb hg => by
    have hput : ∀ s, s ≠ p.2 → (a.put o.dst v).tmps[s]? = a.tmps[s]? := fun s hs => by
      rw [hdst]; simp [Act.put, Array.getElem?_setIfInBounds_ne (Ne.symm hs)]
    have hputp : (a.put o.dst v).tmps[p.2]? = some v := by
      rw [hdst]; simp [Act.put, I.size, hsz]
    have hset : ∀ j, j ≠ p.1 → (listed.setIfInBounds p.1 true).getD j false = listed.getD j false := fun j hj => getD_set_ne false (Ne.symm hj)
    have hsetp : (listed.setIfInBounds p.1 true).getD p.1 false = true := by simp [hli]
    have uniq : ∀ q ∈ L, q.2 = p.2 → q = p := fun q hq e => by
      exact nodup_inj (f := (·.2)) hn2 hq hp e
    have uniq1 : ∀ q ∈ L, q.1 = p.1 → q = p := fun q hq e => by
      exact nodup_inj (f := (·.1)) hn1 hq hp e
    have hb0 : Below w0.heap.size w w' := hb.mono (by split; exact Nat.le_refl _; exact I.grow.size)
    refine ⟨I.grow.trans hb0, ?_, ?_, ?_, fun s hs => ?_, fun q hq hl => ?_, fun q hq hl o' ho' j hj => ?_, fun s hs ht => ?_⟩
    · rw [hdst]; exact I.defers
    · rw [hdst]; simp [Act.put, I.size]
    · simp [I.lsize]
    · have hsp : s ≠ p.2 := fun e => by
        have := hs p hp e.symm
        rw [hsetp] at this; cases this
      rw [hput s hsp]
      refine I.old s fun q hq e => ?_
      have := hs q hq e
      have hqp : q.1 ≠ p.1 := fun e2 => hsp (by rw [← e, uniq1 q hq e2])
      rwa [hset _ hqp] at this
    · by_cases e : q.1 = p.1
      · obtain rfl := uniq1 q hq e
        exact ⟨v, hputp, fun _ => hg⟩
      · rw [hset _ e] at hl
        obtain ⟨u, hu, hgu⟩ := I.new q hq hl
        have : q.2 ≠ p.2 := fun e2 => e (by rw [uniq q hq e2])
        refine ⟨u, by rw [hput _ this]; exact hu, fun hlv => ?_⟩
        have hlv0 : live D L st listed q.1 := by
          rcases hlv with h | ⟨r, hr, h1, h2⟩
          · exact Or.inl h
          · refine Or.inr ⟨r, hr, h1, ?_⟩
            by_cases e3 : r.1 = p.1
            · rw [e3]; exact hunF
            · rw [hset _ e3] at h2; exact h2
        by_cases hm : mu p.1 = true
        · rcases hlv with h | ⟨r, hr, h1, h2⟩
          · exact hst2 _ _ _ _ h (hgu hlv0) hb0
          · unfold okMu at hmu
            have h3 := List.all_eq_true.1 hmu p hp
            rw [hm] at h3
            have h4 := List.all_eq_true.1 (show (L.all fun q => q.1 == p.1 || st q.1 || behind ops ops.size q.1 p.1 || L.all fun r => !dep D r.1 q.1 || r.1 == p.1 || match ops[p.1]? with | none => false | some o => waits o r.1) = true by simpa using h3) q hq
            by_cases hsq : st q.1 = true
            · exact hst2 _ _ _ _ hsq (hgu hlv0) hb0
            by_cases hbe : behind ops ops.size q.1 p.1 = true
            · exfalso
              have := behind_listed HCL _ _ _ hbe hl
              rw [hunF] at this; cases this
            · exfalso
              have h5 := List.all_eq_true.1 (show (L.all fun r => !dep D r.1 q.1 || r.1 == p.1 || match ops[p.1]? with | none => false | some o => waits o r.1) = true by simpa [e, hsq, hbe] using h4) r hr
              rw [h1, ho] at h5
              by_cases e3 : r.1 = p.1
              · rw [e3, hsetp] at h2; cases h2
              · have h6 : waits o r.1 = true := by simpa [e3] using h5
                have h7 := hdeps' _ h6
                rw [hset _ e3, h7] at h2; cases h2
        · rw [if_neg hm] at hb
          exact hst _ _ _ _ (hgu hlv0) hb
    · by_cases e : q.1 = p.1
      · obtain rfl := uniq1 q hq e
        rw [ho] at ho'
        cases ho'
        have := hdeps' j hj
        exact getD_set_true this
      · rw [hset _ e] at hl
        exact getD_set_true (I.closed q hq hl o' ho' j hj)
    · rw [getD_set_ne true (show p.1 ≠ s by omega)]
      exact I.tail s hs ht
  unfold wpOp
  rw [ho]
  show if Region.wanted o (yielded ops a.tmps) = true then _ else _
  rcases hS with ⟨hw, hm⟩ | ⟨hw, hg⟩
  · rw [if_pos hw]
    refine Or.inl (wp_of_makes (N := fun v w' => Below (if mu p.1 then w0.heap.size else w.heap.size) w w' ∧ G p.1 v w') ?_ fun v w' h => keep v w' h.1 h.2)
    unfold makes at hm ⊢
    rw [exec_of hsel' hsame]
    exact hm
  · rw [hw, if_neg (by decide)]
    exact keep _ _ (Below.refl _ _) hg
theorem done_eqM {N : Nat} (hn2 : (L.map (·.2)).Nodup) (hsz : ∀ q ∈ L, q.2 < a0.tmps.size) {listed : Array Bool} {a : Act} {w : World} (I : InvM N ops D st L G a0 w0 listed0 listed a w) (hl : ∀ q ∈ L, listed.getD q.1 false = true) (hn1 : (L.map (·.1)).Nodup) :
    ∃ x : Nat → Value, (∀ q ∈ L, st q.1 = true → G q.1 (x q.1) w) ∧ a = puts x (fun _ => true) L a0 := by
  have hx : ∃ x : Nat → Value, ∀ q ∈ L, a.tmps[q.2]? = some (x q.1) ∧ (st q.1 = true → G q.1 (x q.1) w) := by
    refine ⟨fun j => match L.find? (fun q => q.1 == j) with | some q => a.tmps.getD q.2 undef | none => undef, fun q hq => ?_⟩
    obtain ⟨v, hv, hg⟩ := I.new q hq (hl q hq)
    have hf : L.find? (fun r => r.1 == q.1) = some q := by
      cases hfd : L.find? (fun r => r.1 == q.1) with
      | none => have := List.find?_eq_none.1 hfd q hq; simp at this
      | some r =>
        have h1 := List.find?_some hfd
        have h2 := List.mem_of_find?_eq_some hfd
        have e : r.1 = q.1 := by simpa using h1
        have : r = q := by
          exact nodup_inj (f := (·.1)) hn1 h2 hq e
        rw [this]
    simp only [hf, Array.getD_eq_getD_getElem?, hv, Option.getD_some]
    exact ⟨trivial, fun h => hg (Or.inl h)⟩
  obtain ⟨x, hx⟩ := hx
  refine ⟨x, fun q hq => (hx q hq).2, ?_⟩
  have ht : a.tmps = (puts x (fun _ => true) L a0).tmps := by
    apply Array.ext_getElem?
    intro s
    rcases Classical.em (∃ q ∈ L, q.2 = s) with ⟨q, hq, rfl⟩ | hno
    · rw [puts_at x _ L a0 q hn2 hq rfl (hsz q hq), (hx q hq).1]
    · rw [puts_not x _ L a0 s fun q hq e => absurd ⟨q, hq, e⟩ hno]
      exact I.old s fun q hq e => absurd ⟨q, hq, e⟩ hno
  have hd : a.defers = (puts x (fun _ => true) L a0).defers := by rw [puts_defers, I.defers]
  cases a
  simp only at ht hd
  rw [ht, hd]
theorem head_ofM {N : Nat} {listed : Array Bool} {a : Act} {w : World} (hls : listed0.size = ops.size) (hany : ∀ i, i < N → ∃ q ∈ L, q.1 = i) (I : InvM N ops D st L G a0 w0 listed0 listed a w) : HeadInv .any ops N listed := by
  refine ⟨by rw [I.lsize, hls], fun j oj hj hl e he hb => ?_, I.tail⟩
  have hlt : j < ops.size := (Array.getElem?_eq_some_iff.1 hj).1
  rcases Nat.lt_or_ge j N with h | h
  · obtain ⟨q, hq, rfl⟩ := hany j h
    exact I.closed q hq hl oj hj e.on (waits_iff.2 ⟨e, he, hb, rfl⟩)
  · have h1 := I.tail j h hlt
    have hs : listed.size = ops.size := by rw [I.lsize, hls]
    have hlt2 : j < listed.size := by omega
    simp only [Array.getD_eq_getD_getElem?, Array.getElem?_eq_getElem hlt2, Option.getD_some] at h1 hl
    rw [h1] at hl; cases hl
theorem wpAny_M {N g : Nat} (hok : okT N ops listed0 a0.tmps.size D L = true) (hmu : okMu ops D L mu st = true) (hN : N < ops.size) (hs : Region.sinkB .any ops N = true) (hc : Region.chainB .any ops N = true)
    (hst : ∀ i v w w', G i v w → Below w.heap.size w w' → G i v w') (hst2 : ∀ i v w w', st i = true → G i v w → Below w0.heap.size w w' → G i v w') (hstep : ∀ p ∈ L, StepM P ops D L G mu a0 w0 p)
    (hdone : ∀ (listed : Array Bool) (a : Act) (w : World), InvM N ops D st L G a0 w0 listed0 listed a w → (∀ i, i < N → listed.getD i true = true) → wpAny P .any ops Q g listed a w) :
    ∀ (m : Nat) (listed : Array Bool) (a : Act) (w : World), todo listed N = m → InvM N ops D st L G a0 w0 listed0 listed a w → wpAny P .any ops Q (m + g) listed a w
  | 0, listed, a, w, hm, I => by
    rw [Nat.zero_add]
    exact hdone _ _ _ I (todo_zero listed N hm)
  | m + 1, listed, a, w, hm, I => by
    have hok' := hok
    unfold okT at hok'
    simp only [Bool.and_eq_true, decide_eq_true_eq, List.all_eq_true, beq_iff_eq] at hok'
    obtain ⟨⟨⟨hls, hany⟩, _, _⟩, _⟩ := hok'
    have hany' : ∀ i, i < N → ∃ q ∈ L, q.1 = i := fun i hi => by
      obtain ⟨q, hq, e⟩ := List.any_eq_true.1 (hany i (List.mem_range.2 hi))
      exact ⟨q, hq, by simpa using e⟩
    have HI := head_ofM hls hany' I
    obtain ⟨i0, hi0, hu0⟩ := todo_pos listed N (by omega)
    rw [show m + 1 + g = (m + g) + 1 by omega]
    refine ⟨fun h0 => ?_, fun i hi => ?_⟩
    · exfalso
      obtain ⟨q, hq, rfl⟩ := hany' i0 hi0
      have := all_listedT hok I.lsize h0 q hq
      have hlt : q.1 < listed.size := by rw [I.lsize, hls]; omega
      simp only [Array.getD_eq_getD_getElem?, Array.getElem?_eq_getElem hlt, Option.getD_some] at this hu0
      rw [this] at hu0; cases hu0
    · have hiN : i < N := by
        rcases Nat.lt_or_ge i N with h | h
        · exact h
        · exact absurd hi (tail_waits hs hc hN HI _ i0 rfl hi0 hu0 i h)
      refine wpOp_mono (fun a' w' I' => wpAny_M hok hmu hN hs hc hst hst2 hstep hdone m _ a' w' ?_ I') (step_invM hok hmu hst hst2 hstep I hi hiN)
      have := todo_set listed i (mem_ready.1 hi).1 N
      rw [if_pos hiN] at this
      omega
end
/-- such a region, from its begin on -/
theorem wp_region_ordM {P : Program} {l : List Oper} {Q : Exit → Act → World → Prop} {a0 : Act} {w : World} {id : Nat} (N : Nat) (D : List (List Nat)) (L : List (Nat × Nat)) (G : Nat → Value → World → Prop) (mu st : Nat → Bool) (hm : P.follows .mixedOrders = true)
    (hok : okT N l.toArray (Array.replicate l.toArray.size false) a0.tmps.size D L = true) (hB : (decide (N < l.toArray.size) && Region.sinkB .any l.toArray N && Region.chainB .any l.toArray N && Region.seqB .any l.toArray (l.toArray.size - N) N (Array.replicate N true ++ Array.replicate (l.toArray.size - N) false)) = true)
    (hmu : okMu l.toArray D L mu st = true)
    (hst : ∀ i v w w', G i v w → Below w.heap.size w w' → G i v w') (hst2 : ∀ i v w0 w', st i = true → G i v w0 → Below w.heap.size w0 w' → G i v w') (hstep : ∀ p ∈ L, StepM P l.toArray D L G mu a0 w.drew p)
    (hdone : ∀ (x : Nat → Value) (w' : World), Below w.heap.size w w' → (∀ q ∈ L, st q.1 = true → G q.1 (x q.1) w') → wpList P l.toArray Q (l.drop N) (puts x (fun _ => true) L a0) w') :
    (Code.region id l.toArray true).wp P Q a0 w := by
  simp only [Bool.and_eq_true, decide_eq_true_eq] at hB
  obtain ⟨⟨⟨hN, hs⟩, hc⟩, hseq⟩ := hB
  have hok' := hok
  unfold okT at hok'
  simp only [Bool.and_eq_true, decide_eq_true_eq, List.all_eq_true, beq_iff_eq] at hok'
  obtain ⟨⟨_, hn1, hn2⟩, hall⟩ := hok'
  refine wp_region_any hm ?_
  have hF : ∀ i, (Array.replicate l.toArray.size false).getD i false = false := fun i => getD_replicate_false _ _
  have key := wpAny_M (P := P) (Q := Q) (w0 := w.drew) (g := l.toArray.size - N) hok hmu hN hs hc hst hst2 hstep (fun listed a w1 I hl => by
    have hall' : ∀ q ∈ L, listed.getD q.1 false = true := fun q hq => by
      have h1 := hl q.1 (hall q hq).1
      have hlt : q.1 < listed.size := by rw [I.lsize]; simp; have := (hall q hq).1; simp at hN; omega
      simp only [Array.getD_eq_getD_getElem?, Array.getElem?_eq_getElem hlt, Option.getD_some] at h1 ⊢
      exact h1
    obtain ⟨x, hx, rfl⟩ := done_eqM hn2 (fun q hq => (hall q hq).2.1.1.1) I hall' hn1
    have hls : listed.size = l.toArray.size := by rw [I.lsize]; simp
    have hle : listed = Array.replicate N true ++ Array.replicate (l.toArray.size - N) false := by
      apply Array.ext
      · simp at hls hN ⊢; omega
      · intro i h1 h2
        rcases Nat.lt_or_ge i N with h | h
        · have h3 := hl i h
          simp only [Array.getD_eq_getD_getElem?, Array.getElem?_eq_getElem h1, Option.getD_some] at h3
          rw [h3, Array.getElem_append_left (by simpa using h)]; simp
        · have h3 := I.tail i h (by omega)
          simp only [Array.getD_eq_getD_getElem?, Array.getElem?_eq_getElem h1, Option.getD_some] at h3
          rw [h3, Array.getElem_append_right (by simpa using h)]; simp
    have hdl : (l.drop N).length = l.toArray.size - N := by simp
    have := wpAny_of_seq (P := P) (md := .any) (Q' := Q) (ops := l.toArray) (l.drop N) N listed (puts x (fun _ => true) L a0) w1 (fun j => by simp [List.getElem?_drop]) (by rw [hdl, hle]; exact hseq) (hdone x w1 ⟨I.grow.os, I.grow.tape, I.grow.output, I.grow.size, I.grow.block⟩ hx)
    rwa [hdl] at this) N (Array.replicate l.toArray.size false) a0 w.drew (todo_none _ _ (Nat.le_of_lt hN)) ⟨Below.refl _ _, rfl, rfl, rfl, fun _ _ => rfl, (fun q hq hl => absurd hl (by rw [hF]; decide)), (fun q hq hl => absurd hl (by rw [hF]; decide)), (fun t _ ht => getD_in (by simpa using ht) (hF t))⟩
  rw [show N + (l.toArray.size - N) = l.toArray.size by omega] at key
  exact key
end Go.Proofs.YthmlcmlpmolmoaaGreatDoor.ord
/- What single operations yield: for regions that draw their order (beside Ord). Nothing here hangs on the program. -/
namespace Go.Proofs.YthmlcmlpmolmoaaGreatDoor.ord
open Go Go.RowKit
section
variable {P : Program} {ops : Array Oper} {o : Oper} {a : Act} {w : World} {N : Value → World → Prop}
theorem want0 (h : o.guard = none) : Region.wanted o (yielded ops a.tmps) = true := by unfold Region.wanted; rw [h]
theorem wantG {g d : Nat} {b : Bool} (h : o.guard = some (g, b)) (hd : (ops[g]?).bind (·.dst) = some d) (ht : a.eval (.tmp d) = .bool b) : Region.wanted o (yielded ops a.tmps) = true := by
  unfold Region.wanted
  rw [h]
  have : yielded ops a.tmps g = some b := by
    unfold yielded
    rw [hd]
    have h2 : a.tmps.getD d undef = .bool b := ht
    rw [Array.getD_eq_getD_getElem?] at h2
    show (match a.tmps[d]? with | some (.bool b) => some b | _ => none) = some b
    cases h3 : a.tmps[d]? with
    | none => rw [h3] at h2; cases h2
    | some v =>
      rw [h3] at h2
      have h4 : v = .bool b := h2
      subst h4; rfl
  simp [this]
theorem makes_move {s : Operand} (ho : o.op = .move s) (hN : N (a.eval s) w) : makes P o a w N := by
  unfold makes; simp [execOp, ho]; exact hN
theorem makes_assign {s : Operand} (ho : o.op = .assign s) (hN : N (a.eval s) w) : makes P o a w N := by
  unfold makes; simp [execOp, ho]; exact hN
theorem makes_pick {c y n : Operand} {b : Bool} (ho : o.op = .pick c y n) (hc : a.eval c = .bool b) (hN : N (if b then a.eval y else a.eval n) w) : makes P o a w N := by
  unfold makes
  cases b <;> simp [execOp, ho, hc, asBool] <;> exact hN
theorem makes_bin {op : BinOp} {t t' : TypeId} {x y : Operand} {vx vy u : Value} (ho : o.op = .binOp op t x y t') (hx : a.eval x = vx) (hy : a.eval y = vy)
    (hrun : (do eqGuard op t x y vx vy; binOp op t vx vy : Sem Value).run P w = .ok u w) (hN : N u w) : makes P o a w N := by
  unfold makes
  have : (execOp a.eval o).run P w = .ok (.value u) w := by
    show ((execOp a.eval o).run P w) = _
    simp only [execOp, ho, hx, hy, Sem.run_bind] at hrun ⊢
    rw [hrun]; rfl
  rw [this]; exact hN
theorem makes_conv {src dst : TypeId} {x : Operand} {vx u : Value} {w' : World} (ho : o.op = .convert src dst x) (hx : a.eval x = vx) (hrun : (convert src dst vx).run P w = .ok u w') (hN : N u w') : makes P o a w N := by
  unfold makes
  have : (execOp a.eval o).run P w = .ok (.value u) w' := by
    simp only [execOp, ho, hx, Sem.run_bind]
    rw [hrun]; rfl
  rw [this]; exact hN
theorem makes_slice {t : TypeId} {x : Operand} {lo hi mx : Option Operand} {vx u : Value} {vl vh vm : Option Value} (ho : o.op = .slice t x lo hi mx) (hx : a.eval x = vx) (hl : lo.map a.eval = vl) (hh : hi.map a.eval = vh) (hm : mx.map a.eval = vm)
    (hrun : (Instr.sliceAt t vx vl vh vm).run P w = .ok u w) (hN : N u w) : makes P o a w N := by
  unfold makes
  have : (execOp a.eval o).run P w = .ok (.value u) w := by
    simp only [execOp, ho, hx, hl, hh, hm, Sem.run_bind]
    rw [hrun]; rfl
  rw [this]; exact hN
theorem makes_build {t : TypeId} {len : Nat} {parts : Array (Nat × Operand)} {vs : Array (Nat × Value)} {u : Value} {w' : World} (ho : o.op = .buildSlice t len parts) (hp : (parts.map fun (i, x) => (i, a.eval x)) = vs)
    (hrun : (Instr.buildSlice t len vs).run P w = .ok u w') (hN : N u w') : makes P o a w N := by
  unfold makes
  have : (execOp a.eval o).run P w = .ok (.value u) w' := by
    simp only [execOp, ho, hp, Sem.run_bind]
    rw [hrun]; rfl
  rw [this]; exact hN
theorem makes_call {F : FuncId} {fn : Func} {args : Array Operand} {ts : Array TypeId} {vs : Array Value} {post : Ending → World → Prop} (hf : P.funcs[F]? = some fn) (hname : (fn.name == "runtime.NumGoroutine") = false) (hb : fn.body.isNone = false)
    (ho : o.op = .call { callee := .value (.func F), args := args, argTypes := ts }) (hp : args.map a.eval = vs)
    (hc : Calls P F vs w post) (hN : ∀ e w', post e w' → ∃ v, e = .returned v ∧ N v w') : makes P o a w N := by
  unfold makes
  have : (execOp a.eval o).run P w = .ok (.enter F vs) w := by
    have hname' : ¬ fn.name = "runtime.NumGoroutine" := by simpa using hname
    have hb' : ¬ fn.body = none := by intro h; rw [h] at hb; cases hb
    simp [execOp, ho, resolve, invoke, hp, Act.eval, Deferred.ofValue, callFunc, hf, hname', hb']
  rw [this]
  exact hc.mono hN
theorem makes_build1 {t : TypeId} {len i1 : Nat} {o1 : Operand} {v1 u : Value} {w' : World} (ho : o.op = .buildSlice t len #[(i1, o1)]) (h1 : a.eval o1 = v1)
    (hrun : (Instr.buildSlice t len #[(i1, v1)]).run P w = .ok u w') (hN : N u w') : makes P o a w N := makes_build ho (by simp [h1]) hrun hN
theorem makes_build2 {t : TypeId} {len i1 i2 : Nat} {o1 o2 : Operand} {v1 v2 u : Value} {w' : World} (ho : o.op = .buildSlice t len #[(i1, o1), (i2, o2)]) (h1 : a.eval o1 = v1) (h2 : a.eval o2 = v2)
    (hrun : (Instr.buildSlice t len #[(i1, v1), (i2, v2)]).run P w = .ok u w') (hN : N u w') : makes P o a w N := makes_build ho (by simp [h1, h2]) hrun hN
theorem makes_build3 {t : TypeId} {len i1 i2 i3 : Nat} {o1 o2 o3 : Operand} {v1 v2 v3 u : Value} {w' : World} (ho : o.op = .buildSlice t len #[(i1, o1), (i2, o2), (i3, o3)]) (h1 : a.eval o1 = v1) (h2 : a.eval o2 = v2) (h3 : a.eval o3 = v3)
    (hrun : (Instr.buildSlice t len #[(i1, v1), (i2, v2), (i3, v3)]).run P w = .ok u w') (hN : N u w') : makes P o a w N := makes_build ho (by simp [h1, h2, h3]) hrun hN
theorem makes_call1 {F : FuncId} {fn : Func} {o1 : Operand} {ts : Array TypeId} {v1 : Value} {post : Ending → World → Prop} (hf : P.funcs[F]? = some fn) (hname : (fn.name == "runtime.NumGoroutine") = false) (hb : fn.body.isNone = false)
    (ho : o.op = .call { callee := .value (.func F), args := #[o1], argTypes := ts }) (h1 : a.eval o1 = v1)
    (hc : Calls P F #[v1] w post) (hN : ∀ e w', post e w' → ∃ v, e = .returned v ∧ N v w') : makes P o a w N := makes_call hf hname hb ho (by simp [h1]) hc hN
theorem makes_call2 {F : FuncId} {fn : Func} {o1 o2 : Operand} {ts : Array TypeId} {v1 v2 : Value} {post : Ending → World → Prop} (hf : P.funcs[F]? = some fn) (hname : (fn.name == "runtime.NumGoroutine") = false) (hb : fn.body.isNone = false)
    (ho : o.op = .call { callee := .value (.func F), args := #[o1, o2], argTypes := ts }) (h1 : a.eval o1 = v1) (h2 : a.eval o2 = v2)
    (hc : Calls P F #[v1, v2] w post) (hN : ∀ e w', post e w' → ∃ v, e = .returned v ∧ N v w') : makes P o a w N := makes_call hf hname hb ho (by simp [h1, h2]) hc hN
end
theorem makes_len {P : Program} {o : Oper} {a : Act} {w : World} {N : Value → World → Prop} {s : Operand} {t ty : TypeId} {vs u : Value} (ho : o.op = .call { callee := .builtin .len, args := #[s], argTypes := #[t] }) (ht : o.type = ty) (hs : a.eval s = vs)
    (hrun : (Builtin.len_ #[t] ty #[vs]).run P w = .ok u w) (hN : N u w) : makes P o a w N := by
  unfold makes
  have : (execOp a.eval o).run P w = .ok (.value u) w := by
    simp [execOp, ho, ht, resolve, invoke, builtin, hs, hrun, Result.andThen]
  rw [this]; exact hN
end Go.Proofs.YthmlcmlpmolmoaaGreatDoor.ord
/- What the laws of several layers need: operations in a region that draws its order, rows of slices that grow. -/
namespace Go.Proofs.YthmlcmlpmolmoaaGreatDoor
open Go.RowKit
namespace ord
theorem makes_append {P : Program} {o : Oper} {a : Act} {w : World} {N : Value → World → Prop} {s x : Operand} {t : TypeId} {vs vx u : Value} {w' : World} (ho : o.op = .call { callee := .builtin .append, args := #[s, x], argTypes := #[t, t] }) (ht : o.type = t) (hs : a.eval s = vs) (hx : a.eval x = vx)
    (hrun : (Builtin.append_ #[t, t] t #[vs, vx]).run P w = .ok u w') (hN : N u w') : makes P o a w N := by
  unfold makes
  have : (execOp a.eval o).run P w = .ok (.value u) w' := by
    simp [execOp, ho, ht, resolve, invoke, builtin, hs, hx, hrun, Result.andThen]
  rw [this]; exact hN
theorem makes_build0 {P : Program} {o : Oper} {a : Act} {w : World} {N : Value → World → Prop} {t : TypeId} {len : Nat} {u : Value} {w' : World} (ho : o.op = .buildSlice t len #[]) (hrun : (Instr.buildSlice t len #[]).run P w = .ok u w') (hN : N u w') : makes P o a w N := makes_build ho (by simp) hrun hN
end ord
theorem str_same2 (w : World) (x y : Operand) (s : ByteArray) : (do eqGuard .eql 9 x y (.string s) (.string s); binOp .eql 9 (.string s) (.string s) : Sem Value).run Tryz.prog w = .ok (.bool true) w := by
  go_simp
theorem run_bytes0 (w : World) : (Instr.buildSlice 22 0 #[]).run Tryz.prog w = .ok (.slice (some ⟨w.heap.size, 0, none⟩) 0 0) (w.alloc (.cells #[] 5)) := by go_simp
/-- an own row of slices, its cells given by a function -/
def OwnS (w : World) (base : Nat) (v : Value) (k : Nat) (X : Nat → Value) : Prop := w.ownsRow base 22 1 v k (valsL k X)
namespace OwnS
variable {w w' : World} {base k : Nat} {v : Value} {X Y : Nat → Value}
theorem nil (w : World) (base : Nat) (X : Nat → Value) : OwnS w base (.slice none 0 0) 0 X := World.ownsRow_nil w base _ 1
theorem alloc (h : OwnS w base v k X) (o : Obj) : OwnS (w.alloc o) base v k X := World.ownsRow.alloc h o
theorem drewN (h : OwnS w base v k X) (m : Nat) : OwnS (w.drewN m) base v k X := h
theorem congr (h : OwnS w base v k X) (e : ∀ j, j < k → X j = Y j) : OwnS w base v k Y := by
  unfold OwnS at *; rw [← valsL_congr e]; exact h
theorem keep (h : OwnS w base v k X) (hb : Below w.heap.size w w') : OwnS w' base v k X := by
  rcases h with ⟨h1, h2 | ⟨g, cap, cur, e, hg, hh, r⟩⟩
  · exact ⟨h1, Or.inl h2⟩
  · exact ⟨h1, Or.inr ⟨g, cap, cur, e, hg, (hb.block g (Array.getElem?_eq_some_iff.1 hh).1).trans hh, r⟩⟩
theorem slice (h : OwnS w base v k X) (hk : 0 < k) : ∃ g c, v = .slice (some ⟨g, 0, none⟩) k c ∧ k ≤ c ∧ base ≤ g ∧ g < w.heap.size ∧ ∀ j, j < k → w.cell? ⟨g, j, none⟩ = some (X j) := by
  have hown := h
  rcases hown.2 with ⟨rfl, hn⟩ | ⟨g, cap, cur, rfl, hg, hh, h1, r⟩
  · omega
  · refine ⟨g, cap, rfl, h1, hg, (Array.getElem?_eq_some_iff.1 hh).1, fun j hj => ?_⟩
    rw [hown.cellAt j (by omega), valsL_at hj]
end OwnS
theorem infoSl : (Tryz.prog.info? 22).map (fun i => (i.zero, i.size, i.bytes)) = some (some (.slice none 0 0), 1, 24) := by kernel_rfl
theorem valsL_snoc (k : Nat) (X : Nat → Value) : valsL k X ++ [X k] = valsL (k + 1) X := by unfold valsL; rw [List.range_succ, List.map_append]; rfl
/-- append of one slice -/
theorem wpList_appV {ops : Array Oper} {rest : List Oper} {o : Oper} {a : Act} {Q : Exit → Act → World → Prop} {w : World} (hgd : o.guard = none) (s x : Operand)
    (ho : o.op = .call { callee := .builtin .append, args := #[s, x], argTypes := #[32, 32] })
    (base : Nat) (v : Value) (k : Nat) (X : Nat → Value) (hs : a.eval s = v) (h : OwnS w base v k X)
    (T : Nat) (hx : a.eval x = .slice (some ⟨T, 0, none⟩) 1 1) (hX : w.cell? ⟨T, 0, none⟩ = some (X k)) (h1 : (X k).oneCell' = true) (hk : k ≤ 1000) (hbase : base ≤ w.heap.size)
    (hq : ∀ v' w', OwnS w' base v' (k + 1) X → Below base w w' → wpList Tryz.prog ops Q rest (a.put o.dst v') w') : wpList Tryz.prog ops Q (o :: rest) a w := by
  obtain ⟨i, hi, hz, hsz, hb⟩ := info_parts infoSl
  refine wpList_append_own w hgd s x 32 ho base 22 i (.slice none 0 0) 1 24 Tryz.underlying32 hi hz hsz hb rfl (by decide) v k _ hs h ⟨T, 0, none⟩ 1 1 [X k] hx rfl ?_ ?_ (by unfold maxLen; omega) (by omega) hbase ?_
  · intro j u hj
    match j, hj with
    | 0, hj => simp at hj; subst hj; exact hX
  · intro u hu; simp at hu; subst hu; exact h1
  · intro v' w' h1 h2 _
    refine hq v' w' ?_ ((Below.refl base w).grown h2 hbase fun k hk => (h.lt k hk).1)
    unfold OwnS
    rw [← valsL_snoc]
    exact h1
theorem run_len8 (A : Option Addr) (n c : Nat) (w : World) : (Builtin.len_ #[22] 3 #[.slice A n c]).run Tryz.prog w = .ok (.int .i64 (n : Int)) w := by go_simp
end Go.Proofs.YthmlcmlpmolmoaaGreatDoor
/- Calls of a digest that goes on, for the laws (layer 5). -/
namespace Go.Proofs.YthmlcmlpmolmoaaGreatDoor
open Go.RowKit
/-- bytes that lie outside block K -/
def Off (A : Option Addr) (n K : Nat) : Prop := 0 < n → ∀ B o, A = some ⟨B, o, none⟩ → B ≠ K
theorem SlB.off {w : World} {A : Option Addr} {n K : Nat} {f : Nat → Nat} (h : SlB w A n f) (hK : w.heap.size ≤ K) : Off A n K := fun hn B o e => by
  obtain ⟨B', o', e', hB, _⟩ := h hn
  rw [e] at e'
  injection e' with e'
  injection e' with e1 _ _
  omega
/-- what a write leaves -/
def Wrote (W : World) (g n : Nat) (F : Nat → Nat) (e : Ending) (w' : World) : Prop := e = .returned (.tuple #[]) ∧ HM w' g n F ∧ Chg g W w'
theorem write1_any (W : World) (g n0 : Nat) (A : Option Addr) (n c : Nat) (f F : Nat → Nat) (hN : n0 + n ≤ 1000000000000000) (hc : n ≤ c) (hA : SlB W A n f) (hF : ∀ j, j < n → F (n0 + j) = f j) (hm : HM W g n0 F) (hY : By (n0 + n) F) (ht : GT W)
    (hg : 4 ≠ g ∧ 1 ≠ g) (hO : Off A n g) :
    Calls Tryz.prog 140 #[.pointer (some ⟨g, 0, none⟩), .slice (some ⟨W.heap.size, 0, none⟩) 1 1] (W.alloc (.cells #[.slice A n c] 22)) (Wrote W g (n0 + n) F) :=
  (write_any g n0 W.heap.size 1 1 (fun _ => A) (fun _ => n) (fun _ => c) (fun _ => f) F _ (by decide) hN (parts1 A n c f hA) (fun _ _ => hc) (fun i hi j hj => by
    obtain rfl : i = 0 := by omega
    exact hF j hj) (hm.alloc _) hY (ht.alloc _) hg (Nat.ne_of_gt hm.lt) (fun _ _ => hO)).mono fun _ _ h => ⟨h.1, h.2.1, (Chg.of_below ((Below.refl _ _).alloc (Nat.le_refl _) _)).trans h.2.2⟩
theorem write2_parts (W : World) (g n0 gp cap : Nat) (A0 A1 : Option Addr) (k0 k1 c0 c1 : Nat) (f0 f1 F : Nat → Nat) (hN : n0 + k0 + k1 ≤ 1000000000000000) (hc0 : k0 ≤ c0) (hc1 : k1 ≤ c1) (hp : Parts W gp 2 (t2 A0 A1) (t2 k0 k1) (t2 c0 c1) (t2 f0 f1)) (hF0 : ∀ j, j < k0 → F (n0 + j) = f0 j) (hF1 : ∀ j, j < k1 → F (n0 + k0 + j) = f1 j) (hm : HM W g n0 F) (hY : By (n0 + k0 + k1) F) (ht : GT W)
    (hg : 4 ≠ g ∧ 1 ≠ g) (hgp : gp ≠ g) (hO0 : Off A0 k0 g) (hO1 : Off A1 k1 g) :
    Calls Tryz.prog 140 #[.pointer (some ⟨g, 0, none⟩), .slice (some ⟨gp, 0, none⟩) 2 cap] W (Wrote W g (n0 + k0 + k1) F) := by
  refine (write_any g n0 gp 2 cap (t2 A0 A1) (t2 k0 k1) (t2 c0 c1) (t2 f0 f1) F W (by decide) hN hp (fun i hi => ?_) (fun i hi j hj => ?_) hm hY ht hg hgp (fun i hi => ?_)).mono fun _ _ h => ⟨h.1, h.2.1, h.2.2⟩
  · rcases two_of hi with rfl | rfl
    · exact hc0
    · exact hc1
  · rcases two_of hi with rfl | rfl
    · exact hF0 j hj
    · exact hF1 j hj
  · rcases two_of hi with rfl | rfl
    · exact hO0
    · exact hO1
theorem sum3_parts (W : World) (gp cap : Nat) (A0 A1 A2 : Option Addr) (n0 n1 n2 c0 c1 c2 : Nat) (f0 f1 f2 F : Nat → Nat) (hn : n0 + n1 + n2 ≤ 100000000000000) (hc0 : n0 ≤ c0) (hc1 : n1 ≤ c1) (hc2 : n2 ≤ c2) (hp : Parts W gp 3 (q3 A0 A1 A2) (q3 n0 n1 n2) (q3 c0 c1 c2) (q3 f0 f1 f2)) (hY : By (n0 + n1 + n2) F)
    (hF0 : ∀ j, j < n0 → F j = f0 j) (hF1 : ∀ j, j < n1 → F (n0 + j) = f1 j) (hF2 : ∀ j, j < n2 → F (n0 + n1 + j) = f2 j) (ht : GT W) :
    Calls Tryz.prog 137 #[.slice (some ⟨gp, 0, none⟩) 3 cap] W (Dig W (n0 + n1 + n2) F) := by
  refine (sum_any gp 3 cap _ _ _ _ F _ (by decide) (by decide) (by show 0 + n0 + n1 + n2 ≤ _; omega) hp (fun i hi => ?_) (fun i hi j hj => ?_) (fun j hj => ?_) ht).mono fun e w' h => (Dig.of h (Below.refl _ _)).as (by show 0 + n0 + n1 + n2 = _; omega) fun _ _ => rfl
  · rcases three_of hi with rfl | rfl | rfl
    · exact hc0
    · exact hc1
    · exact hc2
  · rcases three_of hi with rfl | rfl | rfl
    · show F (0 + j) = f0 j
      rw [Nat.zero_add]; exact hF0 j hj
    · show F (0 + n0 + j) = f1 j
      rw [Nat.zero_add]; exact hF1 j hj
    · show F (0 + n0 + n1 + j) = f2 j
      rw [Nat.zero_add]; exact hF2 j hj
  · have hj : j < 0 + n0 + n1 + n2 := hj
    exact hY j (by omega)
theorem run_parts3 (w : World) (A0 : Option Addr) (n0 c0 : Nat) (A1 : Option Addr) (n1 c1 : Nat) (A2 : Option Addr) (n2 c2 : Nat) : (Instr.buildSlice 32 3 #[(0, .slice A0 n0 c0), (1, .slice A1 n1 c1), (2, .slice A2 n2 c2)]).run Tryz.prog w = .ok (.slice (some ⟨w.heap.size, 0, none⟩) 3 3) (w.alloc (.cells #[.slice A0 n0 c0, .slice A1 n1 c1, .slice A2 n2 c2] 22)) := by go_simp
end Go.Proofs.YthmlcmlpmolmoaaGreatDoor
/- The mathematics of layer 6: a tag. Contracts of package mac: a Maker in memory, its halves. -/
namespace Go.Proofs.YthmlcmlpmolmoaaGreatDoor
open Go.RowKit

/-- a key with its noughts -/
def kf (n : Nat) (key : Nat → Nat) (j : Nat) : Nat := if n ≤ 64 then (if j < n then key j else 0) else if j < 32 then sha n key j else 0
theorem kf_by {n : Nat} {key : Nat → Nat} (hk : By n key) : By 64 (kf n key) := fun j _ => by
  unfold kf
  by_cases h : n ≤ 64
  · rw [if_pos h]
    by_cases h2 : j < n
    · rw [if_pos h2]; exact hk j h2
    · rw [if_neg h2]; decide
  · rw [if_neg h]
    by_cases h2 : j < 32
    · rw [if_pos h2]; exact sha_lt _ _ _
    · rw [if_neg h2]; decide
theorem kf_congr {n : Nat} {key key' : Nat → Nat} (h : ∀ j, j < n → key j = key' j) (j : Nat) : kf n key j = kf n key' j := by
  unfold kf
  by_cases h1 : n ≤ 64
  · rw [if_pos h1, if_pos h1]
    by_cases h2 : j < n
    · rw [if_pos h2, if_pos h2]; exact h j h2
    · rw [if_neg h2, if_neg h2]
  · rw [if_neg h1, if_neg h1, sha_congr h j]
/-- one of the two halves -/
def xf (c n : Nat) (key : Nat → Nat) (j : Nat) : Nat := kf n key j ^^^ c
theorem xf_by {c n : Nat} {key : Nat → Nat} (hc : c < 256) (hk : By n key) : By 64 (xf c n key) := fun j hj => xor_lt8 (kf_by hk j hj) hc
/-- the tag -/
def tag (n : Nat) (key : Nat → Nat) (m : Nat) (b : Nat → Nat) : Nat → Nat := sha 96 (catB 64 (xf 92 n key) (sha (64 + m) (catB 64 (xf 54 n key) b)))
theorem tag_lt (n : Nat) (key : Nat → Nat) (m : Nat) (b : Nat → Nat) (j : Nat) : tag n key m b j < 256 := sha_lt _ _ _
theorem catB_congr {n m : Nat} {f f' g g' : Nat → Nat} (hf : ∀ j, j < n → f j = f' j) (hg : ∀ j, j < m → g j = g' j) (j : Nat) (hj : j < n + m) : catB n f g j = catB n f' g' j := by
  unfold catB
  by_cases h : j < n
  · rw [if_pos h, if_pos h]; exact hf j h
  · rw [if_neg h, if_neg h]; exact hg _ (by omega)
theorem tag_halves {n n' : Nat} {key key' : Nat → Nat} (h : ∀ j, j < 64 → kf n key j = kf n' key' j) {m : Nat} {b b' : Nat → Nat} (hb : ∀ j, j < m → b j = b' j) (j : Nat) : tag n key m b j = tag n' key' m b' j := by
  unfold tag
  refine sha_congr (fun i hi => catB_congr (m := 32) (fun i hi => ?_) (fun i hi => ?_) i hi) j
  · unfold xf; rw [h i hi]
  · refine sha_congr (fun i hi => catB_congr (fun i hi => ?_) hb i hi) i
    unfold xf; rw [h i hi]
theorem tag_congr {n : Nat} {key key' : Nat → Nat} (hk : ∀ j, j < n → key j = key' j) {m : Nat} {b b' : Nat → Nat} (hb : ∀ j, j < m → b j = b' j) (j : Nat) : tag n key m b j = tag n key' m b' j :=
  tag_halves (fun j _ => kf_congr hk j) hb j

/-- a Maker in block g -/
structure MakMem (w : World) (g : Nat) (d m : Int) (K X Y : Nat → Nat) : Prop where
  key : Arr w g 0 64 K
  once : OnceAt w g 64 d m
  inner : Arr w g 67 64 X
  outer : Arr w g 131 64 Y
theorem once_block {w w' : World} {g o : Nat} {d m : Int} (h : OnceAt w g o d m) (e : w'.heap[g]? = w.heap[g]?) : OnceAt w' g o d m :=
  ⟨(World.cell?_of_block e).trans h.done, (World.cell?_of_block e).trans h.lock, (World.frozen?_of_block e).trans h.fdone, (World.frozen?_of_block e).trans h.flock⟩
theorem once_off {w : World} {g o k : Nat} {d m : Int} (h : OnceAt w g o d m) (h1 : k ≠ o) (h2 : k ≠ o + 1) (v : Value) : OnceAt (w.setCell ⟨g, k, none⟩ v) g o d m :=
  ⟨(cell_off h1 v).trans h.done, (cell_off h2 v).trans h.lock, by rw [World.frozen?_setCell]; exact h.fdone, by rw [World.frozen?_setCell]; exact h.flock⟩
namespace MakMem
variable {w w' : World} {g : Nat} {d m : Int} {K X Y : Nat → Nat}
theorem lt (h : MakMem w g d m K X Y) : g < w.heap.size := h.key.lt (by decide)
theorem of_block (h : MakMem w g d m K X Y) (e : w'.heap[g]? = w.heap[g]?) : MakMem w' g d m K X Y := ⟨h.key.of_block e, once_block h.once e, h.inner.of_block e, h.outer.of_block e⟩
theorem keep (h : MakMem w g d m K X Y) (hb : Below w.heap.size w w') : MakMem w' g d m K X Y := h.of_block (hb.block g h.lt)
theorem chg {L : Nat} (h : MakMem w g d m K X Y) (hc : Chg L w w') (hL : g ≠ L) : MakMem w' g d m K X Y := h.of_block (hc.block g h.lt hL)
theorem congr {K' X' Y' : Nat → Nat} (h : MakMem w g d m K X Y) (h1 : ∀ j, j < 64 → K j = K' j) (h2 : ∀ j, j < 64 → X j = X' j) (h3 : ∀ j, j < 64 → Y j = Y' j) : MakMem w g d m K' X' Y' :=
  ⟨h.key.congr h1, h.once, h.inner.congr h2, h.outer.congr h3⟩
theorem setInner (h : MakMem w g d m K X Y) {i k : Nat} (hi : i < 64) (hk : k = 67 + i) (x : Nat) {v : Value} (hv : v = .int .u8 (x : Nat)) : MakMem (w.setCell ⟨g, k, none⟩ v) g d m K (fun j => if j = i then x else X j) Y :=
  ⟨h.key.setApart (by omega) v, once_off h.once (by omega) (by omega) v, h.inner.set hi hk x hv, h.outer.setApart (by omega) v⟩
theorem setOuter (h : MakMem w g d m K X Y) {i k : Nat} (hi : i < 64) (hk : k = 131 + i) (x : Nat) {v : Value} (hv : v = .int .u8 (x : Nat)) : MakMem (w.setCell ⟨g, k, none⟩ v) g d m K X (fun j => if j = i then x else Y j) :=
  ⟨h.key.setApart (by omega) v, once_off h.once (by omega) (by omega) v, h.inner.setApart (by omega) v, h.outer.set hi hk x hv⟩
theorem setLock (h : MakMem w g d m K X Y) (m' : Int) {v : Value} (hv : v = .int .i32 m') : MakMem (w.setCell ⟨g, 65, none⟩ v) g d m' K X Y := by
  subst hv
  exact ⟨h.key.setApart (by omega) _, ⟨(cell_off (by omega) _).trans h.once.done, World.cell?_setCell_same w ⟨g, 65, none⟩ _ h.once.lock, by rw [World.frozen?_setCell]; exact h.once.fdone, by rw [World.frozen?_setCell]; exact h.once.flock⟩, h.inner.setApart (by omega) _, h.outer.setApart (by omega) _⟩
theorem setDone (h : MakMem w g d m K X Y) (d' : Int) {v : Value} (hv : v = .int .u32 d') : MakMem (w.setCell ⟨g, 64, none⟩ v) g d' m K X Y := by
  subst hv
  exact ⟨h.key.setApart (by omega) _, ⟨World.cell?_setCell_same w ⟨g, 64, none⟩ _ h.once.done, (cell_off (by omega) _).trans h.once.lock, by rw [World.frozen?_setCell]; exact h.once.fdone, by rw [World.frozen?_setCell]; exact h.once.flock⟩, h.inner.setApart (by omega) _, h.outer.setApart (by omega) _⟩
theorem drew (h : MakMem w g d m K X Y) : MakMem w.drew g d m K X Y := h.of_block rfl
theorem drewN (h : MakMem w g d m K X Y) (k : Nat) : MakMem (w.drewN k) g d m K X Y := h.of_block rfl
theorem alloc (h : MakMem w g d m K X Y) (o : Obj) : MakMem (w.alloc o) g d m K X Y := h.keep ((Below.refl _ _).alloc (Nat.le_refl _) o)
end MakMem
abbrev MakReady (w : World) (g n : Nat) (key : Nat → Nat) : Prop := MakMem w g 1 0 (kf n key) (xf 54 n key) (xf 92 n key)
/-- a Maker that was made, asked or not -/
def MakAt (w : World) (g n : Nat) (key : Nat → Nat) : Prop := MakMem w g 0 0 (kf n key) (fun _ => 0) (fun _ => 0) ∨ MakReady w g n key
theorem MakAt.of_block {w w' : World} {g n : Nat} {key : Nat → Nat} (h : MakAt w g n key) (e : w'.heap[g]? = w.heap[g]?) : MakAt w' g n key := h.imp (·.of_block e) (·.of_block e)
theorem MakAt.lt {w : World} {g n : Nat} {key : Nat → Nat} (h : MakAt w g n key) : g < w.heap.size := h.elim (·.lt) (·.lt)
theorem MakAt.keep {w w' : World} {g n : Nat} {key : Nat → Nat} (h : MakAt w g n key) (hb : Below w.heap.size w w') : MakAt w' g n key := h.of_block (hb.block g h.lt)
theorem MakAt.chg {w w' : World} {g n K : Nat} {key : Nat → Nat} (h : MakAt w g n key) (hb : Chg K w w') (hK : g ≠ K) : MakAt w' g n key := h.of_block (hb.block g h.lt hK)

theorem sizeA64 : (Tryz.prog.info? 194).map (·.size) = some 64 := by kernel_rfl
set_option maxRecDepth 100000 in
set_option maxHeartbeats 1600000 in
theorem halves_any (g n : Nat) (key : Nat → Nat) (w : World) (hkey : By n key) (hk : MakMem w g 0 1 (kf n key) (fun _ => 0) (fun _ => 0)) :
    Calls Tryz.prog 138 #[.pointer (some ⟨g, 0, none⟩)] w fun e w' => e = .returned (.tuple #[]) ∧ (MakMem w' g 0 1 (kf n key) (xf 54 n key) (xf 92 n key) ∧ Chg g w w') := by
  have HK := Lib.hid hk
  have HY := Lib.hid (kf_by hkey)
  clear hk hkey
  go_enter Tryz.func138, Tryz.ntmps138
  go_wp2_with (refine wpList_loadB rfl 194 (.tmp 6) rfl g 0 64 rfl _ HK.out.key _ Tryz.underlying194 rfl sizeA64 ?_)
  go_loopw [8] (fun v wr => ∃ k : Nat, k ≤ 64 ∧ v = .int .i64 k ∧ MakMem wr g 0 1 (kf n key) (fun j => if j < k then xf 54 n key j else 0) (fun j => if j < k then xf 92 n key j else 0) ∧ Chg g w wr) (fun v _ => 64 - (intOf v).toNat)
  case atStart => exact ⟨0, by decide, rfl, HK.out.congr (fun _ _ => rfl) (fun j _ => (if_neg (Nat.not_lt_zero _)).symm) (fun j _ => (if_neg (Nat.not_lt_zero _)).symm), Chg.refl _ _⟩
  case round =>
    obtain ⟨k, hk, rfl, h1, h2⟩ := hrel
    have H1 := Lib.hid h1
    have H2 := Lib.hid h2
    clear h1 h2
    by_cases hlt : k < 64
    · obtain ⟨x, hx⟩ : ∃ x, kf n key k = x := ⟨_, rfl⟩
      have hxl : x < 256 := by rw [← hx]; exact HY.out k hlt
      have hix := index_arr 194 64 (kf n key) k x Tryz.underlying194 hlt hx
      have b1 : bits BinOp.xor .u8 (x : Int) 54 = ((x ^^^ 54 : Nat) : Int) := u8_xor_nat x 54 hxl (by decide)
      have b2 : bits BinOp.xor .u8 (x : Int) 92 = ((x ^^^ 92 : Nat) : Int) := u8_xor_nat x 92 hxl (by decide)
      have HX1 := Lib.hid (show xf 54 n key k = x ^^^ 54 by unfold xf; rw [hx])
      have HX2 := Lib.hid (show xf 92 n key k = x ^^^ 92 by unfold xf; rw [hx])
      clear hx
      have hc1 := H1.out.inner.cell hlt rfl
      have hf1 := H1.out.inner.frozen hlt rfl
      rw [if_neg (Nat.lt_irrefl k)] at hc1
      have HM1 := Lib.hid ((H1.out.setInner hlt (k := 67 + k) rfl (x ^^^ 54) rfl).congr (fun _ _ => rfl) (fun j _ => upto_step (fun _ => 0) (xf 54 n key) k _ HX1.out j) (fun _ _ => rfl))
      have hc2 := HM1.out.outer.cell hlt rfl
      have hf2 := HM1.out.outer.frozen hlt rfl
      rw [if_neg (Nat.lt_irrefl k)] at hc2
      have HM2 := Lib.hid ((HM1.out.setOuter hlt (k := 131 + k) rfl (x ^^^ 92) rfl).congr (fun _ _ => rfl) (fun _ _ => rfl) (fun j _ => upto_step (fun _ => 0) (xf 92 n key) k _ HX2.out j))
      have HC := Lib.hid ((H2.out.setCell (a := ⟨g, 67 + k, none⟩) (Or.inl rfl) (.int .u8 (x ^^^ 54 : Nat))).setCell (a := ⟨g, 131 + k, none⟩) (Or.inl rfl) (.int .u8 (x ^^^ 92 : Nat)))
      generalize x ^^^ 54 = y1 at *
      generalize x ^^^ 92 = y2 at *
      go_wp2_with fail
      go_roundw
      case rel => exact ⟨k + 1, by omega, by go_num, HM2.out, HC.out⟩
      case measure => simp [intOf]; omega
    · have HR := Lib.hid (H1.out.congr (K' := kf n key) (X' := xf 54 n key) (Y' := xf 92 n key) (fun _ _ => rfl) (fun j hj => if_pos (by omega)) (fun j hj => if_pos (by omega)))
      go_wp2_with fail
      go_end0
      exact ⟨rfl, HR.out, H2.out⟩
theorem once_mac (g n : Nat) (key : Nat → Nat) (w : World) (hkey : By n key) (hk : MakAt w g n key) :
    Calls Tryz.prog 78 #[.pointer (some ⟨g, 64, none⟩), .func (.func 138) #[.pointer (some ⟨g, 0, none⟩)] #[]] w fun e w' => e = .returned (.tuple #[]) ∧ MakReady w' g n key ∧ Chg g w w' := by
  rcases hk with hk | hk
  · refine (do_first_mac g 64 (.pointer (some ⟨g, 0, none⟩)) w hk.once (fun w1 => MakMem w1 g 0 1 (kf n key) (xf 54 n key) (xf 92 n key) ∧ Chg g (w.setCell ⟨g, 65, none⟩ (.int .i32 1)) w1) (halves_any g n key _ hkey (hk.setLock 1 rfl)) fun w1 h => h.1.once).mono ?_
    rintro e w' ⟨he, w1, ⟨h1, h2⟩, rfl⟩
    exact ⟨he, (h1.drew.setDone 1 rfl).setLock 0 rfl, ((((Chg.refl g w).setCell (a := ⟨g, 65, none⟩) (Or.inl rfl) _).trans h2).drew.setCell (a := ⟨g, 64, none⟩) (Or.inl rfl) _).setCell (a := ⟨g, 65, none⟩) (Or.inl rfl) _⟩
  · refine (do_done g 64 _ 0 w hk.once).mono ?_
    rintro e w' ⟨he, rfl⟩
    exact ⟨he, hk, Chg.refl _ _⟩
end Go.Proofs.YthmlcmlpmolmoaaGreatDoor
