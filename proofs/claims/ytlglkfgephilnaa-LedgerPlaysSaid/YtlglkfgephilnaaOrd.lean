/- A region that draws its order: whatever order is drawn, what each operation yields is told by a predicate of its own, which stays true as memory grows. Nothing here hangs on the program. -/
import Derived.Orders
import Derived.Below
import Derived.WalkKit
namespace Go.Proofs.Ytlglkfgephilnaa.ord
open Go Go.RowKit

/-- carried out in world w, the operation yields a value v and leaves a world w' with N v w' -/
def makes (P : Program) (o : Oper) (a : Act) (w : World) (N : Value → World → Prop) : Prop :=
  match (execOp a.eval o).run P w with
  | .ok (.value u) w' => N u w'
  | .ok (.enter f args) w' => Calls P f args w' (fun e w'' => ∃ v, e = .returned v ∧ N v w'')
  | _ => False
theorem wp_of_makes {P : Program} {o : Oper} {a : Act} {w : World} {N : Value → World → Prop} {K : Act → World → Prop} {Q : Exit → Act → World → Prop} (h : makes P o a w N)
    (hK : ∀ v w', N v w' → K (a.put o.dst v) w') : o.wp P a w K Q := by
  unfold makes at h
  unfold Oper.wp
  generalize (execOp a.eval o).run P w = r at *
  cases r with
  | ok n w' =>
    cases n <;> simp only [Oper.upon] at h ⊢
    case value u => exact hK _ _ h
    case enter f args =>
      exact h.mono fun e w'' ⟨v, he, hn⟩ => by subst he; exact hK _ _ hn
  | halt x w' => exact h.elim

theorem nodup_inj {f : Nat × Nat → Nat} : ∀ {L : List (Nat × Nat)}, (L.map f).Nodup → ∀ {p q : Nat × Nat}, p ∈ L → q ∈ L → f p = f q → p = q
  | [], _, _, _, hp, _, _ => by cases hp
  | r :: L, h, p, q, hp, hq, e => by
    rw [List.map_cons, List.nodup_cons] at h
    rcases List.mem_cons.1 hp with rfl | hp' <;> rcases List.mem_cons.1 hq with rfl | hq'
    · rfl
    · exact absurd (List.mem_map.2 ⟨q, hq', e.symm⟩) h.1
    · exact absurd (List.mem_map.2 ⟨p, hp', e⟩) h.1
    · exact nodup_inj h.2 hp' hq' e
/-- how many are not listed -/
def todo (listed : Array Bool) : Nat → Nat
  | 0 => 0
  | n + 1 => todo listed n + if listed.getD n true then 0 else 1
theorem todo_set (listed : Array Bool) (i : Nat) (hi : listed.getD i true = false) : ∀ n, todo (listed.setIfInBounds i true) n + (if i < n then 1 else 0) = todo listed n
  | 0 => rfl
  | n + 1 => by
    have ih := todo_set listed i hi n
    unfold todo
    by_cases e : i = n
    · subst e
      have hlt : i < listed.size := by
        rcases Nat.lt_or_ge i listed.size with h | h
        · exact h
        · rw [Array.getD_eq_getD_getElem?, Array.getElem?_eq_none h] at hi; cases hi
      rw [hi, show (listed.setIfInBounds i true).getD i true = true by simp]
      rw [if_neg (Nat.lt_irrefl i)] at ih
      simp; omega
    · rw [getD_set_ne true e]
      by_cases h : i < n
      · rw [if_pos h] at ih; rw [if_pos (show i < n + 1 by omega)]; omega
      · rw [if_neg h] at ih; rw [if_neg (show ¬ i < n + 1 by omega)]; omega
/-- Act.put, quick to reckon -/
def put' (a : Act) (d : Nat) (v : Value) : Act := ⟨⟨a.tmps.toList.set d v⟩, a.defers⟩
theorem put'_eq (a : Act) (d : Nat) (v : Value) : put' a d v = a.put (some d) v := by
  unfold put' Act.put
  congr 1
  apply Array.ext'
  simp
/-- the slots of the operations q with c q, put -/
def puts (x : Nat → Value) (c : Nat → Bool) : List (Nat × Nat) → Act → Act
  | [], a => a
  | q :: r, a => puts x c r (if c q.1 then put' a q.2 (x q.1) else a)
theorem puts_defers (x : Nat → Value) (c : Nat → Bool) : ∀ (L : List (Nat × Nat)) (a : Act), (puts x c L a).defers = a.defers
  | [], _ => rfl
  | q :: r, a => by
    unfold puts; rw [puts_defers x c r]; split <;> rfl
theorem puts_size (x : Nat → Value) (c : Nat → Bool) : ∀ (L : List (Nat × Nat)) (a : Act), (puts x c L a).tmps.size = a.tmps.size
  | [], _ => rfl
  | q :: r, a => by
    unfold puts; rw [puts_size x c r]; split
    · simp [put'_eq, Act.put]
    · rfl
theorem puts_not (x : Nat → Value) (c : Nat → Bool) : ∀ (L : List (Nat × Nat)) (a : Act) (s : Nat), (∀ q ∈ L, q.2 = s → c q.1 = false) → (puts x c L a).tmps[s]? = a.tmps[s]?
  | [], _, _, _ => rfl
  | q :: r, a, s, h => by
    unfold puts
    rw [puts_not x c r _ s fun q' h' => h q' (List.mem_cons_of_mem _ h')]
    split
    · rename_i hc
      have hne : q.2 ≠ s := fun e => by have := h q (List.mem_cons_self ..) e; rw [this] at hc; cases hc
      simp [put'_eq, Act.put, Array.getElem?_setIfInBounds_ne hne]
    · rfl
theorem puts_at (x : Nat → Value) (c : Nat → Bool) : ∀ (L : List (Nat × Nat)) (a : Act) (q : Nat × Nat), (L.map (·.2)).Nodup → q ∈ L → c q.1 = true → q.2 < a.tmps.size → (puts x c L a).tmps[q.2]? = some (x q.1)
  | [], _, _, _, h, _, _ => by cases h
  | p :: r, a, q, hnd, hq, hc, hs => by
    unfold puts
    rw [List.map_cons, List.nodup_cons] at hnd
    rcases List.mem_cons.1 hq with rfl | hq'
    · rw [hc, if_pos rfl, puts_not x c r _ q.2 fun q' h' e => absurd (List.mem_map.2 ⟨q', h', e⟩) hnd.1]
      simp [put'_eq, Act.put, hs]
    · refine puts_at x c r _ q hnd.2 hq' hc ?_
      split
      · simpa [put'_eq, Act.put] using hs
      · exact hs

/-- does operation o wait for operation j? -/
def waits (o : Oper) (j : Nat) : Bool := o.after.toList.any fun e => Region.binds .any e && Nat.beq e.on j
/-- D: of each operation, what it waits for and looks at -/
def dep (D : List (List Nat)) (i j : Nat) : Bool := (D.getD i []).any (Nat.beq j)
/-- L: the operations that are not listed yet, each with its slot -/
def ok (ops : Array Oper) (listed : Array Bool) (n : Nat) (D : List (List Nat)) (L : List (Nat × Nat)) : Bool :=
  (listed.size == ops.size) && ((List.range ops.size).all fun i => listed.getD i true || (L.any fun q => q.1 == i)) &&
  (decide (L.map (·.1)).Nodup && decide (L.map (·.2)).Nodup) &&
  (L.all fun p => decide (p.2 < n) && decide (p.1 < listed.size) && !listed.getD p.1 true && match ops[p.1]? with
    | none => false
    | some o => (o.after.all fun e => decide (e.on < p.1)) && (((D.getD p.1 []).all fun j => waits o j) && o.dst == some p.2) && (match o.op with | .select .. => false | _ => true) &&
      (o.looksAt ops).all fun s => L.all fun q => !(q.2 == s) || dep D p.1 q.1 || match ops[q.1]? with
        | none => false
        | some o' => waits o' p.1)

section
variable {P : Program} {ops : Array Oper} {Q : Exit → Act → World → Prop} {D : List (List Nat)} {L : List (Nat × Nat)} {G : Nat → Value → World → Prop} {a0 : Act} {w0 : World} {listed0 : Array Bool}

/-- what is asked of one operation -/
def Step (P : Program) (ops : Array Oper) (D : List (List Nat)) (L : List (Nat × Nat)) (G : Nat → Value → World → Prop) (a0 : Act) (w0 : World) (p : Nat × Nat) : Prop :=
  ∀ o, ops[p.1]? = some o → ∀ (x : Nat → Value) (w : World), Below w0.heap.size w0 w → (∀ q ∈ L, dep D p.1 q.1 = true → G q.1 (x q.1) w) →
    (Region.wanted o (yielded ops (puts x (dep D p.1) L a0).tmps) = true ∧ makes P o (puts x (dep D p.1) L a0) w (fun v w' => Below w.heap.size w w' ∧ G p.1 v w')) ∨
    (Region.wanted o (yielded ops (puts x (dep D p.1) L a0).tmps) = false ∧ G p.1 undef w)

theorem steps_nil {S : Nat × Nat → Prop} : ∀ p ∈ ([] : List (Nat × Nat)), S p := fun _ h => by cases h
theorem steps_cons {S : Nat × Nat → Prop} {q : Nat × Nat} {L : List (Nat × Nat)} (h : S q) (t : ∀ p ∈ L, S p) : ∀ p ∈ q :: L, S p := fun p hp => by
  rcases List.mem_cons.1 hp with rfl | hp
  · exact h
  · exact t p hp

structure Inv (ops : Array Oper) (L : List (Nat × Nat)) (G : Nat → Value → World → Prop) (a0 : Act) (w0 : World) (listed0 listed : Array Bool) (a : Act) (w : World) : Prop where
  grow : Below w0.heap.size w0 w
  defers : a.defers = a0.defers
  size : a.tmps.size = a0.tmps.size
  lsize : listed.size = listed0.size
  old : ∀ s, (∀ q ∈ L, q.2 = s → listed.getD q.1 false = false) → a.tmps[s]? = a0.tmps[s]?
  new : ∀ q ∈ L, listed.getD q.1 false = true → ∃ v, a.tmps[q.2]? = some v ∧ G q.1 v w
  closed : ∀ q ∈ L, listed.getD q.1 false = true → ∀ o, ops[q.1]? = some o → ∀ j, waits o j = true → listed.getD j false = true
  rest : ∀ i, i < ops.size → (∀ q ∈ L, q.1 ≠ i) → listed.getD i true = true

theorem eval_of {a b : Act} {t : Nat} (h : a.tmps[t]? = b.tmps[t]?) : a.eval (.tmp t) = b.eval (.tmp t) := by
  simp [Act.eval, Array.getD_eq_getD_getElem?, h]
theorem wanted_of {o : Oper} {a b : Act} (h : ∀ t ∈ o.looksAt ops, a.tmps[t]? = b.tmps[t]?) : Region.wanted o (yielded ops a.tmps) = Region.wanted o (yielded ops b.tmps) := by
  unfold Region.wanted
  cases hg : o.guard with
  | none => rfl
  | some gw =>
    obtain ⟨g, want⟩ := gw
    have : yielded ops a.tmps g = yielded ops b.tmps g := by
      unfold yielded
      cases ht : (ops[g]?).bind (·.dst) with
      | none => rfl
      | some t =>
        have := h t (by simp [Oper.looksAt, hg, ht])
        simp [this]
    simp only [this]
theorem exec_of {o : Oper} {a b : Act} (hs : ∀ cs b, o.op ≠ .select cs b) (h : ∀ t ∈ o.looksAt ops, a.tmps[t]? = b.tmps[t]?) : execOp a.eval o = execOp b.eval o :=
  execOp_congr o hs fun x hx => by
    cases x with
    | tmp t => exact eval_of (h t (List.mem_append_left _ (List.mem_filterMap.2 ⟨.tmp t, by simpa using hx, rfl⟩)))
    | _ => rfl
theorem waits_iff {o : Oper} {j : Nat} : waits o j = true ↔ ∃ e ∈ o.after, Region.binds .any e = true ∧ e.on = j := by
  unfold waits
  rw [List.any_eq_true]
  simp

theorem step_inv (hok : ok ops listed0 a0.tmps.size D L = true) (hst : ∀ i v w w', G i v w → Below w.heap.size w w' → G i v w') (hstep : ∀ p ∈ L, Step P ops D L G a0 w0 p)
    {listed : Array Bool} {a : Act} {w : World} (I : Inv ops L G a0 w0 listed0 listed a w) {i : Nat} (hi : i ∈ Region.ready .any ops listed) :
    wpOp P ops Q i (fun a' w' => Inv ops L G a0 w0 listed0 (listed.setIfInBounds i true) a' w') a w := by
  obtain ⟨hun, o, ho, hdeps⟩ := mem_ready.1 hi
  have hdeps' : ∀ j, waits o j = true → listed.getD j false = true := fun j hj => by
    obtain ⟨e, he, hb, rfl⟩ := waits_iff.1 hj; exact hdeps e he hb
  have hlt : i < ops.size := (Array.getElem?_eq_some_iff.1 ho).1
  obtain ⟨p, hp, rfl⟩ : ∃ p ∈ L, p.1 = i := by
    rcases Classical.em (∃ p ∈ L, p.1 = i) with h | h
    · exact h
    · have := I.rest i hlt fun q hq e => h ⟨q, hq, e⟩
      rw [this] at hun; cases hun
  unfold ok at hok
  simp only [Bool.and_eq_true, decide_eq_true_eq, List.all_eq_true] at hok
  obtain ⟨⟨⟨_, _⟩, hn1, hn2⟩, hall⟩ := hok
  have hp0 := hall p hp
  obtain ⟨⟨⟨hsz, hls⟩, _⟩, hpo⟩ := hp0
  rw [ho] at hpo
  simp only [Bool.and_eq_true, List.all_eq_true, beq_iff_eq, Bool.or_eq_true, Bool.not_eq_true', beq_eq_false_iff_ne] at hpo
  obtain ⟨⟨⟨_, hDw, hdst⟩, hsel⟩, hlooks⟩ := hpo
  have hD : ∀ j, dep D p.1 j = true → waits o j = true := fun j hj => by
    unfold dep at hj
    obtain ⟨k, hk, e⟩ := List.any_eq_true.1 hj
    have := Nat.eq_of_beq_eq_true e
    subst this
    exact hDw _ hk
  have hsel' : ∀ cs b, o.op ≠ .select cs b := fun cs b e => by rw [e] at hsel; cases hsel
  have hli : p.1 < listed.size := by rw [I.lsize]; exact hls
  have hunF : listed.getD p.1 false = false := by
    simp only [Array.getD_eq_getD_getElem?, Array.getElem?_eq_getElem hli, Option.getD_some] at hun ⊢; exact hun
  -- the values of the listed operations
  have hx : ∃ x : Nat → Value, ∀ q ∈ L, listed.getD q.1 false = true → a.tmps[q.2]? = some (x q.1) ∧ G q.1 (x q.1) w := by
    refine ⟨fun j => match L.find? (fun q => q.1 == j) with | some q => a.tmps.getD q.2 undef | none => undef, fun q hq hl => ?_⟩
    obtain ⟨v, hv, hg⟩ := I.new q hq hl
    have hf : L.find? (fun r => r.1 == q.1) = some q := by
      cases hfd : L.find? (fun r => r.1 == q.1) with
      | none => have := List.find?_eq_none.1 hfd q hq; simp at this
      | some r =>
        have h1 := List.find?_some hfd
        have h2 := List.mem_of_find?_eq_some hfd
        have e : r.1 = q.1 := by simpa using h1
        have : r = q := by
          exact nodup_inj (f := (·.1)) hn1 h2 hq e
        rw [this]
    simp only [hf, Array.getD_eq_getD_getElem?, hv, Option.getD_some]
    exact ⟨trivial, hg⟩
  obtain ⟨x, hx⟩ := hx
  have hsame : ∀ t ∈ o.looksAt ops, a.tmps[t]? = (puts x (dep D p.1) L a0).tmps[t]? := fun t ht => by
    rcases Classical.em (∃ q ∈ L, q.2 = t ∧ dep D p.1 q.1 = true) with ⟨q, hq, rfl, hw⟩ | hno
    · have hsq : q.2 < a0.tmps.size := (hall q hq).1.1.1
      rw [puts_at x (dep D p.1) L a0 q hn2 hq hw hsq]
      exact (hx q hq (hdeps' _ (hD _ hw))).1
    · rw [puts_not x (dep D p.1) L a0 t fun q hq e => by
        cases hw : dep D p.1 q.1
        · rfl
        · exact absurd ⟨q, hq, e, hw⟩ hno]
      refine I.old t fun q hq e => ?_
      rcases hlooks t ht q hq with (h | h) | h
      · exact absurd e h
      · exact absurd ⟨q, hq, e, h⟩ hno
      · cases hl : listed.getD q.1 false
        · rfl
        · cases hoq : ops[q.1]? with
          | none => rw [hoq] at h; cases h
          | some o' =>
            rw [hoq] at h
            have := I.closed q hq hl o' hoq p.1 h
            rw [hunF] at this; cases this
  have hS := hstep p hp o ho x w I.grow fun q hq hw => (hx q hq (hdeps' _ (hD _ hw))).2
  rw [← wanted_of hsame] at hS
  have keep : ∀ v w', Below w.heap.size w w' → G p.1 v w' → Inv ops L G a0 w0 listed0 (listed.setIfInBounds p.1 true) (a.put o.dst v) w' := fun v w' hb hg => by
    have hput : ∀ s, s ≠ p.2 → (a.put o.dst v).tmps[s]? = a.tmps[s]? := fun s hs => by
      rw [hdst]; simp [Act.put, Array.getElem?_setIfInBounds_ne (Ne.symm hs)]
    have hputp : (a.put o.dst v).tmps[p.2]? = some v := by
      rw [hdst]; simp [Act.put, I.size, hsz]
    have hset : ∀ j, j ≠ p.1 → (listed.setIfInBounds p.1 true).getD j false = listed.getD j false := fun j hj => getD_set_ne false (Ne.symm hj)
    have hsetp : (listed.setIfInBounds p.1 true).getD p.1 false = true := by simp [hli]
    have uniq : ∀ q ∈ L, q.2 = p.2 → q = p := fun q hq e => by
      exact nodup_inj (f := (·.2)) hn2 hq hp e
    have uniq1 : ∀ q ∈ L, q.1 = p.1 → q = p := fun q hq e => by
      exact nodup_inj (f := (·.1)) hn1 hq hp e
    refine ⟨I.grow.trans (hb.mono I.grow.size), ?_, ?_, ?_, fun s hs => ?_, fun q hq hl => ?_, fun q hq hl o' ho' j hj => ?_, fun j hj hno => ?_⟩
    · rw [hdst]; exact I.defers
    · rw [hdst]; simp [Act.put, I.size]
    · simp [I.lsize]
    · have hsp : s ≠ p.2 := fun e => by
        have := hs p hp e.symm
        rw [hsetp] at this; cases this
      rw [hput s hsp]
      refine I.old s fun q hq e => ?_
      have := hs q hq e
      have hqp : q.1 ≠ p.1 := fun e2 => hsp (by rw [← e, uniq1 q hq e2])
      rwa [hset _ hqp] at this
    · by_cases e : q.1 = p.1
      · obtain rfl := uniq1 q hq e
        exact ⟨v, hputp, hg⟩
      · rw [hset _ e] at hl
        obtain ⟨u, hu, hgu⟩ := I.new q hq hl
        have : q.2 ≠ p.2 := fun e2 => e (by rw [uniq q hq e2])
        exact ⟨u, by rw [hput _ this]; exact hu, hst _ _ _ _ hgu hb⟩
    · by_cases e : q.1 = p.1
      · obtain rfl := uniq1 q hq e
        rw [ho] at ho'
        cases ho'
        have := hdeps' j hj
        exact getD_set_true this
      · rw [hset _ e] at hl
        exact getD_set_true (I.closed q hq hl o' ho' j hj)
    · have := I.rest j hj hno
      rw [getD_set_ne true (fun e => hno p hp e)]
      exact this
  unfold wpOp
  rw [ho]
  show if Region.wanted o (yielded ops a.tmps) = true then _ else _
  rcases hS with ⟨hw, hm⟩ | ⟨hw, hg⟩
  · rw [if_pos hw]
    refine Or.inl (wp_of_makes (N := fun v w' => Below w.heap.size w w' ∧ G p.1 v w') ?_ fun v w' h => keep v w' h.1 h.2)
    unfold makes at hm ⊢
    rw [exec_of hsel' hsame]
    exact hm
  · rw [hw, if_neg (by decide)]
    exact keep _ _ (Below.refl _ _) hg

theorem done_eq (hn2 : (L.map (·.2)).Nodup) (hsz : ∀ q ∈ L, q.2 < a0.tmps.size) {listed : Array Bool} {a : Act} {w : World} (I : Inv ops L G a0 w0 listed0 listed a w) (hl : ∀ q ∈ L, listed.getD q.1 false = true) (hn1 : (L.map (·.1)).Nodup) :
    ∃ x : Nat → Value, (∀ q ∈ L, G q.1 (x q.1) w) ∧ a = puts x (fun _ => true) L a0 := by
  have hx : ∃ x : Nat → Value, ∀ q ∈ L, a.tmps[q.2]? = some (x q.1) ∧ G q.1 (x q.1) w := by
    refine ⟨fun j => match L.find? (fun q => q.1 == j) with | some q => a.tmps.getD q.2 undef | none => undef, fun q hq => ?_⟩
    obtain ⟨v, hv, hg⟩ := I.new q hq (hl q hq)
    have hf : L.find? (fun r => r.1 == q.1) = some q := by
      cases hfd : L.find? (fun r => r.1 == q.1) with
      | none => have := List.find?_eq_none.1 hfd q hq; simp at this
      | some r =>
        have h1 := List.find?_some hfd
        have h2 := List.mem_of_find?_eq_some hfd
        have e : r.1 = q.1 := by simpa using h1
        have : r = q := by
          exact nodup_inj (f := (·.1)) hn1 h2 hq e
        rw [this]
    simp only [hf, Array.getD_eq_getD_getElem?, hv, Option.getD_some]
    exact ⟨trivial, hg⟩
  obtain ⟨x, hx⟩ := hx
  refine ⟨x, fun q hq => (hx q hq).2, ?_⟩
  have ht : a.tmps = (puts x (fun _ => true) L a0).tmps := by
    apply Array.ext_getElem?
    intro s
    rcases Classical.em (∃ q ∈ L, q.2 = s) with ⟨q, hq, rfl⟩ | hno
    · rw [puts_at x _ L a0 q hn2 hq rfl (hsz q hq), (hx q hq).1]
    · rw [puts_not x _ L a0 s fun q hq e => absurd ⟨q, hq, e⟩ hno]
      exact I.old s fun q hq e => absurd ⟨q, hq, e⟩ hno
  have hd : a.defers = (puts x (fun _ => true) L a0).defers := by rw [puts_defers, I.defers]
  cases a
  simp only at ht hd
  rw [ht, hd]

theorem wpAny_inv (hok : ok ops listed0 a0.tmps.size D L = true) (hst : ∀ i v w w', G i v w → Below w.heap.size w w' → G i v w') (hstep : ∀ p ∈ L, Step P ops D L G a0 w0 p)
    (hdone : ∀ (listed : Array Bool) (a : Act) (w : World), Inv ops L G a0 w0 listed0 listed a w → Region.ready .any ops listed = [] → Q .normal a w) :
    ∀ (fuel : Nat) (listed : Array Bool) (a : Act) (w : World), todo listed ops.size ≤ fuel → Inv ops L G a0 w0 listed0 listed a w → wpAny P .any ops Q fuel listed a w
  | 0, listed, a, w, hf, I => by
    have h0 : Region.ready .any ops listed = [] := by
      cases hr : Region.ready .any ops listed with
      | nil => rfl
      | cons i r =>
        have hi : i ∈ Region.ready .any ops listed := by rw [hr]; exact List.mem_cons_self ..
        obtain ⟨hun, o, ho, _⟩ := mem_ready.1 hi
        have hlt : i < ops.size := (Array.getElem?_eq_some_iff.1 ho).1
        have := todo_set listed i hun ops.size
        rw [if_pos hlt] at this
        omega
    exact ⟨h0, hdone _ _ _ I h0⟩
  | fuel + 1, listed, a, w, hf, I => by
    refine ⟨fun h0 => hdone _ _ _ I h0, fun i hi => ?_⟩
    refine wpOp_mono (fun a' w' I' => wpAny_inv hok hst hstep hdone fuel _ a' w' ?_ I') (step_inv hok hst hstep I hi)
    obtain ⟨hun, o, ho, _⟩ := mem_ready.1 hi
    have hlt : i < ops.size := (Array.getElem?_eq_some_iff.1 ho).1
    have := todo_set listed i hun ops.size
    rw [if_pos hlt] at this
    omega

/-- none is ready only where all are listed -/
theorem all_listed {n : Nat} (hok : ok ops listed0 n D L = true) {listed : Array Bool} (hs : listed.size = listed0.size) (hrest : ∀ i, i < ops.size → (∀ q ∈ L, q.1 ≠ i) → listed.getD i true = true) (h0 : Region.ready .any ops listed = []) :
    ∀ q ∈ L, listed.getD q.1 false = true := by
  unfold ok at hok
  simp only [Bool.and_eq_true, decide_eq_true_eq, List.all_eq_true, beq_iff_eq] at hok
  obtain ⟨⟨⟨hsz, _⟩, _, _⟩, hall⟩ := hok
  have key : ∀ k, ∀ q ∈ L, q.1 = k → listed.getD q.1 false = true := by
    intro k
    induction k using Nat.strongRecOn with
    | _ k ih =>
      intro q hq hk
      have hq0 := hall q hq
      obtain ⟨⟨⟨_, hls⟩, _⟩, hpo⟩ := hq0
      have hli : q.1 < listed.size := by rw [hs]; exact hls
      cases ho : ops[q.1]? with
      | none => rw [ho] at hpo; cases hpo
      | some o =>
        rw [ho] at hpo
        simp only [Bool.and_eq_true] at hpo
        have hlow := hpo.1.1.1
        rw [Array.all_eq_true_iff_forall_mem] at hlow
        cases hl : listed.getD q.1 true
        · exfalso
          have : q.1 ∈ Region.ready .any ops listed := mem_ready.2 ⟨hl, o, ho, fun e he _ => by
            have hlt : e.on < q.1 := by simpa using hlow e he
            rcases Classical.em (∃ r ∈ L, r.1 = e.on) with ⟨r, hr, hre⟩ | hno
            · rw [← hre]; exact ih r.1 (by omega) r hr rfl
            · have h1 := hrest e.on (by rw [← hsz]; omega) fun r hr e2 => hno ⟨r, hr, e2⟩
              have hli2 : e.on < listed.size := by omega
              simp only [Array.getD_eq_getD_getElem?, Array.getElem?_eq_getElem hli2, Option.getD_some] at h1 ⊢
              exact h1⟩
          rw [h0] at this; cases this
        · simp only [Array.getD_eq_getD_getElem?, Array.getElem?_eq_getElem hli, Option.getD_some] at hl ⊢
          exact hl
  exact fun q hq => key q.1 q hq rfl

/-- the region's rest, from a state on -/
theorem wpAny_ord {fuel : Nat} (D : List (List Nat)) (L : List (Nat × Nat)) (G : Nat → Value → World → Prop) (hok : ok ops listed0 a0.tmps.size D L = true) (hfuel : Nat.ble (todo listed0 ops.size) fuel = true)
    (hst : ∀ i v w w', G i v w → Below w.heap.size w w' → G i v w') (hstep : ∀ p ∈ L, Step P ops D L G a0 w0 p)
    (hdone : ∀ (x : Nat → Value) (w : World), Below w0.heap.size w0 w → (∀ q ∈ L, G q.1 (x q.1) w) → Q .normal (puts x (fun _ => true) L a0) w) :
    wpAny P .any ops Q fuel listed0 a0 w0 := by
  have hok' := hok
  unfold ok at hok'
  simp only [Bool.and_eq_true, decide_eq_true_eq, List.all_eq_true] at hok'
  obtain ⟨⟨⟨_, h1⟩, hn1, hn2⟩, hall⟩ := hok'
  have hF : ∀ q ∈ L, listed0.getD q.1 false = false := fun q hq => by
    obtain ⟨⟨_, hls⟩, hu⟩ := (hall q hq).1
    simp only [Bool.not_eq_true', Array.getD_eq_getD_getElem?, Array.getElem?_eq_getElem hls, Option.getD_some] at hu ⊢
    exact hu
  refine wpAny_inv (L := L) (G := G) (w0 := w0) hok hst hstep (fun listed a w I h0 => ?_) fuel _ _ _ (Nat.le_of_ble_eq_true hfuel) ⟨Below.refl _ _, rfl, rfl, rfl, fun _ _ => rfl, fun q hq hl => ?_, fun q hq hl => ?_, fun i hi hno => ?_⟩
  · obtain ⟨x, hx, rfl⟩ := done_eq hn2 (fun q hq => (hall q hq).1.1.1) I (all_listed hok I.lsize I.rest h0) hn1
    exact hdone x w I.grow hx
  · rw [hF q hq] at hl; cases hl
  · rw [hF q hq] at hl; cases hl
  · have := h1 i (List.mem_range.2 hi)
    rw [Bool.or_eq_true] at this
    rcases this with h | h
    · exact h
    · obtain ⟨q, hq, e⟩ := List.any_eq_true.1 h
      exact absurd (by simpa using e) (hno q hq)
end
end Go.Proofs.Ytlglkfgephilnaa.ord
