/- 17 texts in one, in their order: what the cards need of them. -/
import Derived.Test.YthmlcmlpmolmoaaGreatDoorSk5
import Derived.Orders
import Derived.Below
import Derived.WalkKit
import Derived.StillTail
import Derived.WalkSpells
namespace Go.Proofs.YthmlcmlpmolmoaaGreatDoor.ord
open Go Go.RowKit
def makes (P : Program) (o : Oper) (a : Act) (w : World) (N : Value → World → Prop) : Prop :=
  match (execOp a.eval o).run P w with
  | .ok (.value u) w' => N u w'
  | .ok (.enter f args) w' => Calls P f args w' (fun e w'' => ∃ v, e = .returned v ∧ N v w'')
  | _ => False
theorem wp_of_makes {P : Program} {o : Oper} {a : Act} {w : World} {N : Value → World → Prop} {K : Act → World → Prop} {Q : Exit → Act → World → Prop} (h : makes P o a w N)
    (hK : ∀ v w', N v w' → K (a.put o.dst v) w') : o.wp P a w K Q := by
  unfold makes at h
  unfold Oper.wp
  generalize (execOp a.eval o).run P w = r at *
  cases r with
  | ok n w' =>
    cases n <;> simp only [Oper.upon] at h ⊢
    case value u => exact hK _ _ h
    case enter f args =>
      exact h.mono fun e w'' ⟨v, he, hn⟩ => by subst he; exact hK _ _ hn
  | halt x w' => exact h.elim
theorem nodup_inj {f : Nat × Nat → Nat} : ∀ {L : List (Nat × Nat)}, (L.map f).Nodup → ∀ {p q : Nat × Nat}, p ∈ L → q ∈ L → f p = f q → p = q
  | [], _, _, _, hp, _, _ => by cases hp
  | r :: L, h, p, q, hp, hq, e => by
    rw [List.map_cons, List.nodup_cons] at h
    rcases List.mem_cons.1 hp with rfl | hp' <;> rcases List.mem_cons.1 hq with rfl | hq'
    · rfl
    · exact absurd (List.mem_map.2 ⟨q, hq', e.symm⟩) h.1
    · exact absurd (List.mem_map.2 ⟨p, hp', e⟩) h.1
    · exact nodup_inj h.2 hp' hq' e
def todo (listed : Array Bool) : Nat → Nat
  | 0 => 0
  | n + 1 => todo listed n + if listed.getD n true then 0 else 1
theorem todo_set (listed : Array Bool) (i : Nat) (hi : listed.getD i true = false) : ∀ n, todo (listed.setIfInBounds i true) n + (if i < n then 1 else 0) = todo listed n
  | 0 => rfl
  | n + 1 => by
    have ih := todo_set listed i hi n
    unfold todo
    by_cases e : i = n
    · subst e
      have hlt : i < listed.size := by
        rcases Nat.lt_or_ge i listed.size with h | h
        · exact h
        · rw [Array.getD_eq_getD_getElem?, Array.getElem?_eq_none h] at hi; cases hi
      rw [hi, show (listed.setIfInBounds i true).getD i true = true by simp]
      rw [if_neg (Nat.lt_irrefl i)] at ih
      simp; omega
    · rw [getD_set_ne true e]
      by_cases h : i < n
      · rw [if_pos h] at ih; rw [if_pos (show i < n + 1 by omega)]; omega
      · rw [if_neg h] at ih; rw [if_neg (show ¬ i < n + 1 by omega)]; omega
def put' (a : Act) (d : Nat) (v : Value) : Act := ⟨⟨a.tmps.toList.set d v⟩, a.defers⟩
theorem put'_eq (a : Act) (d : Nat) (v : Value) : put' a d v = a.put (some d) v := by
  unfold put' Act.put
  congr 1
  apply Array.ext'
  simp
def puts (x : Nat → Value) (c : Nat → Bool) : List (Nat × Nat) → Act → Act
  | [], a => a
  | q :: r, a => puts x c r (if c q.1 then put' a q.2 (x q.1) else a)
theorem puts_defers (x : Nat → Value) (c : Nat → Bool) : ∀ (L : List (Nat × Nat)) (a : Act), (puts x c L a).defers = a.defers
  | [], _ => rfl
  | q :: r, a => by
    unfold puts; rw [puts_defers x c r]; split <;> rfl
theorem puts_size (x : Nat → Value) (c : Nat → Bool) : ∀ (L : List (Nat × Nat)) (a : Act), (puts x c L a).tmps.size = a.tmps.size
  | [], _ => rfl
  | q :: r, a => by
    unfold puts; rw [puts_size x c r]; split
    · simp [put'_eq, Act.put]
    · rfl
theorem puts_not (x : Nat → Value) (c : Nat → Bool) : ∀ (L : List (Nat × Nat)) (a : Act) (s : Nat), (∀ q ∈ L, q.2 = s → c q.1 = false) → (puts x c L a).tmps[s]? = a.tmps[s]?
  | [], _, _, _ => rfl
  | q :: r, a, s, h => by
    unfold puts
    rw [puts_not x c r _ s fun q' h' => h q' (List.mem_cons_of_mem _ h')]
    split
    · rename_i hc
      have hne : q.2 ≠ s := fun e => by have := h q (List.mem_cons_self ..) e; rw [this] at hc; cases hc
      simp [put'_eq, Act.put, Array.getElem?_setIfInBounds_ne hne]
    · rfl
theorem puts_at (x : Nat → Value) (c : Nat → Bool) : ∀ (L : List (Nat × Nat)) (a : Act) (q : Nat × Nat), (L.map (·.2)).Nodup → q ∈ L → c q.1 = true → q.2 < a.tmps.size → (puts x c L a).tmps[q.2]? = some (x q.1)
  | [], _, _, _, h, _, _ => by cases h
  | p :: r, a, q, hnd, hq, hc, hs => by
    unfold puts
    rw [List.map_cons, List.nodup_cons] at hnd
    rcases List.mem_cons.1 hq with rfl | hq'
    · rw [hc, if_pos rfl, puts_not x c r _ q.2 fun q' h' e => absurd (List.mem_map.2 ⟨q', h', e⟩) hnd.1]
      simp [put'_eq, Act.put, hs]
    · refine puts_at x c r _ q hnd.2 hq' hc ?_
      split
      · simpa [put'_eq, Act.put] using hs
      · exact hs
def waits (o : Oper) (j : Nat) : Bool := o.after.toList.any fun e => Region.binds .any e && Nat.beq e.on j
def dep (D : List (List Nat)) (i j : Nat) : Bool := (D.getD i []).any (Nat.beq j)
def ok (ops : Array Oper) (listed : Array Bool) (n : Nat) (D : List (List Nat)) (L : List (Nat × Nat)) : Bool :=
  (listed.size == ops.size) && ((List.range ops.size).all fun i => listed.getD i true || (L.any fun q => q.1 == i)) &&
  (decide (L.map (·.1)).Nodup && decide (L.map (·.2)).Nodup) &&
  (L.all fun p => decide (p.2 < n) && decide (p.1 < listed.size) && !listed.getD p.1 true && match ops[p.1]? with
    | none => false
    | some o => (o.after.all fun e => decide (e.on < p.1)) && (((D.getD p.1 []).all fun j => waits o j) && o.dst == some p.2) && (match o.op with | .select .. => false | _ => true) &&
      (o.looksAt ops).all fun s => L.all fun q => !(q.2 == s) || dep D p.1 q.1 || match ops[q.1]? with
        | none => false
        | some o' => waits o' p.1)
section
variable {P : Program} {ops : Array Oper} {Q : Exit → Act → World → Prop} {D : List (List Nat)} {L : List (Nat × Nat)} {G : Nat → Value → World → Prop} {a0 : Act} {w0 : World} {listed0 : Array Bool}
def Step (P : Program) (ops : Array Oper) (D : List (List Nat)) (L : List (Nat × Nat)) (G : Nat → Value → World → Prop) (a0 : Act) (w0 : World) (p : Nat × Nat) : Prop :=
  ∀ o, ops[p.1]? = some o → ∀ (x : Nat → Value) (w : World), Below w0.heap.size w0 w → (∀ q ∈ L, dep D p.1 q.1 = true → G q.1 (x q.1) w) →
    (Region.wanted o (yielded ops (puts x (dep D p.1) L a0).tmps) = true ∧ makes P o (puts x (dep D p.1) L a0) w (fun v w' => Below w.heap.size w w' ∧ G p.1 v w')) ∨
    (Region.wanted o (yielded ops (puts x (dep D p.1) L a0).tmps) = false ∧ G p.1 undef w)
theorem steps_nil {S : Nat × Nat → Prop} : ∀ p ∈ ([] : List (Nat × Nat)), S p := fun _ h => by cases h
theorem steps_cons {S : Nat × Nat → Prop} {q : Nat × Nat} {L : List (Nat × Nat)} (h : S q) (t : ∀ p ∈ L, S p) : ∀ p ∈ q :: L, S p := fun p hp => by
  rcases List.mem_cons.1 hp with rfl | hp
  · exact h
  · exact t p hp
structure Inv (ops : Array Oper) (L : List (Nat × Nat)) (G : Nat → Value → World → Prop) (a0 : Act) (w0 : World) (listed0 listed : Array Bool) (a : Act) (w : World) : Prop where
  grow : Below w0.heap.size w0 w
  defers : a.defers = a0.defers
  size : a.tmps.size = a0.tmps.size
  lsize : listed.size = listed0.size
  old : ∀ s, (∀ q ∈ L, q.2 = s → listed.getD q.1 false = false) → a.tmps[s]? = a0.tmps[s]?
  new : ∀ q ∈ L, listed.getD q.1 false = true → ∃ v, a.tmps[q.2]? = some v ∧ G q.1 v w
  closed : ∀ q ∈ L, listed.getD q.1 false = true → ∀ o, ops[q.1]? = some o → ∀ j, waits o j = true → listed.getD j false = true
  rest : ∀ i, i < ops.size → (∀ q ∈ L, q.1 ≠ i) → listed.getD i true = true
theorem eval_of {a b : Act} {t : Nat} (h : a.tmps[t]? = b.tmps[t]?) : a.eval (.tmp t) = b.eval (.tmp t) := by
  simp [Act.eval, Array.getD_eq_getD_getElem?, h]
theorem wanted_of {o : Oper} {a b : Act} (h : ∀ t ∈ o.looksAt ops, a.tmps[t]? = b.tmps[t]?) : Region.wanted o (yielded ops a.tmps) = Region.wanted o (yielded ops b.tmps) := by
  unfold Region.wanted
  cases hg : o.guard with
  | none => rfl
  | some gw =>
    obtain ⟨g, want⟩ := gw
    have : yielded ops a.tmps g = yielded ops b.tmps g := by
      unfold yielded
      cases ht : (ops[g]?).bind (·.dst) with
      | none => rfl
      | some t =>
        have := h t (by simp [Oper.looksAt, hg, ht])
        simp [this]
    simp only [this]
theorem exec_of {o : Oper} {a b : Act} (hs : ∀ cs b, o.op ≠ .select cs b) (h : ∀ t ∈ o.looksAt ops, a.tmps[t]? = b.tmps[t]?) : execOp a.eval o = execOp b.eval o :=
  execOp_congr o hs fun x hx => by
    cases x with
    | tmp t => exact eval_of (h t (List.mem_append_left _ (List.mem_filterMap.2 ⟨.tmp t, by simpa using hx, rfl⟩)))
    | _ => rfl
theorem waits_iff {o : Oper} {j : Nat} : waits o j = true ↔ ∃ e ∈ o.after, Region.binds .any e = true ∧ e.on = j := by
  unfold waits
  rw [List.any_eq_true]
  simp
theorem step_inv (hok : ok ops listed0 a0.tmps.size D L = true) (hst : ∀ i v w w', G i v w → Below w.heap.size w w' → G i v w') (hstep : ∀ p ∈ L, Step P ops D L G a0 w0 p)
    {listed : Array Bool} {a : Act} {w : World} (I : Inv ops L G a0 w0 listed0 listed a w) {i : Nat} (hi : i ∈ Region.ready .any ops listed) :
    wpOp P ops Q i (fun a' w' => Inv ops L G a0 w0 listed0 (listed.setIfInBounds i true) a' w') a w := by
  obtain ⟨hun, o, ho, hdeps⟩ := mem_ready.1 hi
  have hdeps' : ∀ j, waits o j = true → listed.getD j false = true := fun j hj => by
    obtain ⟨e, he, hb, rfl⟩ := waits_iff.1 hj; exact hdeps e he hb
  have hlt : i < ops.size := (Array.getElem?_eq_some_iff.1 ho).1
  obtain ⟨p, hp, rfl⟩ : ∃ p ∈ L, p.1 = i := by
    rcases Classical.em (∃ p ∈ L, p.1 = i) with h | h
    · exact h
    · have := I.rest i hlt fun q hq e => h ⟨q, hq, e⟩
      rw [this] at hun; cases hun
  unfold ok at hok
  simp only [Bool.and_eq_true, decide_eq_true_eq, List.all_eq_true] at hok
  obtain ⟨⟨⟨_, _⟩, hn1, hn2⟩, hall⟩ := hok
  have hp0 := hall p hp
  obtain ⟨⟨⟨hsz, hls⟩, _⟩, hpo⟩ := hp0
  rw [ho] at hpo
  simp only [Bool.and_eq_true, List.all_eq_true, beq_iff_eq, Bool.or_eq_true, Bool.not_eq_true', beq_eq_false_iff_ne] at hpo
  obtain ⟨⟨⟨_, hDw, hdst⟩, hsel⟩, hlooks⟩ := hpo
  have hD : ∀ j, dep D p.1 j = true → waits o j = true := fun j hj => by
    unfold dep at hj
    obtain ⟨k, hk, e⟩ := List.any_eq_true.1 hj
    have := Nat.eq_of_beq_eq_true e
    subst this
    exact hDw _ hk
  have hsel' : ∀ cs b, o.op ≠ .select cs b := fun cs b e => by rw [e] at hsel; cases hsel
  have hli : p.1 < listed.size := by rw [I.lsize]; exact hls
  have hunF : listed.getD p.1 false = false := by
    simp only [Array.getD_eq_getD_getElem?, Array.getElem?_eq_getElem hli, Option.getD_some] at hun ⊢; exact hun
  have hx : ∃ x : Nat → Value, ∀ q ∈ L, listed.getD q.1 false = true → a.tmps[q.2]? = some (x q.1) ∧ G q.1 (x q.1) w := by
    refine ⟨fun j => match L.find? (fun q => q.1 == j) with | some q => a.tmps.getD q.2 undef | none => undef, fun q hq hl => ?_⟩
    obtain ⟨v, hv, hg⟩ := I.new q hq hl
    have hf : L.find? (fun r => r.1 == q.1) = some q := by
      cases hfd : L.find? (fun r => r.1 == q.1) with
      | none => have := List.find?_eq_none.1 hfd q hq; simp at this
      | some r =>
        have h1 := List.find?_some hfd
        have h2 := List.mem_of_find?_eq_some hfd
        have e : r.1 = q.1 := by simpa using h1
        have : r = q := by
          exact nodup_inj (f := (·.1)) hn1 h2 hq e
        rw [this]
    simp only [hf, Array.getD_eq_getD_getElem?, hv, Option.getD_some]
    exact ⟨trivial, hg⟩
  obtain ⟨x, hx⟩ := hx
  have hsame : ∀ t ∈ o.looksAt ops, a.tmps[t]? = (puts x (dep D p.1) L a0).tmps[t]? := fun t ht => by
    rcases Classical.em (∃ q ∈ L, q.2 = t ∧ dep D p.1 q.1 = true) with ⟨q, hq, rfl, hw⟩ | hno
    · have hsq : q.2 < a0.tmps.size := (hall q hq).1.1.1
      rw [puts_at x (dep D p.1) L a0 q hn2 hq hw hsq]
      exact (hx q hq (hdeps' _ (hD _ hw))).1
    · rw [puts_not x (dep D p.1) L a0 t fun q hq e => by
        cases hw : dep D p.1 q.1
        · rfl
        · exact absurd ⟨q, hq, e, hw⟩ hno]
      refine I.old t fun q hq e => ?_
      rcases hlooks t ht q hq with (h | h) | h
      · exact absurd e h
      · exact absurd ⟨q, hq, e, h⟩ hno
      · cases hl : listed.getD q.1 false
        · rfl
        · cases hoq : ops[q.1]? with
          | none => rw [hoq] at h; cases h
          | some o' =>
            rw [hoq] at h
            have := I.closed q hq hl o' hoq p.1 h
            rw [hunF] at this; cases this
  have hS := hstep p hp o ho x w I.grow fun q hq hw => (hx q hq (hdeps' _ (hD _ hw))).2
  rw [← wanted_of hsame] at hS
  have keep : ∀ v w', Below w.heap.size w w' → G p.1 v w' → Inv ops L G a0 w0 listed0 (listed.setIfInBounds p.1 true) (a.put o.dst v) w' := fun v w' hb hg => by
    have hput : ∀ s, s ≠ p.2 → (a.put o.dst v).tmps[s]? = a.tmps[s]? := fun s hs => by
      rw [hdst]; simp [Act.put, Array.getElem?_setIfInBounds_ne (Ne.symm hs)]
    have hputp : (a.put o.dst v).tmps[p.2]? = some v := by
      rw [hdst]; simp [Act.put, I.size, hsz]
    have hset : ∀ j, j ≠ p.1 → (listed.setIfInBounds p.1 true).getD j false = listed.getD j false := fun j hj => getD_set_ne false (Ne.symm hj)
    have hsetp : (listed.setIfInBounds p.1 true).getD p.1 false = true := by simp [hli]
    have uniq : ∀ q ∈ L, q.2 = p.2 → q = p := fun q hq e => by
      exact nodup_inj (f := (·.2)) hn2 hq hp e
    have uniq1 : ∀ q ∈ L, q.1 = p.1 → q = p := fun q hq e => by
      exact nodup_inj (f := (·.1)) hn1 hq hp e
    refine ⟨I.grow.trans (hb.mono I.grow.size), ?_, ?_, ?_, fun s hs => ?_, fun q hq hl => ?_, fun q hq hl o' ho' j hj => ?_, fun j hj hno => ?_⟩
    · rw [hdst]; exact I.defers
    · rw [hdst]; simp [Act.put, I.size]
    · simp [I.lsize]
    · have hsp : s ≠ p.2 := fun e => by
        have := hs p hp e.symm
        rw [hsetp] at this; cases this
      rw [hput s hsp]
      refine I.old s fun q hq e => ?_
      have := hs q hq e
      have hqp : q.1 ≠ p.1 := fun e2 => hsp (by rw [← e, uniq1 q hq e2])
      rwa [hset _ hqp] at this
    · by_cases e : q.1 = p.1
      · obtain rfl := uniq1 q hq e
        exact ⟨v, hputp, hg⟩
      · rw [hset _ e] at hl
        obtain ⟨u, hu, hgu⟩ := I.new q hq hl
        have : q.2 ≠ p.2 := fun e2 => e (by rw [uniq q hq e2])
        exact ⟨u, by rw [hput _ this]; exact hu, hst _ _ _ _ hgu hb⟩
    · by_cases e : q.1 = p.1
      · obtain rfl := uniq1 q hq e
        rw [ho] at ho'
        cases ho'
        have := hdeps' j hj
        exact getD_set_true this
      · rw [hset _ e] at hl
        exact getD_set_true (I.closed q hq hl o' ho' j hj)
    · have := I.rest j hj hno
      rw [getD_set_ne true (fun e => hno p hp e)]
      exact this
  unfold wpOp
  rw [ho]
  show if Region.wanted o (yielded ops a.tmps) = true then _ else _
  rcases hS with ⟨hw, hm⟩ | ⟨hw, hg⟩
  · rw [if_pos hw]
    refine Or.inl (wp_of_makes (N := fun v w' => Below w.heap.size w w' ∧ G p.1 v w') ?_ fun v w' h => keep v w' h.1 h.2)
    unfold makes at hm ⊢
    rw [exec_of hsel' hsame]
    exact hm
  · rw [hw, if_neg (by decide)]
    exact keep _ _ (Below.refl _ _) hg
theorem done_eq (hn2 : (L.map (·.2)).Nodup) (hsz : ∀ q ∈ L, q.2 < a0.tmps.size) {listed : Array Bool} {a : Act} {w : World} (I : Inv ops L G a0 w0 listed0 listed a w) (hl : ∀ q ∈ L, listed.getD q.1 false = true) (hn1 : (L.map (·.1)).Nodup) :
    ∃ x : Nat → Value, (∀ q ∈ L, G q.1 (x q.1) w) ∧ a = puts x (fun _ => true) L a0 := by
  have hx : ∃ x : Nat → Value, ∀ q ∈ L, a.tmps[q.2]? = some (x q.1) ∧ G q.1 (x q.1) w := by
    refine ⟨fun j => match L.find? (fun q => q.1 == j) with | some q => a.tmps.getD q.2 undef | none => undef, fun q hq => ?_⟩
    obtain ⟨v, hv, hg⟩ := I.new q hq (hl q hq)
    have hf : L.find? (fun r => r.1 == q.1) = some q := by
      cases hfd : L.find? (fun r => r.1 == q.1) with
      | none => have := List.find?_eq_none.1 hfd q hq; simp at this
      | some r =>
        have h1 := List.find?_some hfd
        have h2 := List.mem_of_find?_eq_some hfd
        have e : r.1 = q.1 := by simpa using h1
        have : r = q := by
          exact nodup_inj (f := (·.1)) hn1 h2 hq e
        rw [this]
    simp only [hf, Array.getD_eq_getD_getElem?, hv, Option.getD_some]
    exact ⟨trivial, hg⟩
  obtain ⟨x, hx⟩ := hx
  refine ⟨x, fun q hq => (hx q hq).2, ?_⟩
  have ht : a.tmps = (puts x (fun _ => true) L a0).tmps := by
    apply Array.ext_getElem?
    intro s
    rcases Classical.em (∃ q ∈ L, q.2 = s) with ⟨q, hq, rfl⟩ | hno
    · rw [puts_at x _ L a0 q hn2 hq rfl (hsz q hq), (hx q hq).1]
    · rw [puts_not x _ L a0 s fun q hq e => absurd ⟨q, hq, e⟩ hno]
      exact I.old s fun q hq e => absurd ⟨q, hq, e⟩ hno
  have hd : a.defers = (puts x (fun _ => true) L a0).defers := by rw [puts_defers, I.defers]
  cases a
  simp only at ht hd
  rw [ht, hd]
theorem wpAny_inv (hok : ok ops listed0 a0.tmps.size D L = true) (hst : ∀ i v w w', G i v w → Below w.heap.size w w' → G i v w') (hstep : ∀ p ∈ L, Step P ops D L G a0 w0 p)
    (hdone : ∀ (listed : Array Bool) (a : Act) (w : World), Inv ops L G a0 w0 listed0 listed a w → Region.ready .any ops listed = [] → Q .normal a w) :
    ∀ (fuel : Nat) (listed : Array Bool) (a : Act) (w : World), todo listed ops.size ≤ fuel → Inv ops L G a0 w0 listed0 listed a w → wpAny P .any ops Q fuel listed a w
  | 0, listed, a, w, hf, I => by
    have h0 : Region.ready .any ops listed = [] := by
      cases hr : Region.ready .any ops listed with
      | nil => rfl
      | cons i r =>
        have hi : i ∈ Region.ready .any ops listed := by rw [hr]; exact List.mem_cons_self ..
        obtain ⟨hun, o, ho, _⟩ := mem_ready.1 hi
        have hlt : i < ops.size := (Array.getElem?_eq_some_iff.1 ho).1
        have := todo_set listed i hun ops.size
        rw [if_pos hlt] at this
        omega
    exact ⟨h0, hdone _ _ _ I h0⟩
  | fuel + 1, listed, a, w, hf, I => by
    refine ⟨fun h0 => hdone _ _ _ I h0, fun i hi => ?_⟩
    refine wpOp_mono (fun a' w' I' => wpAny_inv hok hst hstep hdone fuel _ a' w' ?_ I') (step_inv hok hst hstep I hi)
    obtain ⟨hun, o, ho, _⟩ := mem_ready.1 hi
    have hlt : i < ops.size := (Array.getElem?_eq_some_iff.1 ho).1
    have := todo_set listed i hun ops.size
    rw [if_pos hlt] at this
    omega
theorem all_listed {n : Nat} (hok : ok ops listed0 n D L = true) {listed : Array Bool} (hs : listed.size = listed0.size) (hrest : ∀ i, i < ops.size → (∀ q ∈ L, q.1 ≠ i) → listed.getD i true = true) (h0 : Region.ready .any ops listed = []) :
    ∀ q ∈ L, listed.getD q.1 false = true := by
  unfold ok at hok
  simp only [Bool.and_eq_true, decide_eq_true_eq, List.all_eq_true, beq_iff_eq] at hok
  obtain ⟨⟨⟨hsz, _⟩, _, _⟩, hall⟩ := hok
  have key : ∀ k, ∀ q ∈ L, q.1 = k → listed.getD q.1 false = true := by
    intro k
    induction k using Nat.strongRecOn with
    | _ k ih =>
      intro q hq hk
      have hq0 := hall q hq
      obtain ⟨⟨⟨_, hls⟩, _⟩, hpo⟩ := hq0
      have hli : q.1 < listed.size := by rw [hs]; exact hls
      cases ho : ops[q.1]? with
      | none => rw [ho] at hpo; cases hpo
      | some o =>
        rw [ho] at hpo
        simp only [Bool.and_eq_true] at hpo
        have hlow := hpo.1.1.1
        rw [Array.all_eq_true_iff_forall_mem] at hlow
        cases hl : listed.getD q.1 true
        · exfalso
          have : q.1 ∈ Region.ready .any ops listed := mem_ready.2 ⟨hl, o, ho, fun e he _ => by
            have hlt : e.on < q.1 := by simpa using hlow e he
            rcases Classical.em (∃ r ∈ L, r.1 = e.on) with ⟨r, hr, hre⟩ | hno
            · rw [← hre]; exact ih r.1 (by omega) r hr rfl
            · have h1 := hrest e.on (by rw [← hsz]; omega) fun r hr e2 => hno ⟨r, hr, e2⟩
              have hli2 : e.on < listed.size := by omega
              simp only [Array.getD_eq_getD_getElem?, Array.getElem?_eq_getElem hli2, Option.getD_some] at h1 ⊢
              exact h1⟩
          rw [h0] at this; cases this
        · simp only [Array.getD_eq_getD_getElem?, Array.getElem?_eq_getElem hli, Option.getD_some] at hl ⊢
          exact hl
  exact fun q hq => key q.1 q hq rfl
theorem wpAny_ord {fuel : Nat} (D : List (List Nat)) (L : List (Nat × Nat)) (G : Nat → Value → World → Prop) (hok : ok ops listed0 a0.tmps.size D L = true) (hfuel : Nat.ble (todo listed0 ops.size) fuel = true)
    (hst : ∀ i v w w', G i v w → Below w.heap.size w w' → G i v w') (hstep : ∀ p ∈ L, Step P ops D L G a0 w0 p)
    (hdone : ∀ (x : Nat → Value) (w : World), Below w0.heap.size w0 w → (∀ q ∈ L, G q.1 (x q.1) w) → Q .normal (puts x (fun _ => true) L a0) w) :
    wpAny P .any ops Q fuel listed0 a0 w0 := by
  have hok' := hok
  unfold ok at hok'
  simp only [Bool.and_eq_true, decide_eq_true_eq, List.all_eq_true] at hok'
  obtain ⟨⟨⟨_, h1⟩, hn1, hn2⟩, hall⟩ := hok'
  have hF : ∀ q ∈ L, listed0.getD q.1 false = false := fun q hq => by
    obtain ⟨⟨_, hls⟩, hu⟩ := (hall q hq).1
    simp only [Bool.not_eq_true', Array.getD_eq_getD_getElem?, Array.getElem?_eq_getElem hls, Option.getD_some] at hu ⊢
    exact hu
  refine wpAny_inv (L := L) (G := G) (w0 := w0) hok hst hstep (fun listed a w I h0 => ?_) fuel _ _ _ (Nat.le_of_ble_eq_true hfuel) ⟨Below.refl _ _, rfl, rfl, rfl, fun _ _ => rfl, fun q hq hl => ?_, fun q hq hl => ?_, fun i hi hno => ?_⟩
  · obtain ⟨x, hx, rfl⟩ := done_eq hn2 (fun q hq => (hall q hq).1.1.1) I (all_listed hok I.lsize I.rest h0) hn1
    exact hdone x w I.grow hx
  · rw [hF q hq] at hl; cases hl
  · rw [hF q hq] at hl; cases hl
  · have := h1 i (List.mem_range.2 hi)
    rw [Bool.or_eq_true] at this
    rcases this with h | h
    · exact h
    · obtain ⟨q, hq, e⟩ := List.any_eq_true.1 h
      exact absurd (by simpa using e) (hno q hq)
end
end Go.Proofs.YthmlcmlpmolmoaaGreatDoor.ord
namespace Go.Proofs.YthmlcmlpmolmoaaGreatDoor.ord
open Go Go.RowKit
def okT (N : Nat) (ops : Array Oper) (listed : Array Bool) (n : Nat) (D : List (List Nat)) (L : List (Nat × Nat)) : Bool :=
  (listed.size == ops.size) && ((List.range N).all fun i => L.any fun q => q.1 == i) &&
  (decide (L.map (·.1)).Nodup && decide (L.map (·.2)).Nodup) &&
  (L.all fun p => decide (p.1 < N) && (decide (p.2 < n) && decide (p.1 < listed.size) && !listed.getD p.1 true && match ops[p.1]? with
    | none => false
    | some o => (o.after.all fun e => decide (e.on < p.1)) && (((D.getD p.1 []).all fun j => waits o j) && o.dst == some p.2) && (match o.op with | .select .. => false | _ => true) &&
      (o.looksAt ops).all fun s => L.all fun q => !(q.2 == s) || dep D p.1 q.1 || match ops[q.1]? with
        | none => false
        | some o' => waits o' p.1))
section
variable {P : Program} {ops : Array Oper} {Q : Exit → Act → World → Prop} {D : List (List Nat)} {L : List (Nat × Nat)} {G : Nat → Value → World → Prop} {a0 : Act} {w0 : World} {listed0 : Array Bool}
structure InvT (N : Nat) (ops : Array Oper) (L : List (Nat × Nat)) (G : Nat → Value → World → Prop) (a0 : Act) (w0 : World) (listed0 listed : Array Bool) (a : Act) (w : World) : Prop where
  grow : Below w0.heap.size w0 w
  defers : a.defers = a0.defers
  size : a.tmps.size = a0.tmps.size
  lsize : listed.size = listed0.size
  old : ∀ s, (∀ q ∈ L, q.2 = s → listed.getD q.1 false = false) → a.tmps[s]? = a0.tmps[s]?
  new : ∀ q ∈ L, listed.getD q.1 false = true → ∃ v, a.tmps[q.2]? = some v ∧ G q.1 v w
  closed : ∀ q ∈ L, listed.getD q.1 false = true → ∀ o, ops[q.1]? = some o → ∀ j, waits o j = true → listed.getD j false = true
  tail : ∀ t, N ≤ t → t < ops.size → listed.getD t true = false
theorem step_invT {N : Nat} (hok : okT N ops listed0 a0.tmps.size D L = true) (hst : ∀ i v w w', G i v w → Below w.heap.size w w' → G i v w') (hstep : ∀ p ∈ L, Step P ops D L G a0 w0 p)
    {listed : Array Bool} {a : Act} {w : World} (I : InvT N ops L G a0 w0 listed0 listed a w) {i : Nat} (hi : i ∈ Region.ready .any ops listed) (hiN : i < N) :
    wpOp P ops Q i (fun a' w' => InvT N ops L G a0 w0 listed0 (listed.setIfInBounds i true) a' w') a w := by
  obtain ⟨hun, o, ho, hdeps⟩ := mem_ready.1 hi
  have hdeps' : ∀ j, waits o j = true → listed.getD j false = true := fun j hj => by
    obtain ⟨e, he, hb, rfl⟩ := waits_iff.1 hj; exact hdeps e he hb
  unfold okT at hok
  simp only [Bool.and_eq_true, decide_eq_true_eq, List.all_eq_true] at hok
  obtain ⟨p, hp, rfl⟩ : ∃ p ∈ L, p.1 = i := by
    obtain ⟨q, hq, e⟩ := List.any_eq_true.1 (hok.1.1.2 i (List.mem_range.2 hiN))
    exact ⟨q, hq, by simpa using e⟩
  obtain ⟨⟨⟨_, _⟩, hn1, hn2⟩, hall⟩ := hok
  have hp0 := hall p hp
  obtain ⟨hpN, ⟨⟨hsz, hls⟩, _⟩, hpo⟩ := hp0
  rw [ho] at hpo
  simp only [Bool.and_eq_true, List.all_eq_true, beq_iff_eq, Bool.or_eq_true, Bool.not_eq_true', beq_eq_false_iff_ne] at hpo
  obtain ⟨⟨⟨_, hDw, hdst⟩, hsel⟩, hlooks⟩ := hpo
  have hD : ∀ j, dep D p.1 j = true → waits o j = true := fun j hj => by
    unfold dep at hj
    obtain ⟨k, hk, e⟩ := List.any_eq_true.1 hj
    have := Nat.eq_of_beq_eq_true e
    subst this
    exact hDw _ hk
  have hsel' : ∀ cs b, o.op ≠ .select cs b := fun cs b e => by rw [e] at hsel; cases hsel
  have hli : p.1 < listed.size := by rw [I.lsize]; exact hls
  have hunF : listed.getD p.1 false = false := by
    simp only [Array.getD_eq_getD_getElem?, Array.getElem?_eq_getElem hli, Option.getD_some] at hun ⊢; exact hun
  have hx : ∃ x : Nat → Value, ∀ q ∈ L, listed.getD q.1 false = true → a.tmps[q.2]? = some (x q.1) ∧ G q.1 (x q.1) w := by
    refine ⟨fun j => match L.find? (fun q => q.1 == j) with | some q => a.tmps.getD q.2 undef | none => undef, fun q hq hl => ?_⟩
    obtain ⟨v, hv, hg⟩ := I.new q hq hl
    have hf : L.find? (fun r => r.1 == q.1) = some q := by
      cases hfd : L.find? (fun r => r.1 == q.1) with
      | none => have := List.find?_eq_none.1 hfd q hq; simp at this
      | some r =>
        have h1 := List.find?_some hfd
        have h2 := List.mem_of_find?_eq_some hfd
        have e : r.1 = q.1 := by simpa using h1
        have : r = q := by
          exact nodup_inj (f := (·.1)) hn1 h2 hq e
        rw [this]
    simp only [hf, Array.getD_eq_getD_getElem?, hv, Option.getD_some]
    exact ⟨trivial, hg⟩
  obtain ⟨x, hx⟩ := hx
  have hsame : ∀ t ∈ o.looksAt ops, a.tmps[t]? = (puts x (dep D p.1) L a0).tmps[t]? := fun t ht => by
    rcases Classical.em (∃ q ∈ L, q.2 = t ∧ dep D p.1 q.1 = true) with ⟨q, hq, rfl, hw⟩ | hno
    · have hsq : q.2 < a0.tmps.size := (hall q hq).2.1.1.1
      rw [puts_at x (dep D p.1) L a0 q hn2 hq hw hsq]
      exact (hx q hq (hdeps' _ (hD _ hw))).1
    · rw [puts_not x (dep D p.1) L a0 t fun q hq e => by
        cases hw : dep D p.1 q.1
        · rfl
        · exact absurd ⟨q, hq, e, hw⟩ hno]
      refine I.old t fun q hq e => ?_
      rcases hlooks t ht q hq with (h | h) | h
      · exact absurd e h
      · exact absurd ⟨q, hq, e, h⟩ hno
      · cases hl : listed.getD q.1 false
        · rfl
        · cases hoq : ops[q.1]? with
          | none => rw [hoq] at h; cases h
          | some o' =>
            rw [hoq] at h
            have := I.closed q hq hl o' hoq p.1 h
            rw [hunF] at this; cases this
  have hS := hstep p hp o ho x w I.grow fun q hq hw => (hx q hq (hdeps' _ (hD _ hw))).2
  rw [← wanted_of hsame] at hS
  have keep : ∀ v w', Below w.heap.size w w' → G p.1 v w' → InvT N ops L G a0 w0 listed0 (listed.setIfInBounds p.1 true) (a.put o.dst v) w' := fun v w' hb hg => by
    have hput : ∀ s, s ≠ p.2 → (a.put o.dst v).tmps[s]? = a.tmps[s]? := fun s hs => by
      rw [hdst]; simp [Act.put, Array.getElem?_setIfInBounds_ne (Ne.symm hs)]
    have hputp : (a.put o.dst v).tmps[p.2]? = some v := by
      rw [hdst]; simp [Act.put, I.size, hsz]
    have hset : ∀ j, j ≠ p.1 → (listed.setIfInBounds p.1 true).getD j false = listed.getD j false := fun j hj => getD_set_ne false (Ne.symm hj)
    have hsetp : (listed.setIfInBounds p.1 true).getD p.1 false = true := by simp [hli]
    have uniq : ∀ q ∈ L, q.2 = p.2 → q = p := fun q hq e => by
      exact nodup_inj (f := (·.2)) hn2 hq hp e
    have uniq1 : ∀ q ∈ L, q.1 = p.1 → q = p := fun q hq e => by
      exact nodup_inj (f := (·.1)) hn1 hq hp e
    refine ⟨I.grow.trans (hb.mono I.grow.size), ?_, ?_, ?_, fun s hs => ?_, fun q hq hl => ?_, fun q hq hl o' ho' j hj => ?_, fun s hs ht => ?_⟩
    · rw [hdst]; exact I.defers
    · rw [hdst]; simp [Act.put, I.size]
    · simp [I.lsize]
    · have hsp : s ≠ p.2 := fun e => by
        have := hs p hp e.symm
        rw [hsetp] at this; cases this
      rw [hput s hsp]
      refine I.old s fun q hq e => ?_
      have := hs q hq e
      have hqp : q.1 ≠ p.1 := fun e2 => hsp (by rw [← e, uniq1 q hq e2])
      rwa [hset _ hqp] at this
    · by_cases e : q.1 = p.1
      · obtain rfl := uniq1 q hq e
        exact ⟨v, hputp, hg⟩
      · rw [hset _ e] at hl
        obtain ⟨u, hu, hgu⟩ := I.new q hq hl
        have : q.2 ≠ p.2 := fun e2 => e (by rw [uniq q hq e2])
        exact ⟨u, by rw [hput _ this]; exact hu, hst _ _ _ _ hgu hb⟩
    · by_cases e : q.1 = p.1
      · obtain rfl := uniq1 q hq e
        rw [ho] at ho'
        cases ho'
        have := hdeps' j hj
        exact getD_set_true this
      · rw [hset _ e] at hl
        exact getD_set_true (I.closed q hq hl o' ho' j hj)
    · rw [getD_set_ne true (show p.1 ≠ s by omega)]
      exact I.tail s hs ht
  unfold wpOp
  rw [ho]
  show if Region.wanted o (yielded ops a.tmps) = true then _ else _
  rcases hS with ⟨hw, hm⟩ | ⟨hw, hg⟩
  · rw [if_pos hw]
    refine Or.inl (wp_of_makes (N := fun v w' => Below w.heap.size w w' ∧ G p.1 v w') ?_ fun v w' h => keep v w' h.1 h.2)
    unfold makes at hm ⊢
    rw [exec_of hsel' hsame]
    exact hm
  · rw [hw, if_neg (by decide)]
    exact keep _ _ (Below.refl _ _) hg
theorem done_eqT {N : Nat} (hn2 : (L.map (·.2)).Nodup) (hsz : ∀ q ∈ L, q.2 < a0.tmps.size) {listed : Array Bool} {a : Act} {w : World} (I : InvT N ops L G a0 w0 listed0 listed a w) (hl : ∀ q ∈ L, listed.getD q.1 false = true) (hn1 : (L.map (·.1)).Nodup) :
    ∃ x : Nat → Value, (∀ q ∈ L, G q.1 (x q.1) w) ∧ a = puts x (fun _ => true) L a0 := by
  have hx : ∃ x : Nat → Value, ∀ q ∈ L, a.tmps[q.2]? = some (x q.1) ∧ G q.1 (x q.1) w := by
    refine ⟨fun j => match L.find? (fun q => q.1 == j) with | some q => a.tmps.getD q.2 undef | none => undef, fun q hq => ?_⟩
    obtain ⟨v, hv, hg⟩ := I.new q hq (hl q hq)
    have hf : L.find? (fun r => r.1 == q.1) = some q := by
      cases hfd : L.find? (fun r => r.1 == q.1) with
      | none => have := List.find?_eq_none.1 hfd q hq; simp at this
      | some r =>
        have h1 := List.find?_some hfd
        have h2 := List.mem_of_find?_eq_some hfd
        have e : r.1 = q.1 := by simpa using h1
        have : r = q := by
          exact nodup_inj (f := (·.1)) hn1 h2 hq e
        rw [this]
    simp only [hf, Array.getD_eq_getD_getElem?, hv, Option.getD_some]
    exact ⟨trivial, hg⟩
  obtain ⟨x, hx⟩ := hx
  refine ⟨x, fun q hq => (hx q hq).2, ?_⟩
  have ht : a.tmps = (puts x (fun _ => true) L a0).tmps := by
    apply Array.ext_getElem?
    intro s
    rcases Classical.em (∃ q ∈ L, q.2 = s) with ⟨q, hq, rfl⟩ | hno
    · rw [puts_at x _ L a0 q hn2 hq rfl (hsz q hq), (hx q hq).1]
    · rw [puts_not x _ L a0 s fun q hq e => absurd ⟨q, hq, e⟩ hno]
      exact I.old s fun q hq e => absurd ⟨q, hq, e⟩ hno
  have hd : a.defers = (puts x (fun _ => true) L a0).defers := by rw [puts_defers, I.defers]
  cases a
  simp only at ht hd
  rw [ht, hd]
theorem all_listedT {N n : Nat} (hok : okT N ops listed0 n D L = true) {listed : Array Bool} (hs : listed.size = listed0.size) (h0 : Region.ready .any ops listed = []) :
    ∀ q ∈ L, listed.getD q.1 false = true := by
  unfold okT at hok
  simp only [Bool.and_eq_true, decide_eq_true_eq, List.all_eq_true, beq_iff_eq] at hok
  obtain ⟨⟨⟨_, hany⟩, _, _⟩, hall⟩ := hok
  have key : ∀ k, ∀ q ∈ L, q.1 = k → listed.getD q.1 false = true := by
    intro k
    induction k using Nat.strongRecOn with
    | _ k ih =>
      intro q hq hk
      have hq0 := hall q hq
      obtain ⟨hqN, ⟨⟨_, hls⟩, _⟩, hpo⟩ := hq0
      have hli : q.1 < listed.size := by rw [hs]; exact hls
      cases ho : ops[q.1]? with
      | none => rw [ho] at hpo; cases hpo
      | some o =>
        rw [ho] at hpo
        simp only [Bool.and_eq_true] at hpo
        have hlow := hpo.1.1.1
        rw [Array.all_eq_true_iff_forall_mem] at hlow
        cases hl : listed.getD q.1 true
        · exfalso
          have : q.1 ∈ Region.ready .any ops listed := mem_ready.2 ⟨hl, o, ho, fun e he _ => by
            have hlt : e.on < q.1 := by simpa using hlow e he
            obtain ⟨r, hr, er⟩ := List.any_eq_true.1 (hany e.on (List.mem_range.2 (by omega)))
            have hre : r.1 = e.on := by simpa using er
            rw [← hre]; exact ih r.1 (by omega) r hr rfl⟩
          rw [h0] at this; cases this
        · simp only [Array.getD_eq_getD_getElem?, Array.getElem?_eq_getElem hli, Option.getD_some] at hl ⊢
          exact hl
  exact fun q hq => key q.1 q hq rfl
theorem head_of {N : Nat} {listed : Array Bool} {a : Act} {w : World} (hls : listed0.size = ops.size) (hany : ∀ i, i < N → ∃ q ∈ L, q.1 = i) (I : InvT N ops L G a0 w0 listed0 listed a w) : HeadInv .any ops N listed := by
  refine ⟨by rw [I.lsize, hls], fun j oj hj hl e he hb => ?_, I.tail⟩
  have hlt : j < ops.size := (Array.getElem?_eq_some_iff.1 hj).1
  rcases Nat.lt_or_ge j N with h | h
  · obtain ⟨q, hq, rfl⟩ := hany j h
    exact I.closed q hq hl oj hj e.on (waits_iff.2 ⟨e, he, hb, rfl⟩)
  · have h1 := I.tail j h hlt
    have hs : listed.size = ops.size := by rw [I.lsize, hls]
    have hlt2 : j < listed.size := by omega
    simp only [Array.getD_eq_getD_getElem?, Array.getElem?_eq_getElem hlt2, Option.getD_some] at h1 hl
    rw [h1] at hl; cases hl
theorem todo_zero (listed : Array Bool) : ∀ n, todo listed n = 0 → ∀ i, i < n → listed.getD i true = true
  | 0, _, i, hi => absurd hi (Nat.not_lt_zero i)
  | n + 1, h, i, hi => by
    unfold todo at h
    by_cases e : listed.getD n true = true
    · rcases Nat.lt_or_ge i n with h1 | h1
      · exact todo_zero listed n (by omega) i h1
      · obtain rfl : i = n := by omega
        exact e
    · rw [if_neg e] at h; omega
theorem todo_pos (listed : Array Bool) (n : Nat) (h : 0 < todo listed n) : ∃ i, i < n ∧ listed.getD i true = false := by
  induction n with
  | zero => exact absurd h (Nat.lt_irrefl 0)
  | succ n ih =>
    unfold todo at h
    by_cases e : listed.getD n true = true
    · rw [if_pos e] at h
      obtain ⟨i, hi, h1⟩ := ih (by omega)
      exact ⟨i, by omega, h1⟩
    · exact ⟨n, Nat.lt_succ_self n, by simpa using e⟩
theorem wpAny_T {N g : Nat} (hok : okT N ops listed0 a0.tmps.size D L = true) (hN : N < ops.size) (hs : Region.sinkB .any ops N = true) (hc : Region.chainB .any ops N = true)
    (hst : ∀ i v w w', G i v w → Below w.heap.size w w' → G i v w') (hstep : ∀ p ∈ L, Step P ops D L G a0 w0 p)
    (hdone : ∀ (listed : Array Bool) (a : Act) (w : World), InvT N ops L G a0 w0 listed0 listed a w → (∀ i, i < N → listed.getD i true = true) → wpAny P .any ops Q g listed a w) :
    ∀ (m : Nat) (listed : Array Bool) (a : Act) (w : World), todo listed N = m → InvT N ops L G a0 w0 listed0 listed a w → wpAny P .any ops Q (m + g) listed a w
  | 0, listed, a, w, hm, I => by
    rw [Nat.zero_add]
    exact hdone _ _ _ I (todo_zero listed N hm)
  | m + 1, listed, a, w, hm, I => by
    have hok' := hok
    unfold okT at hok'
    simp only [Bool.and_eq_true, decide_eq_true_eq, List.all_eq_true, beq_iff_eq] at hok'
    obtain ⟨⟨⟨hls, hany⟩, _, _⟩, _⟩ := hok'
    have hany' : ∀ i, i < N → ∃ q ∈ L, q.1 = i := fun i hi => by
      obtain ⟨q, hq, e⟩ := List.any_eq_true.1 (hany i (List.mem_range.2 hi))
      exact ⟨q, hq, by simpa using e⟩
    have HI := head_of hls hany' I
    obtain ⟨i0, hi0, hu0⟩ := todo_pos listed N (by omega)
    rw [show m + 1 + g = (m + g) + 1 by omega]
    refine ⟨fun h0 => ?_, fun i hi => ?_⟩
    · exfalso
      obtain ⟨q, hq, rfl⟩ := hany' i0 hi0
      have := all_listedT hok I.lsize h0 q hq
      have hlt : q.1 < listed.size := by rw [I.lsize, hls]; omega
      simp only [Array.getD_eq_getD_getElem?, Array.getElem?_eq_getElem hlt, Option.getD_some] at this hu0
      rw [this] at hu0; cases hu0
    · have hiN : i < N := by
        rcases Nat.lt_or_ge i N with h | h
        · exact h
        · exact absurd hi (tail_waits hs hc hN HI _ i0 rfl hi0 hu0 i h)
      refine wpOp_mono (fun a' w' I' => wpAny_T hok hN hs hc hst hstep hdone m _ a' w' ?_ I') (step_invT hok hst hstep I hi hiN)
      have := todo_set listed i (mem_ready.1 hi).1 N
      rw [if_pos hiN] at this
      omega
theorem todo_none (n : Nat) : ∀ m, m ≤ n → todo (Array.replicate n false) m = m
  | 0, _ => rfl
  | m + 1, h => by
    unfold todo
    rw [todo_none n m (by omega), if_neg]
    simp [show m < n by omega]
end
theorem wp_region_ordT {P : Program} {l : List Oper} {Q : Exit → Act → World → Prop} {a0 : Act} {w : World} {id : Nat} (N : Nat) (D : List (List Nat)) (L : List (Nat × Nat)) (G : Nat → Value → World → Prop) (hm : P.follows .mixedOrders = true)
    (hok : okT N l.toArray (Array.replicate l.toArray.size false) a0.tmps.size D L = true) (hB : (decide (N < l.toArray.size) && Region.sinkB .any l.toArray N && Region.chainB .any l.toArray N && Region.seqB .any l.toArray (l.toArray.size - N) N (Array.replicate N true ++ Array.replicate (l.toArray.size - N) false)) = true)
    (hst : ∀ i v w w', G i v w → Below w.heap.size w w' → G i v w') (hstep : ∀ p ∈ L, Step P l.toArray D L G a0 w.drew p)
    (hdone : ∀ (x : Nat → Value) (w' : World), Below w.heap.size w w' → (∀ q ∈ L, G q.1 (x q.1) w') → wpList P l.toArray Q (l.drop N) (puts x (fun _ => true) L a0) w') :
    (Code.region id l.toArray true).wp P Q a0 w := by
  simp only [Bool.and_eq_true, decide_eq_true_eq] at hB
  obtain ⟨⟨⟨hN, hs⟩, hc⟩, hseq⟩ := hB
  have hok' := hok
  unfold okT at hok'
  simp only [Bool.and_eq_true, decide_eq_true_eq, List.all_eq_true, beq_iff_eq] at hok'
  obtain ⟨⟨_, hn1, hn2⟩, hall⟩ := hok'
  refine wp_region_any hm ?_
  have hF : ∀ i, (Array.replicate l.toArray.size false).getD i false = false := fun i => getD_replicate_false _ _
  have key := wpAny_T (P := P) (Q := Q) (w0 := w.drew) (g := l.toArray.size - N) hok hN hs hc hst hstep (fun listed a w1 I hl => by
    have hall' : ∀ q ∈ L, listed.getD q.1 false = true := fun q hq => by
      have h1 := hl q.1 (hall q hq).1
      have hlt : q.1 < listed.size := by rw [I.lsize]; simp; have := (hall q hq).1; simp at hN; omega
      simp only [Array.getD_eq_getD_getElem?, Array.getElem?_eq_getElem hlt, Option.getD_some] at h1 ⊢
      exact h1
    obtain ⟨x, hx, rfl⟩ := done_eqT hn2 (fun q hq => (hall q hq).2.1.1.1) I hall' hn1
    have hls : listed.size = l.toArray.size := by rw [I.lsize]; simp
    have hle : listed = Array.replicate N true ++ Array.replicate (l.toArray.size - N) false := by
      apply Array.ext
      · simp at hls hN ⊢; omega
      · intro i h1 h2
        rcases Nat.lt_or_ge i N with h | h
        · have h3 := hl i h
          simp only [Array.getD_eq_getD_getElem?, Array.getElem?_eq_getElem h1, Option.getD_some] at h3
          rw [h3, Array.getElem_append_left (by simpa using h)]; simp
        · have h3 := I.tail i h (by omega)
          simp only [Array.getD_eq_getD_getElem?, Array.getElem?_eq_getElem h1, Option.getD_some] at h3
          rw [h3, Array.getElem_append_right (by simpa using h)]; simp
    have hdl : (l.drop N).length = l.toArray.size - N := by simp
    have := wpAny_of_seq (P := P) (md := .any) (Q' := Q) (ops := l.toArray) (l.drop N) N listed (puts x (fun _ => true) L a0) w1 (fun j => by simp [List.getElem?_drop]) (by rw [hdl, hle]; exact hseq) (hdone x w1 ⟨I.grow.os, I.grow.tape, I.grow.output, I.grow.size, I.grow.block⟩ hx)
    rwa [hdl] at this) N (Array.replicate l.toArray.size false) a0 w.drew (todo_none _ _ (Nat.le_of_lt hN)) ⟨Below.refl _ _, rfl, rfl, rfl, fun _ _ => rfl, (fun q hq hl => absurd hl (by rw [hF]; decide)), (fun q hq hl => absurd hl (by rw [hF]; decide)), (fun t _ ht => getD_in (by simpa using ht) (hF t))⟩
  rw [show N + (l.toArray.size - N) = l.toArray.size by omega] at key
  exact key
end Go.Proofs.YthmlcmlpmolmoaaGreatDoor.ord
namespace Go.Proofs.YthmlcmlpmolmoaaGreatDoor.ord
open Go Go.RowKit
def behind (ops : Array Oper) : Nat → Nat → Nat → Bool
  | 0, _, _ => false
  | n + 1, q, p => match ops[q]? with
    | none => false
    | some o => o.after.toList.any fun e => Region.binds .any e && (Nat.beq e.on p || behind ops n e.on p)
theorem behind_listed {ops : Array Oper} {listed : Array Bool} (hc : ∀ j oj, ops[j]? = some oj → listed.getD j false = true → ∀ e ∈ oj.after, Region.binds .any e = true → listed.getD e.on false = true) : ∀ (n q p : Nat), behind ops n q p = true → listed.getD q false = true → listed.getD p false = true
  | 0, _, _, h, _ => by cases h
  | n + 1, q, p, h, hq => by
    unfold behind at h
    cases ho : ops[q]? with
    | none => rw [ho] at h; cases h
    | some o =>
      rw [ho] at h
      obtain ⟨e, he, h1⟩ := List.any_eq_true.1 h
      simp only [Bool.and_eq_true, Bool.or_eq_true] at h1
      have h2 := hc q o ho hq e (by simpa using he) h1.1
      rcases h1.2 with h3 | h3
      · rw [Nat.eq_of_beq_eq_true h3] at h2; exact h2
      · exact behind_listed hc n e.on p h3 h2
section
variable {P : Program} {ops : Array Oper} {Q : Exit → Act → World → Prop} {D : List (List Nat)} {L : List (Nat × Nat)} {G : Nat → Value → World → Prop} {a0 : Act} {w0 : World} {listed0 : Array Bool} {mu st : Nat → Bool}
def StepM (P : Program) (ops : Array Oper) (D : List (List Nat)) (L : List (Nat × Nat)) (G : Nat → Value → World → Prop) (mu : Nat → Bool) (a0 : Act) (w0 : World) (p : Nat × Nat) : Prop :=
  ∀ o, ops[p.1]? = some o → ∀ (x : Nat → Value) (w : World), Below w0.heap.size w0 w → (∀ q ∈ L, dep D p.1 q.1 = true → G q.1 (x q.1) w) →
    (Region.wanted o (yielded ops (puts x (dep D p.1) L a0).tmps) = true ∧ makes P o (puts x (dep D p.1) L a0) w (fun v w' => Below (if mu p.1 then w0.heap.size else w.heap.size) w w' ∧ G p.1 v w')) ∨
    (Region.wanted o (yielded ops (puts x (dep D p.1) L a0).tmps) = false ∧ G p.1 undef w)
end
end Go.Proofs.YthmlcmlpmolmoaaGreatDoor.ord
namespace Go.Proofs.YthmlcmlpmolmoaaGreatDoor.ord
open Go Go.RowKit
section
variable {P : Program} {ops : Array Oper} {o : Oper} {a : Act} {w : World} {N : Value → World → Prop}
theorem want0 (h : o.guard = none) : Region.wanted o (yielded ops a.tmps) = true := by unfold Region.wanted; rw [h]
theorem makes_move {s : Operand} (ho : o.op = .move s) (hN : N (a.eval s) w) : makes P o a w N := by
  unfold makes; simp [execOp, ho]; exact hN
theorem makes_assign {s : Operand} (ho : o.op = .assign s) (hN : N (a.eval s) w) : makes P o a w N := by
  unfold makes; simp [execOp, ho]; exact hN
theorem makes_bin {op : BinOp} {t t' : TypeId} {x y : Operand} {vx vy u : Value} (ho : o.op = .binOp op t x y t') (hx : a.eval x = vx) (hy : a.eval y = vy)
    (hrun : (do eqGuard op t x y vx vy; binOp op t vx vy : Sem Value).run P w = .ok u w) (hN : N u w) : makes P o a w N := by
  unfold makes
  have : (execOp a.eval o).run P w = .ok (.value u) w := by
    show ((execOp a.eval o).run P w) = _
    simp only [execOp, ho, hx, hy, Sem.run_bind] at hrun ⊢
    rw [hrun]; rfl
  rw [this]; exact hN
theorem makes_conv {src dst : TypeId} {x : Operand} {vx u : Value} {w' : World} (ho : o.op = .convert src dst x) (hx : a.eval x = vx) (hrun : (convert src dst vx).run P w = .ok u w') (hN : N u w') : makes P o a w N := by
  unfold makes
  have : (execOp a.eval o).run P w = .ok (.value u) w' := by
    simp only [execOp, ho, hx, Sem.run_bind]
    rw [hrun]; rfl
  rw [this]; exact hN
theorem makes_slice {t : TypeId} {x : Operand} {lo hi mx : Option Operand} {vx u : Value} {vl vh vm : Option Value} (ho : o.op = .slice t x lo hi mx) (hx : a.eval x = vx) (hl : lo.map a.eval = vl) (hh : hi.map a.eval = vh) (hm : mx.map a.eval = vm)
    (hrun : (Instr.sliceAt t vx vl vh vm).run P w = .ok u w) (hN : N u w) : makes P o a w N := by
  unfold makes
  have : (execOp a.eval o).run P w = .ok (.value u) w := by
    simp only [execOp, ho, hx, hl, hh, hm, Sem.run_bind]
    rw [hrun]; rfl
  rw [this]; exact hN
theorem makes_build {t : TypeId} {len : Nat} {parts : Array (Nat × Operand)} {vs : Array (Nat × Value)} {u : Value} {w' : World} (ho : o.op = .buildSlice t len parts) (hp : (parts.map fun (i, x) => (i, a.eval x)) = vs)
    (hrun : (Instr.buildSlice t len vs).run P w = .ok u w') (hN : N u w') : makes P o a w N := by
  unfold makes
  have : (execOp a.eval o).run P w = .ok (.value u) w' := by
    simp only [execOp, ho, hp, Sem.run_bind]
    rw [hrun]; rfl
  rw [this]; exact hN
theorem makes_call {F : FuncId} {fn : Func} {args : Array Operand} {ts : Array TypeId} {vs : Array Value} {post : Ending → World → Prop} (hf : P.funcs[F]? = some fn) (hname : (fn.name == "runtime.NumGoroutine") = false) (hb : fn.body.isNone = false)
    (ho : o.op = .call { callee := .value (.func F), args := args, argTypes := ts }) (hp : args.map a.eval = vs)
    (hc : Calls P F vs w post) (hN : ∀ e w', post e w' → ∃ v, e = .returned v ∧ N v w') : makes P o a w N := by
  unfold makes
  have : (execOp a.eval o).run P w = .ok (.enter F vs) w := by
    have hname' : ¬ fn.name = "runtime.NumGoroutine" := by simpa using hname
    have hb' : ¬ fn.body = none := by intro h; rw [h] at hb; cases hb
    simp [execOp, ho, resolve, invoke, hp, Act.eval, Deferred.ofValue, callFunc, hf, hname', hb']
  rw [this]
  exact hc.mono hN
theorem makes_build1 {t : TypeId} {len i1 : Nat} {o1 : Operand} {v1 u : Value} {w' : World} (ho : o.op = .buildSlice t len #[(i1, o1)]) (h1 : a.eval o1 = v1)
    (hrun : (Instr.buildSlice t len #[(i1, v1)]).run P w = .ok u w') (hN : N u w') : makes P o a w N := makes_build ho (by simp [h1]) hrun hN
theorem makes_build2 {t : TypeId} {len i1 i2 : Nat} {o1 o2 : Operand} {v1 v2 u : Value} {w' : World} (ho : o.op = .buildSlice t len #[(i1, o1), (i2, o2)]) (h1 : a.eval o1 = v1) (h2 : a.eval o2 = v2)
    (hrun : (Instr.buildSlice t len #[(i1, v1), (i2, v2)]).run P w = .ok u w') (hN : N u w') : makes P o a w N := makes_build ho (by simp [h1, h2]) hrun hN
theorem makes_call1 {F : FuncId} {fn : Func} {o1 : Operand} {ts : Array TypeId} {v1 : Value} {post : Ending → World → Prop} (hf : P.funcs[F]? = some fn) (hname : (fn.name == "runtime.NumGoroutine") = false) (hb : fn.body.isNone = false)
    (ho : o.op = .call { callee := .value (.func F), args := #[o1], argTypes := ts }) (h1 : a.eval o1 = v1)
    (hc : Calls P F #[v1] w post) (hN : ∀ e w', post e w' → ∃ v, e = .returned v ∧ N v w') : makes P o a w N := makes_call hf hname hb ho (by simp [h1]) hc hN
theorem makes_call2 {F : FuncId} {fn : Func} {o1 o2 : Operand} {ts : Array TypeId} {v1 v2 : Value} {post : Ending → World → Prop} (hf : P.funcs[F]? = some fn) (hname : (fn.name == "runtime.NumGoroutine") = false) (hb : fn.body.isNone = false)
    (ho : o.op = .call { callee := .value (.func F), args := #[o1, o2], argTypes := ts }) (h1 : a.eval o1 = v1) (h2 : a.eval o2 = v2)
    (hc : Calls P F #[v1, v2] w post) (hN : ∀ e w', post e w' → ∃ v, e = .returned v ∧ N v w') : makes P o a w N := makes_call hf hname hb ho (by simp [h1, h2]) hc hN
end
theorem makes_len {P : Program} {o : Oper} {a : Act} {w : World} {N : Value → World → Prop} {s : Operand} {t ty : TypeId} {vs u : Value} (ho : o.op = .call { callee := .builtin .len, args := #[s], argTypes := #[t] }) (ht : o.type = ty) (hs : a.eval s = vs)
    (hrun : (Builtin.len_ #[t] ty #[vs]).run P w = .ok u w) (hN : N u w) : makes P o a w N := by
  unfold makes
  have : (execOp a.eval o).run P w = .ok (.value u) w := by
    simp [execOp, ho, ht, resolve, invoke, builtin, hs, hrun, Result.andThen]
  rw [this]; exact hN
end Go.Proofs.YthmlcmlpmolmoaaGreatDoor.ord
namespace Go.Proofs.YthmlcmlpmolmoaaGreatDoor
open Go.RowKit
theorem valsL_snoc (k : Nat) (X : Nat → Value) : valsL k X ++ [X k] = valsL (k + 1) X := by unfold valsL; rw [List.range_succ, List.map_append]; rfl
end Go.Proofs.YthmlcmlpmolmoaaGreatDoor
namespace Go.Proofs.YthmlcmlpmolmoaaGreatDoor
open Go.RowKit
def Off (A : Option Addr) (n K : Nat) : Prop := 0 < n → ∀ B o, A = some ⟨B, o, none⟩ → B ≠ K
theorem SlB.off {w : World} {A : Option Addr} {n K : Nat} {f : Nat → Nat} (h : SlB w A n f) (hK : w.heap.size ≤ K) : Off A n K := fun hn B o e => by
  obtain ⟨B', o', e', hB, _⟩ := h hn
  rw [e] at e'
  injection e' with e'
  injection e' with e1 _ _
  omega
def Wrote (W : World) (g n : Nat) (F : Nat → Nat) (e : Ending) (w' : World) : Prop := e = .returned (.tuple #[]) ∧ HM w' g n F ∧ Chg g W w'
theorem write1_any (W : World) (g n0 : Nat) (A : Option Addr) (n c : Nat) (f F : Nat → Nat) (hN : n0 + n ≤ 1000000000000000) (hc : n ≤ c) (hA : SlB W A n f) (hF : ∀ j, j < n → F (n0 + j) = f j) (hm : HM W g n0 F) (hY : By (n0 + n) F) (ht : GT W)
    (hg : 4 ≠ g ∧ 1 ≠ g) (hO : Off A n g) :
    Calls Tryz.prog 140 #[.pointer (some ⟨g, 0, none⟩), .slice (some ⟨W.heap.size, 0, none⟩) 1 1] (W.alloc (.cells #[.slice A n c] 22)) (Wrote W g (n0 + n) F) :=
  (write_any g n0 W.heap.size 1 1 (fun _ => A) (fun _ => n) (fun _ => c) (fun _ => f) F _ (by decide) hN (parts1 A n c f hA) (fun _ _ => hc) (fun i hi j hj => by
    obtain rfl : i = 0 := by omega
    exact hF j hj) (hm.alloc _) hY (ht.alloc _) hg (Nat.ne_of_gt hm.lt) (fun _ _ => hO)).mono fun _ _ h => ⟨h.1, h.2.1, (Chg.of_below ((Below.refl _ _).alloc (Nat.le_refl _) _)).trans h.2.2⟩
end Go.Proofs.YthmlcmlpmolmoaaGreatDoor
namespace Go.Proofs.YthmlcmlpmolmoaaGreatDoor
open Go.RowKit
def kf (n : Nat) (key : Nat → Nat) (j : Nat) : Nat := if n ≤ 64 then (if j < n then key j else 0) else if j < 32 then sha n key j else 0
theorem kf_by {n : Nat} {key : Nat → Nat} (hk : By n key) : By 64 (kf n key) := fun j _ => by
  unfold kf
  by_cases h : n ≤ 64
  · rw [if_pos h]
    by_cases h2 : j < n
    · rw [if_pos h2]; exact hk j h2
    · rw [if_neg h2]; decide
  · rw [if_neg h]
    by_cases h2 : j < 32
    · rw [if_pos h2]; exact sha_lt _ _ _
    · rw [if_neg h2]; decide
theorem kf_congr {n : Nat} {key key' : Nat → Nat} (h : ∀ j, j < n → key j = key' j) (j : Nat) : kf n key j = kf n key' j := by
  unfold kf
  by_cases h1 : n ≤ 64
  · rw [if_pos h1, if_pos h1]
    by_cases h2 : j < n
    · rw [if_pos h2, if_pos h2]; exact h j h2
    · rw [if_neg h2, if_neg h2]
  · rw [if_neg h1, if_neg h1, sha_congr h j]
def xf (c n : Nat) (key : Nat → Nat) (j : Nat) : Nat := kf n key j ^^^ c
theorem xf_by {c n : Nat} {key : Nat → Nat} (hc : c < 256) (hk : By n key) : By 64 (xf c n key) := fun j hj => xor_lt8 (kf_by hk j hj) hc
def tag (n : Nat) (key : Nat → Nat) (m : Nat) (b : Nat → Nat) : Nat → Nat := sha 96 (catB 64 (xf 92 n key) (sha (64 + m) (catB 64 (xf 54 n key) b)))
theorem tag_lt (n : Nat) (key : Nat → Nat) (m : Nat) (b : Nat → Nat) (j : Nat) : tag n key m b j < 256 := sha_lt _ _ _
theorem catB_congr {n m : Nat} {f f' g g' : Nat → Nat} (hf : ∀ j, j < n → f j = f' j) (hg : ∀ j, j < m → g j = g' j) (j : Nat) (hj : j < n + m) : catB n f g j = catB n f' g' j := by
  unfold catB
  by_cases h : j < n
  · rw [if_pos h, if_pos h]; exact hf j h
  · rw [if_neg h, if_neg h]; exact hg _ (by omega)
theorem tag_halves {n n' : Nat} {key key' : Nat → Nat} (h : ∀ j, j < 64 → kf n key j = kf n' key' j) {m : Nat} {b b' : Nat → Nat} (hb : ∀ j, j < m → b j = b' j) (j : Nat) : tag n key m b j = tag n' key' m b' j := by
  unfold tag
  refine sha_congr (fun i hi => catB_congr (m := 32) (fun i hi => ?_) (fun i hi => ?_) i hi) j
  · unfold xf; rw [h i hi]
  · refine sha_congr (fun i hi => catB_congr (fun i hi => ?_) hb i hi) i
    unfold xf; rw [h i hi]
theorem tag_congr {n : Nat} {key key' : Nat → Nat} (hk : ∀ j, j < n → key j = key' j) {m : Nat} {b b' : Nat → Nat} (hb : ∀ j, j < m → b j = b' j) (j : Nat) : tag n key m b j = tag n key' m b' j :=
  tag_halves (fun j _ => kf_congr hk j) hb j
structure MakMem (w : World) (g : Nat) (d m : Int) (K X Y : Nat → Nat) : Prop where
  key : Arr w g 0 64 K
  once : OnceAt w g 64 d m
  inner : Arr w g 67 64 X
  outer : Arr w g 131 64 Y
theorem once_block {w w' : World} {g o : Nat} {d m : Int} (h : OnceAt w g o d m) (e : w'.heap[g]? = w.heap[g]?) : OnceAt w' g o d m :=
  ⟨(World.cell?_of_block e).trans h.done, (World.cell?_of_block e).trans h.lock, (World.frozen?_of_block e).trans h.fdone, (World.frozen?_of_block e).trans h.flock⟩
theorem once_off {w : World} {g o k : Nat} {d m : Int} (h : OnceAt w g o d m) (h1 : k ≠ o) (h2 : k ≠ o + 1) (v : Value) : OnceAt (w.setCell ⟨g, k, none⟩ v) g o d m :=
  ⟨(cell_off h1 v).trans h.done, (cell_off h2 v).trans h.lock, by rw [World.frozen?_setCell]; exact h.fdone, by rw [World.frozen?_setCell]; exact h.flock⟩
namespace MakMem
variable {w w' : World} {g : Nat} {d m : Int} {K X Y : Nat → Nat}
theorem lt (h : MakMem w g d m K X Y) : g < w.heap.size := h.key.lt (by decide)
theorem of_block (h : MakMem w g d m K X Y) (e : w'.heap[g]? = w.heap[g]?) : MakMem w' g d m K X Y := ⟨h.key.of_block e, once_block h.once e, h.inner.of_block e, h.outer.of_block e⟩
theorem keep (h : MakMem w g d m K X Y) (hb : Below w.heap.size w w') : MakMem w' g d m K X Y := h.of_block (hb.block g h.lt)
theorem chg {L : Nat} (h : MakMem w g d m K X Y) (hc : Chg L w w') (hL : g ≠ L) : MakMem w' g d m K X Y := h.of_block (hc.block g h.lt hL)
theorem congr {K' X' Y' : Nat → Nat} (h : MakMem w g d m K X Y) (h1 : ∀ j, j < 64 → K j = K' j) (h2 : ∀ j, j < 64 → X j = X' j) (h3 : ∀ j, j < 64 → Y j = Y' j) : MakMem w g d m K' X' Y' :=
  ⟨h.key.congr h1, h.once, h.inner.congr h2, h.outer.congr h3⟩
theorem setInner (h : MakMem w g d m K X Y) {i k : Nat} (hi : i < 64) (hk : k = 67 + i) (x : Nat) {v : Value} (hv : v = .int .u8 (x : Nat)) : MakMem (w.setCell ⟨g, k, none⟩ v) g d m K (fun j => if j = i then x else X j) Y :=
  ⟨h.key.setApart (by omega) v, once_off h.once (by omega) (by omega) v, h.inner.set hi hk x hv, h.outer.setApart (by omega) v⟩
theorem setOuter (h : MakMem w g d m K X Y) {i k : Nat} (hi : i < 64) (hk : k = 131 + i) (x : Nat) {v : Value} (hv : v = .int .u8 (x : Nat)) : MakMem (w.setCell ⟨g, k, none⟩ v) g d m K X (fun j => if j = i then x else Y j) :=
  ⟨h.key.setApart (by omega) v, once_off h.once (by omega) (by omega) v, h.inner.setApart (by omega) v, h.outer.set hi hk x hv⟩
theorem setLock (h : MakMem w g d m K X Y) (m' : Int) {v : Value} (hv : v = .int .i32 m') : MakMem (w.setCell ⟨g, 65, none⟩ v) g d m' K X Y := by
  subst hv
  exact ⟨h.key.setApart (by omega) _, ⟨(cell_off (by omega) _).trans h.once.done, World.cell?_setCell_same w ⟨g, 65, none⟩ _ h.once.lock, by rw [World.frozen?_setCell]; exact h.once.fdone, by rw [World.frozen?_setCell]; exact h.once.flock⟩, h.inner.setApart (by omega) _, h.outer.setApart (by omega) _⟩
theorem setDone (h : MakMem w g d m K X Y) (d' : Int) {v : Value} (hv : v = .int .u32 d') : MakMem (w.setCell ⟨g, 64, none⟩ v) g d' m K X Y := by
  subst hv
  exact ⟨h.key.setApart (by omega) _, ⟨World.cell?_setCell_same w ⟨g, 64, none⟩ _ h.once.done, (cell_off (by omega) _).trans h.once.lock, by rw [World.frozen?_setCell]; exact h.once.fdone, by rw [World.frozen?_setCell]; exact h.once.flock⟩, h.inner.setApart (by omega) _, h.outer.setApart (by omega) _⟩
theorem drew (h : MakMem w g d m K X Y) : MakMem w.drew g d m K X Y := h.of_block rfl
theorem drewN (h : MakMem w g d m K X Y) (k : Nat) : MakMem (w.drewN k) g d m K X Y := h.of_block rfl
theorem alloc (h : MakMem w g d m K X Y) (o : Obj) : MakMem (w.alloc o) g d m K X Y := h.keep ((Below.refl _ _).alloc (Nat.le_refl _) o)
end MakMem
abbrev MakReady (w : World) (g n : Nat) (key : Nat → Nat) : Prop := MakMem w g 1 0 (kf n key) (xf 54 n key) (xf 92 n key)
def MakAt (w : World) (g n : Nat) (key : Nat → Nat) : Prop := MakMem w g 0 0 (kf n key) (fun _ => 0) (fun _ => 0) ∨ MakReady w g n key
theorem MakAt.of_block {w w' : World} {g n : Nat} {key : Nat → Nat} (h : MakAt w g n key) (e : w'.heap[g]? = w.heap[g]?) : MakAt w' g n key := h.imp (·.of_block e) (·.of_block e)
theorem MakAt.lt {w : World} {g n : Nat} {key : Nat → Nat} (h : MakAt w g n key) : g < w.heap.size := h.elim (·.lt) (·.lt)
theorem MakAt.keep {w w' : World} {g n : Nat} {key : Nat → Nat} (h : MakAt w g n key) (hb : Below w.heap.size w w') : MakAt w' g n key := h.of_block (hb.block g h.lt)
theorem MakAt.chg {w w' : World} {g n K : Nat} {key : Nat → Nat} (h : MakAt w g n key) (hb : Chg K w w') (hK : g ≠ K) : MakAt w' g n key := h.of_block (hb.block g h.lt hK)
theorem sizeA64 : (Tryz.prog.info? 194).map (·.size) = some 64 := by kernel_rfl
set_option maxRecDepth 100000 in
set_option maxHeartbeats 1600000 in
theorem halves_any (g n : Nat) (key : Nat → Nat) (w : World) (hkey : By n key) (hk : MakMem w g 0 1 (kf n key) (fun _ => 0) (fun _ => 0)) :
    Calls Tryz.prog 138 #[.pointer (some ⟨g, 0, none⟩)] w fun e w' => e = .returned (.tuple #[]) ∧ (MakMem w' g 0 1 (kf n key) (xf 54 n key) (xf 92 n key) ∧ Chg g w w') := by
  have HK := Lib.hid hk
  have HY := Lib.hid (kf_by hkey)
  clear hk hkey
  go_enter Tryz.func138, Tryz.ntmps138
  go_wp2_with (refine wpList_loadB rfl 194 (.tmp 6) rfl g 0 64 rfl _ HK.out.key _ Tryz.underlying194 rfl sizeA64 ?_)
  go_loopw [8] (fun v wr => ∃ k : Nat, k ≤ 64 ∧ v = .int .i64 k ∧ MakMem wr g 0 1 (kf n key) (fun j => if j < k then xf 54 n key j else 0) (fun j => if j < k then xf 92 n key j else 0) ∧ Chg g w wr) (fun v _ => 64 - (intOf v).toNat)
  case atStart => exact ⟨0, by decide, rfl, HK.out.congr (fun _ _ => rfl) (fun j _ => (if_neg (Nat.not_lt_zero _)).symm) (fun j _ => (if_neg (Nat.not_lt_zero _)).symm), Chg.refl _ _⟩
  case round =>
    obtain ⟨k, hk, rfl, h1, h2⟩ := hrel
    have H1 := Lib.hid h1
    have H2 := Lib.hid h2
    clear h1 h2
    by_cases hlt : k < 64
    · obtain ⟨x, hx⟩ : ∃ x, kf n key k = x := ⟨_, rfl⟩
      have hxl : x < 256 := by rw [← hx]; exact HY.out k hlt
      have hix := index_arr 194 64 (kf n key) k x Tryz.underlying194 hlt hx
      have b1 : bits BinOp.xor .u8 (x : Int) 54 = ((x ^^^ 54 : Nat) : Int) := u8_xor_nat x 54 hxl (by decide)
      have b2 : bits BinOp.xor .u8 (x : Int) 92 = ((x ^^^ 92 : Nat) : Int) := u8_xor_nat x 92 hxl (by decide)
      have HX1 := Lib.hid (show xf 54 n key k = x ^^^ 54 by unfold xf; rw [hx])
      have HX2 := Lib.hid (show xf 92 n key k = x ^^^ 92 by unfold xf; rw [hx])
      clear hx
      have hc1 := H1.out.inner.cell hlt rfl
      have hf1 := H1.out.inner.frozen hlt rfl
      rw [if_neg (Nat.lt_irrefl k)] at hc1
      have HM1 := Lib.hid ((H1.out.setInner hlt (k := 67 + k) rfl (x ^^^ 54) rfl).congr (fun _ _ => rfl) (fun j _ => upto_step (fun _ => 0) (xf 54 n key) k _ HX1.out j) (fun _ _ => rfl))
      have hc2 := HM1.out.outer.cell hlt rfl
      have hf2 := HM1.out.outer.frozen hlt rfl
      rw [if_neg (Nat.lt_irrefl k)] at hc2
      have HM2 := Lib.hid ((HM1.out.setOuter hlt (k := 131 + k) rfl (x ^^^ 92) rfl).congr (fun _ _ => rfl) (fun _ _ => rfl) (fun j _ => upto_step (fun _ => 0) (xf 92 n key) k _ HX2.out j))
      have HC := Lib.hid ((H2.out.setCell (a := ⟨g, 67 + k, none⟩) (Or.inl rfl) (.int .u8 (x ^^^ 54 : Nat))).setCell (a := ⟨g, 131 + k, none⟩) (Or.inl rfl) (.int .u8 (x ^^^ 92 : Nat)))
      generalize x ^^^ 54 = y1 at *
      generalize x ^^^ 92 = y2 at *
      go_wp2_with fail
      go_roundw
      case rel => exact ⟨k + 1, by omega, by go_num, HM2.out, HC.out⟩
      case measure => simp [intOf]; omega
    · have HR := Lib.hid (H1.out.congr (K' := kf n key) (X' := xf 54 n key) (Y' := xf 92 n key) (fun _ _ => rfl) (fun j hj => if_pos (by omega)) (fun j hj => if_pos (by omega)))
      go_wp2_with fail
      go_end0
      exact ⟨rfl, HR.out, H2.out⟩
theorem once_mac (g n : Nat) (key : Nat → Nat) (w : World) (hkey : By n key) (hk : MakAt w g n key) :
    Calls Tryz.prog 78 #[.pointer (some ⟨g, 64, none⟩), .func (.func 138) #[.pointer (some ⟨g, 0, none⟩)] #[]] w fun e w' => e = .returned (.tuple #[]) ∧ MakReady w' g n key ∧ Chg g w w' := by
  rcases hk with hk | hk
  · refine (do_first_mac g 64 (.pointer (some ⟨g, 0, none⟩)) w hk.once (fun w1 => MakMem w1 g 0 1 (kf n key) (xf 54 n key) (xf 92 n key) ∧ Chg g (w.setCell ⟨g, 65, none⟩ (.int .i32 1)) w1) (halves_any g n key _ hkey (hk.setLock 1 rfl)) fun w1 h => h.1.once).mono ?_
    rintro e w' ⟨he, w1, ⟨h1, h2⟩, rfl⟩
    exact ⟨he, (h1.drew.setDone 1 rfl).setLock 0 rfl, ((((Chg.refl g w).setCell (a := ⟨g, 65, none⟩) (Or.inl rfl) _).trans h2).drew.setCell (a := ⟨g, 64, none⟩) (Or.inl rfl) _).setCell (a := ⟨g, 65, none⟩) (Or.inl rfl) _⟩
  · refine (do_done g 64 _ 0 w hk.once).mono ?_
    rintro e w' ⟨he, rfl⟩
    exact ⟨he, hk, Chg.refl _ _⟩
end Go.Proofs.YthmlcmlpmolmoaaGreatDoor
namespace Go.Proofs.YthmlcmlpmolmoaaGreatDoor
open Go.RowKit
def mkCells (d m x : Int) (K X Y : Nat → Nat) : List Value := bytesL 64 K ++ (.int .u32 d :: .int .i32 m :: .int .u32 x :: (bytesL 64 X ++ bytesL 64 Y))
theorem makMem_of {w : World} {g : Nat} {d m x : Int} {K X Y : Nat → Nat} {t : TypeId} (h : w.heap[g]? = some (.cells (mkCells d m x K X Y).toArray t (0, 0))) : MakMem w g d m K X Y := by
  have hz : ∀ (o : Nat), w.frozen? ⟨g, o, none⟩ = false := fun o => by simp [World.frozen?, h]
  have hc : ∀ (o : Nat) v, (mkCells d m x K X Y)[o]? = some v → w.cell? ⟨g, o, none⟩ = some v := fun o v hv => by
    simp only [World.cell?, h]
    rw [List.getElem?_toArray, hv]
    rfl
  refine ⟨arr_of_list h fun j hj => ?_, ⟨hc 64 _ ?_, hc 65 _ ?_, hz _, hz _⟩, arr_of_list h fun j hj => ?_, arr_of_list h fun j hj => ?_⟩
  · unfold mkCells
    rw [Nat.zero_add, List.getElem?_append_left (by rw [bytesL_length]; exact hj)]
  · unfold mkCells
    rw [List.getElem?_append_right (by rw [bytesL_length]; decide), bytesL_length]; rfl
  · unfold mkCells
    rw [List.getElem?_append_right (by rw [bytesL_length]; decide), bytesL_length]; rfl
  · unfold mkCells
    rw [List.getElem?_append_right (by rw [bytesL_length]; omega), bytesL_length, show 67 + j - 64 = j + 1 + 1 + 1 by omega,
      List.getElem?_cons_succ, List.getElem?_cons_succ, List.getElem?_cons_succ, List.getElem?_append_left (by rw [bytesL_length]; exact hj)]
  · unfold mkCells
    rw [List.getElem?_append_right (by rw [bytesL_length]; omega), bytesL_length, show 131 + j - 64 = (j + 64) + 1 + 1 + 1 by omega,
      List.getElem?_cons_succ, List.getElem?_cons_succ, List.getElem?_cons_succ, List.getElem?_append_right (by rw [bytesL_length]; omega), bytesL_length, Nat.add_sub_cancel]
set_option maxRecDepth 100000 in
theorem zeroMaker : Tryz.zeroCells196 = (mkCells 0 0 0 (fun _ => 0) (fun _ => 0) (fun _ => 0)).toArray := by kernel_rfl
theorem maker_made (l : Nat) (key : Nat → Nat) (hl : l ≤ 64) : splice Tryz.zeroCells196.toList 0 (bytesL l key) = mkCells 0 0 0 (fun x => if x < l then key x else 0) (fun _ => 0) (fun _ => 0) := by
  have e2 : bytesL 64 (fun x => if x < l then key x else 0) = bytesL l key ++ (bytesL 64 (fun _ => 0)).drop l := by
    apply List.ext_getElem?
    intro j
    by_cases hj : j < l
    · rw [List.getElem?_append_left (by rw [bytesL_length]; exact hj), bytesL_at hj, bytesL_at (by omega)]
      show some (Value.int .u8 ((if j < l then key j else 0 : Nat) : Int)) = _
      rw [if_pos hj]
    · rw [List.getElem?_append_right (by rw [bytesL_length]; omega), bytesL_length, List.getElem?_drop, show l + (j - l) = j by omega]
      by_cases h2 : j < 64
      · rw [bytesL_at h2, bytesL_at h2]
        show some (Value.int .u8 ((if j < l then key j else 0 : Nat) : Int)) = _
        rw [if_neg hj]
      · rw [List.getElem?_eq_none (by rw [bytesL_length]; omega), List.getElem?_eq_none (by rw [bytesL_length]; omega)]
  rw [zeroMaker]
  unfold splice mkCells
  rw [bytesL_length, Nat.zero_add, List.toList_toArray, List.drop_append_of_le_length (by rw [bytesL_length]; exact hl), e2]
  simp
set_option maxRecDepth 100000 in
set_option maxHeartbeats 800000 in
theorem mnew_le (A : Option Addr) (n cap : Nat) (key : Nat → Nat) (w : World) (hn : n ≤ 64) (hA : SlB w A n key) :
    Calls Tryz.prog 104 #[.slice A n cap] w fun e w' => ∃ g, e = .returned (.pointer (some ⟨g, 0, none⟩)) ∧ w.heap.size ≤ g ∧ MakAt w' g n key ∧ Below w.heap.size w w' := by
  have HA := Lib.hid (hA.keep ((Below.refl _ _).alloc (Nat.le_refl _) (.cells Tryz.zeroCells196 196)))
  have HB := Lib.hid ((Below.refl w.heap.size w).alloc (Nat.le_refl _) (.cells Tryz.zeroCells196 196))
  have HG := Lib.hid (show (w.alloc (.cells Tryz.zeroCells196 196)).heap[w.heap.size]? = some (.cells Tryz.zeroCells196.toList.toArray 196 (0, 0)) by rw [heap_alloc_new, Array.toArray_toList])
  have hd : decide (64 < (n : Int)) = false := by simp; omega
  have HL := Lib.hid (show (bytesL n key).length = Nat.min n 64 by rw [bytesL_length]; show n = min n 64; omega)
  have HP := Lib.hid (copy_parts (k := n) (dp := some ⟨w.heap.size, 0, none⟩) (g := w.heap.size) (off := 0) HA.out (Nat.le_refl _) (fun _ => rfl))
  have HF := Lib.hid (show 0 + (bytesL n key).length ≤ Tryz.zeroCells196.toList.length by
    rw [zeroMaker, bytesL_length]
    simp [mkCells, bytesL_length]
    omega)
  have HK := Lib.hid (maker_made n key hn)
  have hsa : ∀ W : World, (Instr.sliceAt 194 (.pointer (some ⟨w.heap.size, 0, none⟩)) none none none).run Tryz.prog W = .ok (.slice (some ⟨w.heap.size, 0, none⟩) 64 64) W := all_arr 194 64 w.heap.size 0 Tryz.underlying194 (by decide)
  have HN := Lib.hid hn
  clear hA hn
  go_enter Tryz.func104, Tryz.ntmps104
  go_wp2_with ((refine wpList_copy_splice rfl (.tmp 15) (.tmp 16) 22 22 rfl 5 Tryz.underlying22 sizeOf8 (some ⟨w.heap.size, 0, none⟩) A 64 64 n cap rfl rfl w.heap.size 0 _ 196 HG.out (bytesL n key) HL.out HP.out HF.out (bytes_one n key) w.heap.size w HB.out (Nat.le_refl _) ?_); intro w2 hr hb2; rw [HK.out] at hr; have HR := Lib.hid hr; have HB2 := Lib.hid hb2; clear hr hb2)
  go_ret
  exact ⟨w.heap.size, rfl, Nat.le_refl _, Or.inl ((makMem_of HR.out.out).congr (fun j _ => by unfold kf; rw [if_pos HN.out]) (fun _ _ => rfl) (fun _ _ => rfl)), HB2.out⟩
set_option maxRecDepth 100000 in
set_option maxHeartbeats 800000 in
theorem mnew_gt (A : Option Addr) (n cap : Nat) (key : Nat → Nat) (w : World) (hn : 64 < n) (hn2 : n ≤ 100000000000000) (hc : n ≤ cap) (hA : SlB w A n key) (ht : GT w) :
    Calls Tryz.prog 104 #[.slice A n cap] w fun e w' => ∃ g, e = .returned (.pointer (some ⟨g, 0, none⟩)) ∧ w.heap.size ≤ g ∧ MakAt w' g n key ∧ Below w.heap.size w w' := by
  have hd : decide (64 < (n : Int)) = true := by simp; omega
  have HS := Lib.hid (sum1_any w A n cap key hn2 hc hA ht)
  have HN := Lib.hid hn
  clear hA hn ht
  go_enter Tryz.func104, Tryz.ntmps104
  go_wp2_with fail
  refine HS.out.mono ?_
  rintro e w1 ⟨d, rfl, hd1, ha1, hb1⟩
  have HB1 := Lib.hid hb1
  have HA1 := Lib.hid (ha1.slB fun j _ => sha_lt _ _ j)
  have HA := Lib.hid (HA1.out.keep ((Below.refl _ _).alloc (Nat.le_refl _) (.cells Tryz.zeroCells196 196)))
  have HB := Lib.hid ((Below.refl w1.heap.size w1).alloc (Nat.le_refl _) (.cells Tryz.zeroCells196 196))
  have HG := Lib.hid (show (w1.alloc (.cells Tryz.zeroCells196 196)).heap[w1.heap.size]? = some (.cells Tryz.zeroCells196.toList.toArray 196 (0, 0)) by rw [heap_alloc_new, Array.toArray_toList])
  have HL := Lib.hid (show (bytesL 32 (sha n key)).length = Nat.min 32 64 by rw [bytesL_length]; rfl)
  have HP := Lib.hid (copy_parts (k := 32) (dp := some ⟨w1.heap.size, 0, none⟩) (g := w1.heap.size) (off := 0) HA.out (Nat.le_refl _) (fun _ => rfl))
  have HF := Lib.hid (show 0 + (bytesL 32 (sha n key)).length ≤ Tryz.zeroCells196.toList.length by
    rw [zeroMaker, bytesL_length]
    simp [mkCells, bytesL_length])
  have HK := Lib.hid (maker_made 32 (sha n key) (by decide))
  have hsa : ∀ W : World, (Instr.sliceAt 194 (.pointer (some ⟨w1.heap.size, 0, none⟩)) none none none).run Tryz.prog W = .ok (.slice (some ⟨w1.heap.size, 0, none⟩) 64 64) W := all_arr 194 64 w1.heap.size 0 Tryz.underlying194 (by decide)
  clear hd1 ha1 hb1 hd HS
  go_wp2_with ((refine wpList_copy_splice rfl (.tmp 15) (.tmp 16) 22 22 rfl 5 Tryz.underlying22 sizeOf8 (some ⟨w1.heap.size, 0, none⟩) (some ⟨d, 0, none⟩) 64 64 32 32 rfl rfl w1.heap.size 0 _ 196 HG.out (bytesL 32 (sha n key)) HL.out (fun h => ⟨rfl, (HP.out h).2⟩) HF.out (bytes_one 32 (sha n key)) w1.heap.size w1 HB.out (Nat.le_refl _) ?_); intro w2 hr hb2; rw [HK.out] at hr; have HR := Lib.hid hr; have HB2 := Lib.hid hb2; clear hr hb2)
  go_ret
  exact ⟨w1.heap.size, rfl, HB1.out.size, Or.inl ((makMem_of HR.out.out).congr (fun j _ => by unfold kf; exact (if_neg (by have := HN.out; omega)).symm) (fun _ _ => rfl) (fun _ _ => rfl)), HB1.out.trans (HB2.out.mono HB1.out.size)⟩
theorem mnew_any (A : Option Addr) (n cap : Nat) (key : Nat → Nat) (w : World) (hn : n ≤ 100000000000000) (hc : n ≤ cap) (hA : SlB w A n key) (ht : GT w) :
    Calls Tryz.prog 104 #[.slice A n cap] w fun e w' => ∃ g, e = .returned (.pointer (some ⟨g, 0, none⟩)) ∧ w.heap.size ≤ g ∧ MakAt w' g n key ∧ Below w.heap.size w w' := by
  by_cases h : n ≤ 64
  · exact mnew_le A n cap key w h hA
  · exact mnew_gt A n cap key w (by omega) hn hc hA ht
end Go.Proofs.YthmlcmlpmolmoaaGreatDoor
namespace Go.Proofs.YthmlcmlpmolmoaaGreatDoor.ord
open Go Go.RowKit
theorem makes_nilCheck {P : Program} {o : Oper} {a : Act} {w : World} {N : Value → World → Prop} {x : Operand} {ad : Addr} (ho : o.op = .nilCheck x) (hx : a.eval x = .pointer (some ad)) (hN : N (.pointer (some ad)) w) : makes P o a w N := by
  unfold makes
  have : (execOp a.eval o).run P w = .ok (.value (.pointer (some ad))) w := by
    simp only [execOp, ho, hx]; rfl
  rw [this]; exact hN
theorem makes_fieldAddr {P : Program} {o : Oper} {a : Act} {w : World} {N : Value → World → Prop} {t : TypeId} {f : Nat} {x : Operand} {vx u : Value} (ho : o.op = .fieldAddr t x f) (hx : a.eval x = vx) (hrun : (Instr.fieldAt t vx f).run P w = .ok u w) (hN : N u w) : makes P o a w N := by
  unfold makes
  have : (execOp a.eval o).run P w = .ok (.value u) w := by
    simp only [execOp, ho, hx, Sem.run_bind]
    rw [hrun]; rfl
  rw [this]; exact hN
end Go.Proofs.YthmlcmlpmolmoaaGreatDoor.ord
namespace Go.Proofs.YthmlcmlpmolmoaaGreatDoor
open Go.RowKit
theorem offs_add (a : Nat) (n : Nat → Nat) : ∀ i, offs a n i = a + offs 0 n i
  | 0 => rfl
  | i + 1 => by show offs a n i + n i = a + (offs 0 n i + n i); rw [offs_add a n i]; omega
theorem run_build2 (w : World) (A0 A1 : Option Addr) (n0 n1 c0 c1 : Nat) : (Instr.buildSlice 32 2 #[(0, .slice A0 n0 c0), (1, .slice A1 n1 c1)]).run Tryz.prog w = .ok (.slice (some ⟨w.heap.size, 0, none⟩) 2 2) (w.alloc (.cells #[.slice A0 n0 c0, .slice A1 n1 c1] 22)) := by go_simp
theorem run_outer (g : Nat) (w : World) : (Instr.fieldAt 196 (.pointer (some ⟨g, 0, none⟩)) 3).run Tryz.prog w = .ok (.pointer (some ⟨g, 131, none⟩)) w := by go_simp
theorem sum2_parts (W : World) (gp cap : Nat) (A0 A1 : Option Addr) (n0 n1 c0 c1 : Nat) (f0 f1 F : Nat → Nat) (hn : n0 + n1 ≤ 100000000000000) (hc0 : n0 ≤ c0) (hc1 : n1 ≤ c1) (hp : Parts W gp 2 (t2 A0 A1) (t2 n0 n1) (t2 c0 c1) (t2 f0 f1)) (hY : By (n0 + n1) F)
    (hF0 : ∀ j, j < n0 → F j = f0 j) (hF1 : ∀ j, j < n1 → F (n0 + j) = f1 j) (ht : GT W) :
    Calls Tryz.prog 137 #[.slice (some ⟨gp, 0, none⟩) 2 cap] W (Dig W (n0 + n1) F) := by
  refine (sum_any gp 2 cap _ _ _ _ F _ (by decide) (by decide) (by show 0 + n0 + n1 ≤ _; omega) hp (fun i hi => ?_) (fun i hi j hj => ?_) (fun j hj => ?_) ht).mono fun e w' h => (Dig.of h (Below.refl _ _)).as (by show 0 + n0 + n1 = _; omega) fun _ _ => rfl
  · rcases two_of hi with rfl | rfl
    · exact hc0
    · exact hc1
  · rcases two_of hi with rfl | rfl
    · show F (0 + j) = f0 j
      rw [Nat.zero_add]; exact hF0 j hj
    · show F (0 + n0 + j) = f1 j
      rw [Nat.zero_add]; exact hF1 j hj
  · have hj : j < 0 + n0 + n1 := hj
    exact hY j (by omega)
def mmG (g h n : Nat) (key : Nat → Nat) (m : Nat) (F : Nat → Nat) (w0 : World) : Nat → Value → World → Prop
  | 0, v, _ => v = .pointer (some ⟨g, 0, none⟩)
  | 1, v, _ => v = .pointer (some ⟨g, 0, none⟩)
  | 2, v, _ => v = .pointer (some ⟨g, 131, none⟩)
  | 3, v, _ => v = .slice (some ⟨g, 131, none⟩) 64 64
  | 4, v, _ => v = .pointer (some ⟨h, 0, none⟩)
  | 5, v, w => ∃ d, v = .slice (some ⟨d, 0, none⟩) 32 32 ∧ Arr w d 0 32 (sha (64 + m) (catB 64 (xf 54 n key) F))
  | 6, v, w => ∃ p d, v = .slice (some ⟨p, 0, none⟩) 2 2 ∧ Parts w p 2 (t2 (some ⟨g, 131, none⟩) (some ⟨d, 0, none⟩)) (t2 64 32) (t2 64 32) (t2 (xf 92 n key) (sha (64 + m) (catB 64 (xf 54 n key) F)))
  | 7, v, w => ∃ d, v = .slice (some ⟨d, 0, none⟩) 32 32 ∧ w0.heap.size ≤ d ∧ Arr w d 0 32 (tag n key m F)
  | _, _, _ => True
theorem mmG_stays (g h n : Nat) (key : Nat → Nat) (m : Nat) (F : Nat → Nat) (w0 : World) : ∀ i v w w', mmG g h n key m F w0 i v w → Below w.heap.size w w' → mmG g h n key m F w0 i v w'
  | 0, _, _, _, h, _ => h
  | 1, _, _, _, h, _ => h
  | 2, _, _, _, h, _ => h
  | 3, _, _, _, h, _ => h
  | 4, _, _, _, h, _ => h
  | 5, v, w, w', h_, hb => by
    obtain ⟨d, h1, h2⟩ := h_; exact ⟨d, h1, h2.keep hb⟩
  | 6, v, w, w', h_, hb => by
    obtain ⟨p, d, h1, h2⟩ := h_; exact ⟨p, d, h1, h2.keep hb⟩
  | 7, v, w, w', h_, hb => by
    obtain ⟨d, h1, h2, h3⟩ := h_; exact ⟨d, h1, h2, h3.keep hb⟩
  | _ + 8, _, _, _, _, _ => trivial
def TagP (g n : Nat) (key : Nat → Nat) (m : Nat) (F : Nat → Nat) (w : World) (e : Ending) (w' : World) : Prop :=
  ∃ d, e = .returned (.slice (some ⟨d, 0, none⟩) 32 32) ∧ w.heap.size ≤ d ∧ Arr w' d 0 32 (tag n key m F) ∧ MakReady w' g n key ∧ Chg g w w'
set_option maxRecDepth 100000 in
set_option maxHeartbeats 1600000 in
theorem mmac_any (g n gp k cap : Nat) (key : Nat → Nat) (A : Nat → Option Addr) (l c : Nat → Nat) (f : Nat → Nat → Nat) (F : Nat → Nat) (m : Nat) (w0 : World) (hkey : By n key) (hk : MakAt w0 g n key) (hk0 : 0 < k) (hk2 : k ≤ 1000) (hm : offs 0 l k = m) (hN : m ≤ 10000000000000)
    (hp : Parts w0 gp k A l c f) (hcap : ∀ i, i < k → l i ≤ c i) (hF : ∀ i, i < k → ∀ j, j < l i → F (offs 0 l i + j) = f i j) (hY : By m F) (ht : GT w0) (hG : 4 ≠ g ∧ 1 ≠ g) (hgp : gp ≠ g)
    (hA : ∀ i, i < k → 0 < l i → ∀ B o, A i = some ⟨B, o, none⟩ → B ≠ g) :
    Calls Tryz.prog 105 #[.pointer (some ⟨g, 0, none⟩), .slice (some ⟨gp, 0, none⟩) k cap] w0 (TagP g n key m F w0) := by
  have HO := Lib.hid (once_mac g n key w0 hkey hk)
  have HKY := Lib.hid hkey
  have HGL := Lib.hid hk.lt
  have HGP := Lib.hid (block_lt (a := ⟨gp, 0, none⟩) (hp.cells 0 hk0))
  have HP := Lib.hid hp
  have HCP := Lib.hid hcap
  have HF := Lib.hid (show ∀ i, i < k → ∀ j, j < l i → catB 64 (xf 54 n key) F (offs 64 l i + j) = f i j from fun i hi j hj => by
    rw [offs_add, ← hF i hi j hj]
    unfold catB
    rw [if_neg (by omega), Nat.add_assoc, Nat.add_sub_cancel_left])
  have HM := Lib.hid (show offs 64 l k = 64 + m by rw [offs_add, hm])
  have HN := Lib.hid hN
  have HT := Lib.hid ht
  have HG := Lib.hid hG
  have HGQ := Lib.hid hgp
  have HA := Lib.hid hA
  have HFY := Lib.hid (show By (64 + m) (catB 64 (xf 54 n key) F) from fun j hj => catB_lt (xf_by (by decide) hkey) hY j hj)
  have hfi : ∀ W : World, (Instr.sliceAt 194 (.pointer (some ⟨g, 67, none⟩)) none none none).run Tryz.prog W = .ok (.slice (some ⟨g, 67, none⟩) 64 64) W := all_arr 194 64 g 67 Tryz.underlying194 (by decide)
  have HSA := Lib.hid (all_arr 194 64 g 131 Tryz.underlying194 (by decide))
  clear hkey hk hm hN hp hcap hF hY ht hG hgp hA
  go_enter Tryz.func105, Tryz.ntmps105
  go_wp2_with fail
  refine HO.out.mono ?_
  rintro e w1 ⟨rfl, h1, h2⟩
  have HR1 := Lib.hid h1
  have HC1 := Lib.hid h2
  have HT1 := Lib.hid (HT.out.chg h2 HG.out)
  have HP1 := Lib.hid (HP.out.chg h2 HGQ.out HA.out)
  have HL1 := Lib.hid h1.lt
  clear h1 h2
  go_wp2_with fail
  refine (snew_any (catB 64 (xf 54 n key) F) w1 HT1.out).mono ?_
  rintro e w2 ⟨rfl, h1, h2⟩
  obtain ⟨h, hh⟩ : ∃ h, w1.heap.size = h := ⟨_, rfl⟩
  rw [hh] at h1 ⊢
  have HH := Lib.hid (show w0.heap.size ≤ h by rw [← hh]; exact HC1.out.size)
  have HGH := Lib.hid (show g < h by rw [← hh]; exact HL1.out)
  have HHM := Lib.hid h1
  have HR2 := Lib.hid (HR1.out.keep h2)
  have HC2 := Lib.hid (HC1.out.thenBelow h2)
  have HT2 := Lib.hid (HT1.out.keep h2)
  have HP2 := Lib.hid (HP1.out.keep h2)
  have HGW := Lib.hid (show 4 ≠ h ∧ 1 ≠ h from by rw [← hh]; exact ⟨Nat.ne_of_lt HT1.out.ltk, Nat.ne_of_lt HT1.out.lth⟩)
  clear h1 h2 hh
  go_wp2_with fail
  refine (write1_any w2 h 0 (some ⟨g, 67, none⟩) 64 64 (xf 54 n key) (catB 64 (xf 54 n key) F) (by decide) (Nat.le_refl _) (HR2.out.inner.slB (xf_by (by decide) HKY.out)) (fun j hj => by rw [Nat.zero_add]; unfold catB; rw [if_pos hj]) HHM.out (fun j hj => HFY.out j (by omega)) HT2.out HGW.out (fun _ B o e => by cases e; exact Nat.ne_of_lt HGH.out)).mono ?_
  rintro e w3 ⟨rfl, h1, h2⟩
  have HHM3 := Lib.hid h1
  have HR3 := Lib.hid (HR2.out.chg h2 (Nat.ne_of_lt HGH.out))
  have HC3 := Lib.hid (HC2.out.thenNew h2 HH.out)
  have HT3 := Lib.hid (HT2.out.chg h2 HGW.out)
  have HQ := Lib.hid (show gp ≠ h from Nat.ne_of_lt (Nat.lt_of_lt_of_le HGP.out HH.out))
  have HP3 := Lib.hid (HP2.out.chg h2 HQ.out (HP.out.apart HH.out))
  clear h1 h2
  go_wp2_with fail
  refine (write_any h 64 gp k cap A l c f (catB 64 (xf 54 n key) F) w3 hk2 (by rw [HM.out]; have := HN.out; omega) HP3.out HCP.out HF.out HHM3.out (by rw [HM.out]; exact HFY.out) HT3.out HGW.out HQ.out (HP.out.apart HH.out)).mono ?_
  rintro e w4 ⟨rfl, h1, h2⟩
  rw [HM.out] at h1
  have HHM4 := Lib.hid h1
  have HR4 := Lib.hid (HR3.out.chg h2 (Nat.ne_of_lt HGH.out))
  have HC4 := Lib.hid (HC3.out.thenNew h2 HH.out)
  have HT4 := Lib.hid (HT3.out.chg h2 HGW.out)
  clear h1 h2 hfi HHM3 HR3 HC3 HT3 HP3 HHM HR2 HC2 HT2 HP2
  have HHS := Lib.hid (show ∀ w', Below w4.heap.size w4 w' → Calls Tryz.prog 141 #[.pointer (some ⟨h, 0, none⟩)] w' fun e w'' => ∃ d, e = .returned (.slice (some ⟨d, 0, none⟩) 32 32) ∧ w'.heap.size ≤ d ∧ Arr w'' d 0 32 (sha (64 + m) (catB 64 (xf 54 n key) F)) ∧ Below w'.heap.size w' w'' from fun w' hb =>
    hsum_any h (64 + m) (catB 64 (xf 54 n key) F) w' (by have := HN.out; omega) (HHM4.out.keep hb) HFY.out (HT4.out.keep hb))
  have HOU := Lib.hid (show ∀ w', Below w4.heap.size w4 w' → SlB w' (some ⟨g, 131, none⟩) 64 (xf 92 n key) from fun w' hb => (HR4.out.keep hb).outer.slB (xf_by (by decide) HKY.out))
  have HTG := Lib.hid (show ∀ w', Below w4.heap.size w4 w' → GT w' from fun w' hb => HT4.out.keep hb)
  have HFA := Lib.hid (run_outer g)
  have HBP := Lib.hid (fun (w : World) (d : Nat) => run_build2 w (some ⟨g, 131, none⟩) (some ⟨d, 0, none⟩) 64 32 64 32)
  have hz4 := HC4.out.size
  go_wp2_with fail
  refine ord.wp_region_ordT 8 [[], [0], [1], [2], [], [4], [3, 5], [6]] [(0, 23), (1, 24), (2, 25), (3, 26), (4, 27), (5, 28), (6, 29), (7, 30)] (mmG g h n key m F w0) (by kernel_rfl) (by kernel_rfl) (by kernel_rfl) (mmG_stays _ _ _ _ _ _ _) ((ord.steps_cons ?_ (ord.steps_cons ?_ (ord.steps_cons ?_ (ord.steps_cons ?_ (ord.steps_cons ?_ (ord.steps_cons ?_ (ord.steps_cons ?_ (ord.steps_cons ?_ ord.steps_nil))))))))) ?_
  · intro o ho x w hb hG
    obtain rfl := Option.some.inj ho
    clear ho
    refine Or.inl ⟨ord.want0 rfl, ?_⟩
    exact ord.makes_move rfl ⟨Below.refl _ _, rfl⟩
  · intro o ho x w hb hG
    obtain rfl := Option.some.inj ho
    clear ho
    have h23 : x 0 = .pointer (some ⟨g, 0, none⟩) := hG (0, 23) (List.mem_of_getElem? (i := 0) rfl) rfl
    refine Or.inl ⟨ord.want0 rfl, ?_⟩
    exact ord.makes_nilCheck rfl h23 ⟨Below.refl _ _, rfl⟩
  · intro o ho x w hb hG
    obtain rfl := Option.some.inj ho
    clear ho
    have h24 : x 1 = .pointer (some ⟨g, 0, none⟩) := hG (1, 24) (List.mem_of_getElem? (i := 1) rfl) rfl
    refine Or.inl ⟨ord.want0 rfl, ?_⟩
    exact ord.makes_fieldAddr rfl h24 (HFA.out w) ⟨Below.refl _ _, rfl⟩
  · intro o ho x w hb hG
    obtain rfl := Option.some.inj ho
    clear ho
    have h25 : x 2 = .pointer (some ⟨g, 131, none⟩) := hG (2, 25) (List.mem_of_getElem? (i := 2) rfl) rfl
    refine Or.inl ⟨ord.want0 rfl, ?_⟩
    exact ord.makes_slice rfl h25 rfl rfl rfl (HSA.out w) ⟨Below.refl _ _, rfl⟩
  · intro o ho x w hb hG
    obtain rfl := Option.some.inj ho
    clear ho
    refine Or.inl ⟨ord.want0 rfl, ?_⟩
    exact ord.makes_move rfl ⟨Below.refl _ _, rfl⟩
  · intro o ho x w hb hG
    obtain rfl := Option.some.inj ho
    clear ho
    have h27 : x 4 = .pointer (some ⟨h, 0, none⟩) := hG (4, 27) (List.mem_of_getElem? (i := 4) rfl) rfl
    refine Or.inl ⟨ord.want0 rfl, ?_⟩
    exact ord.makes_call1 Tryz.func141 (by kernel_rfl) (by kernel_rfl) rfl h27 (HHS.out w (of_drew hb)) (fun e w' h => by obtain ⟨d, he, _, h2, h4⟩ := h; exact ⟨_, he, h4, d, rfl, h2⟩)
  · intro o ho x w hb hG
    obtain rfl := Option.some.inj ho
    clear ho
    have h26 : x 3 = .slice (some ⟨g, 131, none⟩) 64 64 := hG (3, 26) (List.mem_of_getElem? (i := 3) rfl) rfl
    have h28 : mmG g h n key m F w0 5 (x 5) w := hG (5, 28) (List.mem_of_getElem? (i := 5) rfl) rfl
    refine Or.inl ⟨ord.want0 rfl, ?_⟩
    obtain ⟨d, hv, ha⟩ := h28
    exact ord.makes_build2 rfl h26 hv (HBP.out w d) ⟨(Below.refl _ _).alloc (Nat.le_refl _) _, _, d, rfl, parts2 _ _ _ _ _ _ _ _ (HOU.out w (of_drew hb)) (ha.slB fun j _ => sha_lt _ _ j)⟩
  · intro o ho x w hb hG
    obtain rfl := Option.some.inj ho
    clear ho
    have h29 : mmG g h n key m F w0 6 (x 6) w := hG (6, 29) (List.mem_of_getElem? (i := 6) rfl) rfl
    refine Or.inl ⟨ord.want0 rfl, ?_⟩
    obtain ⟨p, d, hv, hp⟩ := h29
    exact ord.makes_call1 Tryz.func137 (by kernel_rfl) (by kernel_rfl) rfl hv (sum2_parts w p 2 _ _ 64 32 64 32 _ _ (catB 64 (xf 92 n key) (sha (64 + m) (catB 64 (xf 54 n key) F))) (by decide) (Nat.le_refl _) (Nat.le_refl _) hp (fun j hj => catB_lt (xf_by (by decide) HKY.out) (fun j _ => sha_lt _ _ j) j hj) (fun j hj => by unfold catB; rw [if_pos hj]) (fun j _ => by unfold catB; rw [if_neg (by omega), Nat.add_sub_cancel_left]) (HTG.out w (of_drew hb))) (fun e w' h => by obtain ⟨d, he, h1, h2, h4⟩ := h; exact ⟨_, he, h4, d, rfl, Nat.le_trans hz4 (Nat.le_trans (of_drew hb).size h1), h2⟩)
  · intro x w5 hb hG
    have e30 : mmG g h n key m F w0 7 (x 7) w5 := hG (7, 30) (List.mem_of_getElem? (i := 7) rfl)
    clear hG
    obtain ⟨d, hx, hd, ha⟩ := e30
    have HD := Lib.hid hd
    have HAD := Lib.hid ha
    have HR5 := Lib.hid (HR4.out.keep hb)
    have HC5 := Lib.hid (HC4.out.thenBelow hb)
    clear hb hd ha hz4
    simp only [ord.puts, ord.put', List.set_cons_zero, List.set_cons_succ, if_true]
    rw [hx]
    simp only [List.drop_succ_cons, List.drop_zero]
    go_wp2_with fail
    go_ret
    exact ⟨d, rfl, HD.out, HAD.out, HR5.out, HC5.out⟩
end Go.Proofs.YthmlcmlpmolmoaaGreatDoor
namespace Go.Proofs.YthmlcmlpmolmoaaGreatDoor
open Go.RowKit
def TagD (n : Nat) (key : Nat → Nat) (m : Nat) (F : Nat → Nat) (W : World) (e : Ending) (w' : World) : Prop :=
  ∃ d, e = .returned (.slice (some ⟨d, 0, none⟩) 32 32) ∧ W.heap.size ≤ d ∧ Arr w' d 0 32 (tag n key m F) ∧ Below W.heap.size W w'
theorem TagD.from {n : Nat} {key : Nat → Nat} {m : Nat} {F : Nat → Nat} {W0 W : World} {e : Ending} {w' : World} (h : TagD n key m F W e w') (hb : Below W0.heap.size W0 W) : TagD n key m F W0 e w' := by
  obtain ⟨d, he, hd, ha, hb'⟩ := h
  exact ⟨d, he, Nat.le_trans hb.size hd, ha, hb.trans (hb'.mono hb.size)⟩
theorem TagD.as {n m m' : Nat} {key F F' : Nat → Nat} {W : World} {e : Ending} {w' : World} (h : TagD n key m F W e w') (hm : m = m') (hF : ∀ j, j < m → F j = F' j) : TagD n key m' F' W e w' := by
  subst hm
  obtain ⟨d, he, hd, ha, hb'⟩ := h
  exact ⟨d, he, hd, ha.congr fun j _ => tag_congr (fun _ _ => rfl) hF j, hb'⟩
theorem TagP.from {g n : Nat} {key : Nat → Nat} {m : Nat} {F : Nat → Nat} {W0 W : World} {e : Ending} {w' : World} (h : TagP g n key m F W e w') (hb : Below W0.heap.size W0 W) : TagP g n key m F W0 e w' := by
  obtain ⟨d, he, hd, ha, hr, hc⟩ := h
  exact ⟨d, he, Nat.le_trans hb.size hd, ha, hr, (Chg.of_below hb).trans hc⟩
theorem TagP.as {g n m m' : Nat} {key F F' : Nat → Nat} {W : World} {e : Ending} {w' : World} (h : TagP g n key m F W e w') (hm : m = m') (hF : ∀ j, j < m → F j = F' j) : TagP g n key m' F' W e w' := by
  subst hm
  obtain ⟨d, he, hd, ha, hr, hc⟩ := h
  exact ⟨d, he, hd, ha.congr fun j _ => tag_congr (fun _ _ => rfl) hF j, hr, hc⟩
theorem hF_two {A0 A1 : Option Addr} {W : World} {n0 n1 : Nat} {f0 f1 F : Nat → Nat} (h0 : SlB W A0 n0 f0) (h1 : SlB W A1 n1 f1) (hF0 : ∀ j, j < n0 → F j = f0 j) (hF1 : ∀ j, j < n1 → F (n0 + j) = f1 j) :
    (∀ i, i < 2 → ∀ j, j < t2 n0 n1 i → F (offs 0 (t2 n0 n1) i + j) = t2 f0 f1 i j) ∧ By (n0 + n1) F := by
  refine ⟨fun i hi j hj => ?_, fun j hj => ?_⟩
  · rcases two_of hi with rfl | rfl
    · show F (0 + j) = f0 j
      rw [Nat.zero_add]; exact hF0 j hj
    · show F (0 + n0 + j) = f1 j
      rw [Nat.zero_add]; exact hF1 j hj
  · by_cases e : j < n0
    · rw [hF0 j e]; exact h0.byte e
    · have := hF1 (j - n0) (by omega)
      rw [show n0 + (j - n0) = j by omega] at this
      rw [this]; exact h1.byte (by omega)
theorem cap_two {n0 n1 c0 c1 : Nat} (h0 : n0 ≤ c0) (h1 : n1 ≤ c1) : ∀ i, i < 2 → t2 n0 n1 i ≤ t2 c0 c1 i := fun i hi => by
  rcases two_of hi with rfl | rfl
  · exact h0
  · exact h1
theorem offs_two (n0 n1 : Nat) : offs 0 (t2 n0 n1) 2 = n0 + n1 := by show 0 + n0 + n1 = _; omega
end Go.Proofs.YthmlcmlpmolmoaaGreatDoor
namespace Go.Proofs.YthmlcmlpmolmoaaGreatDoor
open Go.RowKit
set_option maxHeartbeats 800000 in
theorem mac_any (gp k cap n ck : Nat) (AK : Option Addr) (key : Nat → Nat) (A : Nat → Option Addr) (l c : Nat → Nat) (f : Nat → Nat → Nat) (F : Nat → Nat) (m : Nat) (w : World) (hn : n ≤ 10000000000000) (hck : n ≤ ck) (hAK : SlB w AK n key) (hkey : By n key) (hk0 : 0 < k) (hk2 : k ≤ 1000) (hm : offs 0 l k = m) (hN : m ≤ 10000000000000)
    (hp : Parts w gp k A l c f) (hcap : ∀ i, i < k → l i ≤ c i) (hF : ∀ i, i < k → ∀ j, j < l i → F (offs 0 l i + j) = f i j) (hY : By m F) (ht : GT w) :
    Calls Tryz.prog 61 #[.slice AK n ck, .slice (some ⟨gp, 0, none⟩) k cap] w (TagD n key m F w) := by
  have HW := Lib.hid (mnew_any AK n ck key w (by omega) hck hAK ht)
  have HGP := Lib.hid (block_lt (a := ⟨gp, 0, none⟩) (hp.cells 0 hk0))
  have HP := Lib.hid hp
  have HT := Lib.hid ht
  have HM := Lib.hid (fun (g : Nat) (w1 : World) (h1 : MakAt w1 g n key) (h2 : Parts w1 gp k A l c f) (h3 : GT w1) (h4 : 4 ≠ g ∧ 1 ≠ g) (h5 : gp ≠ g) (h6 : ∀ i, i < k → 0 < l i → ∀ B o, A i = some ⟨B, o, none⟩ → B ≠ g) =>
    mmac_any g n gp k cap key A l c f F m w1 hkey h1 hk0 hk2 hm hN h2 hcap hF hY h3 h4 h5 h6)
  clear hn hck hAK hkey hm hN hp hcap hF hY ht
  go_enter Tryz.func61, Tryz.ntmps61
  go_wp2_with fail
  refine HW.out.mono ?_
  rintro e w1 ⟨g, rfl, hg, h1, h2⟩
  have HQ := Lib.hid (HM.out g w1 h1 (HP.out.keep h2) (HT.out.keep h2) ⟨Nat.ne_of_lt (Nat.lt_of_lt_of_le HT.out.ltk hg), Nat.ne_of_lt (Nat.lt_of_lt_of_le HT.out.lth hg)⟩ (Nat.ne_of_lt (Nat.lt_of_lt_of_le HGP.out hg)) (HP.out.apart hg))
  have HG := Lib.hid hg
  have HB := Lib.hid h2
  clear hg h1 h2
  go_wp2_with fail
  refine HQ.out.mono ?_
  rintro e w2 ⟨d, rfl, hd, ha, _, hc⟩
  have HD := Lib.hid hd
  have HA := Lib.hid ha
  have HC := Lib.hid hc
  clear hd ha hc
  go_wp2_with fail
  go_ret
  exact ⟨d, rfl, Nat.le_trans HB.out.size HD.out, HA.out, HB.out.trans (HC.out.below HB.out.size HG.out)⟩
theorem mac2_any (W : World) (AK A0 A1 : Option Addr) (n ck n0 n1 c0 c1 : Nat) (key f0 f1 F : Nat → Nat) (hn : n ≤ 10000000000000) (hl : n0 + n1 ≤ 10000000000000) (hck : n ≤ ck) (hc0 : n0 ≤ c0) (hc1 : n1 ≤ c1) (hAK : SlB W AK n key) (hkey : By n key) (h0 : SlB W A0 n0 f0) (h1 : SlB W A1 n1 f1)
    (hF0 : ∀ j, j < n0 → F j = f0 j) (hF1 : ∀ j, j < n1 → F (n0 + j) = f1 j) (ht : GT W) :
    Calls Tryz.prog 61 #[.slice AK n ck, .slice (some ⟨W.heap.size, 0, none⟩) 2 2] (W.alloc (.cells #[.slice A0 n0 c0, .slice A1 n1 c1] 22)) (TagD n key (n0 + n1) F W) :=
  (mac_any W.heap.size 2 2 n ck AK key _ _ _ _ F (n0 + n1) _ hn hck (hAK.keep (alloc_below _ _)) hkey (by decide) (by decide) (offs_two n0 n1) hl (parts2 A0 A1 n0 n1 c0 c1 f0 f1 h0 h1) (cap_two hc0 hc1) (hF_two h0 h1 hF0 hF1).1 (hF_two h0 h1 hF0 hF1).2 (ht.alloc _)).mono fun e w' h => h.from (alloc_below _ _)
end Go.Proofs.YthmlcmlpmolmoaaGreatDoor
namespace Go.Proofs.YthmlcmlpmolmoaaGreatDoor
open Go.RowKit
def len8 (n j : Nat) : Nat := n / 2 ^ (8 * (7 - j)) % 256
theorem len8_lt (n j : Nat) : len8 n j < 256 := Nat.mod_lt _ (by decide)
end Go.Proofs.YthmlcmlpmolmoaaGreatDoor
namespace Go.Proofs.YthmlcmlpmolmoaaGreatDoor
open Go.RowKit
theorem size8b : (Tryz.prog.info? 107).map (·.size) = some 8 := by kernel_rfl
abbrev z8 : Array Value := #[.int .u8 0, .int .u8 0, .int .u8 0, .int .u8 0, .int .u8 0, .int .u8 0, .int .u8 0, .int .u8 0]
theorem made8 (w : World) : Arr (w.alloc (.cells z8 107)) w.heap.size 0 8 (fun _ => 0) := arr_made w _ _ 8 _ rfl
end Go.Proofs.YthmlcmlpmolmoaaGreatDoor
namespace Go.Proofs.YthmlcmlpmolmoaaGreatDoor
open Go.RowKit
def StrsAt (w : World) (B o L : Nat) (s : Nat → ByteArray) : Prop := ∀ j, j < L → w.cell? ⟨B, o + j, none⟩ = some (.string (s j))
theorem StrsAt.keep {w w' : World} {B o L : Nat} {s : Nat → ByteArray} (h : StrsAt w B o L s) (hb : Below w.heap.size w w') : StrsAt w' B o L s := fun j hj => (hb.cell (p := ⟨B, o + j, none⟩) (block_lt (a := ⟨B, o + j, none⟩) (h j hj))).trans (h j hj)
theorem StrsAt.drewN {w : World} {B o L : Nat} {s : Nat → ByteArray} (h : StrsAt w B o L s) (n : Nat) : StrsAt (w.drewN n) B o L s := h
def SlS (w : World) (A : Option Addr) (L : Nat) (s : Nat → ByteArray) : Prop := 0 < L → ∃ B o, A = some ⟨B, o, none⟩ ∧ B < w.heap.size ∧ StrsAt w B o L s
theorem SlS.keep {w w' : World} {A : Option Addr} {L : Nat} {s : Nat → ByteArray} (h : SlS w A L s) (hb : Below w.heap.size w w') : SlS w' A L s := fun hL => by
  obtain ⟨B, o, hA, hB, hs⟩ := h hL
  exact ⟨B, o, hA, Nat.lt_of_lt_of_le hB hb.size, hs.keep hb⟩
end Go.Proofs.YthmlcmlpmolmoaaGreatDoor
namespace Go.Proofs.YthmlcmlpmolmoaaGreatDoor
open Go.RowKit
set_option maxRecDepth 100000 in
set_option maxHeartbeats 1600000 in
theorem length_any (s : ByteArray) (w : World) (hs : s.size ≤ 140737488351232) :
    Calls Tryz.prog 60 #[.string s] w fun e w' => e = .returned (aggB 8 (len8 s.size)) ∧ Below w.heap.size w w' := by
  have HO := Lib.hid ((made8 w).alloc (.cells z8 107))
  have HM := Lib.hid (made8 (w.alloc (.cells z8 107)))
  have hs1 : (w.alloc (.cells z8 107)).heap.size = w.heap.size + 1 := by simp
  rw [hs1] at HM
  have HB := Lib.hid (((Below.refl w.heap.size w).alloc (Nat.le_refl _) (.cells z8 107)).alloc (by simp) (.cells z8 107))
  clear hs1
  go_enter Tryz.func60, Tryz.ntmps60
  go_wp2_with fail
  generalize hW : (w.alloc (.cells z8 107)).alloc (.cells z8 107) = W at *
  clear hW
  obtain ⟨x, hx⟩ : ∃ x, s.size = x := ⟨_, rfl⟩
  rw [hx] at hs
  go_loopw [5] (fun v wr => ∃ k : Nat, k ≤ 8 ∧ v = .int .i64 k ∧ Arr wr (w.heap.size + 1) 0 8 (fun j => if j < k then len8 x j else 0) ∧ Arr wr w.heap.size 0 8 (fun _ => 0) ∧ Below w.heap.size w wr) (fun v _ => 8 - (intOf v).toNat)
  case atStart => exact ⟨0, by decide, rfl, HM.out.congr fun j _ => (if_neg (Nat.not_lt_zero _)).symm, HO.out, HB.out⟩
  case round =>
    obtain ⟨k, hk, rfl, h1, h2, h3⟩ := hrel
    have H1 := Lib.hid h1
    have H2 := Lib.hid h2
    have H3 := Lib.hid h3
    clear h1 h2 h3
    by_cases hlt : k < 8
    · obtain ⟨q, hq⟩ : ∃ q, q = 7 - k := ⟨_, rfl⟩
      obtain ⟨q8, hq8⟩ : ∃ q8, q8 = 8 * q := ⟨_, rfl⟩
      have eq : (7 : Int) - k = q := by omega
      have eq8 : (8 : Int) * q = q8 := by omega
      have hqi : (q : Int) ≤ 7 := by omega
      have hq8i : (q8 : Int) ≤ 56 := by omega
      have hxi : (x : Int) ≤ 140737488351232 := by omega
      obtain ⟨y, hy⟩ : ∃ y, y = x / 2 ^ q8 := ⟨_, rfl⟩
      have hyx : y ≤ x := by rw [hy]; exact Nat.div_le_self _ _
      have ey : (x : Int) / 2 ^ q8 = y := by rw [hy]; simp
      obtain ⟨z, hz⟩ : ∃ z, z = y % 256 := ⟨_, rfl⟩
      have ez : (y : Int) % 256 = z := by omega
      have lz : z < 256 := by omega
      have hyi : (y : Int) ≤ 140737488351232 := by omega
      have HZ := Lib.hid (show len8 x k = z by unfold len8; rw [hz, hy, hq8, hq])
      have hc3 := H1.out.cell hlt (Nat.zero_add k).symm
      have hf3 := H1.out.frozen hlt (Nat.zero_add k).symm
      rw [if_neg (Nat.lt_irrefl k)] at hc3
      have HM1 := Lib.hid ((H1.out.set hlt (Nat.zero_add k).symm z rfl).congr fun j _ => upto_step (fun _ => 0) (len8 x) k _ HZ.out j)
      have HB1 := Lib.hid (H3.out.setCell (p := ⟨w.heap.size + 1, k, none⟩) (Nat.le_succ _) (.int .u8 (z : Nat)))
      have HO1 := Lib.hid (H2.out.setOther (a := ⟨w.heap.size + 1, k, none⟩) (Nat.ne_of_lt (Nat.lt_succ_self _)) (.int .u8 (z : Nat)))
      clear hq hq8 hy hz
      go_wp2_with fail
      go_roundw
      case rel => exact ⟨k + 1, by omega, by go_num, HM1.out, HO1.out, HB1.out⟩
      case measure => simp [intOf]; omega
    · obtain rfl : k = 8 := by omega
      have HR := Lib.hid (H1.out.congr (f := len8 x) fun j hj => if_pos hj)
      go_wp2_with (first | (refine wpList_loadB rfl 107 (.tmp 3) rfl (w.heap.size + 1) 0 8 rfl _ HR.out _ Tryz.underlying107 rfl size8b ?_) | (refine wpList_storeB rfl 107 (.tmp 2) (.tmp 18) rfl w.heap.size 0 8 _ _ rfl rfl H2.out size8b ?_; intro w2 h1 h2; have HR2 := Lib.hid h1; have HC2 := Lib.hid h2; clear h1 h2))
      exact bodyPost_ret (results_cellB rfl _ _ w.heap.size 0 8 _ rfl HR2.out _ Tryz.underlying107 rfl size8b) rfl ⟨by rw [hx], H3.out.trans (HC2.out.below H3.out.size (Nat.le_refl _))⟩
def fkN (n : Nat) : Nat → Nat
  | 0 => n
  | _ + 1 => 32
def fkF (n : Nat) (key : Nat → Nat) (s : Nat → ByteArray) : Nat → Nat → Nat
  | 0 => key
  | i + 1 => tag (fkN n i) (fkF n key s i) (8 + (s i).size) (catB 8 (len8 (s i).size) (by_ (s i)))
theorem fkF_by {n : Nat} {key : Nat → Nat} {s : Nat → ByteArray} (hk : By n key) : ∀ i, By (fkN n i) (fkF n key s i)
  | 0 => hk
  | _ + 1 => fun _ _ => tag_lt _ _ _ _ _
theorem fkN_le {n K : Nat} (hn : n ≤ K) (h : 32 ≤ K) : ∀ i, fkN n i ≤ K
  | 0 => hn
  | _ + 1 => h
theorem bytesOf' (s : ByteArray) (w : World) : ∃ cap W, (convert 9 22 (.string s)).run Tryz.prog w = .ok (.slice (some ⟨w.heap.size, 0, none⟩) s.size cap) W ∧
    Below w.heap.size w W ∧ s.size ≤ cap ∧ SlB W (some ⟨w.heap.size, 0, none⟩) s.size (by_ s) := by
  obtain ⟨cap, W, h1, h2, _, h4⟩ := bytesOf s w
  have h5 := run_bytes_of_string w _ _ _ s Tryz.underlying9 Tryz.underlying22 Tryz.underlying5
  have h6 := h1.symm.trans h5
  injection h6 with h6 h7
  injection h6 with _ _ h8
  exact ⟨cap, W, h1, h2, by rw [h8]; exact grownCap_ge _ _ _ _, SlB.of_rowX h4 fun j _ => ⟨by_lt s j, rfl⟩⟩
end Go.Proofs.YthmlcmlpmolmoaaGreatDoor
namespace Go.Proofs.YthmlcmlpmolmoaaGreatDoor
open Go.RowKit
def ov (f : Nat → Nat → Nat) (k u j t : Nat) : Nat := if j < k ∨ (j = k ∧ t < u) then j + 1 else f j t
end Go.Proofs.YthmlcmlpmolmoaaGreatDoor
