/- 10 texts in one, in their order. -/
import Derived.Test.YtogcfaijphpgfaaDoorPk3
/- As OrdT, but some operations (mu) may write what the region itself has made: an append to a row of its own. What an operation yields need then hold only until the last operation that looks at it, but for those that are steady (st). Written by specs/mkordm.py out of OrdT. Nothing here hangs on the program. -/
namespace Go.Proofs.YtogcfaijphpgfaaDoor.ord
open Go Go.RowKit

/-- does q wait for p, over others too? -/
def behind (ops : Array Oper) : Nat → Nat → Nat → Bool
  | 0, _, _ => false
  | n + 1, q, p => match ops[q]? with
    | none => false
    | some o => o.after.toList.any fun e => Region.binds .any e && (Nat.beq e.on p || behind ops n e.on p)
theorem behind_listed {ops : Array Oper} {listed : Array Bool} (hc : ∀ j oj, ops[j]? = some oj → listed.getD j false = true → ∀ e ∈ oj.after, Region.binds .any e = true → listed.getD e.on false = true) : ∀ (n q p : Nat), behind ops n q p = true → listed.getD q false = true → listed.getD p false = true
  | 0, _, _, h, _ => by cases h
  | n + 1, q, p, h, hq => by
    unfold behind at h
    cases ho : ops[q]? with
    | none => rw [ho] at h; cases h
    | some o =>
      rw [ho] at h
      obtain ⟨e, he, h1⟩ := List.any_eq_true.1 h
      simp only [Bool.and_eq_true, Bool.or_eq_true] at h1
      have h2 := hc q o ho hq e (by simpa using he) h1.1
      rcases h1.2 with h3 | h3
      · rw [Nat.eq_of_beq_eq_true h3] at h2; exact h2
      · exact behind_listed hc n e.on p h3 h2
/-- nothing that is looked at later hangs on what p may write -/
def okMu (ops : Array Oper) (D : List (List Nat)) (L : List (Nat × Nat)) (mu st : Nat → Bool) : Bool :=
  L.all fun p => !mu p.1 || L.all fun q => q.1 == p.1 || st q.1 || behind ops ops.size q.1 p.1 || L.all fun r => !dep D r.1 q.1 || r.1 == p.1 || match ops[p.1]? with
    | none => false
    | some o => waits o r.1

section
variable {P : Program} {ops : Array Oper} {Q : Exit → Act → World → Prop} {D : List (List Nat)} {L : List (Nat × Nat)} {G : Nat → Value → World → Prop} {a0 : Act} {w0 : World} {listed0 : Array Bool} {mu st : Nat → Bool}
/-- what is asked of one operation -/
def StepM (P : Program) (ops : Array Oper) (D : List (List Nat)) (L : List (Nat × Nat)) (G : Nat → Value → World → Prop) (mu : Nat → Bool) (a0 : Act) (w0 : World) (p : Nat × Nat) : Prop :=
  ∀ o, ops[p.1]? = some o → ∀ (x : Nat → Value) (w : World), Below w0.heap.size w0 w → (∀ q ∈ L, dep D p.1 q.1 = true → G q.1 (x q.1) w) →
    (Region.wanted o (yielded ops (puts x (dep D p.1) L a0).tmps) = true ∧ makes P o (puts x (dep D p.1) L a0) w (fun v w' => Below (if mu p.1 then w0.heap.size else w.heap.size) w w' ∧ G p.1 v w')) ∨
    (Region.wanted o (yielded ops (puts x (dep D p.1) L a0).tmps) = false ∧ G p.1 undef w)
/-- is it looked at again, or steady? -/
def live (D : List (List Nat)) (L : List (Nat × Nat)) (st : Nat → Bool) (listed : Array Bool) (q : Nat) : Prop := st q = true ∨ ∃ r ∈ L, dep D r.1 q = true ∧ listed.getD r.1 false = false

structure InvM (N : Nat) (ops : Array Oper) (D : List (List Nat)) (st : Nat → Bool) (L : List (Nat × Nat)) (G : Nat → Value → World → Prop) (a0 : Act) (w0 : World) (listed0 listed : Array Bool) (a : Act) (w : World) : Prop where
  grow : Below w0.heap.size w0 w
  defers : a.defers = a0.defers
  size : a.tmps.size = a0.tmps.size
  lsize : listed.size = listed0.size
  old : ∀ s, (∀ q ∈ L, q.2 = s → listed.getD q.1 false = false) → a.tmps[s]? = a0.tmps[s]?
  new : ∀ q ∈ L, listed.getD q.1 false = true → ∃ v, a.tmps[q.2]? = some v ∧ (live D L st listed q.1 → G q.1 v w)
  closed : ∀ q ∈ L, listed.getD q.1 false = true → ∀ o, ops[q.1]? = some o → ∀ j, waits o j = true → listed.getD j false = true
  tail : ∀ t, N ≤ t → t < ops.size → listed.getD t true = false

theorem step_invM {N : Nat} (hok : okT N ops listed0 a0.tmps.size D L = true) (hmu : okMu ops D L mu st = true) (hst : ∀ i v w w', G i v w → Below w.heap.size w w' → G i v w') (hst2 : ∀ i v w w', st i = true → G i v w → Below w0.heap.size w w' → G i v w') (hstep : ∀ p ∈ L, StepM P ops D L G mu a0 w0 p)
    {listed : Array Bool} {a : Act} {w : World} (I : InvM N ops D st L G a0 w0 listed0 listed a w) {i : Nat} (hi : i ∈ Region.ready .any ops listed) (hiN : i < N) :
    wpOp P ops Q i (fun a' w' => InvM N ops D st L G a0 w0 listed0 (listed.setIfInBounds i true) a' w') a w := by
  obtain ⟨hun, o, ho, hdeps⟩ := mem_ready.1 hi
  have hdeps' : ∀ j, waits o j = true → listed.getD j false = true := fun j hj => by
    obtain ⟨e, he, hb, rfl⟩ := waits_iff.1 hj; exact hdeps e he hb
  unfold okT at hok
  simp only [Bool.and_eq_true, decide_eq_true_eq, List.all_eq_true] at hok
  obtain ⟨p, hp, rfl⟩ : ∃ p ∈ L, p.1 = i := by
    obtain ⟨q, hq, e⟩ := List.any_eq_true.1 (hok.1.1.2 i (List.mem_range.2 hiN))
    exact ⟨q, hq, by simpa using e⟩
  have hls0 : listed0.size = ops.size := by simpa using hok.1.1.1
  have hany0 := hok.1.1.2
  obtain ⟨⟨⟨_, _⟩, hn1, hn2⟩, hall⟩ := hok
  have hp0 := hall p hp
  obtain ⟨hpN, ⟨⟨hsz, hls⟩, _⟩, hpo⟩ := hp0
  rw [ho] at hpo
  simp only [Bool.and_eq_true, List.all_eq_true, beq_iff_eq, Bool.or_eq_true, Bool.not_eq_true', beq_eq_false_iff_ne] at hpo
  obtain ⟨⟨⟨_, hDw, hdst⟩, hsel⟩, hlooks⟩ := hpo
  have hD : ∀ j, dep D p.1 j = true → waits o j = true := fun j hj => by
    unfold dep at hj
    obtain ⟨k, hk, e⟩ := List.any_eq_true.1 hj
    have := Nat.eq_of_beq_eq_true e
    subst this
    exact hDw _ hk
  have hsel' : ∀ cs b, o.op ≠ .select cs b := fun cs b e => by rw [e] at hsel; cases hsel
  have hli : p.1 < listed.size := by rw [I.lsize]; exact hls
  have hunF : listed.getD p.1 false = false := by
    simp only [Array.getD_eq_getD_getElem?, Array.getElem?_eq_getElem hli, Option.getD_some] at hun ⊢; exact hun
  have HCL : ∀ j oj, ops[j]? = some oj → listed.getD j false = true → ∀ e ∈ oj.after, Region.binds .any e = true → listed.getD e.on false = true := fun j oj hj hl e he hb => by
    have hlt : j < ops.size := (Array.getElem?_eq_some_iff.1 hj).1
    rcases Nat.lt_or_ge j N with h | h
    · obtain ⟨q, hq, eq⟩ := List.any_eq_true.1 (hany0 j (List.mem_range.2 h))
      have eq' : q.1 = j := by simpa using eq
      subst eq'
      exact I.closed q hq hl oj hj e.on (waits_iff.2 ⟨e, he, hb, rfl⟩)
    · have h1 := I.tail j h hlt
      have hlt2 : j < listed.size := by rw [I.lsize, hls0]; exact hlt
      simp only [Array.getD_eq_getD_getElem?, Array.getElem?_eq_getElem hlt2, Option.getD_some] at h1 hl
      rw [h1] at hl; cases hl
  have hx : ∃ x : Nat → Value, ∀ q ∈ L, listed.getD q.1 false = true → a.tmps[q.2]? = some (x q.1) ∧ (live D L st listed q.1 → G q.1 (x q.1) w) := by
    refine ⟨fun j => match L.find? (fun q => q.1 == j) with | some q => a.tmps.getD q.2 undef | none => undef, fun q hq hl => ?_⟩
    obtain ⟨v, hv, hg⟩ := I.new q hq hl
    have hf : L.find? (fun r => r.1 == q.1) = some q := by
      cases hfd : L.find? (fun r => r.1 == q.1) with
      | none => have := List.find?_eq_none.1 hfd q hq; simp at this
      | some r =>
        have h1 := List.find?_some hfd
        have h2 := List.mem_of_find?_eq_some hfd
        have e : r.1 = q.1 := by simpa using h1
        have : r = q := by
          exact nodup_inj (f := (·.1)) hn1 h2 hq e
        rw [this]
    simp only [hf, Array.getD_eq_getD_getElem?, hv, Option.getD_some]
    exact ⟨trivial, hg⟩
  obtain ⟨x, hx⟩ := hx
  have hsame : ∀ t ∈ o.looksAt ops, a.tmps[t]? = (puts x (dep D p.1) L a0).tmps[t]? := fun t ht => by
    rcases Classical.em (∃ q ∈ L, q.2 = t ∧ dep D p.1 q.1 = true) with ⟨q, hq, rfl, hw⟩ | hno
    · have hsq : q.2 < a0.tmps.size := (hall q hq).2.1.1.1
      rw [puts_at x (dep D p.1) L a0 q hn2 hq hw hsq]
      exact (hx q hq (hdeps' _ (hD _ hw))).1
    · rw [puts_not x (dep D p.1) L a0 t fun q hq e => by
        cases hw : dep D p.1 q.1
        · rfl
        · exact absurd ⟨q, hq, e, hw⟩ hno]
      refine I.old t fun q hq e => ?_
      rcases hlooks t ht q hq with (h | h) | h
      · exact absurd e h
      · exact absurd ⟨q, hq, e, h⟩ hno
      · cases hl : listed.getD q.1 false
        · rfl
        · cases hoq : ops[q.1]? with
          | none => rw [hoq] at h; cases h
          | some o' =>
            rw [hoq] at h
            have := I.closed q hq hl o' hoq p.1 h
            rw [hunF] at this; cases this
  have hS := hstep p hp o ho x w I.grow fun q hq hw => (hx q hq (hdeps' _ (hD _ hw))).2 (Or.inr ⟨p, hp, hw, hunF⟩)
  rw [← wanted_of hsame] at hS
  have keep : ∀ v w', Below (if mu p.1 then w0.heap.size else w.heap.size) w w' → G p.1 v w' → InvM N ops D st L G a0 w0 listed0 (listed.setIfInBounds p.1 true) (a.put o.dst v) w' := fun v w' hb hg => by
    have hput : ∀ s, s ≠ p.2 → (a.put o.dst v).tmps[s]? = a.tmps[s]? := fun s hs => by
      rw [hdst]; simp [Act.put, Array.getElem?_setIfInBounds_ne (Ne.symm hs)]
    have hputp : (a.put o.dst v).tmps[p.2]? = some v := by
      rw [hdst]; simp [Act.put, I.size, hsz]
    have hset : ∀ j, j ≠ p.1 → (listed.setIfInBounds p.1 true).getD j false = listed.getD j false := fun j hj => getD_set_ne false (Ne.symm hj)
    have hsetp : (listed.setIfInBounds p.1 true).getD p.1 false = true := by simp [hli]
    have uniq : ∀ q ∈ L, q.2 = p.2 → q = p := fun q hq e => by
      exact nodup_inj (f := (·.2)) hn2 hq hp e
    have uniq1 : ∀ q ∈ L, q.1 = p.1 → q = p := fun q hq e => by
      exact nodup_inj (f := (·.1)) hn1 hq hp e
    have hb0 : Below w0.heap.size w w' := hb.mono (by split; exact Nat.le_refl _; exact I.grow.size)
    refine ⟨I.grow.trans hb0, ?_, ?_, ?_, fun s hs => ?_, fun q hq hl => ?_, fun q hq hl o' ho' j hj => ?_, fun s hs ht => ?_⟩
    · rw [hdst]; exact I.defers
    · rw [hdst]; simp [Act.put, I.size]
    · simp [I.lsize]
    · have hsp : s ≠ p.2 := fun e => by
        have := hs p hp e.symm
        rw [hsetp] at this; cases this
      rw [hput s hsp]
      refine I.old s fun q hq e => ?_
      have := hs q hq e
      have hqp : q.1 ≠ p.1 := fun e2 => hsp (by rw [← e, uniq1 q hq e2])
      rwa [hset _ hqp] at this
    · by_cases e : q.1 = p.1
      · obtain rfl := uniq1 q hq e
        exact ⟨v, hputp, fun _ => hg⟩
      · rw [hset _ e] at hl
        obtain ⟨u, hu, hgu⟩ := I.new q hq hl
        have : q.2 ≠ p.2 := fun e2 => e (by rw [uniq q hq e2])
        refine ⟨u, by rw [hput _ this]; exact hu, fun hlv => ?_⟩
        have hlv0 : live D L st listed q.1 := by
          rcases hlv with h | ⟨r, hr, h1, h2⟩
          · exact Or.inl h
          · refine Or.inr ⟨r, hr, h1, ?_⟩
            by_cases e3 : r.1 = p.1
            · rw [e3]; exact hunF
            · rw [hset _ e3] at h2; exact h2
        by_cases hm : mu p.1 = true
        · rcases hlv with h | ⟨r, hr, h1, h2⟩
          · exact hst2 _ _ _ _ h (hgu hlv0) hb0
          · unfold okMu at hmu
            have h3 := List.all_eq_true.1 hmu p hp
            rw [hm] at h3
            have h4 := List.all_eq_true.1 (show (L.all fun q => q.1 == p.1 || st q.1 || behind ops ops.size q.1 p.1 || L.all fun r => !dep D r.1 q.1 || r.1 == p.1 || match ops[p.1]? with | none => false | some o => waits o r.1) = true by simpa using h3) q hq
            by_cases hsq : st q.1 = true
            · exact hst2 _ _ _ _ hsq (hgu hlv0) hb0
            by_cases hbe : behind ops ops.size q.1 p.1 = true
            · exfalso
              have := behind_listed HCL _ _ _ hbe hl
              rw [hunF] at this; cases this
            · exfalso
              have h5 := List.all_eq_true.1 (show (L.all fun r => !dep D r.1 q.1 || r.1 == p.1 || match ops[p.1]? with | none => false | some o => waits o r.1) = true by simpa [e, hsq, hbe] using h4) r hr
              rw [h1, ho] at h5
              by_cases e3 : r.1 = p.1
              · rw [e3, hsetp] at h2; cases h2
              · have h6 : waits o r.1 = true := by simpa [e3] using h5
                have h7 := hdeps' _ h6
                rw [hset _ e3, h7] at h2; cases h2
        · rw [if_neg hm] at hb
          exact hst _ _ _ _ (hgu hlv0) hb
    · by_cases e : q.1 = p.1
      · obtain rfl := uniq1 q hq e
        rw [ho] at ho'
        cases ho'
        have := hdeps' j hj
        exact getD_set_true this
      · rw [hset _ e] at hl
        exact getD_set_true (I.closed q hq hl o' ho' j hj)
    · rw [getD_set_ne true (show p.1 ≠ s by omega)]
      exact I.tail s hs ht
  unfold wpOp
  rw [ho]
  show if Region.wanted o (yielded ops a.tmps) = true then _ else _
  rcases hS with ⟨hw, hm⟩ | ⟨hw, hg⟩
  · rw [if_pos hw]
    refine Or.inl (wp_of_makes (N := fun v w' => Below (if mu p.1 then w0.heap.size else w.heap.size) w w' ∧ G p.1 v w') ?_ fun v w' h => keep v w' h.1 h.2)
    unfold makes at hm ⊢
    rw [exec_of hsel' hsame]
    exact hm
  · rw [hw, if_neg (by decide)]
    exact keep _ _ (Below.refl _ _) hg
theorem done_eqM {N : Nat} (hn2 : (L.map (·.2)).Nodup) (hsz : ∀ q ∈ L, q.2 < a0.tmps.size) {listed : Array Bool} {a : Act} {w : World} (I : InvM N ops D st L G a0 w0 listed0 listed a w) (hl : ∀ q ∈ L, listed.getD q.1 false = true) (hn1 : (L.map (·.1)).Nodup) :
    ∃ x : Nat → Value, (∀ q ∈ L, st q.1 = true → G q.1 (x q.1) w) ∧ a = puts x (fun _ => true) L a0 := by
  have hx : ∃ x : Nat → Value, ∀ q ∈ L, a.tmps[q.2]? = some (x q.1) ∧ (st q.1 = true → G q.1 (x q.1) w) := by
    refine ⟨fun j => match L.find? (fun q => q.1 == j) with | some q => a.tmps.getD q.2 undef | none => undef, fun q hq => ?_⟩
    obtain ⟨v, hv, hg⟩ := I.new q hq (hl q hq)
    have hf : L.find? (fun r => r.1 == q.1) = some q := by
      cases hfd : L.find? (fun r => r.1 == q.1) with
      | none => have := List.find?_eq_none.1 hfd q hq; simp at this
      | some r =>
        have h1 := List.find?_some hfd
        have h2 := List.mem_of_find?_eq_some hfd
        have e : r.1 = q.1 := by simpa using h1
        have : r = q := by
          exact nodup_inj (f := (·.1)) hn1 h2 hq e
        rw [this]
    simp only [hf, Array.getD_eq_getD_getElem?, hv, Option.getD_some]
    exact ⟨trivial, fun h => hg (Or.inl h)⟩
  obtain ⟨x, hx⟩ := hx
  refine ⟨x, fun q hq => (hx q hq).2, ?_⟩
  have ht : a.tmps = (puts x (fun _ => true) L a0).tmps := by
    apply Array.ext_getElem?
    intro s
    rcases Classical.em (∃ q ∈ L, q.2 = s) with ⟨q, hq, rfl⟩ | hno
    · rw [puts_at x _ L a0 q hn2 hq rfl (hsz q hq), (hx q hq).1]
    · rw [puts_not x _ L a0 s fun q hq e => absurd ⟨q, hq, e⟩ hno]
      exact I.old s fun q hq e => absurd ⟨q, hq, e⟩ hno
  have hd : a.defers = (puts x (fun _ => true) L a0).defers := by rw [puts_defers, I.defers]
  cases a
  simp only at ht hd
  rw [ht, hd]
theorem head_ofM {N : Nat} {listed : Array Bool} {a : Act} {w : World} (hls : listed0.size = ops.size) (hany : ∀ i, i < N → ∃ q ∈ L, q.1 = i) (I : InvM N ops D st L G a0 w0 listed0 listed a w) : HeadInv .any ops N listed := by
  refine ⟨by rw [I.lsize, hls], fun j oj hj hl e he hb => ?_, I.tail⟩
  have hlt : j < ops.size := (Array.getElem?_eq_some_iff.1 hj).1
  rcases Nat.lt_or_ge j N with h | h
  · obtain ⟨q, hq, rfl⟩ := hany j h
    exact I.closed q hq hl oj hj e.on (waits_iff.2 ⟨e, he, hb, rfl⟩)
  · have h1 := I.tail j h hlt
    have hs : listed.size = ops.size := by rw [I.lsize, hls]
    have hlt2 : j < listed.size := by omega
    simp only [Array.getD_eq_getD_getElem?, Array.getElem?_eq_getElem hlt2, Option.getD_some] at h1 hl
    rw [h1] at hl; cases hl
theorem wpAny_M {N g : Nat} (hok : okT N ops listed0 a0.tmps.size D L = true) (hmu : okMu ops D L mu st = true) (hN : N < ops.size) (hs : Region.sinkB .any ops N = true) (hc : Region.chainB .any ops N = true)
    (hst : ∀ i v w w', G i v w → Below w.heap.size w w' → G i v w') (hst2 : ∀ i v w w', st i = true → G i v w → Below w0.heap.size w w' → G i v w') (hstep : ∀ p ∈ L, StepM P ops D L G mu a0 w0 p)
    (hdone : ∀ (listed : Array Bool) (a : Act) (w : World), InvM N ops D st L G a0 w0 listed0 listed a w → (∀ i, i < N → listed.getD i true = true) → wpAny P .any ops Q g listed a w) :
    ∀ (m : Nat) (listed : Array Bool) (a : Act) (w : World), todo listed N = m → InvM N ops D st L G a0 w0 listed0 listed a w → wpAny P .any ops Q (m + g) listed a w
  | 0, listed, a, w, hm, I => by
    rw [Nat.zero_add]
    exact hdone _ _ _ I (todo_zero listed N hm)
  | m + 1, listed, a, w, hm, I => by
    have hok' := hok
    unfold okT at hok'
    simp only [Bool.and_eq_true, decide_eq_true_eq, List.all_eq_true, beq_iff_eq] at hok'
    obtain ⟨⟨⟨hls, hany⟩, _, _⟩, _⟩ := hok'
    have hany' : ∀ i, i < N → ∃ q ∈ L, q.1 = i := fun i hi => by
      obtain ⟨q, hq, e⟩ := List.any_eq_true.1 (hany i (List.mem_range.2 hi))
      exact ⟨q, hq, by simpa using e⟩
    have HI := head_ofM hls hany' I
    obtain ⟨i0, hi0, hu0⟩ := todo_pos listed N (by omega)
    rw [show m + 1 + g = (m + g) + 1 by omega]
    refine ⟨fun h0 => ?_, fun i hi => ?_⟩
    · exfalso
      obtain ⟨q, hq, rfl⟩ := hany' i0 hi0
      have := all_listedT hok I.lsize h0 q hq
      have hlt : q.1 < listed.size := by rw [I.lsize, hls]; omega
      simp only [Array.getD_eq_getD_getElem?, Array.getElem?_eq_getElem hlt, Option.getD_some] at this hu0
      rw [this] at hu0; cases hu0
    · have hiN : i < N := by
        rcases Nat.lt_or_ge i N with h | h
        · exact h
        · exact absurd hi (tail_waits hs hc hN HI _ i0 rfl hi0 hu0 i h)
      refine wpOp_mono (fun a' w' I' => wpAny_M hok hmu hN hs hc hst hst2 hstep hdone m _ a' w' ?_ I') (step_invM hok hmu hst hst2 hstep I hi hiN)
      have := todo_set listed i (mem_ready.1 hi).1 N
      rw [if_pos hiN] at this
      omega
end
/-- such a region, from its begin on -/
theorem wp_region_ordM {P : Program} {l : List Oper} {Q : Exit → Act → World → Prop} {a0 : Act} {w : World} {id : Nat} (N : Nat) (D : List (List Nat)) (L : List (Nat × Nat)) (G : Nat → Value → World → Prop) (mu st : Nat → Bool) (hm : P.follows .mixedOrders = true)
    (hok : okT N l.toArray (Array.replicate l.toArray.size false) a0.tmps.size D L = true) (hB : (decide (N < l.toArray.size) && Region.sinkB .any l.toArray N && Region.chainB .any l.toArray N && Region.seqB .any l.toArray (l.toArray.size - N) N (Array.replicate N true ++ Array.replicate (l.toArray.size - N) false)) = true)
    (hmu : okMu l.toArray D L mu st = true)
    (hst : ∀ i v w w', G i v w → Below w.heap.size w w' → G i v w') (hst2 : ∀ i v w0 w', st i = true → G i v w0 → Below w.heap.size w0 w' → G i v w') (hstep : ∀ p ∈ L, StepM P l.toArray D L G mu a0 w.drew p)
    (hdone : ∀ (x : Nat → Value) (w' : World), Below w.heap.size w w' → (∀ q ∈ L, st q.1 = true → G q.1 (x q.1) w') → wpList P l.toArray Q (l.drop N) (puts x (fun _ => true) L a0) w') :
    (Code.region id l.toArray true).wp P Q a0 w := by
  simp only [Bool.and_eq_true, decide_eq_true_eq] at hB
  obtain ⟨⟨⟨hN, hs⟩, hc⟩, hseq⟩ := hB
  have hok' := hok
  unfold okT at hok'
  simp only [Bool.and_eq_true, decide_eq_true_eq, List.all_eq_true, beq_iff_eq] at hok'
  obtain ⟨⟨_, hn1, hn2⟩, hall⟩ := hok'
  refine wp_region_any hm ?_
  have hF : ∀ i, (Array.replicate l.toArray.size false).getD i false = false := fun i => getD_replicate_false _ _
  have key := wpAny_M (P := P) (Q := Q) (w0 := w.drew) (g := l.toArray.size - N) hok hmu hN hs hc hst hst2 hstep (fun listed a w1 I hl => by
    have hall' : ∀ q ∈ L, listed.getD q.1 false = true := fun q hq => by
      have h1 := hl q.1 (hall q hq).1
      have hlt : q.1 < listed.size := by rw [I.lsize]; simp; have := (hall q hq).1; simp at hN; omega
      simp only [Array.getD_eq_getD_getElem?, Array.getElem?_eq_getElem hlt, Option.getD_some] at h1 ⊢
      exact h1
    obtain ⟨x, hx, rfl⟩ := done_eqM hn2 (fun q hq => (hall q hq).2.1.1.1) I hall' hn1
    have hls : listed.size = l.toArray.size := by rw [I.lsize]; simp
    have hle : listed = Array.replicate N true ++ Array.replicate (l.toArray.size - N) false := by
      apply Array.ext
      · simp at hls hN ⊢; omega
      · intro i h1 h2
        rcases Nat.lt_or_ge i N with h | h
        · have h3 := hl i h
          simp only [Array.getD_eq_getD_getElem?, Array.getElem?_eq_getElem h1, Option.getD_some] at h3
          rw [h3, Array.getElem_append_left (by simpa using h)]; simp
        · have h3 := I.tail i h (by omega)
          simp only [Array.getD_eq_getD_getElem?, Array.getElem?_eq_getElem h1, Option.getD_some] at h3
          rw [h3, Array.getElem_append_right (by simpa using h)]; simp
    have hdl : (l.drop N).length = l.toArray.size - N := by simp
    have := wpAny_of_seq (P := P) (md := .any) (Q' := Q) (ops := l.toArray) (l.drop N) N listed (puts x (fun _ => true) L a0) w1 (fun j => by simp [List.getElem?_drop]) (by rw [hdl, hle]; exact hseq) (hdone x w1 ⟨I.grow.os, I.grow.tape, I.grow.output, I.grow.size, I.grow.block⟩ hx)
    rwa [hdl] at this) N (Array.replicate l.toArray.size false) a0 w.drew (todo_none _ _ (Nat.le_of_lt hN)) ⟨Below.refl _ _, rfl, rfl, rfl, fun _ _ => rfl, (fun q hq hl => absurd hl (by rw [hF]; decide)), (fun q hq hl => absurd hl (by rw [hF]; decide)), (fun t _ ht => getD_in (by simpa using ht) (hF t))⟩
  rw [show N + (l.toArray.size - N) = l.toArray.size by omega] at key
  exact key
end Go.Proofs.YtogcfaijphpgfaaDoor.ord
/- What the laws of several layers need: rows that are owned, operations in a region that draws its order, rows of slices that grow. -/
namespace Go.Proofs.YtogcfaijphpgfaaDoor
open Go.RowKit
/-- two rows, just put into a row -/
theorem owned_two (W : World) (A0 A1 : Option Addr) (n0 n1 c0 c1 g0 g1 : Nat) (f0 f1 : Nat → Nat) (B : Nat)
    (h0 : 0 < c0 → A0 = some ⟨g0, 0, none⟩ ∧ Arr W g0 0 c0 f0 ∧ B ≤ g0) (h1 : 0 < c1 → A1 = some ⟨g1, 0, none⟩ ∧ Arr W g1 0 c1 f1 ∧ B ≤ g1)
    (n01 : 0 < c0 → 0 < c1 → g0 ≠ g1) (l0 : c0 ≤ 140737488351300) (l1 : c1 ≤ 140737488351300) (hB : B ≤ W.heap.size) :
    Calls Tryd.prog 14 #[.slice (some ⟨W.heap.size, 0, none⟩) 2 2] (W.alloc (.cells #[.slice A0 n0 c0, .slice A1 n1 c1] 22)) fun e w' => e = .returned (.bool true) ∧ Below B W w' := by
  refine (owned_arr (R := 2) (A := t2 A0 A1) (n := t2 n0 n1) (c := t2 c0 c1) (g := t2 g0 g1) (f := t2 f0 f1) 2 _ (by decide) ⟨fun j hj => ?_, fun j hj hc => ?_⟩ ?_ ?_ ?_ ?_).mono ?_
  · rcases two_of hj with rfl | rfl <;> exact (World.cell?_alloc_at _ _ _ _ rfl).trans rfl
  · rcases two_of hj with rfl | rfl
    · exact ((h0 hc).2.1.alloc _).congr fun t _ => (ov_none (t2 f0 f1) 0 t).symm
    · exact ((h1 hc).2.1.alloc _).congr fun t _ => (ov_none (t2 f0 f1) 1 t).symm
  · intro j hj hc
    rcases two_of hj with rfl | rfl
    · exact (h0 hc).1
    · exact (h1 hc).1
  · intro i j hi hj hij ci cj
    rcases two_of hi with rfl | rfl <;> rcases two_of hj with rfl | rfl
    · exact absurd rfl hij
    · exact n01 ci cj
    · exact (n01 cj ci).symm
    · exact absurd rfl hij
  · intro j hj hc
    rcases two_of hj with rfl | rfl
    · exact Nat.ne_of_gt ((h0 hc).2.1.lt hc)
    · exact Nat.ne_of_gt ((h1 hc).2.1.lt hc)
  · intro j hj
    rcases two_of hj with rfl | rfl
    · exact l0
    · exact l1
  rintro e w' ⟨he, h⟩
  refine ⟨he, ((Below.refl W.heap.size W).alloc (Nat.le_refl _) _ |>.mono hB).trans (h.below (by simp; omega) fun k hk => ?_)⟩
  obtain ⟨j, hj, hc, rfl⟩ := hk
  rcases two_of hj with rfl | rfl
  · exact (h0 hc).2.2
  · exact (h1 hc).2.2
namespace ord
theorem makes_append {P : Program} {o : Oper} {a : Act} {w : World} {N : Value → World → Prop} {s x : Operand} {t : TypeId} {vs vx u : Value} {w' : World} (ho : o.op = .call { callee := .builtin .append, args := #[s, x], argTypes := #[t, t] }) (ht : o.type = t) (hs : a.eval s = vs) (hx : a.eval x = vx)
    (hrun : (Builtin.append_ #[t, t] t #[vs, vx]).run P w = .ok u w') (hN : N u w') : makes P o a w N := by
  unfold makes
  have : (execOp a.eval o).run P w = .ok (.value u) w' := by
    simp [execOp, ho, ht, resolve, invoke, builtin, hs, hx, hrun, Result.andThen]
  rw [this]; exact hN
theorem makes_build0 {P : Program} {o : Oper} {a : Act} {w : World} {N : Value → World → Prop} {t : TypeId} {len : Nat} {u : Value} {w' : World} (ho : o.op = .buildSlice t len #[]) (hrun : (Instr.buildSlice t len #[]).run P w = .ok u w') (hN : N u w') : makes P o a w N := makes_build ho (by simp) hrun hN
end ord
theorem str_same2 (w : World) (x y : Operand) (s : ByteArray) : (do eqGuard .eql 9 x y (.string s) (.string s); binOp .eql 9 (.string s) (.string s) : Sem Value).run Tryd.prog w = .ok (.bool true) w := by
  go_simp
theorem run_bytes0 (w : World) : (Instr.buildSlice 22 0 #[]).run Tryd.prog w = .ok (.slice (some ⟨w.heap.size, 0, none⟩) 0 0) (w.alloc (.cells #[] 5)) := by go_simp
/-- an own row of slices, its cells given by a function -/
def OwnS (w : World) (base : Nat) (v : Value) (k : Nat) (X : Nat → Value) : Prop := w.ownsRow base 22 1 v k (valsL k X)
namespace OwnS
variable {w w' : World} {base k : Nat} {v : Value} {X Y : Nat → Value}
theorem nil (w : World) (base : Nat) (X : Nat → Value) : OwnS w base (.slice none 0 0) 0 X := World.ownsRow_nil w base _ 1
theorem alloc (h : OwnS w base v k X) (o : Obj) : OwnS (w.alloc o) base v k X := World.ownsRow.alloc h o
theorem drewN (h : OwnS w base v k X) (m : Nat) : OwnS (w.drewN m) base v k X := h
theorem congr (h : OwnS w base v k X) (e : ∀ j, j < k → X j = Y j) : OwnS w base v k Y := by
  unfold OwnS at *; rw [← valsL_congr e]; exact h
theorem keep (h : OwnS w base v k X) (hb : Below w.heap.size w w') : OwnS w' base v k X := by
  rcases h with ⟨h1, h2 | ⟨g, cap, cur, e, hg, hh, r⟩⟩
  · exact ⟨h1, Or.inl h2⟩
  · exact ⟨h1, Or.inr ⟨g, cap, cur, e, hg, (hb.block g (Array.getElem?_eq_some_iff.1 hh).1).trans hh, r⟩⟩
theorem slice (h : OwnS w base v k X) (hk : 0 < k) : ∃ g c, v = .slice (some ⟨g, 0, none⟩) k c ∧ k ≤ c ∧ base ≤ g ∧ g < w.heap.size ∧ ∀ j, j < k → w.cell? ⟨g, j, none⟩ = some (X j) := by
  have hown := h
  rcases hown.2 with ⟨rfl, hn⟩ | ⟨g, cap, cur, rfl, hg, hh, h1, r⟩
  · omega
  · refine ⟨g, cap, rfl, h1, hg, (Array.getElem?_eq_some_iff.1 hh).1, fun j hj => ?_⟩
    rw [hown.cellAt j (by omega), valsL_at hj]
end OwnS
theorem infoSl : (Tryd.prog.info? 22).map (fun i => (i.zero, i.size, i.bytes)) = some (some (.slice none 0 0), 1, 24) := by kernel_rfl
theorem valsL_snoc (k : Nat) (X : Nat → Value) : valsL k X ++ [X k] = valsL (k + 1) X := by unfold valsL; rw [List.range_succ, List.map_append]; rfl
/-- append of one slice -/
theorem wpList_appV {ops : Array Oper} {rest : List Oper} {o : Oper} {a : Act} {Q : Exit → Act → World → Prop} {w : World} (hgd : o.guard = none) (s x : Operand)
    (ho : o.op = .call { callee := .builtin .append, args := #[s, x], argTypes := #[30, 30] })
    (base : Nat) (v : Value) (k : Nat) (X : Nat → Value) (hs : a.eval s = v) (h : OwnS w base v k X)
    (T : Nat) (hx : a.eval x = .slice (some ⟨T, 0, none⟩) 1 1) (hX : w.cell? ⟨T, 0, none⟩ = some (X k)) (h1 : (X k).oneCell' = true) (hk : k ≤ 1000) (hbase : base ≤ w.heap.size)
    (hq : ∀ v' w', OwnS w' base v' (k + 1) X → Below base w w' → wpList Tryd.prog ops Q rest (a.put o.dst v') w') : wpList Tryd.prog ops Q (o :: rest) a w := by
  obtain ⟨i, hi, hz, hsz, hb⟩ := info_parts infoSl
  refine wpList_append_own w hgd s x 30 ho base 22 i (.slice none 0 0) 1 24 Tryd.underlying30 hi hz hsz hb rfl (by decide) v k _ hs h ⟨T, 0, none⟩ 1 1 [X k] hx rfl ?_ ?_ (by unfold maxLen; omega) (by omega) hbase ?_
  · intro j u hj
    match j, hj with
    | 0, hj => simp at hj; subst hj; exact hX
  · intro u hu; simp at hu; subst hu; exact h1
  · intro v' w' h1 h2 _
    refine hq v' w' ?_ ((Below.refl base w).grown h2 hbase fun k hk => (h.lt k hk).1)
    unfold OwnS
    rw [← valsL_snoc]
    exact h1
namespace ord
theorem makes_len {P : Program} {o : Oper} {a : Act} {w : World} {N : Value → World → Prop} {s : Operand} {t ty : TypeId} {vs u : Value} (ho : o.op = .call { callee := .builtin .len, args := #[s], argTypes := #[t] }) (ht : o.type = ty) (hs : a.eval s = vs)
    (hrun : (Builtin.len_ #[t] ty #[vs]).run P w = .ok u w) (hN : N u w) : makes P o a w N := by
  unfold makes
  have : (execOp a.eval o).run P w = .ok (.value u) w := by
    simp [execOp, ho, ht, resolve, invoke, builtin, hs, hrun, Result.andThen]
  rw [this]; exact hN
end ord
theorem run_len8 (A : Option Addr) (n c : Nat) (w : World) : (Builtin.len_ #[22] 3 #[.slice A n c]).run Tryd.prog w = .ok (.int .i64 (n : Int)) w := by go_simp
end Go.Proofs.YtogcfaijphpgfaaDoor
/- Calls of a digest that goes on, for the laws (layer 5). -/
namespace Go.Proofs.YtogcfaijphpgfaaDoor
open Go.RowKit
/-- bytes that lie outside block K -/
def Off (A : Option Addr) (n K : Nat) : Prop := 0 < n → ∀ B o, A = some ⟨B, o, none⟩ → B ≠ K
theorem SlB.off {w : World} {A : Option Addr} {n K : Nat} {f : Nat → Nat} (h : SlB w A n f) (hK : w.heap.size ≤ K) : Off A n K := fun hn B o e => by
  obtain ⟨B', o', e', hB, _⟩ := h hn
  rw [e] at e'
  injection e' with e'
  injection e' with e1 _ _
  omega
/-- what a write leaves -/
def Wrote (W : World) (g n : Nat) (F : Nat → Nat) (e : Ending) (w' : World) : Prop := e = .returned (.tuple #[]) ∧ HM w' g n F ∧ Chg g W w'
theorem write1_any (W : World) (g n0 : Nat) (A : Option Addr) (n c : Nat) (f F : Nat → Nat) (hN : n0 + n ≤ 1000000000000000) (hc : n ≤ c) (hA : SlB W A n f) (hF : ∀ j, j < n → F (n0 + j) = f j) (hm : HM W g n0 F) (hY : By (n0 + n) F) (ht : GT W)
    (hg : 1 ≠ g ∧ 0 ≠ g) (hO : Off A n g) :
    Calls Tryd.prog 24 #[.pointer (some ⟨g, 0, none⟩), .slice (some ⟨W.heap.size, 0, none⟩) 1 1] (W.alloc (.cells #[.slice A n c] 22)) (Wrote W g (n0 + n) F) :=
  (write_any g n0 W.heap.size 1 1 (fun _ => A) (fun _ => n) (fun _ => c) (fun _ => f) F _ (by decide) hN (parts1 A n c f hA) (fun _ _ => hc) (fun i hi j hj => by
    obtain rfl : i = 0 := by omega
    exact hF j hj) (hm.alloc _) hY (ht.alloc _) hg (Nat.ne_of_gt hm.lt) (fun _ _ => hO)).mono fun _ _ h => ⟨h.1, h.2.1, (Chg.of_below ((Below.refl _ _).alloc (Nat.le_refl _) _)).trans h.2.2⟩
theorem write2_parts (W : World) (g n0 gp cap : Nat) (A0 A1 : Option Addr) (k0 k1 c0 c1 : Nat) (f0 f1 F : Nat → Nat) (hN : n0 + k0 + k1 ≤ 1000000000000000) (hc0 : k0 ≤ c0) (hc1 : k1 ≤ c1) (hp : Parts W gp 2 (t2 A0 A1) (t2 k0 k1) (t2 c0 c1) (t2 f0 f1)) (hF0 : ∀ j, j < k0 → F (n0 + j) = f0 j) (hF1 : ∀ j, j < k1 → F (n0 + k0 + j) = f1 j) (hm : HM W g n0 F) (hY : By (n0 + k0 + k1) F) (ht : GT W)
    (hg : 1 ≠ g ∧ 0 ≠ g) (hgp : gp ≠ g) (hO0 : Off A0 k0 g) (hO1 : Off A1 k1 g) :
    Calls Tryd.prog 24 #[.pointer (some ⟨g, 0, none⟩), .slice (some ⟨gp, 0, none⟩) 2 cap] W (Wrote W g (n0 + k0 + k1) F) := by
  refine (write_any g n0 gp 2 cap (t2 A0 A1) (t2 k0 k1) (t2 c0 c1) (t2 f0 f1) F W (by decide) hN hp (fun i hi => ?_) (fun i hi j hj => ?_) hm hY ht hg hgp (fun i hi => ?_)).mono fun _ _ h => ⟨h.1, h.2.1, h.2.2⟩
  · rcases two_of hi with rfl | rfl
    · exact hc0
    · exact hc1
  · rcases two_of hi with rfl | rfl
    · exact hF0 j hj
    · exact hF1 j hj
  · rcases two_of hi with rfl | rfl
    · exact hO0
    · exact hO1
theorem sum3_parts (W : World) (gp cap : Nat) (A0 A1 A2 : Option Addr) (n0 n1 n2 c0 c1 c2 : Nat) (f0 f1 f2 F : Nat → Nat) (hn : n0 + n1 + n2 ≤ 100000000000000) (hc0 : n0 ≤ c0) (hc1 : n1 ≤ c1) (hc2 : n2 ≤ c2) (hp : Parts W gp 3 (q3 A0 A1 A2) (q3 n0 n1 n2) (q3 c0 c1 c2) (q3 f0 f1 f2)) (hY : By (n0 + n1 + n2) F)
    (hF0 : ∀ j, j < n0 → F j = f0 j) (hF1 : ∀ j, j < n1 → F (n0 + j) = f1 j) (hF2 : ∀ j, j < n2 → F (n0 + n1 + j) = f2 j) (ht : GT W) :
    Calls Tryd.prog 20 #[.slice (some ⟨gp, 0, none⟩) 3 cap] W (Dig W (n0 + n1 + n2) F) := by
  refine (sum_any gp 3 cap _ _ _ _ F _ (by decide) (by decide) (by show 0 + n0 + n1 + n2 ≤ _; omega) hp (fun i hi => ?_) (fun i hi j hj => ?_) (fun j hj => ?_) ht).mono fun e w' h => (Dig.of h (Below.refl _ _)).as (by show 0 + n0 + n1 + n2 = _; omega) fun _ _ => rfl
  · rcases three_of hi with rfl | rfl | rfl
    · exact hc0
    · exact hc1
    · exact hc2
  · rcases three_of hi with rfl | rfl | rfl
    · show F (0 + j) = f0 j
      rw [Nat.zero_add]; exact hF0 j hj
    · show F (0 + n0 + j) = f1 j
      rw [Nat.zero_add]; exact hF1 j hj
    · show F (0 + n0 + n1 + j) = f2 j
      rw [Nat.zero_add]; exact hF2 j hj
  · have hj : j < 0 + n0 + n1 + n2 := hj
    exact hY j (by omega)
theorem run_parts3 (w : World) (A0 : Option Addr) (n0 c0 : Nat) (A1 : Option Addr) (n1 c1 : Nat) (A2 : Option Addr) (n2 c2 : Nat) : (Instr.buildSlice 30 3 #[(0, .slice A0 n0 c0), (1, .slice A1 n1 c1), (2, .slice A2 n2 c2)]).run Tryd.prog w = .ok (.slice (some ⟨w.heap.size, 0, none⟩) 3 3) (w.alloc (.cells #[.slice A0 n0 c0, .slice A1 n1 c1, .slice A2 n2 c2] 22)) := by go_simp
end Go.Proofs.YtogcfaijphpgfaaDoor
/- The mathematics of layer 6: a tag. Contracts of package mac: a Maker in memory, its halves. -/
namespace Go.Proofs.YtogcfaijphpgfaaDoor
open Go.RowKit

theorem xor_lt8 {a b : Nat} (ha : a < 256) (hb : b < 256) : a ^^^ b < 256 := Nat.xor_lt_two_pow (n := 8) ha hb
/-- a key with its noughts -/
def kf (n : Nat) (key : Nat → Nat) (j : Nat) : Nat := if n ≤ 64 then (if j < n then key j else 0) else if j < 32 then sha n key j else 0
theorem kf_by {n : Nat} {key : Nat → Nat} (hk : By n key) : By 64 (kf n key) := fun j _ => by
  unfold kf
  by_cases h : n ≤ 64
  · rw [if_pos h]
    by_cases h2 : j < n
    · rw [if_pos h2]; exact hk j h2
    · rw [if_neg h2]; decide
  · rw [if_neg h]
    by_cases h2 : j < 32
    · rw [if_pos h2]; exact sha_lt _ _ _
    · rw [if_neg h2]; decide
theorem kf_congr {n : Nat} {key key' : Nat → Nat} (h : ∀ j, j < n → key j = key' j) (j : Nat) : kf n key j = kf n key' j := by
  unfold kf
  by_cases h1 : n ≤ 64
  · rw [if_pos h1, if_pos h1]
    by_cases h2 : j < n
    · rw [if_pos h2, if_pos h2]; exact h j h2
    · rw [if_neg h2, if_neg h2]
  · rw [if_neg h1, if_neg h1, sha_congr h j]
/-- one of the two halves -/
def xf (c n : Nat) (key : Nat → Nat) (j : Nat) : Nat := kf n key j ^^^ c
theorem xf_by {c n : Nat} {key : Nat → Nat} (hc : c < 256) (hk : By n key) : By 64 (xf c n key) := fun j hj => xor_lt8 (kf_by hk j hj) hc
/-- the tag -/
def tag (n : Nat) (key : Nat → Nat) (m : Nat) (b : Nat → Nat) : Nat → Nat := sha 96 (catB 64 (xf 92 n key) (sha (64 + m) (catB 64 (xf 54 n key) b)))
theorem tag_lt (n : Nat) (key : Nat → Nat) (m : Nat) (b : Nat → Nat) (j : Nat) : tag n key m b j < 256 := sha_lt _ _ _
theorem catB_congr {n m : Nat} {f f' g g' : Nat → Nat} (hf : ∀ j, j < n → f j = f' j) (hg : ∀ j, j < m → g j = g' j) (j : Nat) (hj : j < n + m) : catB n f g j = catB n f' g' j := by
  unfold catB
  by_cases h : j < n
  · rw [if_pos h, if_pos h]; exact hf j h
  · rw [if_neg h, if_neg h]; exact hg _ (by omega)
theorem tag_halves {n n' : Nat} {key key' : Nat → Nat} (h : ∀ j, j < 64 → kf n key j = kf n' key' j) {m : Nat} {b b' : Nat → Nat} (hb : ∀ j, j < m → b j = b' j) (j : Nat) : tag n key m b j = tag n' key' m b' j := by
  unfold tag
  refine sha_congr (fun i hi => catB_congr (m := 32) (fun i hi => ?_) (fun i hi => ?_) i hi) j
  · unfold xf; rw [h i hi]
  · refine sha_congr (fun i hi => catB_congr (fun i hi => ?_) hb i hi) i
    unfold xf; rw [h i hi]
theorem tag_congr {n : Nat} {key key' : Nat → Nat} (hk : ∀ j, j < n → key j = key' j) {m : Nat} {b b' : Nat → Nat} (hb : ∀ j, j < m → b j = b' j) (j : Nat) : tag n key m b j = tag n key' m b' j :=
  tag_halves (fun j _ => kf_congr hk j) hb j

/-- a Maker in block g -/
structure MakMem (w : World) (g : Nat) (d m : Int) (K X Y : Nat → Nat) : Prop where
  key : Arr w g 0 64 K
  once : OnceAt w g 64 d m
  inner : Arr w g 67 64 X
  outer : Arr w g 131 64 Y
theorem once_block {w w' : World} {g o : Nat} {d m : Int} (h : OnceAt w g o d m) (e : w'.heap[g]? = w.heap[g]?) : OnceAt w' g o d m :=
  ⟨(World.cell?_of_block e).trans h.done, (World.cell?_of_block e).trans h.lock, (World.frozen?_of_block e).trans h.fdone, (World.frozen?_of_block e).trans h.flock⟩
theorem once_off {w : World} {g o k : Nat} {d m : Int} (h : OnceAt w g o d m) (h1 : k ≠ o) (h2 : k ≠ o + 1) (v : Value) : OnceAt (w.setCell ⟨g, k, none⟩ v) g o d m :=
  ⟨(cell_off h1 v).trans h.done, (cell_off h2 v).trans h.lock, by rw [World.frozen?_setCell]; exact h.fdone, by rw [World.frozen?_setCell]; exact h.flock⟩
namespace MakMem
variable {w w' : World} {g : Nat} {d m : Int} {K X Y : Nat → Nat}
theorem lt (h : MakMem w g d m K X Y) : g < w.heap.size := h.key.lt (by decide)
theorem of_block (h : MakMem w g d m K X Y) (e : w'.heap[g]? = w.heap[g]?) : MakMem w' g d m K X Y := ⟨h.key.of_block e, once_block h.once e, h.inner.of_block e, h.outer.of_block e⟩
theorem keep (h : MakMem w g d m K X Y) (hb : Below w.heap.size w w') : MakMem w' g d m K X Y := h.of_block (hb.block g h.lt)
theorem chg {L : Nat} (h : MakMem w g d m K X Y) (hc : Chg L w w') (hL : g ≠ L) : MakMem w' g d m K X Y := h.of_block (hc.block g h.lt hL)
theorem congr {K' X' Y' : Nat → Nat} (h : MakMem w g d m K X Y) (h1 : ∀ j, j < 64 → K j = K' j) (h2 : ∀ j, j < 64 → X j = X' j) (h3 : ∀ j, j < 64 → Y j = Y' j) : MakMem w g d m K' X' Y' :=
  ⟨h.key.congr h1, h.once, h.inner.congr h2, h.outer.congr h3⟩
theorem setInner (h : MakMem w g d m K X Y) {i k : Nat} (hi : i < 64) (hk : k = 67 + i) (x : Nat) {v : Value} (hv : v = .int .u8 (x : Nat)) : MakMem (w.setCell ⟨g, k, none⟩ v) g d m K (fun j => if j = i then x else X j) Y :=
  ⟨h.key.setApart (by omega) v, once_off h.once (by omega) (by omega) v, h.inner.set hi hk x hv, h.outer.setApart (by omega) v⟩
theorem setOuter (h : MakMem w g d m K X Y) {i k : Nat} (hi : i < 64) (hk : k = 131 + i) (x : Nat) {v : Value} (hv : v = .int .u8 (x : Nat)) : MakMem (w.setCell ⟨g, k, none⟩ v) g d m K X (fun j => if j = i then x else Y j) :=
  ⟨h.key.setApart (by omega) v, once_off h.once (by omega) (by omega) v, h.inner.setApart (by omega) v, h.outer.set hi hk x hv⟩
theorem setLock (h : MakMem w g d m K X Y) (m' : Int) {v : Value} (hv : v = .int .i32 m') : MakMem (w.setCell ⟨g, 65, none⟩ v) g d m' K X Y := by
  subst hv
  exact ⟨h.key.setApart (by omega) _, ⟨(cell_off (by omega) _).trans h.once.done, World.cell?_setCell_same w ⟨g, 65, none⟩ _ h.once.lock, by rw [World.frozen?_setCell]; exact h.once.fdone, by rw [World.frozen?_setCell]; exact h.once.flock⟩, h.inner.setApart (by omega) _, h.outer.setApart (by omega) _⟩
theorem setDone (h : MakMem w g d m K X Y) (d' : Int) {v : Value} (hv : v = .int .u32 d') : MakMem (w.setCell ⟨g, 64, none⟩ v) g d' m K X Y := by
  subst hv
  exact ⟨h.key.setApart (by omega) _, ⟨World.cell?_setCell_same w ⟨g, 64, none⟩ _ h.once.done, (cell_off (by omega) _).trans h.once.lock, by rw [World.frozen?_setCell]; exact h.once.fdone, by rw [World.frozen?_setCell]; exact h.once.flock⟩, h.inner.setApart (by omega) _, h.outer.setApart (by omega) _⟩
theorem drew (h : MakMem w g d m K X Y) : MakMem w.drew g d m K X Y := h.of_block rfl
theorem drewN (h : MakMem w g d m K X Y) (k : Nat) : MakMem (w.drewN k) g d m K X Y := h.of_block rfl
theorem alloc (h : MakMem w g d m K X Y) (o : Obj) : MakMem (w.alloc o) g d m K X Y := h.keep ((Below.refl _ _).alloc (Nat.le_refl _) o)
end MakMem
abbrev MakReady (w : World) (g n : Nat) (key : Nat → Nat) : Prop := MakMem w g 1 0 (kf n key) (xf 54 n key) (xf 92 n key)
/-- a Maker that was made, asked or not -/
def MakAt (w : World) (g n : Nat) (key : Nat → Nat) : Prop := MakMem w g 0 0 (kf n key) (fun _ => 0) (fun _ => 0) ∨ MakReady w g n key
theorem MakAt.of_block {w w' : World} {g n : Nat} {key : Nat → Nat} (h : MakAt w g n key) (e : w'.heap[g]? = w.heap[g]?) : MakAt w' g n key := h.imp (·.of_block e) (·.of_block e)
theorem MakAt.lt {w : World} {g n : Nat} {key : Nat → Nat} (h : MakAt w g n key) : g < w.heap.size := h.elim (·.lt) (·.lt)
theorem MakAt.keep {w w' : World} {g n : Nat} {key : Nat → Nat} (h : MakAt w g n key) (hb : Below w.heap.size w w') : MakAt w' g n key := h.of_block (hb.block g h.lt)
theorem MakAt.chg {w w' : World} {g n K : Nat} {key : Nat → Nat} (h : MakAt w g n key) (hb : Chg K w w') (hK : g ≠ K) : MakAt w' g n key := h.of_block (hb.block g h.lt hK)

theorem sizeA64 : (Tryd.prog.info? 40).map (·.size) = some 64 := by kernel_rfl
set_option maxRecDepth 100000 in
set_option maxHeartbeats 1600000 in
theorem halves_any (g n : Nat) (key : Nat → Nat) (w : World) (hkey : By n key) (hk : MakMem w g 0 1 (kf n key) (fun _ => 0) (fun _ => 0)) :
    Calls Tryd.prog 22 #[.pointer (some ⟨g, 0, none⟩)] w fun e w' => e = .returned (.tuple #[]) ∧ (MakMem w' g 0 1 (kf n key) (xf 54 n key) (xf 92 n key) ∧ Chg g w w') := by
  have HK := Lib.hid hk
  have HY := Lib.hid (kf_by hkey)
  clear hk hkey
  go_enter Tryd.func22, Tryd.ntmps22
  go_wp2_with (refine wpList_loadB rfl 40 (.tmp 6) rfl g 0 64 rfl _ HK.out.key _ Tryd.underlying40 rfl sizeA64 ?_)
  go_loopw [8] (fun v wr => ∃ k : Nat, k ≤ 64 ∧ v = .int .i64 k ∧ MakMem wr g 0 1 (kf n key) (fun j => if j < k then xf 54 n key j else 0) (fun j => if j < k then xf 92 n key j else 0) ∧ Chg g w wr) (fun v _ => 64 - (intOf v).toNat)
  case atStart => exact ⟨0, by decide, rfl, HK.out.congr (fun _ _ => rfl) (fun j _ => (if_neg (Nat.not_lt_zero _)).symm) (fun j _ => (if_neg (Nat.not_lt_zero _)).symm), Chg.refl _ _⟩
  case round =>
    obtain ⟨k, hk, rfl, h1, h2⟩ := hrel
    have H1 := Lib.hid h1
    have H2 := Lib.hid h2
    clear h1 h2
    by_cases hlt : k < 64
    · obtain ⟨x, hx⟩ : ∃ x, kf n key k = x := ⟨_, rfl⟩
      have hxl : x < 256 := by rw [← hx]; exact HY.out k hlt
      have hix := index_arr 40 64 (kf n key) k x Tryd.underlying40 hlt hx
      have b1 : bits BinOp.xor .u8 (x : Int) 54 = ((x ^^^ 54 : Nat) : Int) := u8_xor_nat x 54 hxl (by decide)
      have b2 : bits BinOp.xor .u8 (x : Int) 92 = ((x ^^^ 92 : Nat) : Int) := u8_xor_nat x 92 hxl (by decide)
      have HX1 := Lib.hid (show xf 54 n key k = x ^^^ 54 by unfold xf; rw [hx])
      have HX2 := Lib.hid (show xf 92 n key k = x ^^^ 92 by unfold xf; rw [hx])
      clear hx
      have hc1 := H1.out.inner.cell hlt rfl
      have hf1 := H1.out.inner.frozen hlt rfl
      rw [if_neg (Nat.lt_irrefl k)] at hc1
      have HM1 := Lib.hid ((H1.out.setInner hlt (k := 67 + k) rfl (x ^^^ 54) rfl).congr (fun _ _ => rfl) (fun j _ => upto_step (fun _ => 0) (xf 54 n key) k _ HX1.out j) (fun _ _ => rfl))
      have hc2 := HM1.out.outer.cell hlt rfl
      have hf2 := HM1.out.outer.frozen hlt rfl
      rw [if_neg (Nat.lt_irrefl k)] at hc2
      have HM2 := Lib.hid ((HM1.out.setOuter hlt (k := 131 + k) rfl (x ^^^ 92) rfl).congr (fun _ _ => rfl) (fun _ _ => rfl) (fun j _ => upto_step (fun _ => 0) (xf 92 n key) k _ HX2.out j))
      have HC := Lib.hid ((H2.out.setCell (a := ⟨g, 67 + k, none⟩) (Or.inl rfl) (.int .u8 (x ^^^ 54 : Nat))).setCell (a := ⟨g, 131 + k, none⟩) (Or.inl rfl) (.int .u8 (x ^^^ 92 : Nat)))
      generalize x ^^^ 54 = y1 at *
      generalize x ^^^ 92 = y2 at *
      go_wp2_with fail
      go_roundw
      case rel => exact ⟨k + 1, by omega, by go_num, HM2.out, HC.out⟩
      case measure => simp [intOf]; omega
    · have HR := Lib.hid (H1.out.congr (K' := kf n key) (X' := xf 54 n key) (Y' := xf 92 n key) (fun _ _ => rfl) (fun j hj => if_pos (by omega)) (fun j hj => if_pos (by omega)))
      go_wp2_with fail
      go_end0
      exact ⟨rfl, HR.out, H2.out⟩
theorem once_mac (g n : Nat) (key : Nat → Nat) (w : World) (hkey : By n key) (hk : MakAt w g n key) :
    Calls Tryd.prog 21 #[.pointer (some ⟨g, 64, none⟩), .func (.func 22) #[.pointer (some ⟨g, 0, none⟩)] #[]] w fun e w' => e = .returned (.tuple #[]) ∧ MakReady w' g n key ∧ Chg g w w' := by
  rcases hk with hk | hk
  · refine (do_first_mac g 64 (.pointer (some ⟨g, 0, none⟩)) w hk.once (fun w1 => MakMem w1 g 0 1 (kf n key) (xf 54 n key) (xf 92 n key) ∧ Chg g (w.setCell ⟨g, 65, none⟩ (.int .i32 1)) w1) (halves_any g n key _ hkey (hk.setLock 1 rfl)) fun w1 h => h.1.once).mono ?_
    rintro e w' ⟨he, w1, ⟨h1, h2⟩, rfl⟩
    exact ⟨he, (h1.drew.setDone 1 rfl).setLock 0 rfl, ((((Chg.refl g w).setCell (a := ⟨g, 65, none⟩) (Or.inl rfl) _).trans h2).drew.setCell (a := ⟨g, 64, none⟩) (Or.inl rfl) _).setCell (a := ⟨g, 65, none⟩) (Or.inl rfl) _⟩
  · refine (do_done g 64 _ 0 w hk.once).mono ?_
    rintro e w' ⟨he, rfl⟩
    exact ⟨he, hk, Chg.refl _ _⟩
end Go.Proofs.YtogcfaijphpgfaaDoor
/- Contracts of package mac: New. -/
namespace Go.Proofs.YtogcfaijphpgfaaDoor
open Go.RowKit
/-- a Maker's block, whole -/
def mkCells (d m x : Int) (K X Y : Nat → Nat) : List Value := bytesL 64 K ++ (.int .u32 d :: .int .i32 m :: .int .u32 x :: (bytesL 64 X ++ bytesL 64 Y))
theorem makMem_of {w : World} {g : Nat} {d m x : Int} {K X Y : Nat → Nat} {t : TypeId} (h : w.heap[g]? = some (.cells (mkCells d m x K X Y).toArray t (0, 0))) : MakMem w g d m K X Y := by
  have hz : ∀ (o : Nat), w.frozen? ⟨g, o, none⟩ = false := fun o => by simp [World.frozen?, h]
  have hc : ∀ (o : Nat) v, (mkCells d m x K X Y)[o]? = some v → w.cell? ⟨g, o, none⟩ = some v := fun o v hv => by
    simp only [World.cell?, h]
    rw [List.getElem?_toArray, hv]
    rfl
  refine ⟨arr_of_list h fun j hj => ?_, ⟨hc 64 _ ?_, hc 65 _ ?_, hz _, hz _⟩, arr_of_list h fun j hj => ?_, arr_of_list h fun j hj => ?_⟩
  · unfold mkCells
    rw [Nat.zero_add, List.getElem?_append_left (by rw [bytesL_length]; exact hj)]
  · unfold mkCells
    rw [List.getElem?_append_right (by rw [bytesL_length]; decide), bytesL_length]; rfl
  · unfold mkCells
    rw [List.getElem?_append_right (by rw [bytesL_length]; decide), bytesL_length]; rfl
  · unfold mkCells
    rw [List.getElem?_append_right (by rw [bytesL_length]; omega), bytesL_length, show 67 + j - 64 = j + 1 + 1 + 1 by omega,
      List.getElem?_cons_succ, List.getElem?_cons_succ, List.getElem?_cons_succ, List.getElem?_append_left (by rw [bytesL_length]; exact hj)]
  · unfold mkCells
    rw [List.getElem?_append_right (by rw [bytesL_length]; omega), bytesL_length, show 131 + j - 64 = (j + 64) + 1 + 1 + 1 by omega,
      List.getElem?_cons_succ, List.getElem?_cons_succ, List.getElem?_cons_succ, List.getElem?_append_right (by rw [bytesL_length]; omega), bytesL_length, Nat.add_sub_cancel]
set_option maxRecDepth 100000 in
theorem zeroMaker : Tryd.zeroCells54 = (mkCells 0 0 0 (fun _ => 0) (fun _ => 0) (fun _ => 0)).toArray := by kernel_rfl
theorem maker_made (l : Nat) (key : Nat → Nat) (hl : l ≤ 64) : splice Tryd.zeroCells54.toList 0 (bytesL l key) = mkCells 0 0 0 (fun x => if x < l then key x else 0) (fun _ => 0) (fun _ => 0) := by
  have e2 : bytesL 64 (fun x => if x < l then key x else 0) = bytesL l key ++ (bytesL 64 (fun _ => 0)).drop l := by
    apply List.ext_getElem?
    intro j
    by_cases hj : j < l
    · rw [List.getElem?_append_left (by rw [bytesL_length]; exact hj), bytesL_at hj, bytesL_at (by omega)]
      show some (Value.int .u8 ((if j < l then key j else 0 : Nat) : Int)) = _
      rw [if_pos hj]
    · rw [List.getElem?_append_right (by rw [bytesL_length]; omega), bytesL_length, List.getElem?_drop, show l + (j - l) = j by omega]
      by_cases h2 : j < 64
      · rw [bytesL_at h2, bytesL_at h2]
        show some (Value.int .u8 ((if j < l then key j else 0 : Nat) : Int)) = _
        rw [if_neg hj]
      · rw [List.getElem?_eq_none (by rw [bytesL_length]; omega), List.getElem?_eq_none (by rw [bytesL_length]; omega)]
  rw [zeroMaker]
  unfold splice mkCells
  rw [bytesL_length, Nat.zero_add, List.toList_toArray, List.drop_append_of_le_length (by rw [bytesL_length]; exact hl), e2]
  simp
set_option maxRecDepth 100000 in
set_option maxHeartbeats 800000 in
theorem mnew_le (A : Option Addr) (n cap : Nat) (key : Nat → Nat) (w : World) (hn : n ≤ 64) (hA : SlB w A n key) :
    Calls Tryd.prog 11 #[.slice A n cap] w fun e w' => ∃ g, e = .returned (.pointer (some ⟨g, 0, none⟩)) ∧ w.heap.size ≤ g ∧ MakAt w' g n key ∧ Below w.heap.size w w' := by
  have HA := Lib.hid (hA.keep ((Below.refl _ _).alloc (Nat.le_refl _) (.cells Tryd.zeroCells54 54)))
  have HB := Lib.hid ((Below.refl w.heap.size w).alloc (Nat.le_refl _) (.cells Tryd.zeroCells54 54))
  have HG := Lib.hid (show (w.alloc (.cells Tryd.zeroCells54 54)).heap[w.heap.size]? = some (.cells Tryd.zeroCells54.toList.toArray 54 (0, 0)) by rw [heap_alloc_new, Array.toArray_toList])
  have hd : decide (64 < (n : Int)) = false := by simp; omega
  have HL := Lib.hid (show (bytesL n key).length = Nat.min n 64 by rw [bytesL_length]; show n = min n 64; omega)
  have HP := Lib.hid (copy_parts (k := n) (dp := some ⟨w.heap.size, 0, none⟩) (g := w.heap.size) (off := 0) HA.out (Nat.le_refl _) (fun _ => rfl))
  have HF := Lib.hid (show 0 + (bytesL n key).length ≤ Tryd.zeroCells54.toList.length by
    rw [zeroMaker, bytesL_length]
    simp [mkCells, bytesL_length]
    omega)
  have HK := Lib.hid (maker_made n key hn)
  have hsa : ∀ W : World, (Instr.sliceAt 40 (.pointer (some ⟨w.heap.size, 0, none⟩)) none none none).run Tryd.prog W = .ok (.slice (some ⟨w.heap.size, 0, none⟩) 64 64) W := all_arr 40 64 w.heap.size 0 Tryd.underlying40 (by decide)
  have HN := Lib.hid hn
  clear hA hn
  go_enter Tryd.func11, Tryd.ntmps11
  go_wp2_with ((refine wpList_copy_splice rfl (.tmp 15) (.tmp 16) 22 22 rfl 5 Tryd.underlying22 sizeOf8 (some ⟨w.heap.size, 0, none⟩) A 64 64 n cap rfl rfl w.heap.size 0 _ 54 HG.out (bytesL n key) HL.out HP.out HF.out (bytes_one n key) w.heap.size w HB.out (Nat.le_refl _) ?_); intro w2 hr hb2; rw [HK.out] at hr; have HR := Lib.hid hr; have HB2 := Lib.hid hb2; clear hr hb2)
  go_ret
  exact ⟨w.heap.size, rfl, Nat.le_refl _, Or.inl ((makMem_of HR.out.out).congr (fun j _ => by unfold kf; rw [if_pos HN.out]) (fun _ _ => rfl) (fun _ _ => rfl)), HB2.out⟩
set_option maxRecDepth 100000 in
set_option maxHeartbeats 800000 in
theorem mnew_gt (A : Option Addr) (n cap : Nat) (key : Nat → Nat) (w : World) (hn : 64 < n) (hn2 : n ≤ 100000000000000) (hc : n ≤ cap) (hA : SlB w A n key) (ht : GT w) :
    Calls Tryd.prog 11 #[.slice A n cap] w fun e w' => ∃ g, e = .returned (.pointer (some ⟨g, 0, none⟩)) ∧ w.heap.size ≤ g ∧ MakAt w' g n key ∧ Below w.heap.size w w' := by
  have hd : decide (64 < (n : Int)) = true := by simp; omega
  have HS := Lib.hid (sum1_any w A n cap key hn2 hc hA ht)
  have HN := Lib.hid hn
  clear hA hn ht
  go_enter Tryd.func11, Tryd.ntmps11
  go_wp2_with fail
  refine HS.out.mono ?_
  rintro e w1 ⟨d, rfl, hd1, ha1, hb1⟩
  have HB1 := Lib.hid hb1
  have HA1 := Lib.hid (ha1.slB fun j _ => sha_lt _ _ j)
  have HA := Lib.hid (HA1.out.keep ((Below.refl _ _).alloc (Nat.le_refl _) (.cells Tryd.zeroCells54 54)))
  have HB := Lib.hid ((Below.refl w1.heap.size w1).alloc (Nat.le_refl _) (.cells Tryd.zeroCells54 54))
  have HG := Lib.hid (show (w1.alloc (.cells Tryd.zeroCells54 54)).heap[w1.heap.size]? = some (.cells Tryd.zeroCells54.toList.toArray 54 (0, 0)) by rw [heap_alloc_new, Array.toArray_toList])
  have HL := Lib.hid (show (bytesL 32 (sha n key)).length = Nat.min 32 64 by rw [bytesL_length]; rfl)
  have HP := Lib.hid (copy_parts (k := 32) (dp := some ⟨w1.heap.size, 0, none⟩) (g := w1.heap.size) (off := 0) HA.out (Nat.le_refl _) (fun _ => rfl))
  have HF := Lib.hid (show 0 + (bytesL 32 (sha n key)).length ≤ Tryd.zeroCells54.toList.length by
    rw [zeroMaker, bytesL_length]
    simp [mkCells, bytesL_length])
  have HK := Lib.hid (maker_made 32 (sha n key) (by decide))
  have hsa : ∀ W : World, (Instr.sliceAt 40 (.pointer (some ⟨w1.heap.size, 0, none⟩)) none none none).run Tryd.prog W = .ok (.slice (some ⟨w1.heap.size, 0, none⟩) 64 64) W := all_arr 40 64 w1.heap.size 0 Tryd.underlying40 (by decide)
  clear hd1 ha1 hb1 hd HS
  go_wp2_with ((refine wpList_copy_splice rfl (.tmp 15) (.tmp 16) 22 22 rfl 5 Tryd.underlying22 sizeOf8 (some ⟨w1.heap.size, 0, none⟩) (some ⟨d, 0, none⟩) 64 64 32 32 rfl rfl w1.heap.size 0 _ 54 HG.out (bytesL 32 (sha n key)) HL.out (fun h => ⟨rfl, (HP.out h).2⟩) HF.out (bytes_one 32 (sha n key)) w1.heap.size w1 HB.out (Nat.le_refl _) ?_); intro w2 hr hb2; rw [HK.out] at hr; have HR := Lib.hid hr; have HB2 := Lib.hid hb2; clear hr hb2)
  go_ret
  exact ⟨w1.heap.size, rfl, HB1.out.size, Or.inl ((makMem_of HR.out.out).congr (fun j _ => by unfold kf; exact (if_neg (by have := HN.out; omega)).symm) (fun _ _ => rfl) (fun _ _ => rfl)), HB1.out.trans (HB2.out.mono HB1.out.size)⟩
theorem mnew_any (A : Option Addr) (n cap : Nat) (key : Nat → Nat) (w : World) (hn : n ≤ 100000000000000) (hc : n ≤ cap) (hA : SlB w A n key) (ht : GT w) :
    Calls Tryd.prog 11 #[.slice A n cap] w fun e w' => ∃ g, e = .returned (.pointer (some ⟨g, 0, none⟩)) ∧ w.heap.size ≤ g ∧ MakAt w' g n key ∧ Below w.heap.size w w' := by
  by_cases h : n ≤ 64
  · exact mnew_le A n cap key w h hA
  · exact mnew_gt A n cap key w (by omega) hn hc hA ht
end Go.Proofs.YtogcfaijphpgfaaDoor
/- More operations: for regions that draw their order. -/
namespace Go.Proofs.YtogcfaijphpgfaaDoor.ord
open Go Go.RowKit
theorem makes_nilCheck {P : Program} {o : Oper} {a : Act} {w : World} {N : Value → World → Prop} {x : Operand} {ad : Addr} (ho : o.op = .nilCheck x) (hx : a.eval x = .pointer (some ad)) (hN : N (.pointer (some ad)) w) : makes P o a w N := by
  unfold makes
  have : (execOp a.eval o).run P w = .ok (.value (.pointer (some ad))) w := by
    simp only [execOp, ho, hx]; rfl
  rw [this]; exact hN
theorem makes_fieldAddr {P : Program} {o : Oper} {a : Act} {w : World} {N : Value → World → Prop} {t : TypeId} {f : Nat} {x : Operand} {vx u : Value} (ho : o.op = .fieldAddr t x f) (hx : a.eval x = vx) (hrun : (Instr.fieldAt t vx f).run P w = .ok u w) (hN : N u w) : makes P o a w N := by
  unfold makes
  have : (execOp a.eval o).run P w = .ok (.value u) w := by
    simp only [execOp, ho, hx, Sem.run_bind]
    rw [hrun]; rfl
  rw [this]; exact hN
end Go.Proofs.YtogcfaijphpgfaaDoor.ord
/- Contracts of package mac: a Maker's tags. -/
namespace Go.Proofs.YtogcfaijphpgfaaDoor
open Go.RowKit
theorem offs_add (a : Nat) (n : Nat → Nat) : ∀ i, offs a n i = a + offs 0 n i
  | 0 => rfl
  | i + 1 => by show offs a n i + n i = a + (offs 0 n i + n i); rw [offs_add a n i]; omega
theorem run_build2 (w : World) (A0 A1 : Option Addr) (n0 n1 c0 c1 : Nat) : (Instr.buildSlice 30 2 #[(0, .slice A0 n0 c0), (1, .slice A1 n1 c1)]).run Tryd.prog w = .ok (.slice (some ⟨w.heap.size, 0, none⟩) 2 2) (w.alloc (.cells #[.slice A0 n0 c0, .slice A1 n1 c1] 22)) := by go_simp
theorem run_outer (g : Nat) (w : World) : (Instr.fieldAt 54 (.pointer (some ⟨g, 0, none⟩)) 3).run Tryd.prog w = .ok (.pointer (some ⟨g, 131, none⟩)) w := by go_simp
theorem sum2_parts (W : World) (gp cap : Nat) (A0 A1 : Option Addr) (n0 n1 c0 c1 : Nat) (f0 f1 F : Nat → Nat) (hn : n0 + n1 ≤ 100000000000000) (hc0 : n0 ≤ c0) (hc1 : n1 ≤ c1) (hp : Parts W gp 2 (t2 A0 A1) (t2 n0 n1) (t2 c0 c1) (t2 f0 f1)) (hY : By (n0 + n1) F)
    (hF0 : ∀ j, j < n0 → F j = f0 j) (hF1 : ∀ j, j < n1 → F (n0 + j) = f1 j) (ht : GT W) :
    Calls Tryd.prog 20 #[.slice (some ⟨gp, 0, none⟩) 2 cap] W (Dig W (n0 + n1) F) := by
  refine (sum_any gp 2 cap _ _ _ _ F _ (by decide) (by decide) (by show 0 + n0 + n1 ≤ _; omega) hp (fun i hi => ?_) (fun i hi j hj => ?_) (fun j hj => ?_) ht).mono fun e w' h => (Dig.of h (Below.refl _ _)).as (by show 0 + n0 + n1 = _; omega) fun _ _ => rfl
  · rcases two_of hi with rfl | rfl
    · exact hc0
    · exact hc1
  · rcases two_of hi with rfl | rfl
    · show F (0 + j) = f0 j
      rw [Nat.zero_add]; exact hF0 j hj
    · show F (0 + n0 + j) = f1 j
      rw [Nat.zero_add]; exact hF1 j hj
  · have hj : j < 0 + n0 + n1 := hj
    exact hY j (by omega)
--DEFS mm
def mmG (g h n : Nat) (key : Nat → Nat) (m : Nat) (F : Nat → Nat) (w0 : World) : Nat → Value → World → Prop
  | 0, v, _ => v = .pointer (some ⟨g, 0, none⟩)
  | 1, v, _ => v = .pointer (some ⟨g, 0, none⟩)
  | 2, v, _ => v = .pointer (some ⟨g, 131, none⟩)
  | 3, v, _ => v = .slice (some ⟨g, 131, none⟩) 64 64
  | 4, v, _ => v = .pointer (some ⟨h, 0, none⟩)
  | 5, v, w => ∃ d, v = .slice (some ⟨d, 0, none⟩) 32 32 ∧ Arr w d 0 32 (sha (64 + m) (catB 64 (xf 54 n key) F))
  | 6, v, w => ∃ p d, v = .slice (some ⟨p, 0, none⟩) 2 2 ∧ Parts w p 2 (t2 (some ⟨g, 131, none⟩) (some ⟨d, 0, none⟩)) (t2 64 32) (t2 64 32) (t2 (xf 92 n key) (sha (64 + m) (catB 64 (xf 54 n key) F)))
  | 7, v, w => ∃ d, v = .slice (some ⟨d, 0, none⟩) 32 32 ∧ w0.heap.size ≤ d ∧ Arr w d 0 32 (tag n key m F)
  | _, _, _ => True
theorem mmG_stays (g h n : Nat) (key : Nat → Nat) (m : Nat) (F : Nat → Nat) (w0 : World) : ∀ i v w w', mmG g h n key m F w0 i v w → Below w.heap.size w w' → mmG g h n key m F w0 i v w'
  | 0, _, _, _, h, _ => h
  | 1, _, _, _, h, _ => h
  | 2, _, _, _, h, _ => h
  | 3, _, _, _, h, _ => h
  | 4, _, _, _, h, _ => h
  | 5, v, w, w', h_, hb => by
    obtain ⟨d, h1, h2⟩ := h_; exact ⟨d, h1, h2.keep hb⟩
  | 6, v, w, w', h_, hb => by
    obtain ⟨p, d, h1, h2⟩ := h_; exact ⟨p, d, h1, h2.keep hb⟩
  | 7, v, w, w', h_, hb => by
    obtain ⟨d, h1, h2, h3⟩ := h_; exact ⟨d, h1, h2, h3.keep hb⟩
  | _ + 8, _, _, _, _, _ => trivial
--END DEFS mm
/-- what a tag's call leaves -/
def TagP (g n : Nat) (key : Nat → Nat) (m : Nat) (F : Nat → Nat) (w : World) (e : Ending) (w' : World) : Prop :=
  ∃ d, e = .returned (.slice (some ⟨d, 0, none⟩) 32 32) ∧ w.heap.size ≤ d ∧ Arr w' d 0 32 (tag n key m F) ∧ MakReady w' g n key ∧ Chg g w w'
set_option maxRecDepth 100000 in
set_option maxHeartbeats 1600000 in
theorem mmac_any (g n gp k cap : Nat) (key : Nat → Nat) (A : Nat → Option Addr) (l c : Nat → Nat) (f : Nat → Nat → Nat) (F : Nat → Nat) (m : Nat) (w0 : World) (hkey : By n key) (hk : MakAt w0 g n key) (hk0 : 0 < k) (hk2 : k ≤ 1000) (hm : offs 0 l k = m) (hN : m ≤ 10000000000000)
    (hp : Parts w0 gp k A l c f) (hcap : ∀ i, i < k → l i ≤ c i) (hF : ∀ i, i < k → ∀ j, j < l i → F (offs 0 l i + j) = f i j) (hY : By m F) (ht : GT w0) (hG : 1 ≠ g ∧ 0 ≠ g) (hgp : gp ≠ g)
    (hA : ∀ i, i < k → 0 < l i → ∀ B o, A i = some ⟨B, o, none⟩ → B ≠ g) :
    Calls Tryd.prog 15 #[.pointer (some ⟨g, 0, none⟩), .slice (some ⟨gp, 0, none⟩) k cap] w0 (TagP g n key m F w0) := by
  have HO := Lib.hid (once_mac g n key w0 hkey hk)
  have HKY := Lib.hid hkey
  have HGL := Lib.hid hk.lt
  have HGP := Lib.hid (block_lt (a := ⟨gp, 0, none⟩) (hp.cells 0 hk0))
  have HP := Lib.hid hp
  have HCP := Lib.hid hcap
  have HF := Lib.hid (show ∀ i, i < k → ∀ j, j < l i → catB 64 (xf 54 n key) F (offs 64 l i + j) = f i j from fun i hi j hj => by
    rw [offs_add, ← hF i hi j hj]
    unfold catB
    rw [if_neg (by omega), Nat.add_assoc, Nat.add_sub_cancel_left])
  have HM := Lib.hid (show offs 64 l k = 64 + m by rw [offs_add, hm])
  have HN := Lib.hid hN
  have HT := Lib.hid ht
  have HG := Lib.hid hG
  have HGQ := Lib.hid hgp
  have HA := Lib.hid hA
  have HFY := Lib.hid (show By (64 + m) (catB 64 (xf 54 n key) F) from fun j hj => catB_lt (xf_by (by decide) hkey) hY j hj)
  have hfi : ∀ W : World, (Instr.sliceAt 40 (.pointer (some ⟨g, 67, none⟩)) none none none).run Tryd.prog W = .ok (.slice (some ⟨g, 67, none⟩) 64 64) W := all_arr 40 64 g 67 Tryd.underlying40 (by decide)
  have HSA := Lib.hid (all_arr 40 64 g 131 Tryd.underlying40 (by decide))
  clear hkey hk hm hN hp hcap hF hY ht hG hgp hA
  go_enter Tryd.func15, Tryd.ntmps15
  go_wp2_with fail
  refine HO.out.mono ?_
  rintro e w1 ⟨rfl, h1, h2⟩
  have HR1 := Lib.hid h1
  have HC1 := Lib.hid h2
  have HT1 := Lib.hid (HT.out.chg h2 HG.out)
  have HP1 := Lib.hid (HP.out.chg h2 HGQ.out HA.out)
  have HL1 := Lib.hid h1.lt
  clear h1 h2
  go_wp2_with fail
  refine (new_any (catB 64 (xf 54 n key) F) w1 HT1.out).mono ?_
  rintro e w2 ⟨rfl, h1, h2⟩
  obtain ⟨h, hh⟩ : ∃ h, w1.heap.size = h := ⟨_, rfl⟩
  rw [hh] at h1 ⊢
  have HH := Lib.hid (show w0.heap.size ≤ h by rw [← hh]; exact HC1.out.size)
  have HGH := Lib.hid (show g < h by rw [← hh]; exact HL1.out)
  have HHM := Lib.hid h1
  have HR2 := Lib.hid (HR1.out.keep h2)
  have HC2 := Lib.hid (HC1.out.thenBelow h2)
  have HT2 := Lib.hid (HT1.out.keep h2)
  have HP2 := Lib.hid (HP1.out.keep h2)
  have HGW := Lib.hid (show 1 ≠ h ∧ 0 ≠ h from by rw [← hh]; exact ⟨Nat.ne_of_lt HT1.out.ltk, Nat.ne_of_lt HT1.out.lth⟩)
  clear h1 h2 hh
  go_wp2_with fail
  refine (write1_any w2 h 0 (some ⟨g, 67, none⟩) 64 64 (xf 54 n key) (catB 64 (xf 54 n key) F) (by decide) (Nat.le_refl _) (HR2.out.inner.slB (xf_by (by decide) HKY.out)) (fun j hj => by rw [Nat.zero_add]; unfold catB; rw [if_pos hj]) HHM.out (fun j hj => HFY.out j (by omega)) HT2.out HGW.out (fun _ B o e => by cases e; exact Nat.ne_of_lt HGH.out)).mono ?_
  rintro e w3 ⟨rfl, h1, h2⟩
  have HHM3 := Lib.hid h1
  have HR3 := Lib.hid (HR2.out.chg h2 (Nat.ne_of_lt HGH.out))
  have HC3 := Lib.hid (HC2.out.thenNew h2 HH.out)
  have HT3 := Lib.hid (HT2.out.chg h2 HGW.out)
  have HQ := Lib.hid (show gp ≠ h from Nat.ne_of_lt (Nat.lt_of_lt_of_le HGP.out HH.out))
  have HP3 := Lib.hid (HP2.out.chg h2 HQ.out (HP.out.apart HH.out))
  clear h1 h2
  go_wp2_with fail
  refine (write_any h 64 gp k cap A l c f (catB 64 (xf 54 n key) F) w3 hk2 (by rw [HM.out]; have := HN.out; omega) HP3.out HCP.out HF.out HHM3.out (by rw [HM.out]; exact HFY.out) HT3.out HGW.out HQ.out (HP.out.apart HH.out)).mono ?_
  rintro e w4 ⟨rfl, h1, h2⟩
  rw [HM.out] at h1
  have HHM4 := Lib.hid h1
  have HR4 := Lib.hid (HR3.out.chg h2 (Nat.ne_of_lt HGH.out))
  have HC4 := Lib.hid (HC3.out.thenNew h2 HH.out)
  have HT4 := Lib.hid (HT3.out.chg h2 HGW.out)
  clear h1 h2 hfi HHM3 HR3 HC3 HT3 HP3 HHM HR2 HC2 HT2 HP2
  have HHS := Lib.hid (show ∀ w', Below w4.heap.size w4 w' → Calls Tryd.prog 25 #[.pointer (some ⟨h, 0, none⟩)] w' fun e w'' => ∃ d, e = .returned (.slice (some ⟨d, 0, none⟩) 32 32) ∧ w'.heap.size ≤ d ∧ Arr w'' d 0 32 (sha (64 + m) (catB 64 (xf 54 n key) F)) ∧ Below w'.heap.size w' w'' from fun w' hb =>
    hsum_any h (64 + m) (catB 64 (xf 54 n key) F) w' (by have := HN.out; omega) (HHM4.out.keep hb) HFY.out (HT4.out.keep hb))
  have HOU := Lib.hid (show ∀ w', Below w4.heap.size w4 w' → SlB w' (some ⟨g, 131, none⟩) 64 (xf 92 n key) from fun w' hb => (HR4.out.keep hb).outer.slB (xf_by (by decide) HKY.out))
  have HTG := Lib.hid (show ∀ w', Below w4.heap.size w4 w' → GT w' from fun w' hb => HT4.out.keep hb)
  have HFA := Lib.hid (run_outer g)
  have HBP := Lib.hid (fun (w : World) (d : Nat) => run_build2 w (some ⟨g, 131, none⟩) (some ⟨d, 0, none⟩) 64 32 64 32)
  have hz4 := HC4.out.size
  go_wp2_with fail
  refine ord.wp_region_ordT 8 [[], [0], [1], [2], [], [4], [3, 5], [6]] [(0, 23), (1, 24), (2, 25), (3, 26), (4, 27), (5, 28), (6, 29), (7, 30)] (mmG g h n key m F w0) (by kernel_rfl) (by kernel_rfl) (by kernel_rfl) (mmG_stays _ _ _ _ _ _ _) ((ord.steps_cons ?_ (ord.steps_cons ?_ (ord.steps_cons ?_ (ord.steps_cons ?_ (ord.steps_cons ?_ (ord.steps_cons ?_ (ord.steps_cons ?_ (ord.steps_cons ?_ ord.steps_nil))))))))) ?_
  --STEPS mm
  · intro o ho x w hb hG
    obtain rfl := Option.some.inj ho
    clear ho
    refine Or.inl ⟨ord.want0 rfl, ?_⟩
    exact ord.makes_move rfl ⟨Below.refl _ _, rfl⟩
  · intro o ho x w hb hG
    obtain rfl := Option.some.inj ho
    clear ho
    have h23 : x 0 = .pointer (some ⟨g, 0, none⟩) := hG (0, 23) (List.mem_of_getElem? (i := 0) rfl) rfl
    refine Or.inl ⟨ord.want0 rfl, ?_⟩
    exact ord.makes_nilCheck rfl h23 ⟨Below.refl _ _, rfl⟩
  · intro o ho x w hb hG
    obtain rfl := Option.some.inj ho
    clear ho
    have h24 : x 1 = .pointer (some ⟨g, 0, none⟩) := hG (1, 24) (List.mem_of_getElem? (i := 1) rfl) rfl
    refine Or.inl ⟨ord.want0 rfl, ?_⟩
    exact ord.makes_fieldAddr rfl h24 (HFA.out w) ⟨Below.refl _ _, rfl⟩
  · intro o ho x w hb hG
    obtain rfl := Option.some.inj ho
    clear ho
    have h25 : x 2 = .pointer (some ⟨g, 131, none⟩) := hG (2, 25) (List.mem_of_getElem? (i := 2) rfl) rfl
    refine Or.inl ⟨ord.want0 rfl, ?_⟩
    exact ord.makes_slice rfl h25 rfl rfl rfl (HSA.out w) ⟨Below.refl _ _, rfl⟩
  · intro o ho x w hb hG
    obtain rfl := Option.some.inj ho
    clear ho
    refine Or.inl ⟨ord.want0 rfl, ?_⟩
    exact ord.makes_move rfl ⟨Below.refl _ _, rfl⟩
  · intro o ho x w hb hG
    obtain rfl := Option.some.inj ho
    clear ho
    have h27 : x 4 = .pointer (some ⟨h, 0, none⟩) := hG (4, 27) (List.mem_of_getElem? (i := 4) rfl) rfl
    refine Or.inl ⟨ord.want0 rfl, ?_⟩
    exact ord.makes_call1 Tryd.func25 (by kernel_rfl) (by kernel_rfl) rfl h27 (HHS.out w (of_drew hb)) (fun e w' h => by obtain ⟨d, he, _, h2, h4⟩ := h; exact ⟨_, he, h4, d, rfl, h2⟩)
  · intro o ho x w hb hG
    obtain rfl := Option.some.inj ho
    clear ho
    have h26 : x 3 = .slice (some ⟨g, 131, none⟩) 64 64 := hG (3, 26) (List.mem_of_getElem? (i := 3) rfl) rfl
    have h28 : mmG g h n key m F w0 5 (x 5) w := hG (5, 28) (List.mem_of_getElem? (i := 5) rfl) rfl
    refine Or.inl ⟨ord.want0 rfl, ?_⟩
    obtain ⟨d, hv, ha⟩ := h28
    exact ord.makes_build2 rfl h26 hv (HBP.out w d) ⟨(Below.refl _ _).alloc (Nat.le_refl _) _, _, d, rfl, parts2 _ _ _ _ _ _ _ _ (HOU.out w (of_drew hb)) (ha.slB fun j _ => sha_lt _ _ j)⟩
  · intro o ho x w hb hG
    obtain rfl := Option.some.inj ho
    clear ho
    have h29 : mmG g h n key m F w0 6 (x 6) w := hG (6, 29) (List.mem_of_getElem? (i := 6) rfl) rfl
    refine Or.inl ⟨ord.want0 rfl, ?_⟩
    obtain ⟨p, d, hv, hp⟩ := h29
    exact ord.makes_call1 Tryd.func20 (by kernel_rfl) (by kernel_rfl) rfl hv (sum2_parts w p 2 _ _ 64 32 64 32 _ _ (catB 64 (xf 92 n key) (sha (64 + m) (catB 64 (xf 54 n key) F))) (by decide) (Nat.le_refl _) (Nat.le_refl _) hp (fun j hj => catB_lt (xf_by (by decide) HKY.out) (fun j _ => sha_lt _ _ j) j hj) (fun j hj => by unfold catB; rw [if_pos hj]) (fun j _ => by unfold catB; rw [if_neg (by omega), Nat.add_sub_cancel_left]) (HTG.out w (of_drew hb))) (fun e w' h => by obtain ⟨d, he, h1, h2, h4⟩ := h; exact ⟨_, he, h4, d, rfl, Nat.le_trans hz4 (Nat.le_trans (of_drew hb).size h1), h2⟩)
  --END STEPS mm
  · intro x w5 hb hG
    have e30 : mmG g h n key m F w0 7 (x 7) w5 := hG (7, 30) (List.mem_of_getElem? (i := 7) rfl)
    clear hG
    obtain ⟨d, hx, hd, ha⟩ := e30
    have HD := Lib.hid hd
    have HAD := Lib.hid ha
    have HR5 := Lib.hid (HR4.out.keep hb)
    have HC5 := Lib.hid (HC4.out.thenBelow hb)
    clear hb hd ha hz4
    simp only [ord.puts, ord.put', List.set_cons_zero, List.set_cons_succ, if_true]
    rw [hx]
    simp only [List.drop_succ_cons, List.drop_zero]
    go_wp2_with fail
    go_ret
    exact ⟨d, rfl, HD.out, HAD.out, HR5.out, HC5.out⟩
end Go.Proofs.YtogcfaijphpgfaaDoor
/- Contracts of package mac: Mac, of one, two and three parts. -/
namespace Go.Proofs.YtogcfaijphpgfaaDoor
open Go.RowKit
/-- what a call of Mac leaves -/
def TagD (n : Nat) (key : Nat → Nat) (m : Nat) (F : Nat → Nat) (W : World) (e : Ending) (w' : World) : Prop :=
  ∃ d, e = .returned (.slice (some ⟨d, 0, none⟩) 32 32) ∧ W.heap.size ≤ d ∧ Arr w' d 0 32 (tag n key m F) ∧ Below W.heap.size W w'
theorem TagD.from {n : Nat} {key : Nat → Nat} {m : Nat} {F : Nat → Nat} {W0 W : World} {e : Ending} {w' : World} (h : TagD n key m F W e w') (hb : Below W0.heap.size W0 W) : TagD n key m F W0 e w' := by
  obtain ⟨d, he, hd, ha, hb'⟩ := h
  exact ⟨d, he, Nat.le_trans hb.size hd, ha, hb.trans (hb'.mono hb.size)⟩
theorem TagD.as {n m m' : Nat} {key F F' : Nat → Nat} {W : World} {e : Ending} {w' : World} (h : TagD n key m F W e w') (hm : m = m') (hF : ∀ j, j < m → F j = F' j) : TagD n key m' F' W e w' := by
  subst hm
  obtain ⟨d, he, hd, ha, hb'⟩ := h
  exact ⟨d, he, hd, ha.congr fun j _ => tag_congr (fun _ _ => rfl) hF j, hb'⟩
theorem TagP.from {g n : Nat} {key : Nat → Nat} {m : Nat} {F : Nat → Nat} {W0 W : World} {e : Ending} {w' : World} (h : TagP g n key m F W e w') (hb : Below W0.heap.size W0 W) : TagP g n key m F W0 e w' := by
  obtain ⟨d, he, hd, ha, hr, hc⟩ := h
  exact ⟨d, he, Nat.le_trans hb.size hd, ha, hr, (Chg.of_below hb).trans hc⟩
theorem TagP.as {g n m m' : Nat} {key F F' : Nat → Nat} {W : World} {e : Ending} {w' : World} (h : TagP g n key m F W e w') (hm : m = m') (hF : ∀ j, j < m → F j = F' j) : TagP g n key m' F' W e w' := by
  subst hm
  obtain ⟨d, he, hd, ha, hr, hc⟩ := h
  exact ⟨d, he, hd, ha.congr fun j _ => tag_congr (fun _ _ => rfl) hF j, hr, hc⟩
set_option maxHeartbeats 800000 in
theorem mac_any (gp k cap n ck : Nat) (AK : Option Addr) (key : Nat → Nat) (A : Nat → Option Addr) (l c : Nat → Nat) (f : Nat → Nat → Nat) (F : Nat → Nat) (m : Nat) (w : World) (hn : n ≤ 10000000000000) (hck : n ≤ ck) (hAK : SlB w AK n key) (hkey : By n key) (hk0 : 0 < k) (hk2 : k ≤ 1000) (hm : offs 0 l k = m) (hN : m ≤ 10000000000000)
    (hp : Parts w gp k A l c f) (hcap : ∀ i, i < k → l i ≤ c i) (hF : ∀ i, i < k → ∀ j, j < l i → F (offs 0 l i + j) = f i j) (hY : By m F) (ht : GT w) :
    Calls Tryd.prog 12 #[.slice AK n ck, .slice (some ⟨gp, 0, none⟩) k cap] w (TagD n key m F w) := by
  have HW := Lib.hid (mnew_any AK n ck key w (by omega) hck hAK ht)
  have HGP := Lib.hid (block_lt (a := ⟨gp, 0, none⟩) (hp.cells 0 hk0))
  have HP := Lib.hid hp
  have HT := Lib.hid ht
  have HM := Lib.hid (fun (g : Nat) (w1 : World) (h1 : MakAt w1 g n key) (h2 : Parts w1 gp k A l c f) (h3 : GT w1) (h4 : 1 ≠ g ∧ 0 ≠ g) (h5 : gp ≠ g) (h6 : ∀ i, i < k → 0 < l i → ∀ B o, A i = some ⟨B, o, none⟩ → B ≠ g) =>
    mmac_any g n gp k cap key A l c f F m w1 hkey h1 hk0 hk2 hm hN h2 hcap hF hY h3 h4 h5 h6)
  clear hn hck hAK hkey hm hN hp hcap hF hY ht
  go_enter Tryd.func12, Tryd.ntmps12
  go_wp2_with fail
  refine HW.out.mono ?_
  rintro e w1 ⟨g, rfl, hg, h1, h2⟩
  have HQ := Lib.hid (HM.out g w1 h1 (HP.out.keep h2) (HT.out.keep h2) ⟨Nat.ne_of_lt (Nat.lt_of_lt_of_le HT.out.ltk hg), Nat.ne_of_lt (Nat.lt_of_lt_of_le HT.out.lth hg)⟩ (Nat.ne_of_lt (Nat.lt_of_lt_of_le HGP.out hg)) (HP.out.apart hg))
  have HG := Lib.hid hg
  have HB := Lib.hid h2
  clear hg h1 h2
  go_wp2_with fail
  refine HQ.out.mono ?_
  rintro e w2 ⟨d, rfl, hd, ha, _, hc⟩
  have HD := Lib.hid hd
  have HA := Lib.hid ha
  have HC := Lib.hid hc
  clear hd ha hc
  go_wp2_with fail
  go_ret
  exact ⟨d, rfl, Nat.le_trans HB.out.size HD.out, HA.out, HB.out.trans (HC.out.below HB.out.size HG.out)⟩
theorem alloc_below (W : World) (o : Obj) : Below W.heap.size W (W.alloc o) := (Below.refl _ _).alloc (Nat.le_refl _) o
theorem mac1_any (W : World) (AK A : Option Addr) (n ck l c : Nat) (key f : Nat → Nat) (hn : n ≤ 10000000000000) (hl : l ≤ 10000000000000) (hck : n ≤ ck) (hc : l ≤ c) (hAK : SlB W AK n key) (hkey : By n key) (hA : SlB W A l f) (ht : GT W) :
    Calls Tryd.prog 12 #[.slice AK n ck, .slice (some ⟨W.heap.size, 0, none⟩) 1 1] (W.alloc (.cells #[.slice A l c] 22)) (TagD n key l f W) := by
  refine (mac_any W.heap.size 1 1 n ck AK key (fun _ => A) (fun _ => l) (fun _ => c) (fun _ => f) f l _ hn hck (hAK.keep (alloc_below _ _)) hkey (by decide) (by decide) (Nat.zero_add l) hl (parts1 A l c f hA) (fun _ _ => hc) (fun i hi j hj => ?_) (fun j hj => hA.byte hj) (ht.alloc _)).mono fun e w' h => h.from (alloc_below _ _)
  obtain rfl : i = 0 := by omega
  show f (0 + j) = f j
  rw [Nat.zero_add]
theorem hF_two {A0 A1 : Option Addr} {W : World} {n0 n1 : Nat} {f0 f1 F : Nat → Nat} (h0 : SlB W A0 n0 f0) (h1 : SlB W A1 n1 f1) (hF0 : ∀ j, j < n0 → F j = f0 j) (hF1 : ∀ j, j < n1 → F (n0 + j) = f1 j) :
    (∀ i, i < 2 → ∀ j, j < t2 n0 n1 i → F (offs 0 (t2 n0 n1) i + j) = t2 f0 f1 i j) ∧ By (n0 + n1) F := by
  refine ⟨fun i hi j hj => ?_, fun j hj => ?_⟩
  · rcases two_of hi with rfl | rfl
    · show F (0 + j) = f0 j
      rw [Nat.zero_add]; exact hF0 j hj
    · show F (0 + n0 + j) = f1 j
      rw [Nat.zero_add]; exact hF1 j hj
  · by_cases e : j < n0
    · rw [hF0 j e]; exact h0.byte e
    · have := hF1 (j - n0) (by omega)
      rw [show n0 + (j - n0) = j by omega] at this
      rw [this]; exact h1.byte (by omega)
theorem cap_two {n0 n1 c0 c1 : Nat} (h0 : n0 ≤ c0) (h1 : n1 ≤ c1) : ∀ i, i < 2 → t2 n0 n1 i ≤ t2 c0 c1 i := fun i hi => by
  rcases two_of hi with rfl | rfl
  · exact h0
  · exact h1
theorem offs_two (n0 n1 : Nat) : offs 0 (t2 n0 n1) 2 = n0 + n1 := by show 0 + n0 + n1 = _; omega
theorem mac2_any (W : World) (AK A0 A1 : Option Addr) (n ck n0 n1 c0 c1 : Nat) (key f0 f1 F : Nat → Nat) (hn : n ≤ 10000000000000) (hl : n0 + n1 ≤ 10000000000000) (hck : n ≤ ck) (hc0 : n0 ≤ c0) (hc1 : n1 ≤ c1) (hAK : SlB W AK n key) (hkey : By n key) (h0 : SlB W A0 n0 f0) (h1 : SlB W A1 n1 f1)
    (hF0 : ∀ j, j < n0 → F j = f0 j) (hF1 : ∀ j, j < n1 → F (n0 + j) = f1 j) (ht : GT W) :
    Calls Tryd.prog 12 #[.slice AK n ck, .slice (some ⟨W.heap.size, 0, none⟩) 2 2] (W.alloc (.cells #[.slice A0 n0 c0, .slice A1 n1 c1] 22)) (TagD n key (n0 + n1) F W) :=
  (mac_any W.heap.size 2 2 n ck AK key _ _ _ _ F (n0 + n1) _ hn hck (hAK.keep (alloc_below _ _)) hkey (by decide) (by decide) (offs_two n0 n1) hl (parts2 A0 A1 n0 n1 c0 c1 f0 f1 h0 h1) (cap_two hc0 hc1) (hF_two h0 h1 hF0 hF1).1 (hF_two h0 h1 hF0 hF1).2 (ht.alloc _)).mono fun e w' h => h.from (alloc_below _ _)
theorem mac3_any (W : World) (AK A0 A1 A2 : Option Addr) (n ck n0 n1 n2 c0 c1 c2 : Nat) (key f0 f1 f2 F : Nat → Nat) (hn : n ≤ 10000000000000) (hl : n0 + n1 + n2 ≤ 10000000000000) (hck : n ≤ ck) (hc0 : n0 ≤ c0) (hc1 : n1 ≤ c1) (hc2 : n2 ≤ c2) (hAK : SlB W AK n key) (hkey : By n key) (h0 : SlB W A0 n0 f0) (h1 : SlB W A1 n1 f1) (h2 : SlB W A2 n2 f2)
    (hY : By (n0 + n1 + n2) F) (hF0 : ∀ j, j < n0 → F j = f0 j) (hF1 : ∀ j, j < n1 → F (n0 + j) = f1 j) (hF2 : ∀ j, j < n2 → F (n0 + n1 + j) = f2 j) (ht : GT W) :
    Calls Tryd.prog 12 #[.slice AK n ck, .slice (some ⟨W.heap.size, 0, none⟩) 3 3] (W.alloc (.cells #[.slice A0 n0 c0, .slice A1 n1 c1, .slice A2 n2 c2] 22)) (TagD n key (n0 + n1 + n2) F W) := by
  refine (mac_any W.heap.size 3 3 n ck AK key _ _ _ _ F (n0 + n1 + n2) _ hn hck (hAK.keep (alloc_below _ _)) hkey (by decide) (by decide) (by show 0 + n0 + n1 + n2 = _; omega) hl (parts3 A0 A1 A2 n0 n1 n2 c0 c1 c2 f0 f1 f2 h0 h1 h2) (fun i hi => ?_) (fun i hi j hj => ?_) hY (ht.alloc _)).mono fun e w' h => h.from (alloc_below _ _)
  · rcases three_of hi with rfl | rfl | rfl
    · exact hc0
    · exact hc1
    · exact hc2
  · rcases three_of hi with rfl | rfl | rfl
    · show F (0 + j) = f0 j
      rw [Nat.zero_add]; exact hF0 j hj
    · show F (0 + n0 + j) = f1 j
      rw [Nat.zero_add]; exact hF1 j hj
    · show F (0 + n0 + n1 + j) = f2 j
      rw [Nat.zero_add]; exact hF2 j hj
theorem mmac1_any (W : World) (g n : Nat) (A : Option Addr) (l c : Nat) (key f : Nat → Nat) (hkey : By n key) (hk : MakAt W g n key) (hl : l ≤ 10000000000000) (hc : l ≤ c) (hA : SlB W A l f) (ht : GT W) (hG : 1 ≠ g ∧ 0 ≠ g) (hO : Off A l g) :
    Calls Tryd.prog 15 #[.pointer (some ⟨g, 0, none⟩), .slice (some ⟨W.heap.size, 0, none⟩) 1 1] (W.alloc (.cells #[.slice A l c] 22)) (TagP g n key l f W) := by
  refine (mmac_any g n W.heap.size 1 1 key (fun _ => A) (fun _ => l) (fun _ => c) (fun _ => f) f l _ hkey (hk.keep (alloc_below _ _)) (by decide) (by decide) (Nat.zero_add l) hl (parts1 A l c f hA) (fun _ _ => hc) (fun i hi j hj => ?_) (fun j hj => hA.byte hj) (ht.alloc _) hG (Nat.ne_of_gt hk.lt) (fun _ _ => hO)).mono fun e w' h => h.from (alloc_below _ _)
  obtain rfl : i = 0 := by omega
  show f (0 + j) = f j
  rw [Nat.zero_add]
theorem mmac2_any (W : World) (g n : Nat) (A0 A1 : Option Addr) (n0 n1 c0 c1 : Nat) (key f0 f1 F : Nat → Nat) (hkey : By n key) (hk : MakAt W g n key) (hl : n0 + n1 ≤ 10000000000000) (hc0 : n0 ≤ c0) (hc1 : n1 ≤ c1) (h0 : SlB W A0 n0 f0) (h1 : SlB W A1 n1 f1)
    (hF0 : ∀ j, j < n0 → F j = f0 j) (hF1 : ∀ j, j < n1 → F (n0 + j) = f1 j) (ht : GT W) (hG : 1 ≠ g ∧ 0 ≠ g) (hO0 : Off A0 n0 g) (hO1 : Off A1 n1 g) :
    Calls Tryd.prog 15 #[.pointer (some ⟨g, 0, none⟩), .slice (some ⟨W.heap.size, 0, none⟩) 2 2] (W.alloc (.cells #[.slice A0 n0 c0, .slice A1 n1 c1] 22)) (TagP g n key (n0 + n1) F W) := by
  refine (mmac_any g n W.heap.size 2 2 key _ _ _ _ F (n0 + n1) _ hkey (hk.keep (alloc_below _ _)) (by decide) (by decide) (offs_two n0 n1) hl (parts2 A0 A1 n0 n1 c0 c1 f0 f1 h0 h1) (cap_two hc0 hc1) (hF_two h0 h1 hF0 hF1).1 (hF_two h0 h1 hF0 hF1).2 (ht.alloc _) hG (Nat.ne_of_gt hk.lt) (fun i hi => ?_)).mono fun e w' h => h.from (alloc_below _ _)
  rcases two_of hi with rfl | rfl
  · exact hO0
  · exact hO1
end Go.Proofs.YtogcfaijphpgfaaDoor
/- Contracts of package mac: Same, the length of a label; bytes.Clone. -/
namespace Go.Proofs.YtogcfaijphpgfaaDoor
open Go.RowKit
/-- have the first k bytes of both no difference? (what Same gathers) -/
def gath (f g : Nat → Nat) : Nat → Nat
  | 0 => 0
  | k + 1 => gath f g k ||| (f k ^^^ g k)
theorem or_lt8 {a b : Nat} (ha : a < 256) (hb : b < 256) : a ||| b < 256 := Nat.or_lt_two_pow (n := 8) ha hb
theorem gath_lt {f g : Nat → Nat} {n : Nat} (hf : By n f) (hg : By n g) : ∀ k, k ≤ n → gath f g k < 256
  | 0, _ => Nat.zero_lt_succ _
  | k + 1, h => or_lt8 (gath_lt hf hg k (by omega)) (xor_lt8 (hf k (by omega)) (hg k (by omega)))
theorem or_zero {a b : Nat} : a ||| b = 0 ↔ a = 0 ∧ b = 0 := Nat.or_eq_zero_iff
theorem xor_zero {a b : Nat} : a ^^^ b = 0 ↔ a = b := by
  constructor
  · intro h
    have h2 : a ^^^ b ^^^ b = 0 ^^^ b := by rw [h]
    rwa [Nat.xor_assoc, Nat.xor_self, Nat.xor_zero, Nat.zero_xor] at h2
  · rintro rfl; exact Nat.xor_self a
theorem gath_zero (f g : Nat → Nat) : ∀ k, gath f g k = 0 ↔ ∀ j, j < k → f j = g j
  | 0 => ⟨fun _ _ h => absurd h (Nat.not_lt_zero _), fun _ => rfl⟩
  | k + 1 => by
    show gath f g k ||| (f k ^^^ g k) = 0 ↔ _
    rw [or_zero, xor_zero, gath_zero f g k]
    constructor
    · rintro ⟨h1, h2⟩ j hj
      rcases Nat.lt_or_ge j k with h | h
      · exact h1 j h
      · obtain rfl : j = k := by omega
        exact h2
    · exact fun h => ⟨fun j hj => h j (by omega), h k (Nat.lt_succ_self k)⟩
/-- have two rows the same bytes? -/
def sameB (n m : Nat) (f g : Nat → Nat) : Bool := decide (n = m ∧ ∀ j, j < n → f j = g j)
set_option maxHeartbeats 800000 in
theorem same_lt (A B : Option Addr) (n c m c2 : Nat) (f g : Nat → Nat) (w : World) (hn : n ≤ 140737488351232) (hm : m ≤ 140737488351232) (hx : m < n) (hA : SlB w A n f) (hB : SlB w B m g) :
    Calls Tryd.prog 17 #[.slice A n c, .slice B m c2] w fun e w' => e = .returned (.bool (sameB n m f g)) ∧ ∃ k, w' = w.drewN k := by
  have HA := Lib.hid hA
  have HB := Lib.hid hB
  have HFA := Lib.hid (fun j (hj : j < n) => hA.byte hj)
  have HFB := Lib.hid (fun j (hj : j < m) => hB.byte hj)
  clear hA hB
  go_enter Tryd.func17, Tryd.ntmps17
  go_wp2_with fail
  go_loopw [5, 12] (fun d i wr => ∃ k q : Nat, k ≤ m ∧ d = .int .u8 (gath f g k : Nat) ∧ i = .int .i64 k ∧ wr = w.drewN q) (fun _ i _ => m - (intOf i).toNat)
  case atStart => exact ⟨0, 0, Nat.zero_le _, rfl, rfl, rfl⟩
  case round =>
    obtain ⟨k, q, hk, rfl, rfl, hw⟩ := hrel
    have HW := Lib.hid hw
    have hgl := gath_lt (n := m) (fun j hj => HFA.out j (by omega)) (fun j hj => HFB.out j (by omega)) k (by omega)
    by_cases hlt : k < m
    · obtain ⟨B1, o1, rfl, _, h1⟩ := HA.out (by omega)
      obtain ⟨B2, o2, rfl, _, h2⟩ := HB.out (by omega)
      have hc1 : wr.cell? ⟨B1, o1 + k, none⟩ = some (.int .u8 (f k : Nat)) := by rw [hw]; exact (h1 k (by omega)).2
      have hc2 : wr.cell? ⟨B2, o2 + k, none⟩ = some (.int .u8 (g k : Nat)) := by rw [hw]; exact (h2 k (by omega)).2
      have hf1 : f k < 256 := (h1 k (by omega)).1
      have hf2 : g k < 256 := (h2 k (by omega)).1
      have hk1 : (k : Int) < n := by omega
      have hk2 : (k : Int) < m := by omega
      have b1 := u8_xor_nat _ _ hf1 hf2
      have b2 := u8_or_nat _ _ hgl (xor_lt8 hf1 hf2)
      have HS := Lib.hid (show gath f g (k + 1) = gath f g k ||| (f k ^^^ g k) from rfl)
      clear h1 h2 hw
      generalize f k = x at *
      generalize g k = y at *
      generalize gath f g k = z at *
      generalize z ||| (x ^^^ y) = u at *
      generalize x ^^^ y = v at *
      go_wp2_with fail
      go_quiet (fail)
      go_wp2_with fail
      go_roundw
      case rel => exact ⟨k + 1, q + nq, by omega, by rw [HS.out], by go_num, by rw [HW.out, World.drewN_drewN]⟩
      case measure => simp [intOf]; omega
    · have HK := Lib.hid (show k = m by omega)
      have HG := Lib.hid (gath_zero f g k)
      clear hw
      generalize gath f g k = z at *
      by_cases hz : z = 0
      · have hz1 : (((z : Nat) : Int) == 0) = true := by simp; omega
        have HE := Lib.hid (show decide (n = m) = sameB n m f g by
          unfold sameB
          congr 1
          refine propext ⟨fun h => ⟨h, fun j hj => ?_⟩, fun h => h.1⟩
          exact HG.out.1 hz j (by have := HK.out; omega))
        have HZ := Lib.hid hz
        clear hz
        by_cases hnm : n = m
        · have hx2 : ((n : Int) == (m : Int)) = true := by simp; omega
          have HE2 := Lib.hid (HE.out.symm.trans (decide_eq_true hnm))
          clear hnm
          go_wp2_with fail
          go_ret
          exact ⟨by rw [HE2.out]; rfl, q, HW.out⟩
        · have hx2 : ((n : Int) == (m : Int)) = false := by simp; omega
          have HE2 := Lib.hid (HE.out.symm.trans (decide_eq_false hnm))
          clear hnm
          go_wp2_with fail
          go_ret
          exact ⟨by rw [HE2.out]; rfl, q, HW.out⟩
      · have hz1 : (((z : Nat) : Int) == 0) = false := by simp; omega
        have HE := Lib.hid (show sameB n m f g = false by
          unfold sameB
          refine decide_eq_false fun h => hz (HG.out.2 fun j hj => h.2 j (by have := HK.out; omega)))
        clear hz
        go_wp2_with fail
        go_ret
        exact ⟨by rw [HE.out]; rfl, q, HW.out⟩
set_option maxHeartbeats 800000 in
theorem same_ge (A B : Option Addr) (n c m c2 : Nat) (f g : Nat → Nat) (w : World) (hn : n ≤ 140737488351232) (hm : m ≤ 140737488351232) (hx : n ≤ m) (hA : SlB w A n f) (hB : SlB w B m g) :
    Calls Tryd.prog 17 #[.slice A n c, .slice B m c2] w fun e w' => e = .returned (.bool (sameB n m f g)) ∧ ∃ k, w' = w.drewN k := by
  have HA := Lib.hid hA
  have HB := Lib.hid hB
  have HFA := Lib.hid (fun j (hj : j < n) => hA.byte hj)
  have HFB := Lib.hid (fun j (hj : j < m) => hB.byte hj)
  clear hA hB
  go_enter Tryd.func17, Tryd.ntmps17
  go_wp2_with fail
  go_loopw [5, 12] (fun d i wr => ∃ k q : Nat, k ≤ n ∧ d = .int .u8 (gath f g k : Nat) ∧ i = .int .i64 k ∧ wr = w.drewN q) (fun _ i _ => n - (intOf i).toNat)
  case atStart => exact ⟨0, 0, Nat.zero_le _, rfl, rfl, rfl⟩
  case round =>
    obtain ⟨k, q, hk, rfl, rfl, hw⟩ := hrel
    have HW := Lib.hid hw
    have hgl := gath_lt (n := n) (fun j hj => HFA.out j (by omega)) (fun j hj => HFB.out j (by omega)) k (by omega)
    by_cases hlt : k < n
    · obtain ⟨B1, o1, rfl, _, h1⟩ := HA.out (by omega)
      obtain ⟨B2, o2, rfl, _, h2⟩ := HB.out (by omega)
      have hc1 : wr.cell? ⟨B1, o1 + k, none⟩ = some (.int .u8 (f k : Nat)) := by rw [hw]; exact (h1 k (by omega)).2
      have hc2 : wr.cell? ⟨B2, o2 + k, none⟩ = some (.int .u8 (g k : Nat)) := by rw [hw]; exact (h2 k (by omega)).2
      have hf1 : f k < 256 := (h1 k (by omega)).1
      have hf2 : g k < 256 := (h2 k (by omega)).1
      have hk1 : (k : Int) < n := by omega
      have hk2 : (k : Int) < m := by omega
      have b1 := u8_xor_nat _ _ hf1 hf2
      have b2 := u8_or_nat _ _ hgl (xor_lt8 hf1 hf2)
      have HS := Lib.hid (show gath f g (k + 1) = gath f g k ||| (f k ^^^ g k) from rfl)
      clear h1 h2 hw
      generalize f k = x at *
      generalize g k = y at *
      generalize gath f g k = z at *
      generalize z ||| (x ^^^ y) = u at *
      generalize x ^^^ y = v at *
      go_wp2_with fail
      go_quiet (fail)
      go_wp2_with fail
      go_roundw
      case rel => exact ⟨k + 1, q + nq, by omega, by rw [HS.out], by go_num, by rw [HW.out, World.drewN_drewN]⟩
      case measure => simp [intOf]; omega
    · have HK := Lib.hid (show k = n by omega)
      have HG := Lib.hid (gath_zero f g k)
      clear hw
      generalize gath f g k = z at *
      by_cases hz : z = 0
      · have hz1 : (((z : Nat) : Int) == 0) = true := by simp; omega
        have HE := Lib.hid (show decide (n = m) = sameB n m f g by
          unfold sameB
          congr 1
          refine propext ⟨fun h => ⟨h, fun j hj => ?_⟩, fun h => h.1⟩
          exact HG.out.1 hz j (by have := HK.out; omega))
        have HZ := Lib.hid hz
        clear hz
        by_cases hnm : n = m
        · have hx2 : ((n : Int) == (m : Int)) = true := by simp; omega
          have HE2 := Lib.hid (HE.out.symm.trans (decide_eq_true hnm))
          clear hnm
          go_wp2_with fail
          go_ret
          exact ⟨by rw [HE2.out]; rfl, q, HW.out⟩
        · have hx2 : ((n : Int) == (m : Int)) = false := by simp; omega
          have HE2 := Lib.hid (HE.out.symm.trans (decide_eq_false hnm))
          clear hnm
          go_wp2_with fail
          go_ret
          exact ⟨by rw [HE2.out]; rfl, q, HW.out⟩
      · have hz1 : (((z : Nat) : Int) == 0) = false := by simp; omega
        have HE := Lib.hid (show sameB n m f g = false by
          unfold sameB
          refine decide_eq_false fun h => hz (HG.out.2 fun j hj => h.2 j (by have := HK.out; omega)))
        clear hz
        go_wp2_with fail
        go_ret
        exact ⟨by rw [HE.out]; rfl, q, HW.out⟩
theorem same_any (A B : Option Addr) (n c m c2 : Nat) (f g : Nat → Nat) (w : World) (hn : n ≤ 140737488351232) (hm : m ≤ 140737488351232) (hA : SlB w A n f) (hB : SlB w B m g) :
    Calls Tryd.prog 17 #[.slice A n c, .slice B m c2] w fun e w' => e = .returned (.bool (sameB n m f g)) ∧ ∃ k, w' = w.drewN k := by
  by_cases h : m < n
  · exact same_lt A B n c m c2 f g w hn hm h hA hB
  · exact same_ge A B n c m c2 f g w hn hm (by omega) hA hB
/-- what Clone leaves -/
theorem clone_any (A : Option Addr) (n c : Nat) (f : Nat → Nat) (w : World) (hn : n ≤ 100000000000000) (hA : SlB w A n f) (hnil : A = none → n = 0 ∧ c = 0) :
    Calls Tryd.prog 27 #[.slice A n c] w fun e w' => (∃ v, e = .returned v ∧ OwnB w' w.heap.size v n f) ∧ Below w.heap.size w w' := by
  have q8 : ∀ (w : World) (a : Option Addr) (n c : Nat), (binOp .eql 22 (.slice a n c) (.slice none 0 0)).run Tryd.prog w = .ok (.bool a.isNone) w := fun w a n c => Lib.run_eql_slice_nil w _ _ a n c 0 0 Tryd.underlying22
  cases A with
  | none =>
    obtain ⟨rfl, rfl⟩ := hnil rfl
    clear hnil hA hn
    go_enter Tryd.func27, Tryd.ntmps27
    go_wp2_with fail
    go_ret
    exact ⟨⟨_, rfl, OwnB.nil _ _ _⟩, Below.refl _ _⟩
  | some ad =>
    have HA := Lib.hid (hA.keep (alloc_below w (.cells #[] 5)))
    have HF := Lib.hid (fun j (hj : j < n) => hA.byte hj)
    have HO := Lib.hid (OwnB.empty w w.heap.size f (Nat.le_refl _))
    have HB := Lib.hid (alloc_below w (.cells #[] 5))
    have HN := Lib.hid hn
    clear hnil hA hn
    go_enter Tryd.func27, Tryd.ntmps27
    go_wp2_with (refine wpList_appO rfl (.tmp 5) (.tmp 6) rfl w.heap.size _ 0 f rfl HO.out (some ad) n c f rfl HA.out (fun h => by cases h) (by have := HN.out; omega) HB.out.size (fun j hj => absurd hj (Nat.not_lt_zero j)) HF.out ?_; intro A' c' w2 h1 _ _ h4; have H1 := Lib.hid h1; have H4 := Lib.hid h4; clear h1 h4)
    go_ret
    refine ⟨⟨_, rfl, ?_⟩, HB.out.trans H4.out⟩
    have := H1.out
    rw [Nat.zero_add] at this
    exact this.congr fun j _ => rfl
end Go.Proofs.YtogcfaijphpgfaaDoor
/- Contracts of package mac: the length of a label, Fold. -/
namespace Go.Proofs.YtogcfaijphpgfaaDoor
open Go.RowKit
/-- a number in eight bytes -/
def len8 (n j : Nat) : Nat := n / 2 ^ (8 * (7 - j)) % 256
theorem len8_lt (n j : Nat) : len8 n j < 256 := Nat.mod_lt _ (by decide)
theorem size8b : (Tryd.prog.info? 60).map (·.size) = some 8 := by kernel_rfl
abbrev z8 : Array Value := #[.int .u8 0, .int .u8 0, .int .u8 0, .int .u8 0, .int .u8 0, .int .u8 0, .int .u8 0, .int .u8 0]
theorem made8 (w : World) : Arr (w.alloc (.cells z8 60)) w.heap.size 0 8 (fun _ => 0) := arr_made w _ _ 8 _ rfl
set_option maxRecDepth 100000 in
set_option maxHeartbeats 1600000 in
theorem length_any (s : ByteArray) (w : World) (hs : s.size ≤ 140737488351232) :
    Calls Tryd.prog 28 #[.string s] w fun e w' => e = .returned (aggB 8 (len8 s.size)) ∧ Below w.heap.size w w' := by
  have HO := Lib.hid ((made8 w).alloc (.cells z8 60))
  have HM := Lib.hid (made8 (w.alloc (.cells z8 60)))
  have hs1 : (w.alloc (.cells z8 60)).heap.size = w.heap.size + 1 := by simp
  rw [hs1] at HM
  have HB := Lib.hid (((Below.refl w.heap.size w).alloc (Nat.le_refl _) (.cells z8 60)).alloc (by simp) (.cells z8 60))
  clear hs1
  go_enter Tryd.func28, Tryd.ntmps28
  go_wp2_with fail
  generalize hW : (w.alloc (.cells z8 60)).alloc (.cells z8 60) = W at *
  clear hW
  obtain ⟨x, hx⟩ : ∃ x, s.size = x := ⟨_, rfl⟩
  rw [hx] at hs
  go_loopw [5] (fun v wr => ∃ k : Nat, k ≤ 8 ∧ v = .int .i64 k ∧ Arr wr (w.heap.size + 1) 0 8 (fun j => if j < k then len8 x j else 0) ∧ Arr wr w.heap.size 0 8 (fun _ => 0) ∧ Below w.heap.size w wr) (fun v _ => 8 - (intOf v).toNat)
  case atStart => exact ⟨0, by decide, rfl, HM.out.congr fun j _ => (if_neg (Nat.not_lt_zero _)).symm, HO.out, HB.out⟩
  case round =>
    obtain ⟨k, hk, rfl, h1, h2, h3⟩ := hrel
    have H1 := Lib.hid h1
    have H2 := Lib.hid h2
    have H3 := Lib.hid h3
    clear h1 h2 h3
    by_cases hlt : k < 8
    · obtain ⟨q, hq⟩ : ∃ q, q = 7 - k := ⟨_, rfl⟩
      obtain ⟨q8, hq8⟩ : ∃ q8, q8 = 8 * q := ⟨_, rfl⟩
      have eq : (7 : Int) - k = q := by omega
      have eq8 : (8 : Int) * q = q8 := by omega
      have hqi : (q : Int) ≤ 7 := by omega
      have hq8i : (q8 : Int) ≤ 56 := by omega
      have hxi : (x : Int) ≤ 140737488351232 := by omega
      obtain ⟨y, hy⟩ : ∃ y, y = x / 2 ^ q8 := ⟨_, rfl⟩
      have hyx : y ≤ x := by rw [hy]; exact Nat.div_le_self _ _
      have ey : (x : Int) / 2 ^ q8 = y := by rw [hy]; simp
      obtain ⟨z, hz⟩ : ∃ z, z = y % 256 := ⟨_, rfl⟩
      have ez : (y : Int) % 256 = z := by omega
      have lz : z < 256 := by omega
      have hyi : (y : Int) ≤ 140737488351232 := by omega
      have HZ := Lib.hid (show len8 x k = z by unfold len8; rw [hz, hy, hq8, hq])
      have hc3 := H1.out.cell hlt (Nat.zero_add k).symm
      have hf3 := H1.out.frozen hlt (Nat.zero_add k).symm
      rw [if_neg (Nat.lt_irrefl k)] at hc3
      have HM1 := Lib.hid ((H1.out.set hlt (Nat.zero_add k).symm z rfl).congr fun j _ => upto_step (fun _ => 0) (len8 x) k _ HZ.out j)
      have HB1 := Lib.hid (H3.out.setCell (p := ⟨w.heap.size + 1, k, none⟩) (Nat.le_succ _) (.int .u8 (z : Nat)))
      have HO1 := Lib.hid (H2.out.setOther (a := ⟨w.heap.size + 1, k, none⟩) (Nat.ne_of_lt (Nat.lt_succ_self _)) (.int .u8 (z : Nat)))
      clear hq hq8 hy hz
      go_wp2_with fail
      go_roundw
      case rel => exact ⟨k + 1, by omega, by go_num, HM1.out, HO1.out, HB1.out⟩
      case measure => simp [intOf]; omega
    · obtain rfl : k = 8 := by omega
      have HR := Lib.hid (H1.out.congr (f := len8 x) fun j hj => if_pos hj)
      go_wp2_with (first | (refine wpList_loadB rfl 60 (.tmp 3) rfl (w.heap.size + 1) 0 8 rfl _ HR.out _ Tryd.underlying60 rfl size8b ?_) | (refine wpList_storeB rfl 60 (.tmp 2) (.tmp 18) rfl w.heap.size 0 8 _ _ rfl rfl H2.out size8b ?_; intro w2 h1 h2; have HR2 := Lib.hid h1; have HC2 := Lib.hid h2; clear h1 h2))
      exact bodyPost_ret (results_cellB rfl _ _ w.heap.size 0 8 _ rfl HR2.out _ Tryd.underlying60 rfl size8b) rfl ⟨by rw [hx], H3.out.trans (HC2.out.below H3.out.size (Nat.le_refl _))⟩
/-- strings, known by a row -/
def StrsAt (w : World) (B o L : Nat) (s : Nat → ByteArray) : Prop := ∀ j, j < L → w.cell? ⟨B, o + j, none⟩ = some (.string (s j))
theorem StrsAt.keep {w w' : World} {B o L : Nat} {s : Nat → ByteArray} (h : StrsAt w B o L s) (hb : Below w.heap.size w w') : StrsAt w' B o L s := fun j hj => (hb.cell (p := ⟨B, o + j, none⟩) (block_lt (a := ⟨B, o + j, none⟩) (h j hj))).trans (h j hj)
theorem StrsAt.drewN {w : World} {B o L : Nat} {s : Nat → ByteArray} (h : StrsAt w B o L s) (n : Nat) : StrsAt (w.drewN n) B o L s := h
/-- the strings of a slice that came in -/
def SlS (w : World) (A : Option Addr) (L : Nat) (s : Nat → ByteArray) : Prop := 0 < L → ∃ B o, A = some ⟨B, o, none⟩ ∧ B < w.heap.size ∧ StrsAt w B o L s
theorem SlS.keep {w w' : World} {A : Option Addr} {L : Nat} {s : Nat → ByteArray} (h : SlS w A L s) (hb : Below w.heap.size w w') : SlS w' A L s := fun hL => by
  obtain ⟨B, o, hA, hB, hs⟩ := h hL
  exact ⟨B, o, hA, Nat.lt_of_lt_of_le hB hb.size, hs.keep hb⟩
/-- what a row of labels makes of a key: how long it is, and its bytes -/
def fkN (n : Nat) : Nat → Nat
  | 0 => n
  | _ + 1 => 32
def fkF (n : Nat) (key : Nat → Nat) (s : Nat → ByteArray) : Nat → Nat → Nat
  | 0 => key
  | i + 1 => tag (fkN n i) (fkF n key s i) (8 + (s i).size) (catB 8 (len8 (s i).size) (by_ (s i)))
theorem fkF_by {n : Nat} {key : Nat → Nat} {s : Nat → ByteArray} (hk : By n key) : ∀ i, By (fkN n i) (fkF n key s i)
  | 0 => hk
  | _ + 1 => fun _ _ => tag_lt _ _ _ _ _
theorem fkN_le {n K : Nat} (hn : n ≤ K) (h : 32 ≤ K) : ∀ i, fkN n i ≤ K
  | 0 => hn
  | _ + 1 => h
/-- []byte(s), with what its capacity is -/
theorem bytesOf' (s : ByteArray) (w : World) : ∃ cap W, (convert 9 22 (.string s)).run Tryd.prog w = .ok (.slice (some ⟨w.heap.size, 0, none⟩) s.size cap) W ∧
    Below w.heap.size w W ∧ s.size ≤ cap ∧ SlB W (some ⟨w.heap.size, 0, none⟩) s.size (by_ s) := by
  obtain ⟨cap, W, h1, h2, _, h4⟩ := bytesOf s w
  have h5 := run_bytes_of_string w _ _ _ s Tryd.underlying9 Tryd.underlying22 Tryd.underlying5
  have h6 := h1.symm.trans h5
  injection h6 with h6 h7
  injection h6 with _ _ h8
  exact ⟨cap, W, h1, h2, by rw [h8]; exact grownCap_ge _ _ _ _, SlB.of_rowX h4 fun j _ => ⟨by_lt s j, rfl⟩⟩
end Go.Proofs.YtogcfaijphpgfaaDoor
