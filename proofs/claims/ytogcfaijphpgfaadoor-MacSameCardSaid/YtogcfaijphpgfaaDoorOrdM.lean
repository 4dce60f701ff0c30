/- As OrdT, but some operations (mu) may write what the region itself has made: an append to a row of its own. What an operation yields need then hold only until the last operation that looks at it, but for those that are steady (st). Written by specs/mkordm.py out of OrdT. Nothing here hangs on the program. -/
import Derived.Test.YtogcfaijphpgfaaDoorOrdT
namespace Go.Proofs.YtogcfaijphpgfaaDoor.ord
open Go Go.RowKit

/-- does q wait for p, over others too? -/
def behind (ops : Array Oper) : Nat → Nat → Nat → Bool
  | 0, _, _ => false
  | n + 1, q, p => match ops[q]? with
    | none => false
    | some o => o.after.toList.any fun e => Region.binds .any e && (Nat.beq e.on p || behind ops n e.on p)
theorem behind_listed {ops : Array Oper} {listed : Array Bool} (hc : ∀ j oj, ops[j]? = some oj → listed.getD j false = true → ∀ e ∈ oj.after, Region.binds .any e = true → listed.getD e.on false = true) : ∀ (n q p : Nat), behind ops n q p = true → listed.getD q false = true → listed.getD p false = true
  | 0, _, _, h, _ => by cases h
  | n + 1, q, p, h, hq => by
    unfold behind at h
    cases ho : ops[q]? with
    | none => rw [ho] at h; cases h
    | some o =>
      rw [ho] at h
      obtain ⟨e, he, h1⟩ := List.any_eq_true.1 h
      simp only [Bool.and_eq_true, Bool.or_eq_true] at h1
      have h2 := hc q o ho hq e (by simpa using he) h1.1
      rcases h1.2 with h3 | h3
      · rw [Nat.eq_of_beq_eq_true h3] at h2; exact h2
      · exact behind_listed hc n e.on p h3 h2
/-- nothing that is looked at later hangs on what p may write -/
def okMu (ops : Array Oper) (D : List (List Nat)) (L : List (Nat × Nat)) (mu st : Nat → Bool) : Bool :=
  L.all fun p => !mu p.1 || L.all fun q => q.1 == p.1 || st q.1 || behind ops ops.size q.1 p.1 || L.all fun r => !dep D r.1 q.1 || r.1 == p.1 || match ops[p.1]? with
    | none => false
    | some o => waits o r.1

section
variable {P : Program} {ops : Array Oper} {Q : Exit → Act → World → Prop} {D : List (List Nat)} {L : List (Nat × Nat)} {G : Nat → Value → World → Prop} {a0 : Act} {w0 : World} {listed0 : Array Bool} {mu st : Nat → Bool}
/-- what is asked of one operation -/
def StepM (P : Program) (ops : Array Oper) (D : List (List Nat)) (L : List (Nat × Nat)) (G : Nat → Value → World → Prop) (mu : Nat → Bool) (a0 : Act) (w0 : World) (p : Nat × Nat) : Prop :=
  ∀ o, ops[p.1]? = some o → ∀ (x : Nat → Value) (w : World), Below w0.heap.size w0 w → (∀ q ∈ L, dep D p.1 q.1 = true → G q.1 (x q.1) w) →
    (Region.wanted o (yielded ops (puts x (dep D p.1) L a0).tmps) = true ∧ makes P o (puts x (dep D p.1) L a0) w (fun v w' => Below (if mu p.1 then w0.heap.size else w.heap.size) w w' ∧ G p.1 v w')) ∨
    (Region.wanted o (yielded ops (puts x (dep D p.1) L a0).tmps) = false ∧ G p.1 undef w)
/-- is it looked at again, or steady? -/
def live (D : List (List Nat)) (L : List (Nat × Nat)) (st : Nat → Bool) (listed : Array Bool) (q : Nat) : Prop := st q = true ∨ ∃ r ∈ L, dep D r.1 q = true ∧ listed.getD r.1 false = false

structure InvM (N : Nat) (ops : Array Oper) (D : List (List Nat)) (st : Nat → Bool) (L : List (Nat × Nat)) (G : Nat → Value → World → Prop) (a0 : Act) (w0 : World) (listed0 listed : Array Bool) (a : Act) (w : World) : Prop where
  grow : Below w0.heap.size w0 w
  defers : a.defers = a0.defers
  size : a.tmps.size = a0.tmps.size
  lsize : listed.size = listed0.size
  old : ∀ s, (∀ q ∈ L, q.2 = s → listed.getD q.1 false = false) → a.tmps[s]? = a0.tmps[s]?
  new : ∀ q ∈ L, listed.getD q.1 false = true → ∃ v, a.tmps[q.2]? = some v ∧ (live D L st listed q.1 → G q.1 v w)
  closed : ∀ q ∈ L, listed.getD q.1 false = true → ∀ o, ops[q.1]? = some o → ∀ j, waits o j = true → listed.getD j false = true
  tail : ∀ t, N ≤ t → t < ops.size → listed.getD t true = false

theorem step_invM {N : Nat} (hok : okT N ops listed0 a0.tmps.size D L = true) (hmu : okMu ops D L mu st = true) (hst : ∀ i v w w', G i v w → Below w.heap.size w w' → G i v w') (hst2 : ∀ i v w w', st i = true → G i v w → Below w0.heap.size w w' → G i v w') (hstep : ∀ p ∈ L, StepM P ops D L G mu a0 w0 p)
    {listed : Array Bool} {a : Act} {w : World} (I : InvM N ops D st L G a0 w0 listed0 listed a w) {i : Nat} (hi : i ∈ Region.ready .any ops listed) (hiN : i < N) :
    wpOp P ops Q i (fun a' w' => InvM N ops D st L G a0 w0 listed0 (listed.setIfInBounds i true) a' w') a w := by
  obtain ⟨hun, o, ho, hdeps⟩ := mem_ready.1 hi
  have hdeps' : ∀ j, waits o j = true → listed.getD j false = true := fun j hj => by
    obtain ⟨e, he, hb, rfl⟩ := waits_iff.1 hj; exact hdeps e he hb
  unfold okT at hok
  simp only [Bool.and_eq_true, decide_eq_true_eq, List.all_eq_true] at hok
  obtain ⟨p, hp, rfl⟩ : ∃ p ∈ L, p.1 = i := by
    obtain ⟨q, hq, e⟩ := List.any_eq_true.1 (hok.1.1.2 i (List.mem_range.2 hiN))
    exact ⟨q, hq, by simpa using e⟩
  have hls0 : listed0.size = ops.size := by simpa using hok.1.1.1
  have hany0 := hok.1.1.2
  obtain ⟨⟨⟨_, _⟩, hn1, hn2⟩, hall⟩ := hok
  have hp0 := hall p hp
  obtain ⟨hpN, ⟨⟨hsz, hls⟩, _⟩, hpo⟩ := hp0
  rw [ho] at hpo
  simp only [Bool.and_eq_true, List.all_eq_true, beq_iff_eq, Bool.or_eq_true, Bool.not_eq_true', beq_eq_false_iff_ne] at hpo
  obtain ⟨⟨⟨_, hDw, hdst⟩, hsel⟩, hlooks⟩ := hpo
  have hD : ∀ j, dep D p.1 j = true → waits o j = true := fun j hj => by
    unfold dep at hj
    obtain ⟨k, hk, e⟩ := List.any_eq_true.1 hj
    have := Nat.eq_of_beq_eq_true e
    subst this
    exact hDw _ hk
  have hsel' : ∀ cs b, o.op ≠ .select cs b := fun cs b e => by rw [e] at hsel; cases hsel
  have hli : p.1 < listed.size := by rw [I.lsize]; exact hls
  have hunF : listed.getD p.1 false = false := by
    simp only [Array.getD_eq_getD_getElem?, Array.getElem?_eq_getElem hli, Option.getD_some] at hun ⊢; exact hun
  have HCL : ∀ j oj, ops[j]? = some oj → listed.getD j false = true → ∀ e ∈ oj.after, Region.binds .any e = true → listed.getD e.on false = true := fun j oj hj hl e he hb => by
    have hlt : j < ops.size := (Array.getElem?_eq_some_iff.1 hj).1
    rcases Nat.lt_or_ge j N with h | h
    · obtain ⟨q, hq, eq⟩ := List.any_eq_true.1 (hany0 j (List.mem_range.2 h))
      have eq' : q.1 = j := by simpa using eq
      subst eq'
      exact I.closed q hq hl oj hj e.on (waits_iff.2 ⟨e, he, hb, rfl⟩)
    · have h1 := I.tail j h hlt
      have hlt2 : j < listed.size := by rw [I.lsize, hls0]; exact hlt
      simp only [Array.getD_eq_getD_getElem?, Array.getElem?_eq_getElem hlt2, Option.getD_some] at h1 hl
      rw [h1] at hl; cases hl
  have hx : ∃ x : Nat → Value, ∀ q ∈ L, listed.getD q.1 false = true → a.tmps[q.2]? = some (x q.1) ∧ (live D L st listed q.1 → G q.1 (x q.1) w) := by
    refine ⟨fun j => match L.find? (fun q => q.1 == j) with | some q => a.tmps.getD q.2 undef | none => undef, fun q hq hl => ?_⟩
    obtain ⟨v, hv, hg⟩ := I.new q hq hl
    have hf : L.find? (fun r => r.1 == q.1) = some q := by
      cases hfd : L.find? (fun r => r.1 == q.1) with
      | none => have := List.find?_eq_none.1 hfd q hq; simp at this
      | some r =>
        have h1 := List.find?_some hfd
        have h2 := List.mem_of_find?_eq_some hfd
        have e : r.1 = q.1 := by simpa using h1
        have : r = q := by
          exact nodup_inj (f := (·.1)) hn1 h2 hq e
        rw [this]
    simp only [hf, Array.getD_eq_getD_getElem?, hv, Option.getD_some]
    exact ⟨trivial, hg⟩
  obtain ⟨x, hx⟩ := hx
  have hsame : ∀ t ∈ o.looksAt ops, a.tmps[t]? = (puts x (dep D p.1) L a0).tmps[t]? := fun t ht => by
    rcases Classical.em (∃ q ∈ L, q.2 = t ∧ dep D p.1 q.1 = true) with ⟨q, hq, rfl, hw⟩ | hno
    · have hsq : q.2 < a0.tmps.size := (hall q hq).2.1.1.1
      rw [puts_at x (dep D p.1) L a0 q hn2 hq hw hsq]
      exact (hx q hq (hdeps' _ (hD _ hw))).1
    · rw [puts_not x (dep D p.1) L a0 t fun q hq e => by
        cases hw : dep D p.1 q.1
        · rfl
        · exact absurd ⟨q, hq, e, hw⟩ hno]
      refine I.old t fun q hq e => ?_
      rcases hlooks t ht q hq with (h | h) | h
      · exact absurd e h
      · exact absurd ⟨q, hq, e, h⟩ hno
      · cases hl : listed.getD q.1 false
        · rfl
        · cases hoq : ops[q.1]? with
          | none => rw [hoq] at h; cases h
          | some o' =>
            rw [hoq] at h
            have := I.closed q hq hl o' hoq p.1 h
            rw [hunF] at this; cases this
  have hS := hstep p hp o ho x w I.grow fun q hq hw => (hx q hq (hdeps' _ (hD _ hw))).2 (Or.inr ⟨p, hp, hw, hunF⟩)
  rw [← wanted_of hsame] at hS
  have keep : ∀ v w', Below (if mu p.1 then w0.heap.size else w.heap.size) w w' → G p.1 v w' → InvM N ops D st L G a0 w0 listed0 (listed.setIfInBounds p.1 true) (a.put o.dst v) w' := fun v w' hb hg => by
    have hput : ∀ s, s ≠ p.2 → (a.put o.dst v).tmps[s]? = a.tmps[s]? := fun s hs => by
      rw [hdst]; simp [Act.put, Array.getElem?_setIfInBounds_ne (Ne.symm hs)]
    have hputp : (a.put o.dst v).tmps[p.2]? = some v := by
      rw [hdst]; simp [Act.put, I.size, hsz]
    have hset : ∀ j, j ≠ p.1 → (listed.setIfInBounds p.1 true).getD j false = listed.getD j false := fun j hj => getD_set_ne false (Ne.symm hj)
    have hsetp : (listed.setIfInBounds p.1 true).getD p.1 false = true := by simp [hli]
    have uniq : ∀ q ∈ L, q.2 = p.2 → q = p := fun q hq e => by
      exact nodup_inj (f := (·.2)) hn2 hq hp e
    have uniq1 : ∀ q ∈ L, q.1 = p.1 → q = p := fun q hq e => by
      exact nodup_inj (f := (·.1)) hn1 hq hp e
    have hb0 : Below w0.heap.size w w' := hb.mono (by split; exact Nat.le_refl _; exact I.grow.size)
    refine ⟨I.grow.trans hb0, ?_, ?_, ?_, fun s hs => ?_, fun q hq hl => ?_, fun q hq hl o' ho' j hj => ?_, fun s hs ht => ?_⟩
    · rw [hdst]; exact I.defers
    · rw [hdst]; simp [Act.put, I.size]
    · simp [I.lsize]
    · have hsp : s ≠ p.2 := fun e => by
        have := hs p hp e.symm
        rw [hsetp] at this; cases this
      rw [hput s hsp]
      refine I.old s fun q hq e => ?_
      have := hs q hq e
      have hqp : q.1 ≠ p.1 := fun e2 => hsp (by rw [← e, uniq1 q hq e2])
      rwa [hset _ hqp] at this
    · by_cases e : q.1 = p.1
      · obtain rfl := uniq1 q hq e
        exact ⟨v, hputp, fun _ => hg⟩
      · rw [hset _ e] at hl
        obtain ⟨u, hu, hgu⟩ := I.new q hq hl
        have : q.2 ≠ p.2 := fun e2 => e (by rw [uniq q hq e2])
        refine ⟨u, by rw [hput _ this]; exact hu, fun hlv => ?_⟩
        have hlv0 : live D L st listed q.1 := by
          rcases hlv with h | ⟨r, hr, h1, h2⟩
          · exact Or.inl h
          · refine Or.inr ⟨r, hr, h1, ?_⟩
            by_cases e3 : r.1 = p.1
            · rw [e3]; exact hunF
            · rw [hset _ e3] at h2; exact h2
        by_cases hm : mu p.1 = true
        · rcases hlv with h | ⟨r, hr, h1, h2⟩
          · exact hst2 _ _ _ _ h (hgu hlv0) hb0
          · unfold okMu at hmu
            have h3 := List.all_eq_true.1 hmu p hp
            rw [hm] at h3
            have h4 := List.all_eq_true.1 (show (L.all fun q => q.1 == p.1 || st q.1 || behind ops ops.size q.1 p.1 || L.all fun r => !dep D r.1 q.1 || r.1 == p.1 || match ops[p.1]? with | none => false | some o => waits o r.1) = true by simpa using h3) q hq
            by_cases hsq : st q.1 = true
            · exact hst2 _ _ _ _ hsq (hgu hlv0) hb0
            by_cases hbe : behind ops ops.size q.1 p.1 = true
            · exfalso
              have := behind_listed HCL _ _ _ hbe hl
              rw [hunF] at this; cases this
            · exfalso
              have h5 := List.all_eq_true.1 (show (L.all fun r => !dep D r.1 q.1 || r.1 == p.1 || match ops[p.1]? with | none => false | some o => waits o r.1) = true by simpa [e, hsq, hbe] using h4) r hr
              rw [h1, ho] at h5
              by_cases e3 : r.1 = p.1
              · rw [e3, hsetp] at h2; cases h2
              · have h6 : waits o r.1 = true := by simpa [e3] using h5
                have h7 := hdeps' _ h6
                rw [hset _ e3, h7] at h2; cases h2
        · rw [if_neg hm] at hb
          exact hst _ _ _ _ (hgu hlv0) hb
    · by_cases e : q.1 = p.1
      · obtain rfl := uniq1 q hq e
        rw [ho] at ho'
        cases ho'
        have := hdeps' j hj
        exact getD_set_true this
      · rw [hset _ e] at hl
        exact getD_set_true (I.closed q hq hl o' ho' j hj)
    · rw [getD_set_ne true (show p.1 ≠ s by omega)]
      exact I.tail s hs ht
  unfold wpOp
  rw [ho]
  show if Region.wanted o (yielded ops a.tmps) = true then _ else _
  rcases hS with ⟨hw, hm⟩ | ⟨hw, hg⟩
  · rw [if_pos hw]
    refine Or.inl (wp_of_makes (N := fun v w' => Below (if mu p.1 then w0.heap.size else w.heap.size) w w' ∧ G p.1 v w') ?_ fun v w' h => keep v w' h.1 h.2)
    unfold makes at hm ⊢
    rw [exec_of hsel' hsame]
    exact hm
  · rw [hw, if_neg (by decide)]
    exact keep _ _ (Below.refl _ _) hg
theorem done_eqM {N : Nat} (hn2 : (L.map (·.2)).Nodup) (hsz : ∀ q ∈ L, q.2 < a0.tmps.size) {listed : Array Bool} {a : Act} {w : World} (I : InvM N ops D st L G a0 w0 listed0 listed a w) (hl : ∀ q ∈ L, listed.getD q.1 false = true) (hn1 : (L.map (·.1)).Nodup) :
    ∃ x : Nat → Value, (∀ q ∈ L, st q.1 = true → G q.1 (x q.1) w) ∧ a = puts x (fun _ => true) L a0 := by
  have hx : ∃ x : Nat → Value, ∀ q ∈ L, a.tmps[q.2]? = some (x q.1) ∧ (st q.1 = true → G q.1 (x q.1) w) := by
    refine ⟨fun j => match L.find? (fun q => q.1 == j) with | some q => a.tmps.getD q.2 undef | none => undef, fun q hq => ?_⟩
    obtain ⟨v, hv, hg⟩ := I.new q hq (hl q hq)
    have hf : L.find? (fun r => r.1 == q.1) = some q := by
      cases hfd : L.find? (fun r => r.1 == q.1) with
      | none => have := List.find?_eq_none.1 hfd q hq; simp at this
      | some r =>
        have h1 := List.find?_some hfd
        have h2 := List.mem_of_find?_eq_some hfd
        have e : r.1 = q.1 := by simpa using h1
        have : r = q := by
          exact nodup_inj (f := (·.1)) hn1 h2 hq e
        rw [this]
    simp only [hf, Array.getD_eq_getD_getElem?, hv, Option.getD_some]
    exact ⟨trivial, fun h => hg (Or.inl h)⟩
  obtain ⟨x, hx⟩ := hx
  refine ⟨x, fun q hq => (hx q hq).2, ?_⟩
  have ht : a.tmps = (puts x (fun _ => true) L a0).tmps := by
    apply Array.ext_getElem?
    intro s
    rcases Classical.em (∃ q ∈ L, q.2 = s) with ⟨q, hq, rfl⟩ | hno
    · rw [puts_at x _ L a0 q hn2 hq rfl (hsz q hq), (hx q hq).1]
    · rw [puts_not x _ L a0 s fun q hq e => absurd ⟨q, hq, e⟩ hno]
      exact I.old s fun q hq e => absurd ⟨q, hq, e⟩ hno
  have hd : a.defers = (puts x (fun _ => true) L a0).defers := by rw [puts_defers, I.defers]
  cases a
  simp only at ht hd
  rw [ht, hd]
theorem head_ofM {N : Nat} {listed : Array Bool} {a : Act} {w : World} (hls : listed0.size = ops.size) (hany : ∀ i, i < N → ∃ q ∈ L, q.1 = i) (I : InvM N ops D st L G a0 w0 listed0 listed a w) : HeadInv .any ops N listed := by
  refine ⟨by rw [I.lsize, hls], fun j oj hj hl e he hb => ?_, I.tail⟩
  have hlt : j < ops.size := (Array.getElem?_eq_some_iff.1 hj).1
  rcases Nat.lt_or_ge j N with h | h
  · obtain ⟨q, hq, rfl⟩ := hany j h
    exact I.closed q hq hl oj hj e.on (waits_iff.2 ⟨e, he, hb, rfl⟩)
  · have h1 := I.tail j h hlt
    have hs : listed.size = ops.size := by rw [I.lsize, hls]
    have hlt2 : j < listed.size := by omega
    simp only [Array.getD_eq_getD_getElem?, Array.getElem?_eq_getElem hlt2, Option.getD_some] at h1 hl
    rw [h1] at hl; cases hl
theorem wpAny_M {N g : Nat} (hok : okT N ops listed0 a0.tmps.size D L = true) (hmu : okMu ops D L mu st = true) (hN : N < ops.size) (hs : Region.sinkB .any ops N = true) (hc : Region.chainB .any ops N = true)
    (hst : ∀ i v w w', G i v w → Below w.heap.size w w' → G i v w') (hst2 : ∀ i v w w', st i = true → G i v w → Below w0.heap.size w w' → G i v w') (hstep : ∀ p ∈ L, StepM P ops D L G mu a0 w0 p)
    (hdone : ∀ (listed : Array Bool) (a : Act) (w : World), InvM N ops D st L G a0 w0 listed0 listed a w → (∀ i, i < N → listed.getD i true = true) → wpAny P .any ops Q g listed a w) :
    ∀ (m : Nat) (listed : Array Bool) (a : Act) (w : World), todo listed N = m → InvM N ops D st L G a0 w0 listed0 listed a w → wpAny P .any ops Q (m + g) listed a w
  | 0, listed, a, w, hm, I => by
    rw [Nat.zero_add]
    exact hdone _ _ _ I (todo_zero listed N hm)
  | m + 1, listed, a, w, hm, I => by
    have hok' := hok
    unfold okT at hok'
    simp only [Bool.and_eq_true, decide_eq_true_eq, List.all_eq_true, beq_iff_eq] at hok'
    obtain ⟨⟨⟨hls, hany⟩, _, _⟩, _⟩ := hok'
    have hany' : ∀ i, i < N → ∃ q ∈ L, q.1 = i := fun i hi => by
      obtain ⟨q, hq, e⟩ := List.any_eq_true.1 (hany i (List.mem_range.2 hi))
      exact ⟨q, hq, by simpa using e⟩
    have HI := head_ofM hls hany' I
    obtain ⟨i0, hi0, hu0⟩ := todo_pos listed N (by omega)
    rw [show m + 1 + g = (m + g) + 1 by omega]
    refine ⟨fun h0 => ?_, fun i hi => ?_⟩
    · exfalso
      obtain ⟨q, hq, rfl⟩ := hany' i0 hi0
      have := all_listedT hok I.lsize h0 q hq
      have hlt : q.1 < listed.size := by rw [I.lsize, hls]; omega
      simp only [Array.getD_eq_getD_getElem?, Array.getElem?_eq_getElem hlt, Option.getD_some] at this hu0
      rw [this] at hu0; cases hu0
    · have hiN : i < N := by
        rcases Nat.lt_or_ge i N with h | h
        · exact h
        · exact absurd hi (tail_waits hs hc hN HI _ i0 rfl hi0 hu0 i h)
      refine wpOp_mono (fun a' w' I' => wpAny_M hok hmu hN hs hc hst hst2 hstep hdone m _ a' w' ?_ I') (step_invM hok hmu hst hst2 hstep I hi hiN)
      have := todo_set listed i (mem_ready.1 hi).1 N
      rw [if_pos hiN] at this
      omega
end
/-- such a region, from its begin on -/
theorem wp_region_ordM {P : Program} {l : List Oper} {Q : Exit → Act → World → Prop} {a0 : Act} {w : World} {id : Nat} (N : Nat) (D : List (List Nat)) (L : List (Nat × Nat)) (G : Nat → Value → World → Prop) (mu st : Nat → Bool) (hm : P.follows .mixedOrders = true)
    (hok : okT N l.toArray (Array.replicate l.toArray.size false) a0.tmps.size D L = true) (hB : (decide (N < l.toArray.size) && Region.sinkB .any l.toArray N && Region.chainB .any l.toArray N && Region.seqB .any l.toArray (l.toArray.size - N) N (Array.replicate N true ++ Array.replicate (l.toArray.size - N) false)) = true)
    (hmu : okMu l.toArray D L mu st = true)
    (hst : ∀ i v w w', G i v w → Below w.heap.size w w' → G i v w') (hst2 : ∀ i v w0 w', st i = true → G i v w0 → Below w.heap.size w0 w' → G i v w') (hstep : ∀ p ∈ L, StepM P l.toArray D L G mu a0 w.drew p)
    (hdone : ∀ (x : Nat → Value) (w' : World), Below w.heap.size w w' → (∀ q ∈ L, st q.1 = true → G q.1 (x q.1) w') → wpList P l.toArray Q (l.drop N) (puts x (fun _ => true) L a0) w') :
    (Code.region id l.toArray true).wp P Q a0 w := by
  simp only [Bool.and_eq_true, decide_eq_true_eq] at hB
  obtain ⟨⟨⟨hN, hs⟩, hc⟩, hseq⟩ := hB
  have hok' := hok
  unfold okT at hok'
  simp only [Bool.and_eq_true, decide_eq_true_eq, List.all_eq_true, beq_iff_eq] at hok'
  obtain ⟨⟨_, hn1, hn2⟩, hall⟩ := hok'
  refine wp_region_any hm ?_
  have hF : ∀ i, (Array.replicate l.toArray.size false).getD i false = false := fun i => getD_replicate_false _ _
  have key := wpAny_M (P := P) (Q := Q) (w0 := w.drew) (g := l.toArray.size - N) hok hmu hN hs hc hst hst2 hstep (fun listed a w1 I hl => by
    have hall' : ∀ q ∈ L, listed.getD q.1 false = true := fun q hq => by
      have h1 := hl q.1 (hall q hq).1
      have hlt : q.1 < listed.size := by rw [I.lsize]; simp; have := (hall q hq).1; simp at hN; omega
      simp only [Array.getD_eq_getD_getElem?, Array.getElem?_eq_getElem hlt, Option.getD_some] at h1 ⊢
      exact h1
    obtain ⟨x, hx, rfl⟩ := done_eqM hn2 (fun q hq => (hall q hq).2.1.1.1) I hall' hn1
    have hls : listed.size = l.toArray.size := by rw [I.lsize]; simp
    have hle : listed = Array.replicate N true ++ Array.replicate (l.toArray.size - N) false := by
      apply Array.ext
      · simp at hls hN ⊢; omega
      · intro i h1 h2
        rcases Nat.lt_or_ge i N with h | h
        · have h3 := hl i h
          simp only [Array.getD_eq_getD_getElem?, Array.getElem?_eq_getElem h1, Option.getD_some] at h3
          rw [h3, Array.getElem_append_left (by simpa using h)]; simp
        · have h3 := I.tail i h (by omega)
          simp only [Array.getD_eq_getD_getElem?, Array.getElem?_eq_getElem h1, Option.getD_some] at h3
          rw [h3, Array.getElem_append_right (by simpa using h)]; simp
    have hdl : (l.drop N).length = l.toArray.size - N := by simp
    have := wpAny_of_seq (P := P) (md := .any) (Q' := Q) (ops := l.toArray) (l.drop N) N listed (puts x (fun _ => true) L a0) w1 (fun j => by simp [List.getElem?_drop]) (by rw [hdl, hle]; exact hseq) (hdone x w1 ⟨I.grow.os, I.grow.tape, I.grow.output, I.grow.size, I.grow.block⟩ hx)
    rwa [hdl] at this) N (Array.replicate l.toArray.size false) a0 w.drew (todo_none _ _ (Nat.le_of_lt hN)) ⟨Below.refl _ _, rfl, rfl, rfl, fun _ _ => rfl, (fun q hq hl => absurd hl (by rw [hF]; decide)), (fun q hq hl => absurd hl (by rw [hF]; decide)), (fun t _ ht => getD_in (by simpa using ht) (hF t))⟩
  rw [show N + (l.toArray.size - N) = l.toArray.size by omega] at key
  exact key
end Go.Proofs.YtogcfaijphpgfaaDoor.ord
