/- 6 texts in one, in their order. -/
import Derived.Test.YtgcdnhjjoidpmaaGreatDoorPk5
import Derived.Deep.Matrix
import Derived.Maps.AppendAt
/- As OrdT, but any reflexive and transitive relation of worlds stands where 'nothing that was there has changed' stands. Written by specs/mkordr.py out of OrdT. Nothing here hangs on the program. -/
namespace Go.Proofs.YtgcdnhjjoidpmaaGreatDoor.ord
open Go Go.RowKit

structure Pre (R : World → World → Prop) : Prop where
  refl : ∀ w, R w w
  trans : ∀ a b c, R a b → R b c → R a c
def StepR (R : World → World → Prop) (P : Program) (ops : Array Oper) (D : List (List Nat)) (L : List (Nat × Nat)) (G : Nat → Value → World → Prop) (a0 : Act) (w0 : World) (p : Nat × Nat) : Prop :=
  ∀ o, ops[p.1]? = some o → ∀ (x : Nat → Value) (w : World), R w0 w → (∀ q ∈ L, dep D p.1 q.1 = true → G q.1 (x q.1) w) →
    (Region.wanted o (yielded ops (puts x (dep D p.1) L a0).tmps) = true ∧ makes P o (puts x (dep D p.1) L a0) w (fun v w' => R w w' ∧ G p.1 v w')) ∨
    (Region.wanted o (yielded ops (puts x (dep D p.1) L a0).tmps) = false ∧ G p.1 undef w)

section
variable {P : Program} {ops : Array Oper} {Q : Exit → Act → World → Prop} {D : List (List Nat)} {L : List (Nat × Nat)} {G : Nat → Value → World → Prop} {a0 : Act} {w0 : World} {listed0 : Array Bool} {R : World → World → Prop}

structure InvR (R : World → World → Prop) (N : Nat) (ops : Array Oper) (L : List (Nat × Nat)) (G : Nat → Value → World → Prop) (a0 : Act) (w0 : World) (listed0 listed : Array Bool) (a : Act) (w : World) : Prop where
  grow : R w0 w
  defers : a.defers = a0.defers
  size : a.tmps.size = a0.tmps.size
  lsize : listed.size = listed0.size
  old : ∀ s, (∀ q ∈ L, q.2 = s → listed.getD q.1 false = false) → a.tmps[s]? = a0.tmps[s]?
  new : ∀ q ∈ L, listed.getD q.1 false = true → ∃ v, a.tmps[q.2]? = some v ∧ G q.1 v w
  closed : ∀ q ∈ L, listed.getD q.1 false = true → ∀ o, ops[q.1]? = some o → ∀ j, waits o j = true → listed.getD j false = true
  tail : ∀ t, N ≤ t → t < ops.size → listed.getD t true = false

theorem step_invR {N : Nat} (hok : okT N ops listed0 a0.tmps.size D L = true) (hR : Pre R) (hst : ∀ i v w w', G i v w → R w w' → G i v w') (hstep : ∀ p ∈ L, StepR R P ops D L G a0 w0 p)
    {listed : Array Bool} {a : Act} {w : World} (I : InvR R N ops L G a0 w0 listed0 listed a w) {i : Nat} (hi : i ∈ Region.ready .any ops listed) (hiN : i < N) :
    wpOp P ops Q i (fun a' w' => InvR R N ops L G a0 w0 listed0 (listed.setIfInBounds i true) a' w') a w := by
  obtain ⟨hun, o, ho, hdeps⟩ := mem_ready.1 hi
  have hdeps' : ∀ j, waits o j = true → listed.getD j false = true := fun j hj => by
    obtain ⟨e, he, hb, rfl⟩ := waits_iff.1 hj; exact hdeps e he hb
  unfold okT at hok
  simp only [Bool.and_eq_true, decide_eq_true_eq, List.all_eq_true] at hok
  obtain ⟨p, hp, rfl⟩ : ∃ p ∈ L, p.1 = i := by
    obtain ⟨q, hq, e⟩ := List.any_eq_true.1 (hok.1.1.2 i (List.mem_range.2 hiN))
    exact ⟨q, hq, by simpa using e⟩
  obtain ⟨⟨⟨_, _⟩, hn1, hn2⟩, hall⟩ := hok
  have hp0 := hall p hp
  obtain ⟨hpN, ⟨⟨hsz, hls⟩, _⟩, hpo⟩ := hp0
  rw [ho] at hpo
  simp only [Bool.and_eq_true, List.all_eq_true, beq_iff_eq, Bool.or_eq_true, Bool.not_eq_true', beq_eq_false_iff_ne] at hpo
  obtain ⟨⟨⟨_, hDw, hdst⟩, hsel⟩, hlooks⟩ := hpo
  have hD : ∀ j, dep D p.1 j = true → waits o j = true := fun j hj => by
    unfold dep at hj
    obtain ⟨k, hk, e⟩ := List.any_eq_true.1 hj
    have := Nat.eq_of_beq_eq_true e
    subst this
    exact hDw _ hk
  have hsel' : ∀ cs b, o.op ≠ .select cs b := fun cs b e => by rw [e] at hsel; cases hsel
  have hli : p.1 < listed.size := by rw [I.lsize]; exact hls
  have hunF : listed.getD p.1 false = false := by
    simp only [Array.getD_eq_getD_getElem?, Array.getElem?_eq_getElem hli, Option.getD_some] at hun ⊢; exact hun
  -- the values of the listed operations
  have hx : ∃ x : Nat → Value, ∀ q ∈ L, listed.getD q.1 false = true → a.tmps[q.2]? = some (x q.1) ∧ G q.1 (x q.1) w := by
    refine ⟨fun j => match L.find? (fun q => q.1 == j) with | some q => a.tmps.getD q.2 undef | none => undef, fun q hq hl => ?_⟩
    obtain ⟨v, hv, hg⟩ := I.new q hq hl
    have hf : L.find? (fun r => r.1 == q.1) = some q := by
      cases hfd : L.find? (fun r => r.1 == q.1) with
      | none => have := List.find?_eq_none.1 hfd q hq; simp at this
      | some r =>
        have h1 := List.find?_some hfd
        have h2 := List.mem_of_find?_eq_some hfd
        have e : r.1 = q.1 := by simpa using h1
        have : r = q := by
          exact nodup_inj (f := (·.1)) hn1 h2 hq e
        rw [this]
    simp only [hf, Array.getD_eq_getD_getElem?, hv, Option.getD_some]
    exact ⟨trivial, hg⟩
  obtain ⟨x, hx⟩ := hx
  have hsame : ∀ t ∈ o.looksAt ops, a.tmps[t]? = (puts x (dep D p.1) L a0).tmps[t]? := fun t ht => by
    rcases Classical.em (∃ q ∈ L, q.2 = t ∧ dep D p.1 q.1 = true) with ⟨q, hq, rfl, hw⟩ | hno
    · have hsq : q.2 < a0.tmps.size := (hall q hq).2.1.1.1
      rw [puts_at x (dep D p.1) L a0 q hn2 hq hw hsq]
      exact (hx q hq (hdeps' _ (hD _ hw))).1
    · rw [puts_not x (dep D p.1) L a0 t fun q hq e => by
        cases hw : dep D p.1 q.1
        · rfl
        · exact absurd ⟨q, hq, e, hw⟩ hno]
      refine I.old t fun q hq e => ?_
      rcases hlooks t ht q hq with (h | h) | h
      · exact absurd e h
      · exact absurd ⟨q, hq, e, h⟩ hno
      · cases hl : listed.getD q.1 false
        · rfl
        · cases hoq : ops[q.1]? with
          | none => rw [hoq] at h; cases h
          | some o' =>
            rw [hoq] at h
            have := I.closed q hq hl o' hoq p.1 h
            rw [hunF] at this; cases this
  have hS := hstep p hp o ho x w I.grow fun q hq hw => (hx q hq (hdeps' _ (hD _ hw))).2
  rw [← wanted_of hsame] at hS
  have keep : ∀ v w', R w w' → G p.1 v w' → InvR R N ops L G a0 w0 listed0 (listed.setIfInBounds p.1 true) (a.put o.dst v) w' := fun v w' hb hg => by
    have hput : ∀ s, s ≠ p.2 → (a.put o.dst v).tmps[s]? = a.tmps[s]? := fun s hs => by
      rw [hdst]; simp [Act.put, Array.getElem?_setIfInBounds_ne (Ne.symm hs)]
    have hputp : (a.put o.dst v).tmps[p.2]? = some v := by
      rw [hdst]; simp [Act.put, I.size, hsz]
    have hset : ∀ j, j ≠ p.1 → (listed.setIfInBounds p.1 true).getD j false = listed.getD j false := fun j hj => getD_set_ne false (Ne.symm hj)
    have hsetp : (listed.setIfInBounds p.1 true).getD p.1 false = true := by simp [hli]
    have uniq : ∀ q ∈ L, q.2 = p.2 → q = p := fun q hq e => by
      exact nodup_inj (f := (·.2)) hn2 hq hp e
    have uniq1 : ∀ q ∈ L, q.1 = p.1 → q = p := fun q hq e => by
      exact nodup_inj (f := (·.1)) hn1 hq hp e
    refine ⟨hR.trans _ _ _ I.grow hb, ?_, ?_, ?_, fun s hs => ?_, fun q hq hl => ?_, fun q hq hl o' ho' j hj => ?_, fun s hs ht => ?_⟩
    · rw [hdst]; exact I.defers
    · rw [hdst]; simp [Act.put, I.size]
    · simp [I.lsize]
    · have hsp : s ≠ p.2 := fun e => by
        have := hs p hp e.symm
        rw [hsetp] at this; cases this
      rw [hput s hsp]
      refine I.old s fun q hq e => ?_
      have := hs q hq e
      have hqp : q.1 ≠ p.1 := fun e2 => hsp (by rw [← e, uniq1 q hq e2])
      rwa [hset _ hqp] at this
    · by_cases e : q.1 = p.1
      · obtain rfl := uniq1 q hq e
        exact ⟨v, hputp, hg⟩
      · rw [hset _ e] at hl
        obtain ⟨u, hu, hgu⟩ := I.new q hq hl
        have : q.2 ≠ p.2 := fun e2 => e (by rw [uniq q hq e2])
        exact ⟨u, by rw [hput _ this]; exact hu, hst _ _ _ _ hgu hb⟩
    · by_cases e : q.1 = p.1
      · obtain rfl := uniq1 q hq e
        rw [ho] at ho'
        cases ho'
        have := hdeps' j hj
        exact getD_set_true this
      · rw [hset _ e] at hl
        exact getD_set_true (I.closed q hq hl o' ho' j hj)
    · rw [getD_set_ne true (show p.1 ≠ s by omega)]
      exact I.tail s hs ht
  unfold wpOp
  rw [ho]
  show if Region.wanted o (yielded ops a.tmps) = true then _ else _
  rcases hS with ⟨hw, hm⟩ | ⟨hw, hg⟩
  · rw [if_pos hw]
    refine Or.inl (wp_of_makes (N := fun v w' => R w w' ∧ G p.1 v w') ?_ fun v w' h => keep v w' h.1 h.2)
    unfold makes at hm ⊢
    rw [exec_of hsel' hsame]
    exact hm
  · rw [hw, if_neg (by decide)]
    exact keep _ _ (hR.refl _) hg
theorem done_eqRR {N : Nat} (hn2 : (L.map (·.2)).Nodup) (hsz : ∀ q ∈ L, q.2 < a0.tmps.size) {listed : Array Bool} {a : Act} {w : World} (I : InvR R N ops L G a0 w0 listed0 listed a w) (hl : ∀ q ∈ L, listed.getD q.1 false = true) (hn1 : (L.map (·.1)).Nodup) :
    ∃ x : Nat → Value, (∀ q ∈ L, G q.1 (x q.1) w) ∧ a = puts x (fun _ => true) L a0 := by
  have hx : ∃ x : Nat → Value, ∀ q ∈ L, a.tmps[q.2]? = some (x q.1) ∧ G q.1 (x q.1) w := by
    refine ⟨fun j => match L.find? (fun q => q.1 == j) with | some q => a.tmps.getD q.2 undef | none => undef, fun q hq => ?_⟩
    obtain ⟨v, hv, hg⟩ := I.new q hq (hl q hq)
    have hf : L.find? (fun r => r.1 == q.1) = some q := by
      cases hfd : L.find? (fun r => r.1 == q.1) with
      | none => have := List.find?_eq_none.1 hfd q hq; simp at this
      | some r =>
        have h1 := List.find?_some hfd
        have h2 := List.mem_of_find?_eq_some hfd
        have e : r.1 = q.1 := by simpa using h1
        have : r = q := by
          exact nodup_inj (f := (·.1)) hn1 h2 hq e
        rw [this]
    simp only [hf, Array.getD_eq_getD_getElem?, hv, Option.getD_some]
    exact ⟨trivial, hg⟩
  obtain ⟨x, hx⟩ := hx
  refine ⟨x, fun q hq => (hx q hq).2, ?_⟩
  have ht : a.tmps = (puts x (fun _ => true) L a0).tmps := by
    apply Array.ext_getElem?
    intro s
    rcases Classical.em (∃ q ∈ L, q.2 = s) with ⟨q, hq, rfl⟩ | hno
    · rw [puts_at x _ L a0 q hn2 hq rfl (hsz q hq), (hx q hq).1]
    · rw [puts_not x _ L a0 s fun q hq e => absurd ⟨q, hq, e⟩ hno]
      exact I.old s fun q hq e => absurd ⟨q, hq, e⟩ hno
  have hd : a.defers = (puts x (fun _ => true) L a0).defers := by rw [puts_defers, I.defers]
  cases a
  simp only at ht hd
  rw [ht, hd]
/-- none is ready only where all are listed -/
theorem all_listedR {N n : Nat} (hok : okT N ops listed0 n D L = true) {listed : Array Bool} (hs : listed.size = listed0.size) (h0 : Region.ready .any ops listed = []) :
    ∀ q ∈ L, listed.getD q.1 false = true := by
  unfold okT at hok
  simp only [Bool.and_eq_true, decide_eq_true_eq, List.all_eq_true, beq_iff_eq] at hok
  obtain ⟨⟨⟨_, hany⟩, _, _⟩, hall⟩ := hok
  have key : ∀ k, ∀ q ∈ L, q.1 = k → listed.getD q.1 false = true := by
    intro k
    induction k using Nat.strongRecOn with
    | _ k ih =>
      intro q hq hk
      have hq0 := hall q hq
      obtain ⟨hqN, ⟨⟨_, hls⟩, _⟩, hpo⟩ := hq0
      have hli : q.1 < listed.size := by rw [hs]; exact hls
      cases ho : ops[q.1]? with
      | none => rw [ho] at hpo; cases hpo
      | some o =>
        rw [ho] at hpo
        simp only [Bool.and_eq_true] at hpo
        have hlow := hpo.1.1.1
        rw [Array.all_eq_true_iff_forall_mem] at hlow
        cases hl : listed.getD q.1 true
        · exfalso
          have : q.1 ∈ Region.ready .any ops listed := mem_ready.2 ⟨hl, o, ho, fun e he _ => by
            have hlt : e.on < q.1 := by simpa using hlow e he
            obtain ⟨r, hr, er⟩ := List.any_eq_true.1 (hany e.on (List.mem_range.2 (by omega)))
            have hre : r.1 = e.on := by simpa using er
            rw [← hre]; exact ih r.1 (by omega) r hr rfl⟩
          rw [h0] at this; cases this
        · simp only [Array.getD_eq_getD_getElem?, Array.getElem?_eq_getElem hli, Option.getD_some] at hl ⊢
          exact hl
  exact fun q hq => key q.1 q hq rfl

theorem head_ofR {N : Nat} {listed : Array Bool} {a : Act} {w : World} (hls : listed0.size = ops.size) (hany : ∀ i, i < N → ∃ q ∈ L, q.1 = i) (I : InvR R N ops L G a0 w0 listed0 listed a w) : HeadInv .any ops N listed := by
  refine ⟨by rw [I.lsize, hls], fun j oj hj hl e he hb => ?_, I.tail⟩
  have hlt : j < ops.size := (Array.getElem?_eq_some_iff.1 hj).1
  rcases Nat.lt_or_ge j N with h | h
  · obtain ⟨q, hq, rfl⟩ := hany j h
    exact I.closed q hq hl oj hj e.on (waits_iff.2 ⟨e, he, hb, rfl⟩)
  · have h1 := I.tail j h hlt
    have hs : listed.size = ops.size := by rw [I.lsize, hls]
    have hlt2 : j < listed.size := by omega
    simp only [Array.getD_eq_getD_getElem?, Array.getElem?_eq_getElem hlt2, Option.getD_some] at h1 hl
    rw [h1] at hl; cases hl
theorem todo_zeroR (listed : Array Bool) : ∀ n, todo listed n = 0 → ∀ i, i < n → listed.getD i true = true
  | 0, _, i, hi => absurd hi (Nat.not_lt_zero i)
  | n + 1, h, i, hi => by
    unfold todo at h
    by_cases e : listed.getD n true = true
    · rcases Nat.lt_or_ge i n with h1 | h1
      · exact todo_zeroR listed n (by omega) i h1
      · obtain rfl : i = n := by omega
        exact e
    · rw [if_neg e] at h; omega
theorem todo_posR (listed : Array Bool) (n : Nat) (h : 0 < todo listed n) : ∃ i, i < n ∧ listed.getD i true = false := by
  induction n with
  | zero => exact absurd h (Nat.lt_irrefl 0)
  | succ n ih =>
    unfold todo at h
    by_cases e : listed.getD n true = true
    · rw [if_pos e] at h
      obtain ⟨i, hi, h1⟩ := ih (by omega)
      exact ⟨i, by omega, h1⟩
    · exact ⟨n, Nat.lt_succ_self n, by simpa using e⟩
theorem wpAny_R {N g : Nat} (hok : okT N ops listed0 a0.tmps.size D L = true) (hN : N < ops.size) (hs : Region.sinkB .any ops N = true) (hc : Region.chainB .any ops N = true)
    (hR : Pre R) (hst : ∀ i v w w', G i v w → R w w' → G i v w') (hstep : ∀ p ∈ L, StepR R P ops D L G a0 w0 p)
    (hdone : ∀ (listed : Array Bool) (a : Act) (w : World), InvR R N ops L G a0 w0 listed0 listed a w → (∀ i, i < N → listed.getD i true = true) → wpAny P .any ops Q g listed a w) :
    ∀ (m : Nat) (listed : Array Bool) (a : Act) (w : World), todo listed N = m → InvR R N ops L G a0 w0 listed0 listed a w → wpAny P .any ops Q (m + g) listed a w
  | 0, listed, a, w, hm, I => by
    rw [Nat.zero_add]
    exact hdone _ _ _ I (todo_zeroR listed N hm)
  | m + 1, listed, a, w, hm, I => by
    have hok' := hok
    unfold okT at hok'
    simp only [Bool.and_eq_true, decide_eq_true_eq, List.all_eq_true, beq_iff_eq] at hok'
    obtain ⟨⟨⟨hls, hany⟩, _, _⟩, _⟩ := hok'
    have hany' : ∀ i, i < N → ∃ q ∈ L, q.1 = i := fun i hi => by
      obtain ⟨q, hq, e⟩ := List.any_eq_true.1 (hany i (List.mem_range.2 hi))
      exact ⟨q, hq, by simpa using e⟩
    have HI := head_ofR hls hany' I
    obtain ⟨i0, hi0, hu0⟩ := todo_posR listed N (by omega)
    rw [show m + 1 + g = (m + g) + 1 by omega]
    refine ⟨fun h0 => ?_, fun i hi => ?_⟩
    · exfalso
      obtain ⟨q, hq, rfl⟩ := hany' i0 hi0
      have := all_listedR hok I.lsize h0 q hq
      have hlt : q.1 < listed.size := by rw [I.lsize, hls]; omega
      simp only [Array.getD_eq_getD_getElem?, Array.getElem?_eq_getElem hlt, Option.getD_some] at this hu0
      rw [this] at hu0; cases hu0
    · have hiN : i < N := by
        rcases Nat.lt_or_ge i N with h | h
        · exact h
        · exact absurd hi (tail_waits hs hc hN HI _ i0 rfl hi0 hu0 i h)
      refine wpOp_mono (fun a' w' I' => wpAny_R hok hN hs hc hR hst hstep hdone m _ a' w' ?_ I') (step_invR hok hR hst hstep I hi hiN)
      have := todo_set listed i (mem_ready.1 hi).1 N
      rw [if_pos hiN] at this
      omega
theorem todo_noneR (n : Nat) : ∀ m, m ≤ n → todo (Array.replicate n false) m = m
  | 0, _ => rfl
  | m + 1, h => by
    unfold todo
    rw [todo_noneR n m (by omega), if_neg]
    simp [show m < n by omega]
end
/-- a region whose tail is forced: from its begin on -/
theorem wp_region_ordR {P : Program} {l : List Oper} {Q : Exit → Act → World → Prop} {a0 : Act} {w : World} {id : Nat} (R : World → World → Prop) (N : Nat) (D : List (List Nat)) (L : List (Nat × Nat)) (G : Nat → Value → World → Prop) (hm : P.follows .mixedOrders = true)
    (hok : okT N l.toArray (Array.replicate l.toArray.size false) a0.tmps.size D L = true) (hB : (decide (N < l.toArray.size) && Region.sinkB .any l.toArray N && Region.chainB .any l.toArray N && Region.seqB .any l.toArray (l.toArray.size - N) N (Array.replicate N true ++ Array.replicate (l.toArray.size - N) false)) = true)
    (hR : Pre R) (hst : ∀ i v w w', G i v w → R w w' → G i v w') (hstep : ∀ p ∈ L, StepR R P l.toArray D L G a0 w.drew p)
    (hdr : ∀ w', R w.drew w' → R w w') (hdone : ∀ (x : Nat → Value) (w' : World), R w w' → (∀ q ∈ L, G q.1 (x q.1) w') → wpList P l.toArray Q (l.drop N) (puts x (fun _ => true) L a0) w') :
    (Code.region id l.toArray true).wp P Q a0 w := by
  simp only [Bool.and_eq_true, decide_eq_true_eq] at hB
  obtain ⟨⟨⟨hN, hs⟩, hc⟩, hseq⟩ := hB
  have hok' := hok
  unfold okT at hok'
  simp only [Bool.and_eq_true, decide_eq_true_eq, List.all_eq_true, beq_iff_eq] at hok'
  obtain ⟨⟨_, hn1, hn2⟩, hall⟩ := hok'
  refine wp_region_any hm ?_
  have hF : ∀ i, (Array.replicate l.toArray.size false).getD i false = false := fun i => getD_replicate_false _ _
  have key := wpAny_R (P := P) (Q := Q) (w0 := w.drew) (g := l.toArray.size - N) hok hN hs hc hR hst hstep (fun listed a w1 I hl => by
    have hall' : ∀ q ∈ L, listed.getD q.1 false = true := fun q hq => by
      have h1 := hl q.1 (hall q hq).1
      have hlt : q.1 < listed.size := by rw [I.lsize]; simp; have := (hall q hq).1; simp at hN; omega
      simp only [Array.getD_eq_getD_getElem?, Array.getElem?_eq_getElem hlt, Option.getD_some] at h1 ⊢
      exact h1
    obtain ⟨x, hx, rfl⟩ := done_eqRR hn2 (fun q hq => (hall q hq).2.1.1.1) I hall' hn1
    have hls : listed.size = l.toArray.size := by rw [I.lsize]; simp
    have hle : listed = Array.replicate N true ++ Array.replicate (l.toArray.size - N) false := by
      apply Array.ext
      · simp at hls hN ⊢; omega
      · intro i h1 h2
        rcases Nat.lt_or_ge i N with h | h
        · have h3 := hl i h
          simp only [Array.getD_eq_getD_getElem?, Array.getElem?_eq_getElem h1, Option.getD_some] at h3
          rw [h3, Array.getElem_append_left (by simpa using h)]; simp
        · have h3 := I.tail i h (by omega)
          simp only [Array.getD_eq_getD_getElem?, Array.getElem?_eq_getElem h1, Option.getD_some] at h3
          rw [h3, Array.getElem_append_right (by simpa using h)]; simp
    have hdl : (l.drop N).length = l.toArray.size - N := by simp
    have := wpAny_of_seq (P := P) (md := .any) (Q' := Q) (ops := l.toArray) (l.drop N) N listed (puts x (fun _ => true) L a0) w1 (fun j => by simp [List.getElem?_drop]) (by rw [hdl, hle]; exact hseq) (hdone x w1 (hdr _ I.grow) hx)
    rwa [hdl] at this) N (Array.replicate l.toArray.size false) a0 w.drew (todo_noneR _ _ (Nat.le_of_lt hN)) ⟨hR.refl _, rfl, rfl, rfl, fun _ _ => rfl, (fun q hq hl => absurd hl (by rw [hF]; decide)), (fun q hq hl => absurd hl (by rw [hF]; decide)), (fun t _ ht => getD_in (by simpa using ht) (hF t))⟩
  rw [show N + (l.toArray.size - N) = l.toArray.size by omega] at key
  exact key
end Go.Proofs.YtgcdnhjjoidpmaaGreatDoor.ord
/- Rows of bytes that came in, and a row that grows beside a block that changes (layer 5). -/
namespace Go.Proofs.YtgcdnhjjoidpmaaGreatDoor
set_option maxRecDepth 100000
open Go.RowKit
/-- a row of rows of bytes that came in -/
def RowsIn (w : World) (AB : Option Addr) (nb : Nat) : Prop :=
  0 < nb → ∃ B o, AB = some ⟨B, o, none⟩ ∧ B < w.heap.size ∧ ∀ j, j < nb → ∃ (R : Option Addr) (l c : Nat) (f : Nat → Nat), w.cell? ⟨B, o + j, none⟩ = some (.slice R l c) ∧ SlB w R l f ∧ l ≤ c ∧ (R = none → l = 0 ∧ c = 0)
open Go.ChangeShapes Go.WideShapes Go.ChangeAt in
/-- a [][]byte parameter, opened -/
theorem open_rows {H : Type} {enc : TypeId × Value → H} {W : World} {base : Nat} {v : Value} {d : DataW H} {p : List MemPlace}
    (hval : Value.okWide Tryz.prog W .any base 25 v) (h : DataW.Trod enc Tryz.prog W 0 (fun _ => true) true 25 v d p) :
    ∃ A n c, v = .slice A n c ∧ RowsIn W A n ∧ (n ≤ c ∧ ∃ els sp, (d = .slice els sp ∧ els.length + sp.length = c) ∨ (d = .nil ∧ c = 0)) := by
  obtain ⟨a0, len, cap, rfl⟩ := okWide_slice Tryz.underlying25 hval
  obtain ⟨fuel, hf⟩ := h
  rcases Deep.open_int_rows Tryz.underlying25 Tryz.underlying22 Tryz.underlying5 (show Tryz.prog.cellsOf 22 = 1 by kernel_rfl) (show Tryz.prog.cellsOf 5 = 1 by kernel_rfl) hf with ⟨hcs, hx⟩ | ⟨a, len', cap', Ar, L, C, Z, hcs, _, hl, hm, hx, hr⟩
  · simp only [Value.cells] at hcs
    injection hcs with hcs
    injection hcs with h1 h2 h3
    subst h1 h2 h3
    injection hx with hd _
    exact ⟨none, 0, 0, rfl, fun h => absurd h (Nat.lt_irrefl 0), Nat.le_refl _, [], [], Or.inr ⟨hd, rfl⟩⟩
  · simp only [Value.cells] at hcs
    injection hcs with hcs
    injection hcs with h1 h2 h3
    subst h1 h2 h3
    injection hx with hd _
    refine ⟨some a, len, cap, rfl, fun hn => ?_, hl, _, _, Or.inl ⟨hd, by simp; omega⟩⟩
    obtain ⟨b, off, spot⟩ := a
    have hspot : spot = none := by simpa [Addr.add] using World.cell?_spot (hr 0 (by omega)).1
    subst hspot
    have hb0 := block_lt (hr 0 (by omega)).1
    refine ⟨b, off, rfl, hb0, fun j hj => ?_⟩
    obtain ⟨k1, k2, k3, k4, k5, k6, k7⟩ := hr j (by omega)
    have hml : maxLen = 9223372036854775807 := by decide
    have k1' : W.cell? ⟨b, off + j, none⟩ = some (.slice (Ar j) (L j) (C j)) := by
      by_cases h0 : j = 0
      · subst h0; simpa [Addr.add] using k1
      · simpa [Addr.add, h0] using k1
    refine ⟨Ar j, L j, C j, fun i => ((Z j).getD i 0).toNat, k1', fun hn2 => ?_, k2, fun h => ⟨by have := k6 h; omega, k6 h⟩⟩
    cases hA : Ar j with
    | none => have := k6 hA; omega
    | some a' =>
      obtain ⟨b2, off2, rfl, hc⟩ := ints_at (fun i hi => (k7 a' hA).2 i (by omega)) (by omega)
      refine ⟨b2, off2, rfl, block_lt (hc 0 (by omega)), fun i hi => ?_⟩
      have hr := range_u8 k5 i
      rw [← List.getD_eq_getElem?_getD] at hr
      refine ⟨by show ((Z j).getD i 0).toNat < 256; omega, ?_⟩
      show _ = some (Value.int .u8 (((Z j).getD i 0).toNat : Nat))
      rw [hc i (by omega), Int.toNat_of_nonneg hr.1]
open Go.ChangeShapes Go.WideShapes Go.ChangeAt in
theorem rows_len {H : Type} {ts : List TypeId} {ds : List (DataW H)} (h : (DataW.weightsEach Tryz.prog ts ds).all (· ≤ reachBytes) = true) {j : Nat} {d : DataW H} (ht : ts[j]? = some 25) (hd : ds[j]? = some d)
    {n c : Nat} (z : n ≤ c ∧ ∃ els sp, (d = .slice els sp ∧ els.length + sp.length = c) ∨ (d = .nil ∧ c = 0)) : n ≤ 140737488351232 := by
  obtain ⟨h1, els, sp, h2⟩ := z
  rcases h2 with ⟨rfl, h2⟩ | ⟨_, h2⟩
  · have h3 := sized_slice h ht hd Tryz.underlying25
    rw [show Tryz.prog.bytesOf 22 = 24 by kernel_rfl] at h3
    have : reachBytes = 140737488351232 := rfl
    omega
  · omega
theorem OwnB.chg {w w' : World} {base n K : Nat} {v : Value} {f : Nat → Nat} (h : OwnB w base v n f) (hc : Chg K w w') (hK : K < base) : OwnB w' base v n f := by
  rcases h with ⟨h1, h2 | ⟨g, cap, cur, e, hg, hh, r⟩⟩
  · exact ⟨h1, Or.inl h2⟩
  · exact ⟨h1, Or.inr ⟨g, cap, cur, e, hg, (hc.block g (Array.getElem?_eq_some_iff.1 hh).1 (by omega)).trans hh, r⟩⟩
end Go.Proofs.YtgcdnhjjoidpmaaGreatDoor
/- Contracts of package box: seal. -/
namespace Go.Proofs.YtgcdnhjjoidpmaaGreatDoor
open Go.RowKit
/-- w' is w but for block g and what is new, and a Maker stays one -/
def RelG (g nt : Nat) (tk : Nat → Nat) (w w' : World) : Prop := Chg g w w' ∧ (MakAt w g nt tk → MakAt w' g nt tk)
theorem RelG.pre (g nt : Nat) (tk : Nat → Nat) : ord.Pre (RelG g nt tk) := ⟨fun _ => ⟨Chg.refl _ _, id⟩, fun _ _ _ h h' => ⟨h.1.trans h'.1, h'.2 ∘ h.2⟩⟩
theorem RelG.of_below {g nt : Nat} {tk : Nat → Nat} {w w' : World} (h : Below w.heap.size w w') : RelG g nt tk w w' := ⟨Chg.of_below h, fun hm => hm.keep h⟩
theorem RelG.of_drew {g nt : Nat} {tk : Nat → Nat} {w w' : World} (h : RelG g nt tk w.drew w') : RelG g nt tk w w' := ⟨⟨h.1.os, h.1.tape, h.1.output, h.1.size, h.1.block⟩, fun hm => h.2 (hm.of_block rfl)⟩
theorem of_drewC {K : Nat} {w w' : World} (h : Chg K w.drew w') : Chg K w w' := ⟨h.os, h.tape, h.output, h.size, h.block⟩
theorem ord.makes_call3 {P : Program} {o : Oper} {a : Act} {w : World} {N : Value → World → Prop} {F : FuncId} {fn : Func} {o1 o2 o3 : Operand} {ts : Array TypeId} {v1 v2 v3 : Value} {post : Ending → World → Prop} (hf : P.funcs[F]? = some fn) (hname : (fn.name == "runtime.NumGoroutine") = false) (hb : fn.body.isNone = false)
    (ho : o.op = .call { callee := .value (.func F), args := #[o1, o2, o3], argTypes := ts }) (h1 : a.eval o1 = v1) (h2 : a.eval o2 = v2) (h3 : a.eval o3 = v3) (hc : Calls P F #[v1, v2, v3] w post) (hN : ∀ e w', post e w' → ∃ v, e = .returned v ∧ N v w') : makes P o a w N :=
  makes_call hf hname hb ho (by simp [h1, h2, h3]) hc hN
/-- what sealing answers: how long, which bytes, which error -/
def SealG (g nt : Nat) (tk : Nat → Nat) (k : Nat) (f : Nat → Nat) (E : Nat) (w : World) (e : Ending) (w' : World) : Prop :=
  ∃ A c, e = .returned (.tuple #[.slice A k c, .int .i64 (E : Nat)]) ∧ OwnB w' w.heap.size (.slice A k c) k f ∧ MakAt w' g nt tk ∧ Chg g w w'
--DEFS sl
def slG (g nt : Nat) (tk : Nat → Nat) (L st m : Nat) (X : Nat → Nat) (N na ca : Nat) (Ab : Option Addr) (about : Nat → Nat) (bs : Nat) : Nat → Value → World → Prop
  | 0, v, _ => v = .slice (some ⟨L, 0, none⟩) 8 8
  | 1, v, _ => v = .slice (some ⟨st, 0, none⟩) m m
  | 2, v, _ => v = .pointer (some ⟨g, 0, none⟩)
  | 3, v, _ => v = .slice Ab na ca
  | 4, v, _ => v = .slice (some ⟨L, 0, none⟩) 8 8
  | 5, v, _ => v = .slice (some ⟨st, 0, none⟩) m m
  | 6, v, w => ∃ p, v = .slice (some ⟨p, 0, none⟩) 2 2 ∧ w.cell? ⟨p, 0, none⟩ = some (.slice (some ⟨L, 0, none⟩) 8 8) ∧ w.cell? ⟨p, 1, none⟩ = some (.slice (some ⟨st, 0, none⟩) m m) ∧ p ≠ g
  | 7, v, w => ∃ d, v = .slice (some ⟨d, 0, none⟩) 16 32 ∧ Arr w d 0 32 (btag nt tk na about (8 + m) (headF N X)) ∧ d ≠ g
  | 8, v, w => ∃ p d, v = .slice (some ⟨p, 0, none⟩) 3 3 ∧ w.cell? ⟨p, 0, none⟩ = some (.slice (some ⟨L, 0, none⟩) 8 8) ∧ w.cell? ⟨p, 1, none⟩ = some (.slice (some ⟨st, 0, none⟩) m m) ∧ w.cell? ⟨p, 2, none⟩ = some (.slice (some ⟨d, 0, none⟩) 16 32) ∧ Arr w d 0 32 (btag nt tk na about (8 + m) (headF N X)) ∧ p ≠ g ∧ d ≠ g
  | 9, v, w => g < bs ∧ OwnB w bs v (24 + m) (sealF nt tk na about N m X)
  | _, _, _ => True
theorem slG_stays (g nt : Nat) (tk : Nat → Nat) (L st m : Nat) (X : Nat → Nat) (N na ca : Nat) (Ab : Option Addr) (about : Nat → Nat) (bs : Nat) : ∀ i v w w', slG g nt tk L st m X N na ca Ab about bs i v w → RelG g nt tk w w' → slG g nt tk L st m X N na ca Ab about bs i v w'
  | 0, _, _, _, h, _ => h
  | 1, _, _, _, h, _ => h
  | 2, _, _, _, h, _ => h
  | 3, _, _, _, h, _ => h
  | 4, _, _, _, h, _ => h
  | 5, _, _, _, h, _ => h
  | 6, v, w, w', h_, hb => by
    obtain ⟨p, h1, h2, h3, h4⟩ := h_; exact ⟨p, h1, (hb.1.cell (block_lt (a := ⟨p, 0, none⟩) h2) h4).trans h2, (hb.1.cell (block_lt (a := ⟨p, 1, none⟩) h3) h4).trans h3, h4⟩
  | 7, v, w, w', h_, hb => by
    obtain ⟨d, h1, h2, h3⟩ := h_; exact ⟨d, h1, h2.chg hb.1 h3, h3⟩
  | 8, v, w, w', h_, hb => by
    obtain ⟨p, d, h1, h2, h3, h4, h5, h6, h7⟩ := h_; exact ⟨p, d, h1, (hb.1.cell (block_lt (a := ⟨p, 0, none⟩) h2) h6).trans h2, (hb.1.cell (block_lt (a := ⟨p, 1, none⟩) h3) h6).trans h3, (hb.1.cell (block_lt (a := ⟨p, 2, none⟩) h4) h6).trans h4, h5.chg hb.1 h7, h6, h7⟩
  | 9, v, w, w', h_, hb => by
    exact ⟨h_.1, h_.2.chg hb.1 h_.1⟩
  | _ + 10, _, _, _, _, _ => trivial
--END DEFS sl
set_option maxRecDepth 100000 in
set_option maxHeartbeats 1600000 in
theorem seal_any (g nt len n cap N na ca m cp : Nat) (Ae Ab P : Option Addr) (tk key about p : Nat → Nat) (w : World) (hn : n = 4 ∨ n = 8) (hl : 4 * n = len) (hE : SlB w Ae len key) (hA : SlB w Ab na about) (hP : SlB w P m p) (hN : N ≤ 9223372036854775807) (hm : m ≤ 65536)
    (hna : na ≤ 100000000000) (hac : na ≤ ca) (hkey : By nt tk) (hM : MakAt w g nt tk) (ht : GT w) (hG : 1 ≠ g ∧ 0 ≠ g) (hO : 0 < na → ∀ B o, Ab = some ⟨B, o, none⟩ → B ≠ g) :
    Calls Tryz.prog 22 #[.slice Ae len cap, .pointer (some ⟨g, 0, none⟩), .int .i64 (N : Nat), .slice Ab na ca, .slice P m cp] w (SealG g nt tk (24 + m) (sealF nt tk na about N m (xorf n key N 0 p)) 0 w) := by
  have HX := Lib.hid (xor_any Ae P len n cap m cp N 0 key p w hn hl hE hP hN (by decide) hm)
  have HXY := Lib.hid (show By m (xorf n key N 0 p) from xorf_lt hn (fun j hj => hE.byte (by omega)) (fun j hj => hP.byte hj))
  obtain ⟨X, hX⟩ : ∃ X, xorf n key N 0 p = X := ⟨_, rfl⟩
  obtain ⟨bs, hbs⟩ : ∃ bs, w.heap.size = bs := ⟨_, rfl⟩
  have HBS := Lib.hid hbs
  unfold XorP at HX
  rw [hX] at HX HXY ⊢
  clear hX hbs
  have HA := Lib.hid hA
  have HM2 := Lib.hid hm
  have HNA := Lib.hid hna
  have HAC := Lib.hid hac
  have HKY := Lib.hid hkey
  have HM := Lib.hid hM
  have HT := Lib.hid ht
  have HG := Lib.hid hG
  have HO := Lib.hid hO
  have HGL := Lib.hid hM.lt
  have hNi : (N : Int) ≤ 9223372036854775807 := by omega
  have HNN := Lib.hid hN
  clear hn hl hE hA hP hN hm hna hac hkey hM ht hG hO
  go_enter Tryz.func22, Tryz.ntmps22
  go_wp2_with fail
  refine HX.out.mono ?_
  rintro e w1 ⟨st, rfl, h1, h2, h3⟩
  have HST := Lib.hid h1
  have HX1 := Lib.hid (h2.slB0 (Nat.le_refl m) HXY.out)
  have H1 := Lib.hid h3
  clear h1 h2 h3 HX
  go_wp2_with fail
  refine (bytesof_any N w1 (by have := HNN.out; omega)).mono ?_
  rintro e w2 ⟨rfl, h1⟩
  have HX2 := Lib.hid (HX1.out.keep h1)
  have H2 := Lib.hid (H1.out.trans (h1.mono H1.out.size))
  clear h1 HX1 H1
  go_wp2_with (refine wpList_storeB rfl 70 (.tmp 14) (.tmp 27) rfl w2.heap.size 0 8 (len8 N) (fun _ => 0) rfl rfl (made8 w2) size8b ?_; intro w3 h1 h2; have HL3 := Lib.hid h1; have hb23 := ((Chg.of_below (alloc_below w2 _)).trans h2).below (Nat.le_refl _) (Nat.le_refl _); have HX3 := Lib.hid (HX2.out.keep hb23); have H3 := Lib.hid (H2.out.trans (hb23.mono H2.out.size)); clear h1 h2 hb23; obtain ⟨L, hL⟩ : ∃ L, w2.heap.size = L := ⟨_, rfl⟩; have HLL := Lib.hid (show w.heap.size ≤ L by rw [← hL]; exact H2.out.size); rw [hL] at HL3 ⊢; clear hL HX2)
  have HSL := Lib.hid (all_arr 70 8 L 0 Tryz.underlying70 (by decide))
  have HRR := Lib.hid (RelG.pre g nt tk)
  have HM3 := Lib.hid (HM.out.keep H3.out)
  have HA3 := Lib.hid (HA.out.keep H3.out)
  have HT3 := Lib.hid (HT.out.keep H3.out)
  have HBL := Lib.hid (fun (w w' : World) (h : Below w.heap.size w w') => RelG.of_below (g := g) (nt := nt) (tk := tk) h)
  have HGZ := Lib.hid (show g < w3.heap.size from Nat.lt_of_lt_of_le HGL.out H3.out.size)
  have HNS := Lib.hid (show ∀ w5, RelG g nt tk w3.drew w5 → ∀ k, w5.heap.size ≤ k → k ≠ g from fun w5 h k hk => Nat.ne_of_gt (Nat.lt_of_lt_of_le HGZ.out (Nat.le_trans h.1.size hk)))
  have HZ := Lib.hid (show ∀ w5, RelG g nt tk w3.drew w5 → bs ≤ w5.heap.size from fun w5 h => by rw [← HBS.out]; exact Nat.le_trans H3.out.size h.1.size)
  have HGB := Lib.hid (show g < bs by rw [← HBS.out]; exact HGL.out)
  have hLg : L ≠ g := by have := HLL.out; have := HGL.out; omega
  have hSg : st ≠ g := by have := HST.out; have := HGL.out; omega
  have HLq := Lib.hid (show ∀ w5, RelG g nt tk w3.drew w5 → SlB w5 (some ⟨L, 0, none⟩) 8 (len8 N) from fun w5 h => (HL3.out.chg (of_drewC h.1) hLg).slB (fun j _ => len8_lt N j))
  have HXq := Lib.hid (show ∀ w5, RelG g nt tk w3.drew w5 → SlB w5 (some ⟨st, 0, none⟩) m X from fun w5 h => HX3.out.chg (of_drewC h.1) (fun _ B o e => by cases e; exact hSg))
  have HTO := Lib.hid (show ∀ w5, RelG g nt tk w3.drew w5 → ∀ q, w5.cell? ⟨q, 0, none⟩ = some (.slice (some ⟨L, 0, none⟩) 8 8) → w5.cell? ⟨q, 1, none⟩ = some (.slice (some ⟨st, 0, none⟩) m m) → q ≠ g →
      Calls Tryz.prog 29 #[.pointer (some ⟨g, 0, none⟩), .slice Ab na ca, .slice (some ⟨q, 0, none⟩) 2 2] w5 (TagB g nt tk na about (8 + m) (headF N X) w5) from fun w5 h q h0 h1 hq =>
    tagof_any g nt 2 2 na ca (8 + m) q tk about Ab (t2 (some ⟨L, 0, none⟩) (some ⟨st, 0, none⟩)) (t2 8 m) (t2 8 m) (t2 (len8 N) X) (headF N X) w5 HKY.out (h.2 (HM3.out.of_block rfl)) (by decide) (by decide) (by decide)
      ⟨fun j hj => by rcases two_of hj with rfl | rfl; exact h0; exact h1, fun j hj => by rcases two_of hj with rfl | rfl; exact HLq.out w5 h; exact HXq.out w5 h⟩ (cap_two (Nat.le_refl 8) (Nat.le_refl m)) (offs_two 8 m) (by have := HM2.out; omega) (by have := HNA.out; omega) HAC.out (HA3.out.chg (of_drewC h.1) HO.out)
      (hF_two (HLq.out w5 h) (HXq.out w5 h) (fun j hj => by unfold headF catB; rw [if_pos hj]) (fun j _ => by unfold headF catB; rw [if_neg (by omega), Nat.add_sub_cancel_left])).1 (headF_by HXY.out) (HT3.out.chg (of_drewC h.1) HG.out) HG.out hq HO.out
      (fun i hi _ B o e => by
        rcases two_of hi with rfl | rfl
        · cases e; exact hLg
        · cases e; exact hSg))
  have HCC := Lib.hid (show ∀ w5, RelG g nt tk w3.drew w5 → ∀ q d, w5.cell? ⟨q, 0, none⟩ = some (.slice (some ⟨L, 0, none⟩) 8 8) → w5.cell? ⟨q, 1, none⟩ = some (.slice (some ⟨st, 0, none⟩) m m) → w5.cell? ⟨q, 2, none⟩ = some (.slice (some ⟨d, 0, none⟩) 16 32) → Arr w5 d 0 32 (btag nt tk na about (8 + m) (headF N X)) →
      Calls Tryz.prog 38 #[.slice (some ⟨q, 0, none⟩) 3 3] w5 fun e w' => ∃ v, e = .returned v ∧ OwnB w' w5.heap.size v (24 + m) (sealF nt tk na about N m X) ∧ Below w5.heap.size w5 w' from fun w5 h q d h0 h1 h2 ha =>
    catb_any q 3 3 (24 + m) (q3 (some ⟨L, 0, none⟩) (some ⟨st, 0, none⟩) (some ⟨d, 0, none⟩)) (q3 8 m 16) (q3 8 m 32) (q3 (len8 N) X (btag nt tk na about (8 + m) (headF N X))) _ w5 (by decide) (by decide) (by show 0 + 8 + m + 16 = 24 + m; omega) (by have := HM2.out; omega)
      ⟨fun j hj => by rcases three_of hj with rfl | rfl | rfl; exact h0; exact h1; exact h2, fun j hj => by
        rcases three_of hj with rfl | rfl | rfl
        · exact HLq.out w5 h
        · exact HXq.out w5 h
        · exact ((ha.slB (fun j _ => btag_lt _ _ _ _ _ _ j)).low (show (16 : Nat) ≤ 32 by decide))⟩
      (fun _ => block_lt (a := ⟨q, 0, none⟩) h0) (fun j hj e => by rcases three_of hj with rfl | rfl | rfl <;> cases e)
      (fun j hj => by
        rcases three_of hj with rfl | rfl | rfl
        · exact Nat.le_refl 8
        · exact Nat.le_refl m
        · exact (show (16 : Nat) ≤ 32 by decide))
      (fun i hi j hj => by
        unfold sealF headF catB
        rcases three_of hi with rfl | rfl | rfl
        · have hj' : j < 8 := hj
          show (if 0 + j < 8 + m then (if 0 + j < 8 then len8 N (0 + j) else _) else _) = len8 N j
          rw [if_pos (by omega), if_pos (by omega), Nat.zero_add]
        · have hj' : j < m := hj
          show (if 0 + 8 + j < 8 + m then (if 0 + 8 + j < 8 then _ else X (0 + 8 + j - 8)) else _) = X j
          rw [if_pos (by omega), if_neg (by omega), show 0 + 8 + j - 8 = j by omega]
        · have hj' : j < 16 := hj
          show (if 0 + 8 + m + j < 8 + m then _ else btag nt tk na about (8 + m) _ (0 + 8 + m + j - (8 + m))) = btag nt tk na about (8 + m) _ j
          rw [if_neg (by omega), show 0 + 8 + m + j - (8 + m) = j by omega]))
  have HC3 := Lib.hid H3.out
  clear HXY HA HNA HAC HKY HM HT HO HNN HX3 HL3 H2 HA3 HT3 hLg hSg
  go_wp2_with fail
  refine ord.wp_region_ordR (RelG g nt tk) 10 [[], [], [], [], [], [], [4, 5], [2, 3, 6], [0, 1, 7], [8]] [(0, 28), (1, 29), (2, 30), (3, 31), (4, 32), (5, 33), (6, 34), (7, 35), (8, 36), (9, 37)] (slG g nt tk L st m X N na ca Ab about bs) (by kernel_rfl) (by kernel_rfl) (by kernel_rfl) HRR.out (slG_stays _ _ _ _ _ _ _ _ _ _ _ _ _) ((ord.steps_cons ?_ (ord.steps_cons ?_ (ord.steps_cons ?_ (ord.steps_cons ?_ (ord.steps_cons ?_ (ord.steps_cons ?_ (ord.steps_cons ?_ (ord.steps_cons ?_ (ord.steps_cons ?_ (ord.steps_cons ?_ ord.steps_nil))))))))))) (fun w' hb => RelG.of_drew hb) ?_
  --STEPS sl
  · intro o ho x w hb hG
    obtain rfl := Option.some.inj ho
    clear ho
    refine Or.inl ⟨ord.want0 rfl, ?_⟩
    exact ord.makes_slice rfl rfl rfl rfl rfl (HSL.out w) ⟨HRR.out.refl _, rfl⟩
  · intro o ho x w hb hG
    obtain rfl := Option.some.inj ho
    clear ho
    refine Or.inl ⟨ord.want0 rfl, ?_⟩
    exact ord.makes_move rfl ⟨HRR.out.refl _, rfl⟩
  · intro o ho x w hb hG
    obtain rfl := Option.some.inj ho
    clear ho
    refine Or.inl ⟨ord.want0 rfl, ?_⟩
    exact ord.makes_move rfl ⟨HRR.out.refl _, rfl⟩
  · intro o ho x w hb hG
    obtain rfl := Option.some.inj ho
    clear ho
    refine Or.inl ⟨ord.want0 rfl, ?_⟩
    exact ord.makes_move rfl ⟨HRR.out.refl _, rfl⟩
  · intro o ho x w hb hG
    obtain rfl := Option.some.inj ho
    clear ho
    refine Or.inl ⟨ord.want0 rfl, ?_⟩
    exact ord.makes_slice rfl rfl rfl rfl rfl (HSL.out w) ⟨HRR.out.refl _, rfl⟩
  · intro o ho x w hb hG
    obtain rfl := Option.some.inj ho
    clear ho
    refine Or.inl ⟨ord.want0 rfl, ?_⟩
    exact ord.makes_move rfl ⟨HRR.out.refl _, rfl⟩
  · intro o ho x w hb hG
    obtain rfl := Option.some.inj ho
    clear ho
    have h32 : x 4 = .slice (some ⟨L, 0, none⟩) 8 8 := hG (4, 32) (List.mem_of_getElem? (i := 4) rfl) rfl
    have h33 : x 5 = .slice (some ⟨st, 0, none⟩) m m := hG (5, 33) (List.mem_of_getElem? (i := 5) rfl) rfl
    refine Or.inl ⟨ord.want0 rfl, ?_⟩
    exact ord.makes_build2 rfl h32 h33 (run_build2 w _ _ 8 m 8 m) ⟨HBL.out _ _ (alloc_below w _), _, rfl, cell_made w _ _ 0 _ rfl rfl, cell_made w _ _ 1 _ rfl rfl, HNS.out w hb _ (Nat.le_refl _)⟩
  · intro o ho x w hb hG
    obtain rfl := Option.some.inj ho
    clear ho
    have h30 : x 2 = .pointer (some ⟨g, 0, none⟩) := hG (2, 30) (List.mem_of_getElem? (i := 2) rfl) rfl
    have h31 : x 3 = .slice Ab na ca := hG (3, 31) (List.mem_of_getElem? (i := 3) rfl) rfl
    have h34 : slG g nt tk L st m X N na ca Ab about bs 6 (x 6) w := hG (6, 34) (List.mem_of_getElem? (i := 6) rfl) rfl
    refine Or.inl ⟨ord.want0 rfl, ?_⟩
    obtain ⟨p, hv, hp0, hp1, hpn⟩ := h34
    exact ord.makes_call3 Tryz.func29 (by kernel_rfl) (by kernel_rfl) rfl h30 h31 hv (HTO.out w hb p hp0 hp1 hpn) (fun e w' h => by obtain ⟨d, he, h1, h2, h3, h4⟩ := h; exact ⟨_, he, ⟨h4, fun _ => Or.inr h3⟩, d, rfl, h2, HNS.out w hb d h1⟩)
  · intro o ho x w hb hG
    obtain rfl := Option.some.inj ho
    clear ho
    have h28 : x 0 = .slice (some ⟨L, 0, none⟩) 8 8 := hG (0, 28) (List.mem_of_getElem? (i := 0) rfl) rfl
    have h29 : x 1 = .slice (some ⟨st, 0, none⟩) m m := hG (1, 29) (List.mem_of_getElem? (i := 1) rfl) rfl
    have h35 : slG g nt tk L st m X N na ca Ab about bs 7 (x 7) w := hG (7, 35) (List.mem_of_getElem? (i := 7) rfl) rfl
    refine Or.inl ⟨ord.want0 rfl, ?_⟩
    obtain ⟨d, hv, ha, hd⟩ := h35
    exact ord.makes_build3 rfl h28 h29 hv (run_parts3 w _ 8 8 _ m m _ 16 32) ⟨HBL.out _ _ (alloc_below w _), _, d, rfl, cell_made w _ _ 0 _ rfl rfl, cell_made w _ _ 1 _ rfl rfl, cell_made w _ _ 2 _ rfl rfl, ha.alloc _, HNS.out w hb _ (Nat.le_refl _), hd⟩
  · intro o ho x w hb hG
    obtain rfl := Option.some.inj ho
    clear ho
    have h36 : slG g nt tk L st m X N na ca Ab about bs 8 (x 8) w := hG (8, 36) (List.mem_of_getElem? (i := 8) rfl) rfl
    refine Or.inl ⟨ord.want0 rfl, ?_⟩
    obtain ⟨p, d, hv, h0, h1, h2, ha, _, _⟩ := h36
    exact ord.makes_call1 Tryz.func38 (by kernel_rfl) (by kernel_rfl) rfl hv (HCC.out w hb p d h0 h1 h2 ha) (fun e w' h => by obtain ⟨v, he, h1, h2⟩ := h; exact ⟨v, he, HBL.out _ _ h2, HGB.out, h1.less (HZ.out w hb)⟩)
  --END STEPS sl
  · intro x w5 hb hG
    obtain ⟨_, h37⟩ : g < bs ∧ OwnB w5 bs (x 9) (24 + m) (sealF nt tk na about N m X) := hG (9, 37) (List.mem_of_getElem? (i := 9) rfl)
    clear hG
    have HR := Lib.hid (hb.2 HM3.out)
    have HC := Lib.hid ((Chg.of_below HC3.out).trans hb.1)
    clear hb
    simp only [ord.puts, ord.put', if_true]
    obtain ⟨A9, c9, e9, _⟩ := OwnB.cap_le h37
    rw [e9] at h37 ⊢
    have H37 := Lib.hid h37
    clear h37 e9
    simp only [List.drop_succ_cons, List.drop_zero]
    go_wp2_with fail
    go_ret2
    exact ⟨A9, c9, rfl, by rw [HBS.out]; exact H37.out, HR.out, HC.out⟩
end Go.Proofs.YtgcdnhjjoidpmaaGreatDoor
/- Contracts of package box: Seal, refused or not. -/
namespace Go.Proofs.YtgcdnhjjoidpmaaGreatDoor
open Go.RowKit
/-- what Seal answers: how long, which bytes, which error -/
def SU (k : Nat) (f : Nat → Nat) (E : Nat) (w : World) (e : Ending) (w' : World) : Prop :=
  ∃ A c, e = .returned (.tuple #[.slice A k c, .int .i64 (E : Nat)]) ∧ OwnB w' w.heap.size (.slice A k c) k f ∧ Below w.heap.size w w'
set_option maxRecDepth 100000 in
theorem sealx_wrong (g nt len cap na ca m cp : Nat) (N : Int) (Ae Ab P : Option Addr) (tk : Nat → Nat) (w : World) (hl : len ≤ 140737488351232) (h : wrong len N 0) (hM : MakAt w g nt tk) :
    Calls Tryz.prog 22 #[.slice Ae len cap, .pointer (some ⟨g, 0, none⟩), .int .i64 N, .slice Ab na ca, .slice P m cp] w (SealG g nt tk 0 (fun _ => 0) 1 w) := by
  have HX := Lib.hid (xor_arg Ae P len cap m cp N 0 w hl h)
  have HM := Lib.hid hM
  clear hl h hM
  go_enter Tryz.func22, Tryz.ntmps22
  go_wp2_with fail
  refine HX.out.mono ?_
  rintro e w1 ⟨rfl, rfl⟩
  go_wp2_with fail
  go_ret2
  exact ⟨none, 0, rfl, OwnB.nil _ _ _, HM.out, Chg.refl _ _⟩
set_option maxRecDepth 100000 in
theorem sealx_long (g nt len n cap N na ca m cp : Nat) (Ae Ab P : Option Addr) (tk key : Nat → Nat) (w : World) (hn : n = 4 ∨ n = 8) (hl : 4 * n = len) (hE : SlB w Ae len key) (hm : m ≤ 140737488351232) (h : 65536 < m) (hM : MakAt w g nt tk) :
    Calls Tryz.prog 22 #[.slice Ae len cap, .pointer (some ⟨g, 0, none⟩), .int .i64 (N : Nat), .slice Ab na ca, .slice P m cp] w (SealG g nt tk 0 (fun _ => 0) 2 w) := by
  have HX := Lib.hid (xor_long Ae P len n cap m cp N 0 key w hn hl hE (by decide) hm (Or.inl h))
  have HM := Lib.hid hM
  clear hn hl hE hm h hM
  go_enter Tryz.func22, Tryz.ntmps22
  go_wp2_with fail
  refine HX.out.mono ?_
  rintro e w1 ⟨rfl, h1⟩
  have H1 := Lib.hid h1
  clear h1
  go_wp2_with fail
  go_ret2
  exact ⟨none, 0, rfl, OwnB.nil _ _ _, HM.out.keep H1.out, Chg.of_below H1.out⟩
set_option maxRecDepth 100000 in
/-- Seal, whatever seal answers -/
theorem seal_of (nt len cap ct na ca m cp k E : Nat) (N : Int) (Ae At Ab P : Option Addr) (tk f : Nat → Nat) (w : World) (hnt : nt ≤ 100000000000000) (hct : nt ≤ ct) (hT : SlB w At nt tk) (ht : GT w)
    (hs : ∀ w1 g, w.heap.size ≤ g → MakAt w1 g nt tk → Below w.heap.size w w1 → Calls Tryz.prog 22 #[.slice Ae len cap, .pointer (some ⟨g, 0, none⟩), .int .i64 N, .slice Ab na ca, .slice P m cp] w1 (SealG g nt tk k f E w1)) :
    Calls Tryz.prog 9 #[.slice Ae len cap, .slice At nt ct, .int .i64 N, .slice Ab na ca, .slice P m cp] w (SU k f E w) := by
  have HW := Lib.hid (mnew_any At nt ct tk w hnt hct hT ht)
  have HS := Lib.hid hs
  clear hnt hct hT ht hs
  go_enter Tryz.func9, Tryz.ntmps9
  go_wp2_with fail
  refine HW.out.mono ?_
  rintro e w1 ⟨g, rfl, h1, h2, h3⟩
  have HQ := Lib.hid (HS.out w1 g h1 h2 h3)
  have HG := Lib.hid h1
  have H3 := Lib.hid h3
  clear h1 h2 h3 HW HS
  go_wp2_with fail
  refine HQ.out.mono ?_
  rintro e w2 ⟨A, c, rfl, h1, _, h3⟩
  have HO := Lib.hid (h1.less H3.out.size)
  have HB := Lib.hid (H3.out.trans (h3.below H3.out.size HG.out))
  clear h1 h3 HQ
  go_wp2_with fail
  go_ret2
  exact ⟨A, c, rfl, HO.out, HB.out⟩
theorem seal1_wrong (nt len cap ct na ca m cp : Nat) (N : Int) (Ae At Ab P : Option Addr) (tk : Nat → Nat) (w : World) (hl : len ≤ 140737488351232) (h : wrong len N 0) (hnt : nt ≤ 100000000000000) (hct : nt ≤ ct) (hT : SlB w At nt tk) (ht : GT w) :
    Calls Tryz.prog 9 #[.slice Ae len cap, .slice At nt ct, .int .i64 N, .slice Ab na ca, .slice P m cp] w (SU 0 (fun _ => 0) 1 w) :=
  seal_of nt len cap ct na ca m cp 0 1 N Ae At Ab P tk _ w hnt hct hT ht fun w1 g _ h2 _ => sealx_wrong g nt len cap na ca m cp N Ae Ab P tk w1 hl h h2
theorem seal1_long (nt len n cap ct N na ca m cp : Nat) (Ae At Ab P : Option Addr) (tk key : Nat → Nat) (w : World) (hn : n = 4 ∨ n = 8) (hl : 4 * n = len) (hE : SlB w Ae len key) (hm : m ≤ 140737488351232) (h : 65536 < m) (hnt : nt ≤ 100000000000000) (hct : nt ≤ ct) (hT : SlB w At nt tk) (ht : GT w) :
    Calls Tryz.prog 9 #[.slice Ae len cap, .slice At nt ct, .int .i64 (N : Nat), .slice Ab na ca, .slice P m cp] w (SU 0 (fun _ => 0) 2 w) :=
  seal_of nt len cap ct na ca m cp 0 2 N Ae At Ab P tk _ w hnt hct hT ht fun w1 g _ h2 h3 => sealx_long g nt len n cap N na ca m cp Ae Ab P tk key w1 hn hl (hE.keep h3) hm h h2
theorem seal1_any (nt len n cap ct N na ca m cp : Nat) (Ae At Ab P : Option Addr) (tk key about p : Nat → Nat) (w : World) (hn : n = 4 ∨ n = 8) (hl : 4 * n = len) (hE : SlB w Ae len key) (hA : SlB w Ab na about) (hP : SlB w P m p) (hN : N ≤ 9223372036854775807) (hm : m ≤ 65536)
    (hna : na ≤ 100000000000) (hac : na ≤ ca) (hnt : nt ≤ 100000000000000) (hct : nt ≤ ct) (hT : SlB w At nt tk) (ht : GT w) :
    Calls Tryz.prog 9 #[.slice Ae len cap, .slice At nt ct, .int .i64 (N : Nat), .slice Ab na ca, .slice P m cp] w (SU (24 + m) (sealF nt tk na about N m (xorf n key N 0 p)) 0 w) :=
  seal_of nt len cap ct na ca m cp (24 + m) 0 N Ae At Ab P tk _ w hnt hct hT ht fun w1 g h1 h2 h3 =>
    seal_any g nt len n cap N na ca m cp Ae Ab P tk key about p w1 hn hl (hE.keep h3) (hA.keep h3) (hP.keep h3) hN hm hna hac (fun j hj => hT.byte hj) h2 (ht.keep h3) ⟨Nat.ne_of_lt (Nat.lt_of_lt_of_le ht.ltk h1), Nat.ne_of_lt (Nat.lt_of_lt_of_le ht.lth h1)⟩
      (fun h0 B o e => by
        obtain ⟨B', o', e', hB, _⟩ := hA h0
        rw [e] at e'
        cases e'
        exact Nat.ne_of_lt (Nat.lt_of_lt_of_le hB h1))
end Go.Proofs.YtgcdnhjjoidpmaaGreatDoor
/- Two rows of bytes that grow in turn. -/
namespace Go.Proofs.YtgcdnhjjoidpmaaGreatDoor
open Go.RowKit
/-- two rows do not share a block -/
def Apart (v1 v2 : Value) : Prop := ∀ g, v1.ownBlock = some g → v2.ownBlock ≠ some g
theorem Apart.symm {v1 v2 : Value} (h : Apart v1 v2) : Apart v2 v1 := fun g h2 h1 => h g h1 h2
theorem Apart.nil (v : Value) : Apart (.slice none 0 0) v := fun g h => by simp [Value.ownBlock] at h
theorem OwnB.grown {w w' : World} {base n : Nat} {v v1 : Value} {f : Nat → Nat} (h : OwnB w base v n f) (hg : w.grownBy w' v1.ownBlock) (ha : Apart v1 v) : OwnB w' base v n f := by
  refine World.ownsRow.kept h hg ?_
  cases e : v.ownBlock with
  | none => exact Or.inl rfl
  | some g => exact Or.inr fun e1 => ha g e1.symm e
/-- append, where another row grows too -/
theorem wpList_appW {ops : Array Oper} {rest : List Oper} {o : Oper} {a : Act} {Q : Exit → Act → World → Prop} {w : World} (hgd : o.guard = none) (s x : Operand)
    (ho : o.op = .call { callee := .builtin .append, args := #[s, x], argTypes := #[22, 22] })
    (base : Nat) (v : Value) (n : Nat) (f : Nat → Nat) (hs : a.eval s = v) (hown : OwnB w base v n f)
    (A : Option Addr) (m cap : Nat) (g : Nat → Nat) (hx : a.eval x = .slice A m cap) (hA : SlB w A m g) (hnil : A = none → m = 0 ∧ cap = 0) (hn : n + m ≤ 100000000000000) (hbase : base ≤ w.heap.size)
    (v2 : Value) (n2 : Nat) (f2 : Nat → Nat) (h2 : OwnB w base v2 n2 f2) (hap : Apart v v2)
    (h : ∀ v' w', OwnB w' base v' (n + m) (catB n f g) → OwnB w' base v2 n2 f2 → Apart v' v2 → Below base w w' → wpList Tryz.prog ops Q rest (a.put o.dst v') w') : wpList Tryz.prog ops Q (o :: rest) a w := by
  obtain ⟨i, hi, hz, hsz, hb⟩ := info_parts info8
  cases A with
  | none =>
    obtain ⟨rfl, rfl⟩ := hnil rfl
    refine wpList_append_own_none hgd s x 22 ho base 5 i 1 Tryz.underlying22 hi v n _ hs hown hx ?_
    refine h v w ?_ h2 hap (Below.refl _ _)
    exact OwnB.congr hown fun j hj => by unfold catB; rw [if_pos (show j < n from hj)]
  | some ad =>
    refine wpList_append_own_at w hgd s x 22 ho base 5 i (.int .u8 0) 1 1 Tryz.underlying22 hi hz hsz hb rfl (by decide) v n _ hs hown ad m cap (bytesL m g) hx (by simp [bytesL]) ?_ (bytes_one m g) (by unfold maxLen; omega) (by omega) hbase ?_
    · intro j u hj
      obtain ⟨hjm, rfl⟩ := bytesL_get m g j u hj
      obtain ⟨B, off, e, _, hc⟩ := hA (by omega)
      obtain rfl : ad = ⟨B, off, none⟩ := Option.some.inj e
      rw [Go.WideShapes.add_plain]
      exact (hc j hjm).2
    · intro v' w' h1 hg _ hat
      rw [bytesL_cat] at h1
      refine h v' w' h1 (h2.grown hg hap) ?_ ((Below.refl base w).grown hg hbase fun k hk => (hown.lt k hk).1)
      rcases hat with e | e
      · intro b hb'
        rw [e] at hb'
        exact hap b hb'
      · intro b hb' hb2
        rw [e] at hb'
        injection hb' with hb'
        have := (World.ownsRow.lt h2 b hb2).2
        omega
/-- append, where another row stays as it is, as a run -/
theorem run_appW (w : World) (base : Nat) (v : Value) (n : Nat) (f : Nat → Nat) (hown : OwnB w base v n f) (ad : Addr) (m cap : Nat) (g : Nat → Nat) (hA : SlB w (some ad) m g) (hn : n + m ≤ 100000000000000) (hbase : base ≤ w.heap.size)
    (v2 : Value) (n2 : Nat) (f2 : Nat → Nat) (h2 : OwnB w base v2 n2 f2) (hap : Apart v v2) :
    ∃ v' w', (Builtin.append_ #[22, 22] 22 #[v, .slice (some ad) m cap]).run Tryz.prog w = .ok v' w' ∧ OwnB w' base v' (n + m) (catB n f g) ∧ OwnB w' base v2 n2 f2 ∧ Apart v' v2 ∧ Below base w w' := by
  obtain ⟨i, hi, hz, hsz, hb⟩ := info_parts info8
  obtain ⟨v', w', hr, h1, hg, _, hat⟩ := run_append_own_at (P := Tryz.prog) w base 22 22 5 i (.int .u8 0) 1 1 Tryz.underlying22 hi hz hsz hb rfl (by decide) v n _ hown ad m cap (bytesL m g) (by simp [bytesL])
    (fun j u hj => by
      obtain ⟨hjm, rfl⟩ := bytesL_get m g j u hj
      obtain ⟨B, off, e, _, hc⟩ := hA (by omega)
      obtain rfl : ad = ⟨B, off, none⟩ := Option.some.inj e
      rw [Go.WideShapes.add_plain]
      exact (hc j hjm).2) (bytes_one m g) (by unfold maxLen; omega) (by omega) hbase
  rw [bytesL_cat] at h1
  refine ⟨v', w', hr, h1, h2.grown hg hap, ?_, (Below.refl base w).grown hg hbase fun k hk => (hown.lt k hk).1⟩
  rcases hat with e | e
  · intro b hb'
    rw [e] at hb'
    exact hap b hb'
  · intro b hb' hb2
    rw [e] at hb'
    injection hb' with hb'
    have := (World.ownsRow.lt h2 b hb2).2
    omega
/-- append in a region that draws its order, where another row stays as it is -/
theorem step_appW {ops : Array Oper} {o : Oper} {a : Act} {w : World} {K : Act → World → Prop} {Q : Exit → Act → World → Prop} {E : Prop} (s x : Operand)
    (ho : o.op = .call { callee := .builtin .append, args := #[s, x], argTypes := #[22, 22] }) (ht : o.type = 22) (hw : Region.wanted o (yielded ops a.tmps) = true)
    (base : Nat) (v : Value) (n : Nat) (f : Nat → Nat) (hs : a.eval s = v) (hown : OwnB w base v n f)
    (ad : Addr) (m cap : Nat) (g : Nat → Nat) (hx : a.eval x = .slice (some ad) m cap) (hA : SlB w (some ad) m g) (hn : n + m ≤ 100000000000000) (hbase : base ≤ w.heap.size)
    (v2 : Value) (n2 : Nat) (f2 : Nat → Nat) (h2 : OwnB w base v2 n2 f2) (hap : Apart v v2)
    (h : ∀ v' w', OwnB w' base v' (n + m) (catB n f g) → OwnB w' base v2 n2 f2 → Apart v' v2 → Below base w w' → K (a.put o.dst v') w') :
    if Region.wanted o (yielded ops a.tmps) = true then Oper.wp Tryz.prog o a w K Q else E := by
  rw [if_pos hw]
  obtain ⟨v', w', hr, h1, h3, h4, h5⟩ := run_appW w base v n f hown ad m cap g hA hn hbase v2 n2 f2 h2 hap
  unfold Oper.wp
  simp [execOp, ho, ht, resolve, invoke, builtin, hs, hx, hr, Result.andThen]
  exact h v' w' h1 h3 h4 h5
/-- a row known whole, as one that may grow -/
theorem RowB.own {w : World} {g n base : Nat} {f : Nat → Nat} (h : RowB w g n f) (hb : base ≤ g) (hn : n ≤ maxLen) : OwnB w base (.slice (some ⟨g, 0, none⟩) n n) n f :=
  ⟨by simp [bytesL], Or.inr ⟨g, n, (bytesL n f).toArray, rfl, hb, h, Nat.le_refl _, hn, by simp [bytesL], by rw [Nat.mul_one, List.toList_toArray]; exact List.take_of_length_le (by simp [bytesL])⟩⟩
theorem OwnB.at0 {w : World} {base n st c : Nat} {f : Nat → Nat} (h : OwnB w base (.slice (some ⟨st, 0, none⟩) n c) n f) (hf : ∀ j, j < n → f j < 256) {j : Nat} (hj : j < n) : w.cell? ⟨st, j, none⟩ = some (.int .u8 (f j : Nat)) := by
  obtain ⟨A, c', e, hs⟩ := OwnB.slice h hf
  cases e
  obtain ⟨B, o, e, _, hc⟩ := hs (by omega)
  cases e
  have := (hc j hj).2
  rwa [Nat.zero_add] at this
theorem ownBlock_at (g n c : Nat) : (Value.slice (some ⟨g, 0, none⟩) n c).ownBlock = some g := rfl
end Go.Proofs.YtgcdnhjjoidpmaaGreatDoor
/- Contracts of package box: Open. -/
namespace Go.Proofs.YtgcdnhjjoidpmaaGreatDoor
open Go.RowKit
/-- what Open answers: how long, which bytes, which nonce, which error -/
def OU (k : Nat) (f : Nat → Nat) (N E : Nat) (w : World) (e : Ending) (w' : World) : Prop :=
  ∃ A c, e = .returned (.tuple #[.slice A k c, .int .i64 (N : Nat), .int .i64 (E : Nat)]) ∧ OwnB w' w.heap.size (.slice A k c) k f ∧ Below w.heap.size w w'
theorem size_0 (w : World) : Calls Tryz.prog 13 #[.int .i64 0] w fun e w' => e = .returned (.int .i64 24) ∧ w = w' := size_any 0 w (by decide)
theorem size_max (w : World) : Calls Tryz.prog 13 #[.int .i64 65536] w fun e w' => e = .returned (.int .i64 65560) ∧ w = w' := size_any 65536 w (by decide)
theorem run_one1 (w : World) (A0 : Option Addr) (n0 c0 : Nat) : (Instr.buildSlice 25 1 #[(0, .slice A0 n0 c0)]).run Tryz.prog w = .ok (.slice (some ⟨w.heap.size, 0, none⟩) 1 1) (w.alloc (.cells #[.slice A0 n0 c0] 22)) := by go_simp
theorem MakAt.ne {w : World} {g n B : Nat} {key : Nat → Nat} {A : Option Addr} {k c : Nat} (h : MakAt w g n key) (hB : w.cell? ⟨B, 0, none⟩ = some (.slice A k c)) : g ≠ B := fun e => by
  subst e
  rcases h with h | h
  · have := h.key.cell (j := 0) (k := 0) (by decide) rfl
    rw [hB] at this; cases this
  · have := h.key.cell (j := 0) (k := 0) (by decide) rfl
    rw [hB] at this; cases this
/-- b[l:h] -/
theorem run_part (w : World) (A : Option Addr) (n c l h : Nat) (hl : l ≤ h) (hh : h ≤ c) : (Instr.sliceAt 22 (.slice A n c) (some (.int .i64 (l : Int))) (some (.int .i64 (h : Int))) none).run Tryz.prog w = .ok (.slice (hiA A c l) (h - l) (c - l)) w := by
  rw [run_sliceAt_slice (h := underB), run_slice_lh (ht := underB) (h0 := by omega) (h1 := by omega) (h2 := by omega), size8]
  rfl
set_option maxRecDepth 100000 in
theorem openx_arg (len cap nt ct na ca nb cb : Nat) (Ae At Ab Bb : Option Addr) (w : World) (hl : len ≤ 140737488351232) (h : wrong len 0 0) :
    Calls Tryz.prog 15 #[.slice Ae len cap, .slice At nt ct, .slice Ab na ca, .slice Bb nb cb] w (OU 0 (fun _ => 0) 0 1 w) := by
  have HC := Lib.hid (check_arg Ae len cap 0 w hl h)
  clear h
  go_enter Tryz.func15, Tryz.ntmps15
  go_wp2_with fail
  refine HC.out.mono ?_
  rintro e w1 ⟨rfl, rfl⟩
  go_wp2_with fail
  go_ret3
  exact ⟨none, 0, rfl, OwnB.nil _ _ _, Below.refl _ _⟩
set_option maxRecDepth 100000 in
theorem openx_end (len n cap nt ct na ca nb cb : Nat) (Ae At Ab Bb : Option Addr) (key : Nat → Nat) (w : World) (hn : n = 4 ∨ n = 8) (hl : 4 * n = len) (hE : SlB w Ae len key) (hb : nb < 24) :
    Calls Tryz.prog 15 #[.slice Ae len cap, .slice At nt ct, .slice Ab na ca, .slice Bb nb cb] w (OU 0 (fun _ => 0) 0 3 w) := by
  have HC := Lib.hid (check_any Ae len n cap 0 key w hn hl hE (by decide))
  have hd : decide ((nb : Int) < 24) = true := by rw [decide_eq_true_eq]; omega
  clear hn hl hE hb
  go_enter Tryz.func15, Tryz.ntmps15
  go_wp2_with fail
  refine HC.out.mono ?_
  rintro e w1 ⟨rfl, h1⟩
  have H1 := Lib.hid h1
  clear h1
  go_wp2_with fail
  refine (size_0 w1).mono ?_
  rintro e w2 ⟨rfl, rfl⟩
  go_wp2_with fail
  go_ret3
  exact ⟨none, 0, rfl, OwnB.nil _ _ _, H1.out⟩
set_option maxRecDepth 100000 in
theorem openx_long (len n cap nt ct na ca nb cb : Nat) (Ae At Ab Bb : Option Addr) (key : Nat → Nat) (w : World) (hn : n = 4 ∨ n = 8) (hl : 4 * n = len) (hE : SlB w Ae len key) (hb : 65560 < nb) :
    Calls Tryz.prog 15 #[.slice Ae len cap, .slice At nt ct, .slice Ab na ca, .slice Bb nb cb] w (OU 0 (fun _ => 0) 0 2 w) := by
  have HC := Lib.hid (check_any Ae len n cap 0 key w hn hl hE (by decide))
  have hd : decide ((nb : Int) < 24) = false := by rw [decide_eq_false_iff_not]; omega
  have hd2 : decide ((65560 : Int) < (nb : Nat)) = true := by rw [decide_eq_true_eq]; omega
  clear hn hl hE hb
  go_enter Tryz.func15, Tryz.ntmps15
  go_wp2_with fail
  refine HC.out.mono ?_
  rintro e w1 ⟨rfl, h1⟩
  have H1 := Lib.hid h1
  clear h1
  go_wp2_with fail
  refine (size_0 w1).mono ?_
  rintro e w2 ⟨rfl, rfl⟩
  go_wp2_with fail
  refine (size_max w1).mono ?_
  rintro e w2 ⟨rfl, rfl⟩
  go_wp2_with fail
  go_ret3
  exact ⟨none, 0, rfl, OwnB.nil _ _ _, H1.out⟩
--DEFS op
def opG (Bb : Option Addr) (nb cb M : Nat) (b : Nat → Nat) (At : Option Addr) (nt ct : Nat) (tk : Nat → Nat) (Ab : Option Addr) (na ca : Nat) (about : Nat → Nat) (bs : Nat) (T : Bool) : Nat → Value → World → Prop
  | 0, v, _ => v = .slice Bb nb cb
  | 1, v, _ => v = .int .i64 (M : Nat)
  | 2, v, _ => v = .slice (hiA Bb cb M) 16 (cb - M)
  | 3, v, _ => v = .slice At nt ct
  | 4, v, w => ∃ g, v = .pointer (some ⟨g, 0, none⟩) ∧ bs ≤ g ∧ MakAt w g nt tk
  | 5, v, _ => v = .slice Ab na ca
  | 6, v, _ => v = .slice Bb nb cb
  | 7, v, _ => v = .int .i64 (M : Nat)
  | 8, v, _ => v = .slice (loA Bb cb) M cb
  | 9, v, w => ∃ p, v = .slice (some ⟨p, 0, none⟩) 1 1 ∧ w.cell? ⟨p, 0, none⟩ = some (.slice (loA Bb cb) M cb)
  | 10, v, w => ∃ d, v = .slice (some ⟨d, 0, none⟩) 16 32 ∧ Arr w d 0 32 (btag nt tk na about M b)
  | 11, v, _ => v = .bool T
  | _, _, _ => True
theorem opG_stays (Bb : Option Addr) (nb cb M : Nat) (b : Nat → Nat) (At : Option Addr) (nt ct : Nat) (tk : Nat → Nat) (Ab : Option Addr) (na ca : Nat) (about : Nat → Nat) (bs : Nat) (T : Bool) : ∀ i v w w', opG Bb nb cb M b At nt ct tk Ab na ca about bs T i v w → Below w.heap.size w w' → opG Bb nb cb M b At nt ct tk Ab na ca about bs T i v w'
  | 0, _, _, _, h, _ => h
  | 1, _, _, _, h, _ => h
  | 2, _, _, _, h, _ => h
  | 3, _, _, _, h, _ => h
  | 4, v, w, w', h_, hb => by
    obtain ⟨g, h1, h2, h3⟩ := h_; exact ⟨g, h1, h2, h3.keep hb⟩
  | 5, _, _, _, h, _ => h
  | 6, _, _, _, h, _ => h
  | 7, _, _, _, h, _ => h
  | 8, _, _, _, h, _ => h
  | 9, v, w, w', h_, hb => by
    obtain ⟨p, h1, h2⟩ := h_; exact ⟨p, h1, (hb.cell (p := ⟨p, 0, none⟩) (block_lt (a := ⟨p, 0, none⟩) h2)).trans h2⟩
  | 10, v, w, w', h_, hb => by
    obtain ⟨d, h1, h2⟩ := h_; exact ⟨d, h1, h2.keep hb⟩
  | 11, _, _, _, h, _ => h
  | _ + 12, _, _, _, _, _ => trivial
def opG_mu (i : Nat) : Bool := i == 10
def opG_st (i : Nat) : Bool := !(i == 4 || i == 9 || i == 10)
theorem opG_steady (Bb : Option Addr) (nb cb M : Nat) (b : Nat → Nat) (At : Option Addr) (nt ct : Nat) (tk : Nat → Nat) (Ab : Option Addr) (na ca : Nat) (about : Nat → Nat) (bs : Nat) (T : Bool) : ∀ i v w w', opG_st i = true → opG Bb nb cb M b At nt ct tk Ab na ca about bs T i v w → opG Bb nb cb M b At nt ct tk Ab na ca about bs T i v w'
  | 0, _, _, _, _, h => h
  | 1, _, _, _, _, h => h
  | 2, _, _, _, _, h => h
  | 3, _, _, _, _, h => h
  | 4, _, _, _, h, _ => absurd h (by decide)
  | 5, _, _, _, _, h => h
  | 6, _, _, _, _, h => h
  | 7, _, _, _, _, h => h
  | 8, _, _, _, _, h => h
  | 9, _, _, _, h, _ => absurd h (by decide)
  | 10, _, _, _, h, _ => absurd h (by decide)
  | 11, _, _, _, _, h => h
  | _ + 12, _, _, _, _, _ => trivial
--END DEFS op
set_option maxRecDepth 100000 in
set_option maxHeartbeats 1600000 in
theorem openx_tag (len n cap nt ct na ca nb cb : Nat) (Ae At Ab Bb : Option Addr) (key tk about b : Nat → Nat) (w : World) (hn : n = 4 ∨ n = 8) (hl : 4 * n = len) (hE : SlB w Ae len key) (hT : SlB w At nt tk) (hA : SlB w Ab na about) (hB : SlB w Bb nb b) (hb1 : 24 ≤ nb) (hb2 : nb ≤ 65560) (hbc : nb ≤ cb)
    (hnt : nt ≤ 100000000000) (hct : nt ≤ ct) (hna : na ≤ 100000000000) (hac : na ≤ ca) (ht : GT w) (hs : sameB 16 16 (fun j => b (nb - 16 + j)) (btag nt tk na about (nb - 16) b) = false) :
    Calls Tryz.prog 15 #[.slice Ae len cap, .slice At nt ct, .slice Ab na ca, .slice Bb nb cb] w (OU 0 (fun _ => 0) 0 7 w) := by
  obtain ⟨M, hM⟩ : ∃ M, nb = M + 16 := ⟨nb - 16, by omega⟩
  have eM : (nb : Int) - 16 = (M : Nat) := by omega
  rw [show nb - 16 = M by omega] at hs
  have hM8 : 8 ≤ M := by omega
  have hMi : (8 : Int) ≤ (M : Nat) := by omega
  have hMb : (M : Int) ≤ 65544 := by omega
  have HC := Lib.hid (check_any Ae len n cap 0 key w hn hl hE (by decide))
  have hd : decide ((nb : Int) < 24) = false := by rw [decide_eq_false_iff_not]; omega
  have hd2 : decide ((65560 : Int) < (nb : Nat)) = false := by rw [decide_eq_false_iff_not]; omega
  have HSH := Lib.hid (show ∀ w : World, (Instr.sliceAt 22 (.slice Bb nb cb) (some (.int .i64 (M : Int))) none none).run Tryz.prog w = .ok (.slice (hiA Bb cb M) 16 (cb - M)) w from fun w => by
    rw [run_hi w Bb nb cb M (by omega), show nb - M = 16 by omega])
  have HSLo := Lib.hid (fun w : World => run_lo w Bb nb cb M (by omega))
  have HE := Lib.hid hE
  have HT := Lib.hid hT
  have HA := Lib.hid hA
  have HB := Lib.hid hB
  have HG := Lib.hid ht
  have HN := Lib.hid hn
  have HL := Lib.hid hl
  have HNT := Lib.hid hnt
  have HCT := Lib.hid hct
  have HNA := Lib.hid hna
  have HAC := Lib.hid hac
  have HBC := Lib.hid (show M + 16 ≤ cb ∧ M + 16 = nb ∧ nb ≤ 65560 ∧ 8 ≤ M from ⟨by omega, by omega, hb2, hM8⟩)
  have HKY := Lib.hid (show By nt tk from fun j hj => hT.byte hj)
  have HBY := Lib.hid (show By nb b from fun j hj => hB.byte hj)
  have HS := Lib.hid hs
  clear hn hl hE hT hA hB hb1 hb2 hbc hnt hct hna hac ht hs hM hM8
  go_enter Tryz.func15, Tryz.ntmps15
  go_wp2_with fail
  refine HC.out.mono ?_
  rintro e w1 ⟨rfl, h1⟩
  have H1 := Lib.hid h1
  clear h1 HC
  go_wp2_with fail
  refine (size_0 w1).mono ?_
  rintro e w2 ⟨rfl, rfl⟩
  go_wp2_with fail
  refine (size_max w1).mono ?_
  rintro e w2 ⟨rfl, rfl⟩
  obtain ⟨bs, hbs⟩ : ∃ bs, w1.heap.size = bs := ⟨_, rfl⟩
  have HBL := Lib.hid (show ∀ w5, Below w1.heap.size w1 w5 → bs ≤ w5.heap.size from fun w5 h => by rw [← hbs]; exact h.size)
  have HBG := Lib.hid (show ∀ g, bs ≤ g → w1.heap.size ≤ g from fun g h => by rw [hbs]; exact h)
  have HT1 := Lib.hid (HT.out.keep H1.out)
  have HA1 := Lib.hid (HA.out.keep H1.out)
  have HB1 := Lib.hid (HB.out.keep H1.out)
  have HG1 := Lib.hid (HG.out.keep H1.out)
  have HMN := Lib.hid (show ∀ w5, Below w1.heap.size w1 w5 → Calls Tryz.prog 23 #[.slice At nt ct] w5 fun e w' => ∃ g, e = .returned (.pointer (some ⟨g, 0, none⟩)) ∧ w5.heap.size ≤ g ∧ MakAt w' g nt tk ∧ Below w5.heap.size w5 w' from fun w5 hb =>
    mnew_any At nt ct tk w5 (by have := HNT.out; omega) HCT.out (HT1.out.keep hb) (HG1.out.keep hb))
  have HTO := Lib.hid (show ∀ w5, Below w1.heap.size w1 w5 → ∀ g q, bs ≤ g → MakAt w5 g nt tk → w5.cell? ⟨q, 0, none⟩ = some (.slice (loA Bb cb) M cb) →
      Calls Tryz.prog 29 #[.pointer (some ⟨g, 0, none⟩), .slice Ab na ca, .slice (some ⟨q, 0, none⟩) 1 1] w5 (TagB g nt tk na about M b w5) from fun w5 hb g q hg hm hq =>
    tagof_any g nt 1 1 na ca M q tk about Ab (fun _ => loA Bb cb) (fun _ => M) (fun _ => cb) (fun _ => b) b w5 HKY.out hm (by decide) (by decide) (by decide)
      ⟨fun j hj => by
        obtain rfl : j = 0 := by omega
        exact hq, fun _ _ => (HB1.out.keep hb).loA cb (by have := HBC.out; omega)⟩ (fun _ _ => by have := HBC.out; omega) (Nat.zero_add M) (by have := HBC.out; omega) (by have := HNA.out; omega) HAC.out (HA1.out.keep hb)
      (fun i hi j _ => by
        obtain rfl : i = 0 := by omega
        show b (0 + j) = b j
        rw [Nat.zero_add]) (fun j hj => HBY.out j (by have := HBC.out; omega)) (HG1.out.keep hb) ⟨Nat.ne_of_lt (Nat.lt_of_lt_of_le HG1.out.ltk (HBG.out g hg)), Nat.ne_of_lt (Nat.lt_of_lt_of_le HG1.out.lth (HBG.out g hg))⟩ (fun e => hm.ne hq e.symm)
      (HA1.out.off (HBG.out g hg)) (fun _ _ => (HB1.out.loA cb (k := M) (by have := HBC.out; omega)).off (HBG.out g hg)))
  have HSM := Lib.hid (show ∀ w5, Below w1.heap.size w1 w5 → ∀ d, Arr w5 d 0 32 (btag nt tk na about M b) → Calls Tryz.prog 28 #[.slice (hiA Bb cb M) 16 (cb - M), .slice (some ⟨d, 0, none⟩) 16 32] w5 fun e w' => e = .returned (.bool false) ∧ ∃ k, w' = w5.drewN k from fun w5 hb d ha => by
    have h := same_any (hiA Bb cb M) (some ⟨d, 0, none⟩) 16 (cb - M) 16 32 (fun j => b (M + j)) (btag nt tk na about M b) w5 (by decide) (by decide)
      (by have h1 := (HB1.out.keep hb).hiA (c := cb) (k := M) (by have := HBC.out; omega) (by have := HBC.out; omega); rwa [show nb - M = 16 by have := HBC.out; omega] at h1) ((ha.slB fun j _ => btag_lt _ _ _ _ _ _ j).low (by decide))
    rw [HS.out] at h
    exact h)
  clear HT HA HG HNT HCT HNA HAC HKY HT1 HA1 HS hbs
  go_wp2_with fail
  refine ord.wp_region_ordM 12 [[], [], [0, 1], [], [3], [], [], [], [6, 7], [8], [4, 5, 9], [2, 10]] [(0, 32), (1, 33), (2, 34), (3, 35), (4, 36), (5, 37), (6, 38), (7, 39), (8, 40), (9, 41), (10, 42), (11, 43)] (opG Bb nb cb M b At nt ct tk Ab na ca about bs false) opG_mu opG_st (by kernel_rfl) (by kernel_rfl) (by kernel_rfl) (by kernel_rfl) (opG_stays _ _ _ _ _ _ _ _ _ _ _ _ _ _ _) (fun i v w0 w' h1 h2 _ => opG_steady _ _ _ _ _ _ _ _ _ _ _ _ _ _ _ i v w0 w' h1 h2) ((ord.steps_cons ?_ (ord.steps_cons ?_ (ord.steps_cons ?_ (ord.steps_cons ?_ (ord.steps_cons ?_ (ord.steps_cons ?_ (ord.steps_cons ?_ (ord.steps_cons ?_ (ord.steps_cons ?_ (ord.steps_cons ?_ (ord.steps_cons ?_ (ord.steps_cons ?_ ord.steps_nil))))))))))))) ?_
  --STEPS op
  · intro o ho x w hb hG
    obtain rfl := Option.some.inj ho
    clear ho
    refine Or.inl ⟨ord.want0 rfl, ?_⟩
    exact ord.makes_move rfl ⟨Below.refl _ _, rfl⟩
  · intro o ho x w hb hG
    obtain rfl := Option.some.inj ho
    clear ho
    refine Or.inl ⟨ord.want0 rfl, ?_⟩
    exact ord.makes_move rfl ⟨Below.refl _ _, rfl⟩
  · intro o ho x w hb hG
    obtain rfl := Option.some.inj ho
    clear ho
    have h32 : x 0 = .slice Bb nb cb := hG (0, 32) (List.mem_of_getElem? (i := 0) rfl) rfl
    have h33 : x 1 = .int .i64 (M : Nat) := hG (1, 33) (List.mem_of_getElem? (i := 1) rfl) rfl
    refine Or.inl ⟨ord.want0 rfl, ?_⟩
    exact ord.makes_slice rfl h32 (congrArg some h33) (rfl) (rfl) (by exact HSH.out w) ⟨Below.refl _ _, rfl⟩
  · intro o ho x w hb hG
    obtain rfl := Option.some.inj ho
    clear ho
    refine Or.inl ⟨ord.want0 rfl, ?_⟩
    exact ord.makes_move rfl ⟨Below.refl _ _, rfl⟩
  · intro o ho x w hb hG
    obtain rfl := Option.some.inj ho
    clear ho
    have h35 : x 3 = .slice At nt ct := hG (3, 35) (List.mem_of_getElem? (i := 3) rfl) rfl
    refine Or.inl ⟨ord.want0 rfl, ?_⟩
    exact ord.makes_call1 Tryz.func23 (by kernel_rfl) (by kernel_rfl) rfl h35 (HMN.out w (of_drew hb)) (fun e w' h => by obtain ⟨g, he, h1, h2, h3⟩ := h; exact ⟨_, he, h3, g, rfl, Nat.le_trans (HBL.out w (of_drew hb)) h1, h2⟩)
  · intro o ho x w hb hG
    obtain rfl := Option.some.inj ho
    clear ho
    refine Or.inl ⟨ord.want0 rfl, ?_⟩
    exact ord.makes_move rfl ⟨Below.refl _ _, rfl⟩
  · intro o ho x w hb hG
    obtain rfl := Option.some.inj ho
    clear ho
    refine Or.inl ⟨ord.want0 rfl, ?_⟩
    exact ord.makes_move rfl ⟨Below.refl _ _, rfl⟩
  · intro o ho x w hb hG
    obtain rfl := Option.some.inj ho
    clear ho
    refine Or.inl ⟨ord.want0 rfl, ?_⟩
    exact ord.makes_move rfl ⟨Below.refl _ _, rfl⟩
  · intro o ho x w hb hG
    obtain rfl := Option.some.inj ho
    clear ho
    have h38 : x 6 = .slice Bb nb cb := hG (6, 38) (List.mem_of_getElem? (i := 6) rfl) rfl
    have h39 : x 7 = .int .i64 (M : Nat) := hG (7, 39) (List.mem_of_getElem? (i := 7) rfl) rfl
    refine Or.inl ⟨ord.want0 rfl, ?_⟩
    exact ord.makes_slice rfl h38 (rfl) (congrArg some h39) (rfl) (by exact HSLo.out w) ⟨Below.refl _ _, rfl⟩
  · intro o ho x w hb hG
    obtain rfl := Option.some.inj ho
    clear ho
    have h40 : x 8 = .slice (loA Bb cb) M cb := hG (8, 40) (List.mem_of_getElem? (i := 8) rfl) rfl
    refine Or.inl ⟨ord.want0 rfl, ?_⟩
    exact ord.makes_build1 rfl h40 (run_one1 w (loA Bb cb) M cb) ⟨alloc_below w _, _, rfl, cell_made w _ _ 0 _ rfl rfl⟩
  · intro o ho x w hb hG
    obtain rfl := Option.some.inj ho
    clear ho
    have h36 : opG Bb nb cb M b At nt ct tk Ab na ca about bs false 4 (x 4) w := hG (4, 36) (List.mem_of_getElem? (i := 4) rfl) rfl
    have h37 : x 5 = .slice Ab na ca := hG (5, 37) (List.mem_of_getElem? (i := 5) rfl) rfl
    have h41 : opG Bb nb cb M b At nt ct tk Ab na ca about bs false 9 (x 9) w := hG (9, 41) (List.mem_of_getElem? (i := 9) rfl) rfl
    refine Or.inl ⟨ord.want0 rfl, ?_⟩
    obtain ⟨g, hv, hg, hm⟩ := h36
    obtain ⟨p, hvp, hp⟩ := h41
    exact ord.makes_call3 Tryz.func29 (by kernel_rfl) (by kernel_rfl) rfl hv h37 hvp (HTO.out w (of_drew hb) g p hg hm hp) (fun e w' h => by obtain ⟨d, he, h1, h2, h3, h4⟩ := h; exact ⟨_, he, h4.below hb.size (HBG.out g hg), d, rfl, h2⟩)
  · intro o ho x w hb hG
    obtain rfl := Option.some.inj ho
    clear ho
    have h34 : x 2 = .slice (hiA Bb cb M) 16 (cb - M) := hG (2, 34) (List.mem_of_getElem? (i := 2) rfl) rfl
    have h42 : opG Bb nb cb M b At nt ct tk Ab na ca about bs false 10 (x 10) w := hG (10, 42) (List.mem_of_getElem? (i := 10) rfl) rfl
    refine Or.inl ⟨ord.want0 rfl, ?_⟩
    obtain ⟨d, hv, ha⟩ := h42
    exact ord.makes_call2 Tryz.func28 (by kernel_rfl) (by kernel_rfl) rfl h34 hv (HSM.out w (of_drew hb) d ha) (fun e w' h => by obtain ⟨he, k, rfl⟩ := h; exact ⟨_, he, drawn (Below.refl _ _) k, rfl⟩)
  --END STEPS op
  · intro x w5 hb hG
    have e43 : x 11 = .bool false := hG (11, 43) (List.mem_of_getElem? (i := 11) rfl) rfl
    clear hG
    have H5 := Lib.hid (H1.out.trans (hb.mono H1.out.size))
    clear hb
    simp only [ord.puts, ord.put', if_true]
    rw [e43]
    clear e43
    simp only [List.drop_succ_cons, List.drop_zero]
    go_wp2_with fail
    go_ret3
    exact ⟨none, 0, rfl, OwnB.nil _ _ _, H5.out⟩
set_option maxRecDepth 100000 in
set_option maxHeartbeats 1600000 in
theorem openx_neg (len n cap nt ct na ca nb cb : Nat) (Ae At Ab Bb : Option Addr) (key tk about b : Nat → Nat) (w : World) (hn : n = 4 ∨ n = 8) (hl : 4 * n = len) (hE : SlB w Ae len key) (hT : SlB w At nt tk) (hA : SlB w Ab na about) (hB : SlB w Bb nb b) (hb1 : 24 ≤ nb) (hb2 : nb ≤ 65560) (hbc : nb ≤ cb)
    (hnt : nt ≤ 100000000000) (hct : nt ≤ ct) (hna : na ≤ 100000000000) (hac : na ≤ ca) (ht : GT w) (hs : sameB 16 16 (fun j => b (nb - 16 + j)) (btag nt tk na about (nb - 16) b) = true) (hbig : 127 < b 0) :
    Calls Tryz.prog 15 #[.slice Ae len cap, .slice At nt ct, .slice Ab na ca, .slice Bb nb cb] w (OU 0 (fun _ => 0) 0 1 w) := by
  obtain ⟨M, hM⟩ : ∃ M, nb = M + 16 := ⟨nb - 16, by omega⟩
  have eM : (nb : Int) - 16 = (M : Nat) := by omega
  rw [show nb - 16 = M by omega] at hs
  have hM8 : 8 ≤ M := by omega
  have hMi : (8 : Int) ≤ (M : Nat) := by omega
  have hMb : (M : Int) ≤ 65544 := by omega
  have HC := Lib.hid (check_any Ae len n cap 0 key w hn hl hE (by decide))
  have hd : decide ((nb : Int) < 24) = false := by rw [decide_eq_false_iff_not]; omega
  have hd2 : decide ((65560 : Int) < (nb : Nat)) = false := by rw [decide_eq_false_iff_not]; omega
  have HSH := Lib.hid (show ∀ w : World, (Instr.sliceAt 22 (.slice Bb nb cb) (some (.int .i64 (M : Int))) none none).run Tryz.prog w = .ok (.slice (hiA Bb cb M) 16 (cb - M)) w from fun w => by
    rw [run_hi w Bb nb cb M (by omega), show nb - M = 16 by omega])
  have HSLo := Lib.hid (fun w : World => run_lo w Bb nb cb M (by omega))
  have HE := Lib.hid hE
  have HT := Lib.hid hT
  have HA := Lib.hid hA
  have HB := Lib.hid hB
  have HG := Lib.hid ht
  have HN := Lib.hid hn
  have HL := Lib.hid hl
  have HNT := Lib.hid hnt
  have HCT := Lib.hid hct
  have HNA := Lib.hid hna
  have HAC := Lib.hid hac
  have HBC := Lib.hid (show M + 16 ≤ cb ∧ M + 16 = nb ∧ nb ≤ 65560 ∧ 8 ≤ M from ⟨by omega, by omega, hb2, hM8⟩)
  have HKY := Lib.hid (show By nt tk from fun j hj => hT.byte hj)
  have HBY := Lib.hid (show By nb b from fun j hj => hB.byte hj)
  have HS := Lib.hid hs
  obtain ⟨Nn, hNn⟩ : ∃ Nn, numE b 8 = Nn := ⟨_, rfl⟩
  have HNN := Lib.hid hNn
  have hN1 : 9223372036854775807 < Nn := by rw [← hNn]; exact (numE_big (fun j hj => hB.byte (by omega))).2 hbig
  have hN2 : Nn < 256 ^ 8 := by rw [← hNn]; exact numE_lt 8 (fun j hj => hB.byte (by omega))
  obtain ⟨Nz, hNz, hNz2⟩ : ∃ Nz : Int, IntKind.i64.wrap (Nn : Int) = Nz ∧ Nz < 0 := ⟨_, rfl, by
    rw [IntKind.wrap_i64]
    simp only [Nat.reducePow] at hN2
    omega⟩
  have HW := Lib.hid (show wrong len Nz 0 from Or.inr (Or.inl hNz2))
  have HLL := Lib.hid (show len ≤ 140737488351232 by omega)
  have hNi : (Nn : Int) ≤ 18446744073709551615 := by simp only [Nat.reducePow] at hN2; omega
  have HMID := Lib.hid (fun w : World => run_part w Bb nb cb 8 M hM8 (by omega))
  have HLO8 := Lib.hid (fun w : World => run_lo w Bb nb cb 8 (by omega))
  clear hNn hN1 hN2 hbig hNz2
  clear hn hl hE hT hA hB hb1 hb2 hbc hnt hct hna hac ht hs hM hM8
  go_enter Tryz.func15, Tryz.ntmps15
  go_wp2_with fail
  refine HC.out.mono ?_
  rintro e w1 ⟨rfl, h1⟩
  have H1 := Lib.hid h1
  clear h1 HC
  go_wp2_with fail
  refine (size_0 w1).mono ?_
  rintro e w2 ⟨rfl, rfl⟩
  go_wp2_with fail
  refine (size_max w1).mono ?_
  rintro e w2 ⟨rfl, rfl⟩
  obtain ⟨bs, hbs⟩ : ∃ bs, w1.heap.size = bs := ⟨_, rfl⟩
  have HBL := Lib.hid (show ∀ w5, Below w1.heap.size w1 w5 → bs ≤ w5.heap.size from fun w5 h => by rw [← hbs]; exact h.size)
  have HBG := Lib.hid (show ∀ g, bs ≤ g → w1.heap.size ≤ g from fun g h => by rw [hbs]; exact h)
  have HT1 := Lib.hid (HT.out.keep H1.out)
  have HA1 := Lib.hid (HA.out.keep H1.out)
  have HB1 := Lib.hid (HB.out.keep H1.out)
  have HG1 := Lib.hid (HG.out.keep H1.out)
  have HMN := Lib.hid (show ∀ w5, Below w1.heap.size w1 w5 → Calls Tryz.prog 23 #[.slice At nt ct] w5 fun e w' => ∃ g, e = .returned (.pointer (some ⟨g, 0, none⟩)) ∧ w5.heap.size ≤ g ∧ MakAt w' g nt tk ∧ Below w5.heap.size w5 w' from fun w5 hb =>
    mnew_any At nt ct tk w5 (by have := HNT.out; omega) HCT.out (HT1.out.keep hb) (HG1.out.keep hb))
  have HTO := Lib.hid (show ∀ w5, Below w1.heap.size w1 w5 → ∀ g q, bs ≤ g → MakAt w5 g nt tk → w5.cell? ⟨q, 0, none⟩ = some (.slice (loA Bb cb) M cb) →
      Calls Tryz.prog 29 #[.pointer (some ⟨g, 0, none⟩), .slice Ab na ca, .slice (some ⟨q, 0, none⟩) 1 1] w5 (TagB g nt tk na about M b w5) from fun w5 hb g q hg hm hq =>
    tagof_any g nt 1 1 na ca M q tk about Ab (fun _ => loA Bb cb) (fun _ => M) (fun _ => cb) (fun _ => b) b w5 HKY.out hm (by decide) (by decide) (by decide)
      ⟨fun j hj => by
        obtain rfl : j = 0 := by omega
        exact hq, fun _ _ => (HB1.out.keep hb).loA cb (by have := HBC.out; omega)⟩ (fun _ _ => by have := HBC.out; omega) (Nat.zero_add M) (by have := HBC.out; omega) (by have := HNA.out; omega) HAC.out (HA1.out.keep hb)
      (fun i hi j _ => by
        obtain rfl : i = 0 := by omega
        show b (0 + j) = b j
        rw [Nat.zero_add]) (fun j hj => HBY.out j (by have := HBC.out; omega)) (HG1.out.keep hb) ⟨Nat.ne_of_lt (Nat.lt_of_lt_of_le HG1.out.ltk (HBG.out g hg)), Nat.ne_of_lt (Nat.lt_of_lt_of_le HG1.out.lth (HBG.out g hg))⟩ (fun e => hm.ne hq e.symm)
      (HA1.out.off (HBG.out g hg)) (fun _ _ => (HB1.out.loA cb (k := M) (by have := HBC.out; omega)).off (HBG.out g hg)))
  have HSM := Lib.hid (show ∀ w5, Below w1.heap.size w1 w5 → ∀ d, Arr w5 d 0 32 (btag nt tk na about M b) → Calls Tryz.prog 28 #[.slice (hiA Bb cb M) 16 (cb - M), .slice (some ⟨d, 0, none⟩) 16 32] w5 fun e w' => e = .returned (.bool true) ∧ ∃ k, w' = w5.drewN k from fun w5 hb d ha => by
    have h := same_any (hiA Bb cb M) (some ⟨d, 0, none⟩) 16 (cb - M) 16 32 (fun j => b (M + j)) (btag nt tk na about M b) w5 (by decide) (by decide)
      (by have h1 := (HB1.out.keep hb).hiA (c := cb) (k := M) (by have := HBC.out; omega) (by have := HBC.out; omega); rwa [show nb - M = 16 by have := HBC.out; omega] at h1) ((ha.slB fun j _ => btag_lt _ _ _ _ _ _ j).low (by decide))
    rw [HS.out] at h
    exact h)
  clear HT HA HG HNT HCT HNA HAC HKY HT1 HA1 HS hbs
  go_wp2_with fail
  refine ord.wp_region_ordM 12 [[], [], [0, 1], [], [3], [], [], [], [6, 7], [8], [4, 5, 9], [2, 10]] [(0, 32), (1, 33), (2, 34), (3, 35), (4, 36), (5, 37), (6, 38), (7, 39), (8, 40), (9, 41), (10, 42), (11, 43)] (opG Bb nb cb M b At nt ct tk Ab na ca about bs true) opG_mu opG_st (by kernel_rfl) (by kernel_rfl) (by kernel_rfl) (by kernel_rfl) (opG_stays _ _ _ _ _ _ _ _ _ _ _ _ _ _ _) (fun i v w0 w' h1 h2 _ => opG_steady _ _ _ _ _ _ _ _ _ _ _ _ _ _ _ i v w0 w' h1 h2) ((ord.steps_cons ?_ (ord.steps_cons ?_ (ord.steps_cons ?_ (ord.steps_cons ?_ (ord.steps_cons ?_ (ord.steps_cons ?_ (ord.steps_cons ?_ (ord.steps_cons ?_ (ord.steps_cons ?_ (ord.steps_cons ?_ (ord.steps_cons ?_ (ord.steps_cons ?_ ord.steps_nil))))))))))))) ?_
  --STEPS op1
  · intro o ho x w hb hG
    obtain rfl := Option.some.inj ho
    clear ho
    refine Or.inl ⟨ord.want0 rfl, ?_⟩
    exact ord.makes_move rfl ⟨Below.refl _ _, rfl⟩
  · intro o ho x w hb hG
    obtain rfl := Option.some.inj ho
    clear ho
    refine Or.inl ⟨ord.want0 rfl, ?_⟩
    exact ord.makes_move rfl ⟨Below.refl _ _, rfl⟩
  · intro o ho x w hb hG
    obtain rfl := Option.some.inj ho
    clear ho
    have h32 : x 0 = .slice Bb nb cb := hG (0, 32) (List.mem_of_getElem? (i := 0) rfl) rfl
    have h33 : x 1 = .int .i64 (M : Nat) := hG (1, 33) (List.mem_of_getElem? (i := 1) rfl) rfl
    refine Or.inl ⟨ord.want0 rfl, ?_⟩
    exact ord.makes_slice rfl h32 (congrArg some h33) (rfl) (rfl) (by exact HSH.out w) ⟨Below.refl _ _, rfl⟩
  · intro o ho x w hb hG
    obtain rfl := Option.some.inj ho
    clear ho
    refine Or.inl ⟨ord.want0 rfl, ?_⟩
    exact ord.makes_move rfl ⟨Below.refl _ _, rfl⟩
  · intro o ho x w hb hG
    obtain rfl := Option.some.inj ho
    clear ho
    have h35 : x 3 = .slice At nt ct := hG (3, 35) (List.mem_of_getElem? (i := 3) rfl) rfl
    refine Or.inl ⟨ord.want0 rfl, ?_⟩
    exact ord.makes_call1 Tryz.func23 (by kernel_rfl) (by kernel_rfl) rfl h35 (HMN.out w (of_drew hb)) (fun e w' h => by obtain ⟨g, he, h1, h2, h3⟩ := h; exact ⟨_, he, h3, g, rfl, Nat.le_trans (HBL.out w (of_drew hb)) h1, h2⟩)
  · intro o ho x w hb hG
    obtain rfl := Option.some.inj ho
    clear ho
    refine Or.inl ⟨ord.want0 rfl, ?_⟩
    exact ord.makes_move rfl ⟨Below.refl _ _, rfl⟩
  · intro o ho x w hb hG
    obtain rfl := Option.some.inj ho
    clear ho
    refine Or.inl ⟨ord.want0 rfl, ?_⟩
    exact ord.makes_move rfl ⟨Below.refl _ _, rfl⟩
  · intro o ho x w hb hG
    obtain rfl := Option.some.inj ho
    clear ho
    refine Or.inl ⟨ord.want0 rfl, ?_⟩
    exact ord.makes_move rfl ⟨Below.refl _ _, rfl⟩
  · intro o ho x w hb hG
    obtain rfl := Option.some.inj ho
    clear ho
    have h38 : x 6 = .slice Bb nb cb := hG (6, 38) (List.mem_of_getElem? (i := 6) rfl) rfl
    have h39 : x 7 = .int .i64 (M : Nat) := hG (7, 39) (List.mem_of_getElem? (i := 7) rfl) rfl
    refine Or.inl ⟨ord.want0 rfl, ?_⟩
    exact ord.makes_slice rfl h38 (rfl) (congrArg some h39) (rfl) (by exact HSLo.out w) ⟨Below.refl _ _, rfl⟩
  · intro o ho x w hb hG
    obtain rfl := Option.some.inj ho
    clear ho
    have h40 : x 8 = .slice (loA Bb cb) M cb := hG (8, 40) (List.mem_of_getElem? (i := 8) rfl) rfl
    refine Or.inl ⟨ord.want0 rfl, ?_⟩
    exact ord.makes_build1 rfl h40 (run_one1 w (loA Bb cb) M cb) ⟨alloc_below w _, _, rfl, cell_made w _ _ 0 _ rfl rfl⟩
  · intro o ho x w hb hG
    obtain rfl := Option.some.inj ho
    clear ho
    have h36 : opG Bb nb cb M b At nt ct tk Ab na ca about bs true 4 (x 4) w := hG (4, 36) (List.mem_of_getElem? (i := 4) rfl) rfl
    have h37 : x 5 = .slice Ab na ca := hG (5, 37) (List.mem_of_getElem? (i := 5) rfl) rfl
    have h41 : opG Bb nb cb M b At nt ct tk Ab na ca about bs true 9 (x 9) w := hG (9, 41) (List.mem_of_getElem? (i := 9) rfl) rfl
    refine Or.inl ⟨ord.want0 rfl, ?_⟩
    obtain ⟨g, hv, hg, hm⟩ := h36
    obtain ⟨p, hvp, hp⟩ := h41
    exact ord.makes_call3 Tryz.func29 (by kernel_rfl) (by kernel_rfl) rfl hv h37 hvp (HTO.out w (of_drew hb) g p hg hm hp) (fun e w' h => by obtain ⟨d, he, h1, h2, h3, h4⟩ := h; exact ⟨_, he, h4.below hb.size (HBG.out g hg), d, rfl, h2⟩)
  · intro o ho x w hb hG
    obtain rfl := Option.some.inj ho
    clear ho
    have h34 : x 2 = .slice (hiA Bb cb M) 16 (cb - M) := hG (2, 34) (List.mem_of_getElem? (i := 2) rfl) rfl
    have h42 : opG Bb nb cb M b At nt ct tk Ab na ca about bs true 10 (x 10) w := hG (10, 42) (List.mem_of_getElem? (i := 10) rfl) rfl
    refine Or.inl ⟨ord.want0 rfl, ?_⟩
    obtain ⟨d, hv, ha⟩ := h42
    exact ord.makes_call2 Tryz.func28 (by kernel_rfl) (by kernel_rfl) rfl h34 hv (HSM.out w (of_drew hb) d ha) (fun e w' h => by obtain ⟨he, k, rfl⟩ := h; exact ⟨_, he, drawn (Below.refl _ _) k, rfl⟩)
  --END STEPS op1
  · intro x w5 hb hG
    have e43 : x 11 = .bool true := hG (11, 43) (List.mem_of_getElem? (i := 11) rfl) rfl
    clear hG
    have H5 := Lib.hid (H1.out.trans (hb.mono H1.out.size))
    clear hb
    simp only [ord.puts, ord.put', if_true]
    rw [e43]
    clear e43
    simp only [List.drop_succ_cons, List.drop_zero]
    have hmid : ∀ w : World, (Instr.sliceAt 22 (.slice Bb nb cb) (some (.int .i64 8)) (some (.int .i64 (M : Int))) none).run Tryz.prog w = .ok (.slice (hiA Bb cb 8) (M - 8) (cb - 8)) w := HMID.out
    have hlo8 : ∀ w : World, (Instr.sliceAt 22 (.slice Bb nb cb) none (some (.int .i64 8)) none).run Tryz.prog w = .ok (.slice (loA Bb cb) 8 cb) w := HLO8.out
    go_wp2_with fail
    have HB5 := Lib.hid (HB.out.keep H5.out)
    refine (numberin_any (loA Bb cb) cb b w5 (HB5.out.loA cb (by have := HBC.out; omega))).mono ?_
    rintro e w6 ⟨rfl, rfl⟩
    rw [HNN.out]
    go_wp2_with fail
    refine (xor_arg Ae (hiA Bb cb 8) len cap (M - 8) (cb - 8) Nz 0 w5 HLL.out HW.out).mono ?_
    rintro e w7 ⟨rfl, rfl⟩
    go_wp2_with fail
    go_ret3
    exact ⟨none, 0, rfl, OwnB.nil _ _ _, H5.out⟩
set_option maxRecDepth 100000 in
set_option maxHeartbeats 1600000 in
theorem openx_any (len n cap nt ct na ca nb cb : Nat) (Ae At Ab Bb : Option Addr) (key tk about b : Nat → Nat) (w : World) (hn : n = 4 ∨ n = 8) (hl : 4 * n = len) (hE : SlB w Ae len key) (hT : SlB w At nt tk) (hA : SlB w Ab na about) (hB : SlB w Bb nb b) (hb1 : 24 ≤ nb) (hb2 : nb ≤ 65560) (hbc : nb ≤ cb)
    (hnt : nt ≤ 100000000000) (hct : nt ≤ ct) (hna : na ≤ 100000000000) (hac : na ≤ ca) (ht : GT w) (hs : sameB 16 16 (fun j => b (nb - 16 + j)) (btag nt tk na about (nb - 16) b) = true) (hlow : b 0 ≤ 127) :
    Calls Tryz.prog 15 #[.slice Ae len cap, .slice At nt ct, .slice Ab na ca, .slice Bb nb cb] w (OU (nb - 24) (xorf n key (numE b 8) 0 (fun j => b (8 + j))) (numE b 8) 0 w) := by
  obtain ⟨M, hM⟩ : ∃ M, nb = M + 16 := ⟨nb - 16, by omega⟩
  have eM : (nb : Int) - 16 = (M : Nat) := by omega
  rw [show nb - 16 = M by omega] at hs
  have hM8 : 8 ≤ M := by omega
  have hMi : (8 : Int) ≤ (M : Nat) := by omega
  have hMb : (M : Int) ≤ 65544 := by omega
  have HC := Lib.hid (check_any Ae len n cap 0 key w hn hl hE (by decide))
  have hd : decide ((nb : Int) < 24) = false := by rw [decide_eq_false_iff_not]; omega
  have hd2 : decide ((65560 : Int) < (nb : Nat)) = false := by rw [decide_eq_false_iff_not]; omega
  have HSH := Lib.hid (show ∀ w : World, (Instr.sliceAt 22 (.slice Bb nb cb) (some (.int .i64 (M : Int))) none none).run Tryz.prog w = .ok (.slice (hiA Bb cb M) 16 (cb - M)) w from fun w => by
    rw [run_hi w Bb nb cb M (by omega), show nb - M = 16 by omega])
  have HSLo := Lib.hid (fun w : World => run_lo w Bb nb cb M (by omega))
  have HE := Lib.hid hE
  have HT := Lib.hid hT
  have HA := Lib.hid hA
  have HB := Lib.hid hB
  have HG := Lib.hid ht
  have HN := Lib.hid hn
  have HL := Lib.hid hl
  have HNT := Lib.hid hnt
  have HCT := Lib.hid hct
  have HNA := Lib.hid hna
  have HAC := Lib.hid hac
  have HBC := Lib.hid (show M + 16 ≤ cb ∧ M + 16 = nb ∧ nb ≤ 65560 ∧ 8 ≤ M from ⟨by omega, by omega, hb2, hM8⟩)
  have HKY := Lib.hid (show By nt tk from fun j hj => hT.byte hj)
  have HBY := Lib.hid (show By nb b from fun j hj => hB.byte hj)
  have HS := Lib.hid hs
  obtain ⟨Nn, hNn⟩ : ∃ Nn, numE b 8 = Nn := ⟨_, rfl⟩
  have HNN := Lib.hid hNn
  have hN1 : Nn ≤ 9223372036854775807 := by
    rw [← hNn]
    have := (numE_big (f := b) (fun j hj => hB.byte (by omega))).1
    omega
  have HN1 := Lib.hid hN1
  have hNi : (Nn : Int) ≤ 9223372036854775807 := by omega
  have HMID := Lib.hid (fun w : World => run_part w Bb nb cb 8 M hM8 (by omega))
  have HLO8 := Lib.hid (fun w : World => run_lo w Bb nb cb 8 (by omega))
  rw [show nb - 24 = M - 8 by omega, hNn]
  clear hNn hN1 hlow
  clear hn hl hE hT hA hB hb1 hb2 hbc hnt hct hna hac ht hs hM hM8
  go_enter Tryz.func15, Tryz.ntmps15
  go_wp2_with fail
  refine HC.out.mono ?_
  rintro e w1 ⟨rfl, h1⟩
  have H1 := Lib.hid h1
  clear h1 HC
  go_wp2_with fail
  refine (size_0 w1).mono ?_
  rintro e w2 ⟨rfl, rfl⟩
  go_wp2_with fail
  refine (size_max w1).mono ?_
  rintro e w2 ⟨rfl, rfl⟩
  obtain ⟨bs, hbs⟩ : ∃ bs, w1.heap.size = bs := ⟨_, rfl⟩
  have HBL := Lib.hid (show ∀ w5, Below w1.heap.size w1 w5 → bs ≤ w5.heap.size from fun w5 h => by rw [← hbs]; exact h.size)
  have HBG := Lib.hid (show ∀ g, bs ≤ g → w1.heap.size ≤ g from fun g h => by rw [hbs]; exact h)
  have HT1 := Lib.hid (HT.out.keep H1.out)
  have HA1 := Lib.hid (HA.out.keep H1.out)
  have HB1 := Lib.hid (HB.out.keep H1.out)
  have HG1 := Lib.hid (HG.out.keep H1.out)
  have HMN := Lib.hid (show ∀ w5, Below w1.heap.size w1 w5 → Calls Tryz.prog 23 #[.slice At nt ct] w5 fun e w' => ∃ g, e = .returned (.pointer (some ⟨g, 0, none⟩)) ∧ w5.heap.size ≤ g ∧ MakAt w' g nt tk ∧ Below w5.heap.size w5 w' from fun w5 hb =>
    mnew_any At nt ct tk w5 (by have := HNT.out; omega) HCT.out (HT1.out.keep hb) (HG1.out.keep hb))
  have HTO := Lib.hid (show ∀ w5, Below w1.heap.size w1 w5 → ∀ g q, bs ≤ g → MakAt w5 g nt tk → w5.cell? ⟨q, 0, none⟩ = some (.slice (loA Bb cb) M cb) →
      Calls Tryz.prog 29 #[.pointer (some ⟨g, 0, none⟩), .slice Ab na ca, .slice (some ⟨q, 0, none⟩) 1 1] w5 (TagB g nt tk na about M b w5) from fun w5 hb g q hg hm hq =>
    tagof_any g nt 1 1 na ca M q tk about Ab (fun _ => loA Bb cb) (fun _ => M) (fun _ => cb) (fun _ => b) b w5 HKY.out hm (by decide) (by decide) (by decide)
      ⟨fun j hj => by
        obtain rfl : j = 0 := by omega
        exact hq, fun _ _ => (HB1.out.keep hb).loA cb (by have := HBC.out; omega)⟩ (fun _ _ => by have := HBC.out; omega) (Nat.zero_add M) (by have := HBC.out; omega) (by have := HNA.out; omega) HAC.out (HA1.out.keep hb)
      (fun i hi j _ => by
        obtain rfl : i = 0 := by omega
        show b (0 + j) = b j
        rw [Nat.zero_add]) (fun j hj => HBY.out j (by have := HBC.out; omega)) (HG1.out.keep hb) ⟨Nat.ne_of_lt (Nat.lt_of_lt_of_le HG1.out.ltk (HBG.out g hg)), Nat.ne_of_lt (Nat.lt_of_lt_of_le HG1.out.lth (HBG.out g hg))⟩ (fun e => hm.ne hq e.symm)
      (HA1.out.off (HBG.out g hg)) (fun _ _ => (HB1.out.loA cb (k := M) (by have := HBC.out; omega)).off (HBG.out g hg)))
  have HSM := Lib.hid (show ∀ w5, Below w1.heap.size w1 w5 → ∀ d, Arr w5 d 0 32 (btag nt tk na about M b) → Calls Tryz.prog 28 #[.slice (hiA Bb cb M) 16 (cb - M), .slice (some ⟨d, 0, none⟩) 16 32] w5 fun e w' => e = .returned (.bool true) ∧ ∃ k, w' = w5.drewN k from fun w5 hb d ha => by
    have h := same_any (hiA Bb cb M) (some ⟨d, 0, none⟩) 16 (cb - M) 16 32 (fun j => b (M + j)) (btag nt tk na about M b) w5 (by decide) (by decide)
      (by have h1 := (HB1.out.keep hb).hiA (c := cb) (k := M) (by have := HBC.out; omega) (by have := HBC.out; omega); rwa [show nb - M = 16 by have := HBC.out; omega] at h1) ((ha.slB fun j _ => btag_lt _ _ _ _ _ _ j).low (by decide))
    rw [HS.out] at h
    exact h)
  clear HT HA HG HNT HCT HNA HAC HKY HT1 HA1 HS hbs
  go_wp2_with fail
  refine ord.wp_region_ordM 12 [[], [], [0, 1], [], [3], [], [], [], [6, 7], [8], [4, 5, 9], [2, 10]] [(0, 32), (1, 33), (2, 34), (3, 35), (4, 36), (5, 37), (6, 38), (7, 39), (8, 40), (9, 41), (10, 42), (11, 43)] (opG Bb nb cb M b At nt ct tk Ab na ca about bs true) opG_mu opG_st (by kernel_rfl) (by kernel_rfl) (by kernel_rfl) (by kernel_rfl) (opG_stays _ _ _ _ _ _ _ _ _ _ _ _ _ _ _) (fun i v w0 w' h1 h2 _ => opG_steady _ _ _ _ _ _ _ _ _ _ _ _ _ _ _ i v w0 w' h1 h2) ((ord.steps_cons ?_ (ord.steps_cons ?_ (ord.steps_cons ?_ (ord.steps_cons ?_ (ord.steps_cons ?_ (ord.steps_cons ?_ (ord.steps_cons ?_ (ord.steps_cons ?_ (ord.steps_cons ?_ (ord.steps_cons ?_ (ord.steps_cons ?_ (ord.steps_cons ?_ ord.steps_nil))))))))))))) ?_
  --STEPS op1
  · intro o ho x w hb hG
    obtain rfl := Option.some.inj ho
    clear ho
    refine Or.inl ⟨ord.want0 rfl, ?_⟩
    exact ord.makes_move rfl ⟨Below.refl _ _, rfl⟩
  · intro o ho x w hb hG
    obtain rfl := Option.some.inj ho
    clear ho
    refine Or.inl ⟨ord.want0 rfl, ?_⟩
    exact ord.makes_move rfl ⟨Below.refl _ _, rfl⟩
  · intro o ho x w hb hG
    obtain rfl := Option.some.inj ho
    clear ho
    have h32 : x 0 = .slice Bb nb cb := hG (0, 32) (List.mem_of_getElem? (i := 0) rfl) rfl
    have h33 : x 1 = .int .i64 (M : Nat) := hG (1, 33) (List.mem_of_getElem? (i := 1) rfl) rfl
    refine Or.inl ⟨ord.want0 rfl, ?_⟩
    exact ord.makes_slice rfl h32 (congrArg some h33) (rfl) (rfl) (by exact HSH.out w) ⟨Below.refl _ _, rfl⟩
  · intro o ho x w hb hG
    obtain rfl := Option.some.inj ho
    clear ho
    refine Or.inl ⟨ord.want0 rfl, ?_⟩
    exact ord.makes_move rfl ⟨Below.refl _ _, rfl⟩
  · intro o ho x w hb hG
    obtain rfl := Option.some.inj ho
    clear ho
    have h35 : x 3 = .slice At nt ct := hG (3, 35) (List.mem_of_getElem? (i := 3) rfl) rfl
    refine Or.inl ⟨ord.want0 rfl, ?_⟩
    exact ord.makes_call1 Tryz.func23 (by kernel_rfl) (by kernel_rfl) rfl h35 (HMN.out w (of_drew hb)) (fun e w' h => by obtain ⟨g, he, h1, h2, h3⟩ := h; exact ⟨_, he, h3, g, rfl, Nat.le_trans (HBL.out w (of_drew hb)) h1, h2⟩)
  · intro o ho x w hb hG
    obtain rfl := Option.some.inj ho
    clear ho
    refine Or.inl ⟨ord.want0 rfl, ?_⟩
    exact ord.makes_move rfl ⟨Below.refl _ _, rfl⟩
  · intro o ho x w hb hG
    obtain rfl := Option.some.inj ho
    clear ho
    refine Or.inl ⟨ord.want0 rfl, ?_⟩
    exact ord.makes_move rfl ⟨Below.refl _ _, rfl⟩
  · intro o ho x w hb hG
    obtain rfl := Option.some.inj ho
    clear ho
    refine Or.inl ⟨ord.want0 rfl, ?_⟩
    exact ord.makes_move rfl ⟨Below.refl _ _, rfl⟩
  · intro o ho x w hb hG
    obtain rfl := Option.some.inj ho
    clear ho
    have h38 : x 6 = .slice Bb nb cb := hG (6, 38) (List.mem_of_getElem? (i := 6) rfl) rfl
    have h39 : x 7 = .int .i64 (M : Nat) := hG (7, 39) (List.mem_of_getElem? (i := 7) rfl) rfl
    refine Or.inl ⟨ord.want0 rfl, ?_⟩
    exact ord.makes_slice rfl h38 (rfl) (congrArg some h39) (rfl) (by exact HSLo.out w) ⟨Below.refl _ _, rfl⟩
  · intro o ho x w hb hG
    obtain rfl := Option.some.inj ho
    clear ho
    have h40 : x 8 = .slice (loA Bb cb) M cb := hG (8, 40) (List.mem_of_getElem? (i := 8) rfl) rfl
    refine Or.inl ⟨ord.want0 rfl, ?_⟩
    exact ord.makes_build1 rfl h40 (run_one1 w (loA Bb cb) M cb) ⟨alloc_below w _, _, rfl, cell_made w _ _ 0 _ rfl rfl⟩
  · intro o ho x w hb hG
    obtain rfl := Option.some.inj ho
    clear ho
    have h36 : opG Bb nb cb M b At nt ct tk Ab na ca about bs true 4 (x 4) w := hG (4, 36) (List.mem_of_getElem? (i := 4) rfl) rfl
    have h37 : x 5 = .slice Ab na ca := hG (5, 37) (List.mem_of_getElem? (i := 5) rfl) rfl
    have h41 : opG Bb nb cb M b At nt ct tk Ab na ca about bs true 9 (x 9) w := hG (9, 41) (List.mem_of_getElem? (i := 9) rfl) rfl
    refine Or.inl ⟨ord.want0 rfl, ?_⟩
    obtain ⟨g, hv, hg, hm⟩ := h36
    obtain ⟨p, hvp, hp⟩ := h41
    exact ord.makes_call3 Tryz.func29 (by kernel_rfl) (by kernel_rfl) rfl hv h37 hvp (HTO.out w (of_drew hb) g p hg hm hp) (fun e w' h => by obtain ⟨d, he, h1, h2, h3, h4⟩ := h; exact ⟨_, he, h4.below hb.size (HBG.out g hg), d, rfl, h2⟩)
  · intro o ho x w hb hG
    obtain rfl := Option.some.inj ho
    clear ho
    have h34 : x 2 = .slice (hiA Bb cb M) 16 (cb - M) := hG (2, 34) (List.mem_of_getElem? (i := 2) rfl) rfl
    have h42 : opG Bb nb cb M b At nt ct tk Ab na ca about bs true 10 (x 10) w := hG (10, 42) (List.mem_of_getElem? (i := 10) rfl) rfl
    refine Or.inl ⟨ord.want0 rfl, ?_⟩
    obtain ⟨d, hv, ha⟩ := h42
    exact ord.makes_call2 Tryz.func28 (by kernel_rfl) (by kernel_rfl) rfl h34 hv (HSM.out w (of_drew hb) d ha) (fun e w' h => by obtain ⟨he, k, rfl⟩ := h; exact ⟨_, he, drawn (Below.refl _ _) k, rfl⟩)
  --END STEPS op1
  · intro x w5 hb hG
    have e43 : x 11 = .bool true := hG (11, 43) (List.mem_of_getElem? (i := 11) rfl) rfl
    clear hG
    have H5 := Lib.hid (H1.out.trans (hb.mono H1.out.size))
    clear hb
    simp only [ord.puts, ord.put', if_true]
    rw [e43]
    clear e43
    simp only [List.drop_succ_cons, List.drop_zero]
    have hmid : ∀ w : World, (Instr.sliceAt 22 (.slice Bb nb cb) (some (.int .i64 8)) (some (.int .i64 (M : Int))) none).run Tryz.prog w = .ok (.slice (hiA Bb cb 8) (M - 8) (cb - 8)) w := HMID.out
    have hlo8 : ∀ w : World, (Instr.sliceAt 22 (.slice Bb nb cb) none (some (.int .i64 8)) none).run Tryz.prog w = .ok (.slice (loA Bb cb) 8 cb) w := HLO8.out
    go_wp2_with fail
    have HB5 := Lib.hid (HB.out.keep H5.out)
    refine (numberin_any (loA Bb cb) cb b w5 (HB5.out.loA cb (by have := HBC.out; omega))).mono ?_
    rintro e w6 ⟨rfl, rfl⟩
    rw [HNN.out]
    go_wp2_with fail
    have hsl := HB5.out.hiA (c := cb) (k := 8) (by have := HBC.out; omega) (by have := HBC.out; omega)
    refine (xor_any Ae (hiA Bb cb 8) len n cap (M - 8) (cb - 8) Nn 0 key (fun j => b (8 + j)) w5 HN.out HL.out (HE.out.keep H5.out) (hsl.low (by have := HBC.out; omega)) HN1.out (by decide) (by have := HBC.out; omega)).mono ?_
    rintro e w7 ⟨st, rfl, h1, h2, h3⟩
    have HO := Lib.hid (h2.own (base := w.heap.size) (Nat.le_trans H5.out.size h1) (by have := HBC.out; unfold maxLen; omega))
    have H7 := Lib.hid (H5.out.trans (h3.mono H5.out.size))
    clear h1 h2 h3 hsl
    go_wp2_with fail
    go_ret3
    exact ⟨_, _, rfl, HO.out, H7.out⟩
end Go.Proofs.YtgcdnhjjoidpmaaGreatDoor
