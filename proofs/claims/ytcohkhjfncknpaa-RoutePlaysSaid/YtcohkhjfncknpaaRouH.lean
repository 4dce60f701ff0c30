/- Layer 15, the code: List. -/
import Derived.Maps.RangeWalk
import Derived.Sort.OwnSorted
import Derived.Test.YtcohkhjfncknpaaRouC
import Derived.Test.YtcohkhjfncknpaaShSort
namespace Go.Proofs.Ytcohkhjfncknpaa
set_option maxRecDepth 100000
open Go.RowKit
open Go.Maps
theorem makeL (w : World) (base c : Nat) (hb : base ≤ w.heap.size) (hc : c ≤ 1000) : ∃ w', (Instr.makeSlice 38 (.int .i64 0) (.int .i64 ((c : Nat) : Int))).run Try.prog w = .ok (.slice (some ⟨w.heap.size, 0, none⟩) 0 c) w' ∧ OwL rtE 41 w' base (.slice (some ⟨w.heap.size, 0, none⟩) 0 c) [] ∧ w.grownBy w' none := by
  obtain ⟨i, hi, hz, hsz, hbt⟩ := info_parts rtTy.info
  exact run_make_own w base 38 41 i _ rtE.k rtTy.und hi hz hsz .i64 .i64 c (by rw [hbt]; omega) (by unfold maxLen; omega) hb
/-- what was met so far of a map that reads as L -/
structure Col (L : List Rt) (left : Lit → Bool) (F : List Rt) : Prop where
  mem : ∀ r ∈ F, atR L r.p = some r.t
  apart : F.Pairwise fun a b => a.p ≠ b.p
  met : ∀ r ∈ F, left (kyL r.p) = false
  all : ∀ p, (atR L p).isSome = true → left (kyL p) = false → ∃ r ∈ F, r.p = p
theorem Col.start {L : List Rt} {D : DataW Unit} (h : RepD D L) : Col L (Maps.has D) [] where
  mem := fun r hr => by cases hr
  apart := List.Pairwise.nil
  met := fun r hr => by cases hr
  all := fun p h1 h2 => by rw [h.has, h1] at h2; cases h2
theorem same_ky (p q : ByteArray) : (kyL p).sameKey (kyL q) = decide (p = q) := by
  by_cases e : p = q
  · subst e
    rw [decide_eq_true rfl]
    exact WideAt.sameKey_self (ky_is p)
  · rw [decide_eq_false e]
    exact sameKey_ne fun h => e (kyL_inj h)
theorem Col.step {L : List Rt} {left : Lit → Bool} {F : List Rt} (h : Col L left F) {x : ByteArray} {c : Int} (hl : left (kyL x) = true) (ha : atR L x = some c) : Col L (fun z => left z && !z.sameKey (kyL x)) (F ++ [⟨x, c⟩]) where
  mem := fun r hr => by
    rcases List.mem_append.1 hr with hr | hr
    · exact h.mem r hr
    · rw [List.mem_singleton.1 hr]; exact ha
  apart := by
    refine List.pairwise_append.2 ⟨h.apart, List.pairwise_singleton _ _, fun r hr q hq e => ?_⟩
    rw [List.mem_singleton.1 hq] at e
    have h2 := h.met r hr
    rw [show r.p = x from e, hl] at h2
    cases h2
  met := fun r hr => by
    rcases List.mem_append.1 hr with hr | hr
    · show (left (kyL r.p) && _) = false
      rw [h.met r hr]; rfl
    · rw [List.mem_singleton.1 hr]
      show (left (kyL x) && !(kyL x).sameKey (kyL x)) = false
      rw [same_ky, decide_eq_true rfl]; simp
  all := fun p h1 h2 => by
    by_cases e : p = x
    · exact ⟨⟨x, c⟩, by simp, e.symm⟩
    · have h3 : left (kyL p) = false := by
        have h4 : (left (kyL p) && !(kyL p).sameKey (kyL x)) = false := h2
        rw [same_ky, decide_eq_false e] at h4
        simpa using h4
      obtain ⟨r, hr, e2⟩ := h.all p h1 h3
      exact ⟨r, List.mem_append.2 (Or.inl hr), e2⟩
/-- all was met: sorted, it is L -/
theorem Col.done {L F F' : List Rt} {left : Lit → Bool} (h : Col L left F) (hL : Rise L) (hl : ∀ k, left k = false) (hp : F'.Perm F) (hr : Rise F') : F' = L := by
  refine rise_ext hr hL fun p => ?_
  cases ha : atR F' p with
  | some t =>
    have := h.mem _ (hp.mem_iff.1 (atR_mem ha))
    exact this.symm
  | none =>
    cases hb : atR L p with
    | none => rfl
    | some t =>
      obtain ⟨r, hr1, rfl⟩ := h.all p (by rw [hb]; rfl) (hl _)
      rw [atR_of hr (hp.mem_iff.2 hr1)] at ha
      cases ha
/-- an entry, in the table's words -/
theorem entry_at {L : List Rt} {D : DataW Unit} (h : RepD D L) {x : ByteArray} {c : Int} {y : DataW Unit} (hat : ∀ zd, D.atKey (kyL x) zd = y) (hy : y = .lit (.int .i64 c)) : atR L x = some c := by
  have h1 := has_true_of_atKey hat
  rw [h.has] at h1
  have h2 := h.at_ x
  rw [hat, hy] at h2
  injection h2 with h2
  injection h2 with _ h2
  cases ha : atR L x with
  | none => rw [ha] at h1; cases h1
  | some t => rw [ha] at h2; rw [h2]; rfl
theorem OwL.base {T : TypeId} {w : World} {b g n c : Nat} {F : List Rt} (h : OwL rtE T w b (.slice (some ⟨g, 0, none⟩) n c) F) : b ≤ g ∧ g < w.heap.size := World.ownsRow.lt h g rfl
theorem grown_none {w w' : World} (h : Below w.heap.size w w') : w.grownBy w' none := ⟨h.os, h.tape, h.output, h.size, fun k hk _ => h.block k hk⟩
theorem below_grown {w w' : World} (h : w.grownBy w' none) : Below w.heap.size w w' := ⟨h.os, h.tape, h.output, h.size, fun k hk => h.block k hk (by simp)⟩
set_option maxHeartbeats 4000000 in
theorem clist_any {u : World} {G B : Nat} {w : World} {L : List Rt} {O : Nat → Prop} (h : TblA u G B w L O) :
    Calls Try.prog 19 #[.pointer (some ⟨G, 0, none⟩)] w (TList (TblA u G B) w O L) := by
  have HT := Lib.hid h
  have c0 := h.cell
  have m1 := fun ty => h.mp.len ty
  have hlen : L.length ≤ 24 := h.ok.few
  obtain ⟨D, hown, hrep⟩ := h.mp
  have HREP := Lib.hid hrep
  obtain ⟨w1, hmk, ho1, hg1⟩ := makeL w w.heap.size L.length (Nat.le_refl _) (by omega)
  have B1 : Below w.heap.size w w1 := (Below.refl _ _).grown hg1 (Nat.le_refl _) (fun k hk => by cases hk)
  have hown1 := hown.kept hg1 (by simp)
  have HA1 := Lib.hid (h.below B1)
  have c1 := HA1.out.cell
  have HO1 := Lib.hid ho1
  have HB1 := Lib.hid B1
  have HLEN := Lib.hid hlen
  have HSZ := Lib.hid hrep.size
  have Hg1 := Lib.hid hg1
  clear h hrep hown ho1 hg1 B1 hlen
  go_enter Try.func19, Try.ntmps19
  go_wp2_with (at_range; refine wpList_range_own _ rfl _ 48 rfl 9 3 kLaw Try.underlying48 _ B L.length _ rfl hown1 ?_; intro w0 hrg0 hg0 hs0)
  go_frame
  go_loopw [3] (fun v wr => ∃ (left : Lit → Bool) (cnt : Nat) (F : List Rt) (g c : Nat), v = .slice (some ⟨g, 0, none⟩) F.length c ∧ wr.ranges Try.prog 9 (plainElem Try.prog 3) B w1.heap.size L.length D left cnt ∧ F.length + cnt ≤ L.length ∧
      OwL rtE 41 wr w.heap.size (.slice (some ⟨g, 0, none⟩) F.length c) F ∧ Col L left F ∧ Below w.heap.size w wr) (fun _ wr => wr.rangeLeft B w1.heap.size)
  case atStart =>
    exact ⟨_, _, [], w.heap.size, L.length, rfl, hrg0, by rw [HSZ.out]; simp, World.ownsRow.kept HO1.out hg0 (Or.inr (by simp [Value.ownBlock])), Col.start HREP.out, HB1.out.grown hg0 HB1.out.size (fun k hk => by cases hk)⟩
  case round =>
    obtain ⟨left, cnt, F, g, c, rfl, hrg, hcnt, ho, hC, hb⟩ := hrel
    have HO := Lib.hid ho
    have HC := Lib.hid hC
    have HB := Lib.hid hb
    have HCNT := Lib.hid hcnt
    have HG := Lib.hid hrg
    clear ho hC hb hcnt
    go_wp2_with (at_next; refine wpList_next_ranges _ rfl _ rfl 9 kLaw (plainElem Try.prog 3) Value.string (Value.int .i64) (fun key kl hk => by obtain ⟨x, hx, _⟩ := Maps.keyOf_str Try.underlying9 hk; exact ⟨_, hx⟩) (fun v y hv => by obtain ⟨c, rfl, _⟩ := plainElem_int_inv Try.underlying3 hv; exact ⟨c, rfl⟩) B w1.heap.size L.length _ _ _ rfl hrg ?_ ?_)
    · intro hc0 hl0
      have HS := Lib.hid (sort15_any HO.out (by have := HCNT.out; have := HLEN.out; omega) HC.out.apart)
      have HL := Lib.hid hl0
      clear hc0 hl0 hrg
      go_wp2_with fail
      refine HS.out.mono ?_
      rintro e w2 ⟨rfl, F', hp, hr, ho2, hg2⟩
      have hF := HC.out.done HREP.out.rise HL.out hp hr
      have hFl : F.length = L.length := by rw [← hF]; exact hp.length_eq.symm
      rw [hF] at ho2
      have HO2 := Lib.hid ho2
      have Hg2 := Lib.hid hg2
      clear hp hr hF ho2 hg2 HS
      go_wp2_with fail
      go_ret
      rw [hFl] at HO2
      have hgb := HO.out.base
      have hb2 : Below w.heap.size w w2 := HB.out.grown Hg2.out HB.out.size (fun k hk => by cases hk; exact hgb.1)
      refine ⟨.slice (some ⟨g, 0, none⟩) L.length c, O, rfl, HO2.out, fun k hk hO => ?_, HT.out.below hb2, ChgS.of_below hb2, fun _ hk => Or.inl hk⟩
      injection hk with hk
      have h1 := HT.out.mp.lt
      have h2 := HT.out.lG
      rcases (HT.out.own k).1 hO with rfl | rfl
      · have : g = k := hk
        omega
      · have : g = k := hk
        omega
    · intro x cc kl yd yp w2 cnt2 hkey hlk hv hat hrg2 hlt hg2 hs2 hen
      obtain ⟨l, ex, rfl, hxl⟩ := Maps.keyOf_str Try.underlying9 hkey
      obtain rfl : x = ⟨l.toArray⟩ := by injection ex
      obtain ⟨c', ec, ey, _⟩ := plainElem_int_inv Try.underlying3 hv
      obtain rfl : cc = c' := by injection ec
      have hyd : yd = .lit (.int .i64 cc) := congrArg Prod.fst ey
      have hkl : (Lit.string l) = kyL ⟨l.toArray⟩ := rfl
      generalize hx : (⟨l.toArray⟩ : ByteArray) = x at *
      rw [hkl] at hlk hat hrg2
      have hxc := entry_at HREP.out hat hyd
      have hx8 : x.size ≤ 8 := (HT.out.ok.size _ (atR_mem hxc)).2
      have HC2 := Lib.hid (HC.out.step hlk hxc)
      have HRG2 := Lib.hid hrg2
      have HLT := Lib.hid hlt
      have ho2 : OwL rtE 41 w2 w.heap.size (.slice (some ⟨g, 0, none⟩) F.length c) F := World.ownsRow.kept HO.out hg2 (Or.inr (row_ne_iter HO.out HG.out).symm)
      have hb2 : Below w.heap.size w w2 := HB.out.grown hg2 HB.out.size (fun k hk => by cases hk; exact HB1.out.size)
      have HO2 := Lib.hid ho2
      have HB2 := Lib.hid hb2
      have HX8 := Lib.hid hx8
      clear hs2 hx hkl hlk hat hrg2 hlt hxc hx8 ho2 hb2 hg2 hkey hxl ex ec ey hyd hv hrg
      go_wp2_with fail
      refine (sclone_any x w2 (by have := HX8.out; omega)).mono ?_
      rintro e w3 ⟨rfl, hb3⟩
      have HB3 := Lib.hid (HB2.out.trans (hb3.mono HB2.out.size))
      have HO3 := Lib.hid (HO2.out.keep hb3)
      have HRG3 := Lib.hid ((HRG2.out.kept (grown_none hb3) (by simp) (by simp)).alloc (.cells #[.string x, .int .i64 cc] 41))
      obtain ⟨A2, c2', w4, hr, ho4, hg4, _, hb4⟩ := run_appL rtTy (w3.alloc (.cells #[.string x, .int .i64 cc] 41)) w.heap.size _ _ (HO3.out.alloc _) _ 1 [⟨x, cc⟩] (one_el (E := rtE) (T := 41) w3 ⟨x, cc⟩) (fun h => by cases h) (by have := HCNT.out; have := HLEN.out; simp only [List.length_singleton]; omega) (by have := HCNT.out; have := HLEN.out; simp only [List.length_singleton]; omega) (by have := HB3.out.size; simp; omega)
      have HR := Lib.hid hr
      have HO4 := Lib.hid ho4
      have hBl := HT.out.mp.lt
      have HRG4 := Lib.hid (HRG3.out.kept hg4 (row_ne_low (HO3.out.alloc (.cells #[.string x, .int .i64 cc] 41)) hBl) (row_ne_iter (HO3.out.alloc (.cells #[.string x, .int .i64 cc] 41)) HRG3.out))
      have HB4 := Lib.hid ((HB3.out.alloc HB3.out.size (.cells #[.string x, .int .i64 cc] 41)).trans hb4)
      clear hr ho4 hg4 hb4 hb3 hBl
      go_wp2_with (at_builtin; refine wpList_runL (.tmp 22) (.tmp 27) rfl rfl rfl rfl rfl HR.out ?_)
      go_roundw
      case rel =>
        have hl4 := HO4.out.lies (by simp)
        obtain ⟨g4, c4, e4, _, _, _⟩ := hl4
        injection e4 with e5 e6 e7
        subst e5 e7
        refine ⟨_, cnt2, F ++ [⟨x, cc⟩], g4, c2', by rw [List.length_append]; rfl, HRG4.out, ?_, ?_, HC2.out, HB4.out⟩
        · have := HCNT.out
          have := HLT.out
          rw [List.length_append, List.length_singleton]
          omega
        · rw [List.length_append]
          exact HO4.out
      case measure => rw [HRG4.out.left_eq, HG.out.left_eq]; exact HLT.out
end Go.Proofs.Ytcohkhjfncknpaa
