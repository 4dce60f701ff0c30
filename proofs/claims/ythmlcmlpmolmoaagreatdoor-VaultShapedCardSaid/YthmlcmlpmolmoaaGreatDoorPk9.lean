/- 12 texts in one, in their order. -/
import Derived.Test.YthmlcmlpmolmoaaGreatDoorPk8
import Derived.Lib.LaidTab
/- Layer 13: a tenant's own key is made. -/
namespace Go.Proofs.YthmlcmlpmolmoaaGreatDoor
set_option maxRecDepth 100000
open Go.RowKit
theorem run_ldPB (A p : Addr) (w : World) (h : w.cell? A = some (.pointer (some p))) : (Instr.loadAt 176 (.pointer (some A))).run Tryz.prog w = .ok (.pointer (some p)) w := by go_simp
theorem run_ldPR (A p : Addr) (w : World) (h : w.cell? A = some (.pointer (some p))) : (Instr.loadAt 63 (.pointer (some A))).run Tryz.prog w = .ok (.pointer (some p)) w := by go_simp
theorem run_ldI (A : Addr) (x : Int) (w : World) (h : w.cell? A = some (.int .i64 x)) : (Instr.loadAt 3 (.pointer (some A))).run Tryz.prog w = .ok (.int .i64 x) w := by go_simp
theorem run_ldSl (A p : Addr) (n c : Nat) (w : World) (h : w.cell? A = some (.slice (some p) n c)) : (Instr.loadAt 22 (.pointer (some A))).run Tryz.prog w = .ok (.slice (some p) n c) w := by go_simp
theorem run_fbK (G o : Nat) (w : World) : (Instr.fieldAt 127 (.pointer (some ⟨G, o, none⟩)) 1).run Tryz.prog w = .ok (.pointer (some ⟨G, o + 3, none⟩)) w := by go_simp
theorem run_fbM (G : Nat) (w : World) : (Instr.fieldAt 130 (.pointer (some ⟨G, 0, none⟩)) 0).run Tryz.prog w = .ok (.pointer (some ⟨G, 0, none⟩)) w := by go_simp
theorem run_bs2 (a b : ByteArray) (w : World) : (Instr.buildSlice 36 2 #[(0, .string a), (1, .string b)]).run Tryz.prog w = .ok (.slice (some ⟨w.heap.size, 0, none⟩) 2 2) (w.alloc (.cells #[.string a, .string b] 9)) := by go_simp
/-- the labels that lie in a row of two -/
theorem sls2 {w : World} {B : Nat} {a b : ByteArray} (h : w.heap[B]? = some (.cells #[.string a, .string b] 9 (0, 0))) : SlS w (some ⟨B, 0, none⟩) 2 (lab2 a b) := fun _ =>
  ⟨B, 0, rfl, (Array.getElem?_eq_some_iff.1 h).1, fun j hj => by
    rcases (show j = 0 ∨ j = 1 by omega) with rfl | rfl
    · exact (Lib.cell_of_heap h 0).trans rfl
    · exact (Lib.cell_of_heap h 1).trans rfl⟩
theorem lab2_size {a b : ByteArray} {K : Nat} (ha : a.size ≤ K) (hb : b.size ≤ K) (j : Nat) : (lab2 a b j).size ≤ K := by
  unfold lab2
  split
  · exact ha
  · exact hb
/-- copy of 32 bytes into the middle of a block -/
theorem run_copy32 (w : World) (ty : TypeId) (G o : Nat) (A : Option Addr) (c : Nat) (f cur : Nat → Nat) (hA : SlB w A 32 f) (hG : Arr w G o 32 cur) :
    (Builtin.copy_ #[22, 22] ty #[.slice (some ⟨G, o, none⟩) 32 32, .slice A 32 c]).run Tryz.prog w = .ok (goInt 32) (w.setCells G o (bytesL 32 f)) := by
  obtain ⟨B, q, rfl, _, hc⟩ := hA (by decide)
  have hl : (bytesL 32 f).length = 32 := bytesL_length _ _
  have := run_copy_cells (P := Tryz.prog) w 22 22 ty 5 G o 32 32 ⟨B, q, none⟩ 32 c (bytesL 32 f) Tryz.underlying22 sizeOf8 hl
    (fun j v hj => by
      obtain ⟨hj2, rfl⟩ := bytesL_get _ _ j v hj
      rw [Go.WideShapes.add_plain]
      exact (hc j hj2).2)
    (fun j hj => by rw [hl] at hj; rw [(hG j hj).1]; rfl) (fun j hj => by rw [hl] at hj; exact (hG j hj).2) (bytes_one 32 f)
  rw [hl] at this
  exact this
--DEFS kb
def kbG (G o M n c : Nat) (tn : Int) (F : Nat → Nat) : Nat → Value → World → Prop
  | 0, v, _ => v = .pointer (some ⟨G, o, none⟩)
  | 1, v, _ => v = .pointer (some ⟨G, o, none⟩)
  | 2, v, _ => v = .pointer (some ⟨G, o + 3, none⟩)
  | 3, v, _ => v = .slice (some ⟨G, o + 3, none⟩) 32 32
  | 4, v, _ => v = .pointer (some ⟨G, 0, none⟩)
  | 5, v, _ => v = .pointer (some ⟨G, 0, none⟩)
  | 6, v, _ => v = .pointer (some ⟨G, 0, none⟩)
  | 7, v, _ => v = .slice (some ⟨M, 0, none⟩) n c
  | 8, v, _ => v = .int .i64 tn
  | 9, v, _ => v = .string (itoaB tn)
  | 10, v, w => ∃ B, v = .slice (some ⟨B, 0, none⟩) 2 2 ∧ w.heap[B]? = some (.cells #[.string bTenant, .string (itoaB tn)] 9 (0, 0))
  | 11, v, w => ∃ A c, v = .slice A 32 c ∧ SlB w A 32 F
  | _, _, _ => True
theorem kbG_stays (G o M n c : Nat) (tn : Int) (F : Nat → Nat) : ∀ i v w w', kbG G o M n c tn F i v w → Below w.heap.size w w' → kbG G o M n c tn F i v w'
  | 0, _, _, _, h, _ => h
  | 1, _, _, _, h, _ => h
  | 2, _, _, _, h, _ => h
  | 3, _, _, _, h, _ => h
  | 4, _, _, _, h, _ => h
  | 5, _, _, _, h, _ => h
  | 6, _, _, _, h, _ => h
  | 7, _, _, _, h, _ => h
  | 8, _, _, _, h, _ => h
  | 9, _, _, _, h, _ => h
  | 10, v, w, w', h_, hb => by
    obtain ⟨B, h1, h2⟩ := h_; exact ⟨B, h1, (hb.block B (Array.getElem?_eq_some_iff.1 h2).1).trans h2⟩
  | 11, v, w, w', h_, hb => by
    obtain ⟨A, c, h1, h2⟩ := h_; exact ⟨A, c, h1, h2.keep hb⟩
  | _ + 12, _, _, _, _, _ => trivial
--END DEFS kb
set_option maxHeartbeats 1600000 in
theorem make_key (G o M n c bb br bt : Nat) (t : Nat) (key : Nat → Nat) (w : World) (hn : n ≤ 64) (ht : t ≤ 64) (he : GT w ∧ P10 w)
    (hb : w.cell? ⟨bb, 0, none⟩ = some (.pointer (some ⟨G, o, none⟩))) (hr : w.cell? ⟨br, 0, none⟩ = some (.pointer (some ⟨G, 0, none⟩))) (hv : w.cell? ⟨bt, 0, none⟩ = some (.int .i64 (t : Int)))
    (hm : w.cell? ⟨G, 0, none⟩ = some (.slice (some ⟨M, 0, none⟩) n c)) (hk : SlB w (some ⟨M, 0, none⟩) n key) (hg : Arr w G (o + 3) 32 (fun _ => 0)) :
    Calls Tryz.prog 114 #[.pointer (some ⟨bb, 0, none⟩), .pointer (some ⟨br, 0, none⟩), .pointer (some ⟨bt, 0, none⟩)] w fun e w' => e = .returned (.tuple #[]) ∧
      ∃ W, Below w.heap.size w W ∧ w' = W.setCells G (o + 3) (bytesL 32 (ownF n key t)) := by
  have HCB := Lib.hid (show ∀ w', Below w.heap.size w w' → w'.cell? ⟨bb, 0, none⟩ = some (.pointer (some ⟨G, o, none⟩)) from fun w' h => (h.cell (p := ⟨bb, 0, none⟩) (block_lt hb)).trans hb)
  have HCR := Lib.hid (show ∀ w', Below w.heap.size w w' → w'.cell? ⟨br, 0, none⟩ = some (.pointer (some ⟨G, 0, none⟩)) from fun w' h => (h.cell (p := ⟨br, 0, none⟩) (block_lt hr)).trans hr)
  have HCT := Lib.hid (show ∀ w', Below w.heap.size w w' → w'.cell? ⟨bt, 0, none⟩ = some (.int .i64 (t : Int)) from fun w' h => (h.cell (p := ⟨bt, 0, none⟩) (block_lt hv)).trans hv)
  have HCM := Lib.hid (show ∀ w', Below w.heap.size w w' → w'.cell? ⟨G, 0, none⟩ = some (.slice (some ⟨M, 0, none⟩) n c) from fun w' h => (h.cell (p := ⟨G, 0, none⟩) (block_lt hm)).trans hm)
  have HEN := Lib.hid (show ∀ w', Below w.heap.size w w' → GT w' ∧ P10 w' from fun w' h => ⟨he.1.keep h, he.2.keep h⟩)
  have HFO := Lib.hid (show ∀ w' B, Below w.heap.size w w' → w'.heap[B]? = some (.cells #[.string bTenant, .string (itoaB (t : Int))] 9 (0, 0)) →
      Calls Tryz.prog 31 #[.slice (some ⟨M, 0, none⟩) n c, .slice (some ⟨B, 0, none⟩) 2 2] w' (FoldP w' 32 (ownF n key t)) from fun w' B h hh =>
    fold_any (some ⟨M, 0, none⟩) n c key (some ⟨B, 0, none⟩) 2 2 (lab2 bTenant (itoaB (t : Int))) w' (by omega) (hk.keep h) (fun h => by cases h) (by decide) (sls2 hh)
      (fun j _ => Nat.le_trans (lab2_size (K := 6) (by decide) (Nat.le_trans (itoaB_small t (by omega)) (by decide)) j) (by decide)) (he.1.keep h))
  have HTN := Lib.hid (show -9223372036854775808 ≤ (t : Int) ∧ (t : Int) ≤ 9223372036854775807 by omega)
  have HG := Lib.hid hg
  obtain ⟨tn, htn⟩ : ∃ tn : Int, tn = (t : Int) := ⟨_, rfl⟩
  obtain ⟨F, hF⟩ : ∃ F, F = ownF n key t := ⟨_, rfl⟩
  rw [← htn] at HCT HTN
  rw [← htn, ← hF] at HFO
  rw [← hF]
  clear hb hr hv hm hk hg he hn ht htn hF
  go_enter Tryz.func114, Tryz.ntmps114
  go_wp2_with fail
  refine ord.wp_region_ordT 12 [[], [0], [1], [2], [], [4], [5], [6], [], [8], [9], [7, 10]] [(0, 3), (1, 4), (2, 5), (3, 6), (4, 7), (5, 8), (6, 9), (7, 10), (8, 11), (9, 12), (10, 13), (11, 14)] (kbG G o M n c tn F) (by kernel_rfl) (by kernel_rfl) (by kernel_rfl) (kbG_stays _ _ _ _ _ _ _) ((ord.steps_cons ?_ (ord.steps_cons ?_ (ord.steps_cons ?_ (ord.steps_cons ?_ (ord.steps_cons ?_ (ord.steps_cons ?_ (ord.steps_cons ?_ (ord.steps_cons ?_ (ord.steps_cons ?_ (ord.steps_cons ?_ (ord.steps_cons ?_ (ord.steps_cons ?_ ord.steps_nil))))))))))))) ?_
  --STEPS kb
  · intro o ho x w hb hG
    obtain rfl := Option.some.inj ho
    clear ho
    refine Or.inl ⟨ord.want0 rfl, ?_⟩
    exact ord.makes_ld rfl rfl (run_ldPB _ _ w (HCB.out w (of_drew hb))) ⟨Below.refl _ _, rfl⟩
  · intro o ho x w hb hG
    obtain rfl := Option.some.inj ho
    clear ho
    have h3 : x 0 = .pointer (some ⟨G, o, none⟩) := hG (0, 3) (List.mem_of_getElem? (i := 0) rfl) rfl
    refine Or.inl ⟨ord.want0 rfl, ?_⟩
    exact ord.makes_nilCheck rfl h3 ⟨Below.refl _ _, rfl⟩
  · intro o ho x w hb hG
    obtain rfl := Option.some.inj ho
    clear ho
    have h4 : x 1 = .pointer (some ⟨G, o, none⟩) := hG (1, 4) (List.mem_of_getElem? (i := 1) rfl) rfl
    refine Or.inl ⟨ord.want0 rfl, ?_⟩
    exact ord.makes_fieldAddr rfl h4 (run_fbK G o w) ⟨Below.refl _ _, rfl⟩
  · intro o ho x w hb hG
    obtain rfl := Option.some.inj ho
    clear ho
    have h5 : x 2 = .pointer (some ⟨G, o + 3, none⟩) := hG (2, 5) (List.mem_of_getElem? (i := 2) rfl) rfl
    refine Or.inl ⟨ord.want0 rfl, ?_⟩
    exact ord.makes_slice rfl h5 rfl rfl rfl (all_arr 125 32 G (o + 3) Tryz.underlying125 (by decide) w) ⟨Below.refl _ _, rfl⟩
  · intro o ho x w hb hG
    obtain rfl := Option.some.inj ho
    clear ho
    refine Or.inl ⟨ord.want0 rfl, ?_⟩
    exact ord.makes_ld rfl rfl (run_ldPR _ _ w (HCR.out w (of_drew hb))) ⟨Below.refl _ _, rfl⟩
  · intro o ho x w hb hG
    obtain rfl := Option.some.inj ho
    clear ho
    have h7 : x 4 = .pointer (some ⟨G, 0, none⟩) := hG (4, 7) (List.mem_of_getElem? (i := 4) rfl) rfl
    refine Or.inl ⟨ord.want0 rfl, ?_⟩
    exact ord.makes_nilCheck rfl h7 ⟨Below.refl _ _, rfl⟩
  · intro o ho x w hb hG
    obtain rfl := Option.some.inj ho
    clear ho
    have h8 : x 5 = .pointer (some ⟨G, 0, none⟩) := hG (5, 8) (List.mem_of_getElem? (i := 5) rfl) rfl
    refine Or.inl ⟨ord.want0 rfl, ?_⟩
    exact ord.makes_fieldAddr rfl h8 (run_fbM G w) ⟨Below.refl _ _, rfl⟩
  · intro o ho x w hb hG
    obtain rfl := Option.some.inj ho
    clear ho
    have h9 : x 6 = .pointer (some ⟨G, 0, none⟩) := hG (6, 9) (List.mem_of_getElem? (i := 6) rfl) rfl
    refine Or.inl ⟨ord.want0 rfl, ?_⟩
    exact ord.makes_ld rfl h9 (run_ldSl _ _ _ _ w (HCM.out w (of_drew hb))) ⟨Below.refl _ _, rfl⟩
  · intro o ho x w hb hG
    obtain rfl := Option.some.inj ho
    clear ho
    refine Or.inl ⟨ord.want0 rfl, ?_⟩
    exact ord.makes_ld rfl rfl (run_ldI _ _ w (HCT.out w (of_drew hb))) ⟨Below.refl _ _, rfl⟩
  · intro o ho x w hb hG
    obtain rfl := Option.some.inj ho
    clear ho
    have h11 : x 8 = .int .i64 tn := hG (8, 11) (List.mem_of_getElem? (i := 8) rfl) rfl
    refine Or.inl ⟨ord.want0 rfl, ?_⟩
    exact ord.makes_call1 Tryz.func72 (by kernel_rfl) (by kernel_rfl) rfl h11 (itoa_any tn w HTN.out.1 HTN.out.2 (HEN.out w (of_drew hb)).2) (fun e w' h => ⟨_, h.1, h.2, rfl⟩)
  · intro o ho x w hb hG
    obtain rfl := Option.some.inj ho
    clear ho
    have h12 : x 9 = .string (itoaB tn) := hG (9, 12) (List.mem_of_getElem? (i := 9) rfl) rfl
    refine Or.inl ⟨ord.want0 rfl, ?_⟩
    exact ord.makes_build2 rfl rfl h12 (run_bs2 bTenant (itoaB tn) w) ⟨(Below.refl _ _).alloc (Nat.le_refl _) _, _, rfl, heap_alloc_new w _⟩
  · intro o ho x w hb hG
    obtain rfl := Option.some.inj ho
    clear ho
    have h10 : x 7 = .slice (some ⟨M, 0, none⟩) n c := hG (7, 10) (List.mem_of_getElem? (i := 7) rfl) rfl
    have h13 : kbG G o M n c tn F 10 (x 10) w := hG (10, 13) (List.mem_of_getElem? (i := 10) rfl) rfl
    refine Or.inl ⟨ord.want0 rfl, ?_⟩
    obtain ⟨B, hv, hh⟩ := h13
    exact ord.makes_call2 Tryz.func31 (by kernel_rfl) (by kernel_rfl) rfl h10 hv (HFO.out w B (of_drew hb) hh) (fun e w' h => by obtain ⟨⟨v, A, c2, g, he, hm⟩, h4⟩ := h; exact ⟨_, he, h4, A, c2, hm.val, hm.row⟩)
  --END STEPS kb
  · intro x w5 hb hG
    have e6 : x 3 = .slice (some ⟨G, o + 3, none⟩) 32 32 := hG (3, 6) (List.mem_of_getElem? (i := 3) rfl)
    obtain ⟨A, c2, e14, hs⟩ : kbG G o M n c tn F 11 (x 11) w5 := hG (11, 14) (List.mem_of_getElem? (i := 11) rfl)
    clear hG
    simp only [ord.puts, ord.put', List.set_cons_zero, List.set_cons_succ, if_true]
    rw [e6, e14]
    simp only [List.drop_succ_cons, List.drop_zero]
    have HB5 := Lib.hid hb
    have HCP := Lib.hid (fun ty => run_copy32 w5 ty G (o + 3) A c2 F _ hs (HG.out.keep hb))
    clear hb hs e6 e14
    have hcp := HCP.out 3
    go_wp2_with fail
    go_end0
    exact ⟨rfl, w5, HB5.out, rfl⟩
end Go.Proofs.YthmlcmlpmolmoaaGreatDoor
/- sync.Once's slow road with the ring's function, by its contract. -/
namespace Go.Proofs.YthmlcmlpmolmoaaGreatDoor
open Go.MuLone

set_option maxRecDepth 100000 in
set_option maxHeartbeats 1600000 in
theorem slow_key (b off : Nat) (p1 p2 p3 : Value) (w : World) (h : OnceAt w b off 0 0) (R : World → Prop)
    (hF : Calls Tryz.prog 114 #[p1, p2, p3] (w.setCell ⟨b, off + 1, none⟩ (.int .i32 1)) fun e w' => e = .returned (.tuple #[]) ∧ R w') (hR : ∀ w', R w' → OnceAt w' b off 0 1) :
    Calls Tryz.prog 119 #[.pointer (some ⟨b, off, none⟩), .func (.func 114) #[] #[p1, p2, p3]] w fun e w' => e = .returned (.tuple #[]) ∧
      ∃ w1, R w1 ∧ w' = (w1.drew.setCell ⟨b, off, none⟩ (.int .u32 1)).setCell ⟨b, off + 1, none⟩ (.int .i32 0) := by
  have hl := run_call_load (P := Tryz.prog) Tryz.func149 (by kernel_rfl) (by kernel_rfl) (by kernel_rfl) .u32 (by kernel_rfl) (w := w.setCell ⟨b, off + 1, none⟩ (.int .i32 1)) (a := ⟨b, off, none⟩) (x := 0) ((World.cell?_setCell_other _ ⟨b, off + 1, none⟩ ⟨b, off, none⟩ _ (by simp)).trans h.done)
  have hnot : ∀ (x : Bool) (w : World), (Op.unary .not (.bool x)).run Tryz.prog w = .ok (.bool (!x)) w := fun _ _ => rfl
  have HR := Lib.hid hR
  have HF := Lib.hid hF
  have H := Lib.hid h
  clear hR hF h
  go_enter_defers Tryz.func119, Tryz.ntmps119
  go_wp2_with (first | (go_at_call 150; refine (lock_free muLib ⟨b, off + 1, none⟩ _ H.out.lock H.out.flock).mono ?_; rintro e w' ⟨rfl, rfl⟩) | (go_at_call 118; go_in) | (go_at_call 114; refine HF.out.mono ?_; rintro e w' ⟨rfl, hw⟩; have HW := Lib.hid hw; clear hw))
  have h1 := HR.out _ HW.out
  -- the door: two deferred calls, the last laid first
  refine leaves_cons (f := 152) (args := #[.pointer (some ⟨b, off, none⟩), .bool true]) (by simp) (by simp [go_sem]) ?_
  refine (store_deferred ⟨b, off, none⟩ (.int .u32 0) .returning _ h1.done h1.fdone).mono ?_
  rintro e u' w'' ⟨rfl, rfl, rfl⟩
  refine leaves_cons (f := 151) (args := #[.pointer (some ⟨b, off + 1, none⟩)]) (by simp [settle]) (by simp [go_sem]) ?_
  refine (unlock_deferred muLib ⟨b, off + 1, none⟩ _ _ ?_ (by simp [h1.flock])).mono ?_
  · refine (World.cell?_setCell_other _ ⟨b, off, none⟩ ⟨b, off + 1, none⟩ _ (by simp)).trans ?_
    rw [World.cell?_drew]
    exact h1.lock
  rintro e u' w'' ⟨rfl, rfl, rfl⟩
  exact ⟨_, results_none rfl _ _ _, rfl, w', HW.out, rfl⟩

/-- '(*sync.Once).Do', not yet done, the lock free -/
theorem do_first_key (b off : Nat) (p1 p2 p3 : Value) (w : World) (h : OnceAt w b off 0 0) (R : World → Prop)
    (hF : Calls Tryz.prog 114 #[p1, p2, p3] (w.setCell ⟨b, off + 1, none⟩ (.int .i32 1)) fun e w' => e = .returned (.tuple #[]) ∧ R w') (hR : ∀ w', R w' → OnceAt w' b off 0 1) :
    Calls Tryz.prog 78 #[.pointer (some ⟨b, off, none⟩), .func (.func 114) #[] #[p1, p2, p3]] w fun e w' => e = .returned (.tuple #[]) ∧
      ∃ w1, R w1 ∧ w' = (w1.drew.setCell ⟨b, off, none⟩ (.int .u32 1)).setCell ⟨b, off + 1, none⟩ (.int .i32 0) := by
  have hl := run_call_load (P := Tryz.prog) Tryz.func149 (by kernel_rfl) (by kernel_rfl) (by kernel_rfl) .u32 (by kernel_rfl) h.done
  have hnot : ∀ (x : Bool) (w : World), (Op.unary .not (.bool x)).run Tryz.prog w = .ok (.bool (!x)) w := fun _ _ => rfl
  have HS := Lib.hid (slow_key b off p1 p2 p3 w h R hF hR)
  clear hR hF h
  go_enter Tryz.func78, Tryz.ntmps78
  go_wp2_with (first | (go_at_call 119; refine HS.out.mono ?_; rintro e w' ⟨rfl, hw⟩; have HW := Lib.hid hw; clear hw) | (go_at_call 118; go_in))
  go_end0
  exact ⟨rfl, HW.out⟩
end Go.Proofs.YthmlcmlpmolmoaaGreatDoor
/- Layer 13: a tenant's own key, made once. -/
namespace Go.Proofs.YthmlcmlpmolmoaaGreatDoor
set_option maxRecDepth 100000
open Go.RowKit
theorem fin_once {G o : Nat} {W0 W : World} {F : Nat → Nat} (o1 : OnceAt W0 G o 0 1) (hG0 : G < W0.heap.size) (hW : Below W0.heap.size W0 W) : OnceAt (W.setCells G (o + 3) (bytesL 32 F)) G o 0 1 := by
  have s := Sect.setCells (G := G) (a := o + 3) (b := o + 35) (bytesL 32 F) (o + 3) W (Sect.refl _ _ _ _) (Nat.le_refl _) (by rw [bytesL_length]; omega)
  have o2 := once_block o1 (hW.block G hG0)
  exact ⟨(s.cell o (by omega)).trans o2.done, (s.cell (o + 1) (by omega)).trans o2.lock, (s.froz o).trans o2.fdone, (s.froz (o + 1)).trans o2.flock⟩
theorem last_once {G o : Nat} {w3 : World} {F : Nat → Nat} (o3 : OnceAt w3 G o 0 1) (a3 : Arr w3 G (o + 3) 32 F) :
    OnceAt ((w3.drew.setCell ⟨G, o, none⟩ (.int .u32 1)).setCell ⟨G, o + 1, none⟩ (.int .i32 0)) G o 1 0 ∧ Arr ((w3.drew.setCell ⟨G, o, none⟩ (.int .u32 1)).setCell ⟨G, o + 1, none⟩ (.int .i32 0)) G (o + 3) 32 F := by
  refine ⟨⟨(cell_off (by omega) _).trans (World.cell?_setCell_same w3.drew ⟨G, o, none⟩ _ (u := .int .u32 0) ?_), World.cell?_setCell_same _ ⟨G, o + 1, none⟩ _ (u := .int .i32 1) ((cell_off (by omega) _).trans ?_), ?_, ?_⟩, (a3.drew.setApart (k := o) (by omega) (.int .u32 1)).setApart (k := o + 1) (by omega) (.int .i32 0)⟩
  · exact o3.done
  · exact o3.lock
  · rw [World.frozen?_setCell, World.frozen?_setCell]; exact o3.fdone
  · rw [World.frozen?_setCell, World.frozen?_setCell]; exact o3.flock
theorem lock_once {G o : Nat} {w : World} (h1 : OnceAt w G o 0 0) (h2 : Arr w G (o + 3) 32 (fun _ => 0)) :
    OnceAt (w.setCell ⟨G, o + 1, none⟩ (.int .i32 1)) G o 0 1 ∧ Arr (w.setCell ⟨G, o + 1, none⟩ (.int .i32 1)) G (o + 3) 32 (fun _ => 0) :=
  ⟨⟨(cell_off (by omega) _).trans h1.done, World.cell?_setCell_same w ⟨G, o + 1, none⟩ _ h1.lock, by rw [World.frozen?_setCell]; exact h1.fdone, by rw [World.frozen?_setCell]; exact h1.flock⟩, h2.setApart (by omega) _⟩
/-- done for the first time -/
theorem first_ring (G M c n o t bb br bt : Nat) (key F : Nat → Nat) (u w : World) (hgt : GT u) (hp : P10 u) (hbel : Below u.heap.size u w) (huG : u.heap.size ≤ G) (hne : M ≠ G) (hn : n ≤ 64) (ht : t ≤ 64) (hF : ownF n key t = F)
    (ho : 1 ≤ o) (hcell : w.cell? ⟨G, 0, none⟩ = some (.slice (some ⟨M, 0, none⟩) n c)) (hbytes : SlB w (some ⟨M, 0, none⟩) n key) (h1 : OnceAt w G o 0 0) (h2 : Arr w G (o + 3) 32 (fun _ => 0))
    (hb : w.cell? ⟨bb, 0, none⟩ = some (.pointer (some ⟨G, o, none⟩))) (hr : w.cell? ⟨br, 0, none⟩ = some (.pointer (some ⟨G, 0, none⟩))) (hv : w.cell? ⟨bt, 0, none⟩ = some (.int .i64 (t : Int)))
    (nb : bb ≠ G) (nr : br ≠ G) (nt : bt ≠ G) :
    Calls Tryz.prog 78 #[.pointer (some ⟨G, o, none⟩), .func (.func 114) #[] #[.pointer (some ⟨bb, 0, none⟩), .pointer (some ⟨br, 0, none⟩), .pointer (some ⟨bt, 0, none⟩)]] w fun e w' =>
      e = .returned (.tuple #[]) ∧ OnceAt w' G o 1 0 ∧ Arr w' G (o + 3) 32 F ∧ Sect G o (o + 35) w w' := by
  have hlt : G < w.heap.size := block_lt hcell
  have s1 : Sect G o (o + 35) w (w.setCell ⟨G, o + 1, none⟩ (.int .i32 1)) := (Sect.refl _ _ _ _).setCell (by omega) (by omega) _
  obtain ⟨o1, a1⟩ := lock_once h1 h2
  have hcl : ∀ q v, q ≠ G → w.cell? ⟨q, 0, none⟩ = some v → (w.setCell ⟨G, o + 1, none⟩ (.int .i32 1)).cell? ⟨q, 0, none⟩ = some v := fun q v hq hc => (s1.chg.cell (block_lt hc) hq).trans hc
  have b1 : Below u.heap.size u (w.setCell ⟨G, o + 1, none⟩ (.int .i32 1)) := hbel.trans (s1.chg.below hbel.size huG)
  have hmk := make_key G o M n c bb br bt t key (w.setCell ⟨G, o + 1, none⟩ (.int .i32 1)) hn ht ⟨hgt.keep b1, hp.keep b1⟩ (hcl _ _ nb hb) (hcl _ _ nr hr) (hcl _ _ nt hv) ((s1.cell 0 (by omega)).trans hcell) (slB_chg hbytes s1.chg hne) a1
  rw [hF] at hmk
  have hG0 : G < (w.setCell ⟨G, o + 1, none⟩ (.int .i32 1)).heap.size := Nat.lt_of_lt_of_le hlt s1.chg.size
  refine (do_first_key G o _ _ _ w h1 (fun w1 => ∃ W, Below (w.setCell ⟨G, o + 1, none⟩ (.int .i32 1)).heap.size (w.setCell ⟨G, o + 1, none⟩ (.int .i32 1)) W ∧ w1 = W.setCells G (o + 3) (bytesL 32 F)) hmk ?_).mono ?_
  · intro w1 hw
    obtain ⟨W, hW, e⟩ := hw
    rw [e]
    exact fin_once o1 hG0 hW
  · intro e w' hw
    obtain ⟨he, w1, hw1, e2⟩ := hw
    obtain ⟨W, hW, e1⟩ := hw1
    have s3 : Sect G o (o + 35) w w1 := by rw [e1]; exact Sect.setCells _ _ W (s1.below hW hlt) (by omega) (by rw [bytesL_length]; omega)
    have o3 : OnceAt w1 G o 0 1 := by rw [e1]; exact fin_once o1 hG0 hW
    have a3 : Arr w1 G (o + 3) 32 F := by rw [e1]; exact (a1.of_block (hW.block G hG0)).setCells _
    obtain ⟨o5, a5⟩ := last_once o3 a3
    rw [e2]
    exact ⟨he, o5, a5, (s3.drew.setCell (k := o) (Nat.le_refl _) (by omega) (.int .u32 1)).setCell (k := o + 1) (by omega) (by omega) (.int .i32 0)⟩
theorem once_ring (G M c n k bb br bt : Nat) (key : Nat → Nat) (u w : World) (h : RingAt u w G M c n key) (hk : k < 64)
    (hb : w.cell? ⟨bb, 0, none⟩ = some (.pointer (some ⟨G, 1 + k * 35, none⟩))) (hr : w.cell? ⟨br, 0, none⟩ = some (.pointer (some ⟨G, 0, none⟩))) (hv : w.cell? ⟨bt, 0, none⟩ = some (.int .i64 ((k + 1 : Nat) : Int)))
    (nb : bb ≠ G) (nr : br ≠ G) (nt : bt ≠ G) :
    Calls Tryz.prog 78 #[.pointer (some ⟨G, 1 + k * 35, none⟩), .func (.func 114) #[] #[.pointer (some ⟨bb, 0, none⟩), .pointer (some ⟨br, 0, none⟩), .pointer (some ⟨bt, 0, none⟩)]] w fun e w' =>
      e = .returned (.tuple #[]) ∧ RingAt u w' G M c n key ∧ Arr w' G (1 + k * 35 + 3) 32 (ownF n key (k + 1)) ∧ Chg G w w' := by
  rcases h.ten k hk with ⟨h1, h2⟩ | ⟨h1, h2⟩
  · refine (first_ring G M c n (1 + k * 35) (k + 1) bb br bt key (ownF n key (k + 1)) u w h.gt h.p10 h.bel h.uG h.ne h.len.2 (by omega) rfl (by omega) h.cell h.bytes h1 h2 hb hr hv nb nr nt).mono ?_
    rintro e w' ⟨he, h3, h4, h5⟩
    exact ⟨he, h.sect (k := k) h5 (Or.inr ⟨h3, h4⟩), h4, h5.chg⟩
  · refine (do_done G (1 + k * 35) _ 0 w h1).mono ?_
    rintro e w' ⟨he, rfl⟩
    exact ⟨he, h, h2, Chg.refl _ _⟩
set_option maxHeartbeats 1600000 in
theorem begin_any (G M c n k : Nat) (tn : Int) (key : Nat → Nat) (u w : World) (h : RingAt u w G M c n key) (hk : k < 64) (ht : tn = ((k + 1 : Nat) : Int)) :
    Calls Tryz.prog 71 #[.pointer (some ⟨G, 0, none⟩), .int .i64 tn] w fun e w' =>
      e = .returned (.slice (some ⟨G, 1 + k * 35 + 3, none⟩) 32 32) ∧ RingAt u w' G M c n key ∧ Arr w' G (1 + k * 35 + 3) 32 (ownF n key (k + 1)) ∧ Chg G w w' := by
  have ht1 : tn - 1 = (k : Int) := by omega
  have ht2 : 1 ≤ tn := by omega
  have ht3 : tn ≤ 64 := by omega
  have hki : (k : Int) < 64 := by omega
  have H := Lib.hid h
  have HT := Lib.hid ht
  clear h ht
  go_enter Tryz.func71, Tryz.ntmps71
  go_wp2_with fail
  go_region
  have e1 : (w.alloc (.cells #[.pointer (some ⟨G, 0, none⟩)] 63)).heap.size = w.heap.size + 1 := by simp
  have e2 : ((w.alloc (.cells #[.pointer (some ⟨G, 0, none⟩)] 63)).alloc (.cells #[.int .i64 tn] 3)).heap.size = w.heap.size + 1 + 1 := by simp
  have b1 := alloc_below w (.cells #[.pointer (some ⟨G, 0, none⟩)] 63)
  have c1 : (w.alloc (.cells #[.pointer (some ⟨G, 0, none⟩)] 63)).cell? ⟨w.heap.size, 0, none⟩ = some (.pointer (some ⟨G, 0, none⟩)) := (World.cell?_alloc_at _ _ _ _ rfl).trans rfl
  generalize w.alloc (.cells #[.pointer (some ⟨G, 0, none⟩)] 63) = w1 at *
  have b2 := alloc_below w1 (.cells #[.int .i64 tn] 3)
  have c2 : (w1.alloc (.cells #[.int .i64 tn] 3)).cell? ⟨w.heap.size + 1, 0, none⟩ = some (.int .i64 tn) := by rw [← e1]; exact (World.cell?_alloc_at _ _ _ _ rfl).trans rfl
  generalize w1.alloc (.cells #[.int .i64 tn] 3) = w2 at *
  have b3 := alloc_below w2 (.cells #[.pointer (some ⟨G, 1 + k * 35, none⟩)] 176)
  have c3 : (w2.alloc (.cells #[.pointer (some ⟨G, 1 + k * 35, none⟩)] 176)).cell? ⟨w.heap.size + 1 + 1, 0, none⟩ = some (.pointer (some ⟨G, 1 + k * 35, none⟩)) := by rw [← e2]; exact (World.cell?_alloc_at _ _ _ _ rfl).trans rfl
  generalize w2.alloc (.cells #[.pointer (some ⟨G, 1 + k * 35, none⟩)] 176) = w3 at *
  have b13 : Below w.heap.size w w3 := (b1.trans (b2.mono (by omega))).trans (b3.mono (by omega))
  have c2' := (b3.cell (p := ⟨w.heap.size + 1, 0, none⟩) (block_lt c2)).trans c2
  have c1' := (b3.cell (p := ⟨w.heap.size, 0, none⟩) (show w.heap.size < w2.heap.size by omega)).trans ((b2.cell (p := ⟨w.heap.size, 0, none⟩) (block_lt c1)).trans c1)
  have HO := Lib.hid (once_ring G M c n k (w.heap.size + 1 + 1) w.heap.size (w.heap.size + 1) key u w3.drew ((H.out.keep b13).keep (Below.refl _ _).drew) hk c3 c1' (by rw [← HT.out]; exact c2') (by have := H.out.lt; omega) (by have := H.out.lt; omega) (by have := H.out.lt; omega))
  have HB3 := Lib.hid b13
  have HC3 := Lib.hid c3
  have c3d : w3.drew.cell? ⟨w.heap.size + 1 + 1, 0, none⟩ = some (.pointer (some ⟨G, 1 + k * 35, none⟩)) := c3
  clear b1 b2 b3 c1 c2 c1' c2' b13 c3 e1 e2
  have hmf : ∀ (fn : Fn) (first cap : Array Value) (w : World), (Instr.makeFunc fn first cap).run Tryz.prog w = .ok (.func fn first cap) w := fun _ _ _ _ => rfl
  go_wp2_with fail
  refine HO.out.mono ?_
  rintro e w4 ⟨rfl, h1, h2, h3⟩
  have c4 : w4.cell? ⟨w.heap.size + 1 + 1, 0, none⟩ = some (.pointer (some ⟨G, 1 + k * 35, none⟩)) := (h3.cell (g := w.heap.size + 1 + 1) (block_lt c3d) (by have := H.out.lt; omega)).trans c3d
  have H1 := Lib.hid h1
  have H2 := Lib.hid h2
  have H3 := Lib.hid ((Chg.of_below (K := G) HB3.out).drew.trans h3)
  have hsa : ∀ W : World, (Instr.sliceAt 125 (.pointer (some ⟨G, 1 + k * 35 + 3, none⟩)) none none none).run Tryz.prog W = .ok (.slice (some ⟨G, 1 + k * 35 + 3, none⟩) 32 32) W := all_arr 125 32 G (1 + k * 35 + 3) Tryz.underlying125 (by decide)
  clear h1 h2 h3 c3d
  go_wp2_with fail
  go_ret
  exact ⟨rfl, H1.out, H2.out, H3.out⟩
end Go.Proofs.YthmlcmlpmolmoaaGreatDoor
/- Layer 13: Key. -/
namespace Go.Proofs.YthmlcmlpmolmoaaGreatDoor
set_option maxRecDepth 100000
open Go.RowKit
theorem Mine.none0 (w : World) (base : Nat) (f : Nat → Nat) (g : Nat) : Mine w base (.slice none 0 0) 0 f none 0 g :=
  ⟨rfl, fun h => absurd h (Nat.lt_irrefl 0), fun h => absurd h (Nat.lt_irrefl 0), fun h => absurd h (Nat.lt_irrefl 0), Nat.le_refl _, by unfold maxLen; omega, fun _ => ⟨rfl, rfl⟩⟩
/-- the labels that lie in a row of three -/
theorem sls3 (w : World) (a b c : ByteArray) : SlS (w.alloc (.cells #[.string a, .string b, .string c] 9)) (some ⟨w.heap.size, 0, none⟩) 3 (lab3 a b c) := fun _ =>
  ⟨w.heap.size, 0, rfl, by simp, fun j hj => by
    rcases (show j = 0 ∨ j = 1 ∨ j = 2 by omega) with rfl | rfl | rfl
    · exact (World.cell?_alloc_at _ _ _ _ rfl).trans rfl
    · exact (World.cell?_alloc_at _ _ _ _ rfl).trans rfl
    · exact (World.cell?_alloc_at _ _ _ _ rfl).trans rfl⟩
theorem lab3_size {a b c : ByteArray} {K : Nat} (ha : a.size ≤ K) (hb : b.size ≤ K) (hc : c.size ≤ K) (j : Nat) : (lab3 a b c j).size ≤ K := by
  unfold lab3
  split
  · exact ha
  · split
    · exact hb
    · exact hc
/-- what Key leaves -/
def KeyP (u w : World) (G M c n : Nat) (key : Nat → Nat) (t p v : Int) (e : Ending) (w' : World) : Prop :=
  (∃ A c2 g, e = .returned (.tuple #[.slice A (kN (kok t p v)) c2, .int .i64 (kE (kok t p v))]) ∧ Mine w' w.heap.size (.slice A (kN (kok t p v)) c2) (kN (kok t p v)) (keyF n key t.toNat (nmS p) v.toNat) A c2 g) ∧
    RingAt u w' G M c n key ∧ Chg G w w'
set_option maxHeartbeats 1600000 in
/-- what may not be asked -/
theorem key_bad (G M c n : Nat) (t p v : Int) (key : Nat → Nat) (u w : World) (h : RingAt u w G M c n key) (hk : kok t p v = false) :
    Calls Tryz.prog 36 #[.pointer (some ⟨G, 0, none⟩), .int .i64 t, .int .i64 p, .int .i64 v] w (KeyP u w G M c n key t p v) := by
  have H := Lib.hid (show KeyP u w G M c n key t p v (.returned (.tuple #[.slice none 0 0, .int .i64 1])) w by
    unfold KeyP
    rw [hk]
    exact ⟨⟨none, 0, 0, rfl, Mine.none0 _ _ _ _⟩, h, Chg.refl _ _⟩)
  have hb : nmB p = false ∨ nmB p = true ∧ (decide (1 ≤ t ∧ t ≤ 64) = false ∨ decide (1 ≤ t ∧ t ≤ 64) = true ∧ decide (1 ≤ v ∧ v ≤ 255) = false) := by
    unfold kok at hk
    unfold nmB
    have hk := of_decide_eq_false hk
    by_cases h1 : 1 ≤ p ∧ p ≤ 4
    · refine Or.inr ⟨decide_eq_true h1, ?_⟩
      by_cases h2 : 1 ≤ t ∧ t ≤ 64
      · exact Or.inr ⟨decide_eq_true h2, decide_eq_false fun h3 => hk ⟨h2, h1, h3⟩⟩
      · exact Or.inl (decide_eq_false h2)
    · exact Or.inl (decide_eq_false h1)
  have HN := Lib.hid (name_any p w)
  have HT := Lib.hid (within_any t 1 64 w)
  have HV := Lib.hid (within_any v 1 255 w)
  clear h hk
  rcases hb with hb | ⟨hb, hb2 | ⟨hb2, hb3⟩⟩
  · rw [hb] at HN
    clear hb
    go_enter Tryz.func36, Tryz.ntmps36
    go_wp2_with (first | (go_at_call 70; refine HN.out.mono ?_; rintro e w1 ⟨rfl, rfl⟩) | (go_at_call 69; refine HT.out.mono ?_; rintro e w1 ⟨rfl, rfl⟩))
    go_ret2
    exact H.out
  · rw [hb] at HN
    rw [hb2] at HT
    clear hb hb2
    go_enter Tryz.func36, Tryz.ntmps36
    go_wp2_with (first | (go_at_call 70; refine HN.out.mono ?_; rintro e w1 ⟨rfl, rfl⟩) | (go_at_call 69; refine HT.out.mono ?_; rintro e w1 ⟨rfl, rfl⟩))
    go_ret2
    exact H.out
  · rw [hb] at HN
    rw [hb2] at HT
    rw [hb3] at HV
    clear hb hb2 hb3
    go_enter Tryz.func36, Tryz.ntmps36
    go_wp2_with (first | (go_at_call 70; refine HN.out.mono ?_; rintro e w1 ⟨rfl, rfl⟩) | (go_at_call 69; first | (with_reducible refine HT.out.mono ?_; rintro e w1 ⟨rfl, rfl⟩) | (with_reducible refine HV.out.mono ?_; rintro e w1 ⟨rfl, rfl⟩)))
    go_ret2
    exact H.out
set_option maxHeartbeats 1600000 in
theorem key_good (G M c n : Nat) (t p v : Int) (key : Nat → Nat) (u w : World) (h : RingAt u w G M c n key) (hk : kok t p v = true) :
    Calls Tryz.prog 36 #[.pointer (some ⟨G, 0, none⟩), .int .i64 t, .int .i64 p, .int .i64 v] w (KeyP u w G M c n key t p v) := by
  have hk' := hk
  unfold kok at hk'
  have ⟨⟨t1, t2⟩, ⟨p1, p2⟩, v1, v2⟩ := of_decide_eq_true hk'
  clear hk'
  obtain ⟨k, rfl⟩ : ∃ k : Nat, t = ((k + 1 : Nat) : Int) := ⟨t.toNat - 1, by omega⟩
  obtain ⟨m, rfl⟩ : ∃ m : Nat, v = (m : Int) := ⟨v.toNat, by omega⟩
  have HN := Lib.hid (name_any p w)
  have HT := Lib.hid (within_any ((k + 1 : Nat) : Int) 1 64 w)
  have HV := Lib.hid (within_any (m : Int) 1 255 w)
  rw [show nmB p = true from decide_eq_true ⟨p1, p2⟩] at HN
  rw [show decide (1 ≤ ((k + 1 : Nat) : Int) ∧ ((k + 1 : Nat) : Int) ≤ 64) = true from decide_eq_true ⟨t1, t2⟩] at HT
  rw [show decide (1 ≤ (m : Int) ∧ (m : Int) ≤ 255) = true from decide_eq_true ⟨v1, v2⟩] at HV
  have hm : m < 256 := by omega
  have HBG := Lib.hid (begin_any G M c n k ((k + 1 : Nat) : Int) key u w h (by omega) rfl)
  have HLT := Lib.hid h.lt
  have HIS := Lib.hid (itoaB_small m hm)
  have HNS := Lib.hid (nmS_size p)
  have HRET := Lib.hid (show ∀ A c2 g w', Mine w' w.heap.size (.slice A 32 c2) 32 (fkF 32 (ownF n key (k + 1)) (lab3 (nmS p) bVersion (itoaB (m : Int))) 3) A c2 g → RingAt u w' G M c n key → Chg G w w' → KeyP u w G M c n key ((k + 1 : Nat) : Int) p (m : Int) (.returned (.tuple #[.slice A 32 c2, .int .i64 0])) w' from fun A c2 g w' h1 h2 h3 => by
    unfold KeyP
    rw [hk]
    exact ⟨⟨A, c2, g, rfl, h1⟩, h2, h3⟩)
  clear hk t1 t2 p1 p2 v1 v2 h
  generalize nmS p = sn at *
  obtain ⟨ti, hti⟩ : ∃ ti : Int, ti = ((k + 1 : Nat) : Int) := ⟨_, rfl⟩
  rw [← hti] at HT HBG HRET ⊢
  clear hti
  go_enter Tryz.func36, Tryz.ntmps36
  go_wp2_with (first | (go_at_call 70; refine HN.out.mono ?_; rintro e w1 ⟨rfl, rfl⟩) | (go_at_call 69; first | (with_reducible refine HT.out.mono ?_; rintro e w1 ⟨rfl, rfl⟩) | (with_reducible refine HV.out.mono ?_; rintro e w1 ⟨rfl, rfl⟩)))
  refine HBG.out.mono ?_
  rintro e w2 ⟨rfl, h1, h2, h3⟩
  have H1 := Lib.hid h1
  have H2 := Lib.hid h2
  have H3 := Lib.hid h3
  have HI := Lib.hid (itoa_any (m : Int) w2 (by omega) (by omega) h1.tables.2)
  clear h1 h2 h3 HBG HN HT HV
  go_wp2_with fail
  refine HI.out.mono ?_
  rintro e w3 ⟨rfl, hb3⟩
  have HB3 := Lib.hid hb3
  clear hb3 HI
  go_wp2_with fail
  have hsls := sls3 w3 sn bVersion (itoaB (m : Int))
  have HB4 := Lib.hid (HB3.out.trans ((alloc_below w3 (.cells #[.string sn, .string bVersion, .string (itoaB (m : Int))] 9)).mono HB3.out.size))
  generalize hA3 : some (⟨w3.heap.size, 0, none⟩ : Addr) = A3 at *
  generalize w3.alloc (.cells #[.string sn, .string bVersion, .string (itoaB (m : Int))] 9) = w4 at *
  have hR4 := H1.out.keep HB4.out
  refine (fold_any (some ⟨G, 1 + k * 35 + 3, none⟩) 32 32 (ownF n key (k + 1)) A3 3 3 (lab3 sn bVersion (itoaB (m : Int))) w4 (by decide) ((H2.out.keep HB4.out).slB fun j _ => ownF_lt _ _ _ j) (fun h => by cases h) (by decide) hsls
    (fun j _ => Nat.le_trans (lab3_size (K := 7) (Nat.le_trans HNS.out (by decide)) (by decide) (Nat.le_trans HIS.out (by decide)) j) (by decide)) hR4.tables.1).mono ?_
  rintro e w5 ⟨⟨x, A5, c5, g5, rfl, hmine⟩, hb5⟩
  obtain rfl := hmine.val
  have H5 := Lib.hid (hmine.less (H3.out.trans (Chg.of_below HB4.out)).size)
  have HR5 := Lib.hid (hR4.keep hb5)
  have HC5 := Lib.hid ((H3.out.trans (Chg.of_below HB4.out)).trans (Chg.of_below hb5))
  clear hmine hb5 hR4 hsls
  go_wp2_with fail
  go_ret2
  exact HRET.out _ _ _ _ H5.out HR5.out HC5.out
theorem key_any (G M c n : Nat) (t p v : Int) (key : Nat → Nat) (u w : World) (h : RingAt u w G M c n key) :
    Calls Tryz.prog 36 #[.pointer (some ⟨G, 0, none⟩), .int .i64 t, .int .i64 p, .int .i64 v] w (KeyP u w G M c n key t p v) := by
  cases hk : kok t p v with
  | false => exact key_bad G M c n t p v key u w h hk
  | true => exact key_good G M c n t p v key u w h hk
end Go.Proofs.YthmlcmlpmolmoaaGreatDoor
/- Contracts of package ffx: a cipher is made, of new memory. -/
namespace Go.Proofs.YthmlcmlpmolmoaaGreatDoor
set_option maxRecDepth 100000
open Go.RowKit

/-- all blocks of a cipher lie from base on -/
structure CipNew (w : World) (base c g t : Nat) : Prop where
  cn : base ≤ c
  gn : base ≤ g
  tw : ∀ A cap B o, w.cell? ⟨c, 1, none⟩ = some (.slice A t cap) → A = some ⟨B, o, none⟩ → base ≤ B
theorem fnew_all (A : Option Addr) (len n cap : Nat) (key : Nat → Nat) (A2 : Option Addr) (t c2 : Nat) (T : Nat → Nat) (w : World) (hn : n = 4 ∨ n = 8) (hl : 4 * n = len) (hA : SlB w A len key) (ht : t ≤ 16) (hA2 : SlB w A2 t T) (hnil : A2 = none → t = 0 ∧ c2 = 0) :
    Calls Tryz.prog 33 #[.slice A len cap, .slice A2 t c2] w fun e w' => ∃ c g, e = .returned (.tuple #[.pointer (some ⟨c, 0, none⟩), .int .i64 0]) ∧ Cip w' c g n key t T ∧ CipNew w' w.heap.size c g t ∧ Below w.heap.size w w' := by
  subst hl
  have HN := Lib.hid (new_any A n cap key w hn hA)
  have hb : decide ((16 : Int) < (t : Nat)) = false := by rw [decide_eq_false_iff_not]; omega
  have HA2 := Lib.hid hA2
  have HNIL := Lib.hid hnil
  have HT := Lib.hid ht
  clear hA hn hA2 hnil ht
  go_enter Tryz.func33, Tryz.ntmps33
  go_wp2_with (first | (go_at_call 62; refine HN.out.mono ?_; rintro e w1 ⟨g, rfl, h1, h2, h3⟩; have H1 := Lib.hid h1; have H2 := Lib.hid h2; have H3 := Lib.hid h3; clear h1 h2 h3) | (go_at_call 63; refine (fclone_any A2 t c2 T w1 (by have := HT.out; omega) (HA2.out.keep H3.out) HNIL.out).mono ?_; rintro e w2 ⟨A3, c3, rfl, h4, h5, h6, h7, h8⟩; have H4 := Lib.hid h4; have H5 := Lib.hid h5; have H6 := Lib.hid h6; have H7 := Lib.hid h7; have H8 := Lib.hid h8; clear h4 h5 h6 h7 h8))
  go_ret2
  have hba := (Below.refl w2.heap.size w2).alloc (Nat.le_refl _) (.cells #[.pointer (some ⟨g, 0, none⟩), .slice A3 t c3] 116)
  have hgl : g < w1.heap.size := H2.out.lt
  have hc1 : (w2.alloc (.cells #[.pointer (some ⟨g, 0, none⟩), .slice A3 t c3] 116)).cell? ⟨w2.heap.size, 1, none⟩ = some (.slice A3 t c3) := (World.cell?_alloc_at _ _ _ _ rfl).trans rfl
  refine ⟨w2.heap.size, g, rfl, ⟨(H2.out.keep H8.out).keep hba, (World.cell?_alloc_at _ _ _ _ rfl).trans rfl, A3, c3, hc1, H4.out.keep hba, H5.out, H6.out, fun B o e => by have := H7.out B o e; omega⟩, ⟨Nat.le_trans H3.out.size H8.out.size, H1.out, fun A cap B o h e => ?_⟩, ?_⟩
  · rw [hc1] at h
    cases h
    exact Nat.le_trans H3.out.size (H7.out B o e)
  · exact H3.out.trans ((H8.out.mono H3.out.size).trans (hba.mono (Nat.le_trans H3.out.size H8.out.size)))
theorem Cip.chgS {S : Nat → Prop} {w w' : World} {c g n t base : Nat} {key T : Nat → Nat} (h : Cip w c g n key t T) (hN : CipNew w base c g t) (hc : ChgS S w w') (hS : ∀ k, S k → k < base) : Cip w' c g n key t T := by
  obtain ⟨A, cap, h1, h2, h3, h4, h5⟩ := h.tw
  have nS : ∀ k, base ≤ k → ¬ S k := fun k hk hs => by have := hS k hs; omega
  refine ⟨h.key.of_block (hc.block g h.key.lt (nS g hN.gn)), (hc.cell h.lt (nS c hN.cn)).trans h.ptr, A, cap, (hc.cell h.lt (nS c hN.cn)).trans h1, fun h0 => ?_, h3, h4, h5⟩
  obtain ⟨B, o, e, hB, hj⟩ := h2 h0
  exact ⟨B, o, e, Nat.lt_of_lt_of_le hB hc.size, fun j hj' => ⟨(hj j hj').1, (hc.cell hB (nS B (hN.tw A cap B o h1 e))).trans (hj j hj').2⟩⟩
theorem CipNew.alloc {w : World} {base c g t : Nat} (h : CipNew w base c g t) (hc : c < w.heap.size) (o : Obj) : CipNew (w.alloc o) base c g t :=
  ⟨h.cn, h.gn, fun A cap B o' h1 e => h.tw A cap B o' (((Below.refl w.heap.size w).alloc (Nat.le_refl _) o).cell (p := ⟨c, 1, none⟩) hc ▸ h1) e⟩
end Go.Proofs.YthmlcmlpmolmoaaGreatDoor
/- Package pan: Mask, Token, Split. -/
namespace Go.Proofs.YthmlcmlpmolmoaaGreatDoor
open Go.RowKit

theorem mask3_regrown (W : World) (a b c : ByteArray) (ha : a.size ≤ 1000) (hb : b.size ≤ 1000) (hc : c.size ≤ 1000) (d : Nat) (os : Array Obj) :
    Calls Tryz.prog 54 #[.agg #[.string a, .string b, .string c]] (Go.Sort.grow (redrawn W d) os) fun e w'' => e = .returned (.string (mk3 a b c)) ∧ ∃ p : Regrown, w'' = Go.Sort.grow (redrawn W p.d) p.os :=
  Calls.regrown_of (mask3_any a b c _ ha hb hc)

theorem whole_regrown (W : World) (a b c : ByteArray) (ha : a.size ≤ 1000) (hb : b.size ≤ 1000) (hc : c.size ≤ 1000) (d : Nat) (os : Array Obj) :
    Calls Tryz.prog 53 #[.agg #[.string a, .string b, .string c]] (Go.Sort.grow (redrawn W d) os) fun e w'' => e = .returned (.string (a ++ b ++ c)) ∧ ∃ p : Regrown, w'' = Go.Sort.grow (redrawn W p.d) p.os :=
  Calls.regrown_of (whole_any a b c _ ha hb hc)

theorem join_regrown (W : World) (s : ByteArray) (v : Int) (hs : s.size ≤ 1000) (h0 : -9223372036854775808 ≤ v) (h1 : v ≤ 9223372036854775807) (hp : P10 W) (d : Nat) (os : Array Obj) :
    Calls Tryz.prog 55 #[.string s, .int .i64 v] (Go.Sort.grow (redrawn W d) os) fun e w'' => e = .returned (.string (tkS s v)) ∧ ∃ p : Regrown, w'' = Go.Sort.grow (redrawn W p.d) p.os :=
  Calls.regrown_of (join11_any s v _ hs h0 h1 (hp.keep (below_regrown W d os)))

theorem cutV_no {s : ByteArray} (hz : shp s = false) : cutV s = .agg #[.string ⟨#[]⟩, .string ⟨#[]⟩, .string ⟨#[]⟩] := by unfold cutV; rw [pB_no hz, pM_no hz, pL_no hz]

set_option maxHeartbeats 3200000 in
theorem mask_any (s : ByteArray) (w : World) (hs : s.size ≤ maxLen) (hw : PT w) :
    Calls Tryz.prog 27 #[.string s] w fun e w' => e = .returned (.string (maskS s)) ∧ Below w.heap.size w w' := by
  have HW := Lib.hid hw
  clear hw
  cases hz : shp s with
  | true =>
    have HM := Lib.hid (show maskS s = mk3 (pB s) (pM s) (pL s) by unfold maskS; rw [hz]; rfl)
    have hC : cutV s = .agg #[.string (pB s), .string (pM s), .string (pL s)] := rfl
    have e1 := no_list (s := pB s) (by rw [pB_size hz]; decide)
    have hB := pB_le s
    have hM := pM_le s
    have hL := pL_le s
    clear hz
    go_enter Tryz.func27, Tryz.ntmps27
    go_wp2_with fail
    refine (cut_any s _ hs HW.out.wts).mono ?_
    rintro e w1 ⟨rfl, hb1⟩
    rw [hC]
    have HB1 := Lib.hid hb1
    clear hb1 hC
    generalize pB s = a at *
    generalize pM s = b at *
    generalize pL s = c at *
    have HB2 := Lib.hid (HB1.out.alloc HB1.out.size (.cells #[.string a, .string b, .string c] 99))
    go_wp2_with fail
    refine (mask3_any a b c _ (by omega) (by omega) (by omega)).mono ?_
    rintro e w2 ⟨rfl, hb2⟩
    have HB3 := Lib.hid (HB2.out.trans (hb2.mono HB2.out.size))
    go_wp2_with fail
    go_ret
    exact ⟨by rw [HM.out]; rfl, HB3.out⟩
  | false =>
    have hC := cutV_no hz
    cases hn : isTk s with
    | true =>
      obtain ⟨hz1, hv1, hv2⟩ := isTk_parts hn
      have HM := Lib.hid (show maskS s = tkS (mk3 (pB (tkA s)) (pM (tkA s)) (pL (tkA s))) (tkN s) by unfold maskS; rw [hz, hn]; rfl)
      have hR : rdV s = .agg #[.string (pB (tkA s)), .string (pM (tkA s)), .string (pL (tkA s)), .int .i64 (tkN s)] := by
        unfold rdV rdA rdB rdC splN; rw [hn]; rfl
      have e1 := no_list (s := pB (tkA s)) (by rw [pB_size hz1]; decide)
      have hB := pB_le (tkA s)
      have hM := pM_le (tkA s)
      have hL := pL_le (tkA s)
      have hS := mk3_size (tkA s)
      clear hz hn hz1
      go_enter Tryz.func27, Tryz.ntmps27
      go_wp2_with fail
      refine (cut_any s _ hs HW.out.wts).mono ?_
      rintro e w1 ⟨rfl, hb1⟩
      rw [hC]
      have HB1 := Lib.hid hb1
      have HB2 := Lib.hid (HB1.out.alloc HB1.out.size (.cells #[.string ⟨#[]⟩, .string ⟨#[]⟩, .string ⟨#[]⟩] 99))
      clear hb1 hC
      go_wp2_with fail
      refine (read_any s _ hs (HW.out.keep HB2.out)).mono ?_
      rintro e w2 ⟨rfl, hb2⟩
      rw [hR]
      have HB3 := Lib.hid (HB2.out.trans (hb2.mono HB2.out.size))
      clear hb2 hR
      generalize pB (tkA s) = a at *
      generalize pM (tkA s) = b at *
      generalize pL (tkA s) = c at *
      generalize tkN s = v at *
      have HB4 := Lib.hid (HB3.out.alloc HB3.out.size (.cells #[.string a, .string b, .string c, .int .i64 v] 102))
      have hw1 : (w2.alloc (.cells #[.string a, .string b, .string c, .int .i64 v] 102)).cell? ⟨w2.heap.size, 0, none⟩ = some (.string a) := (World.cell?_alloc_at _ _ _ _ rfl).trans rfl
      have hw2 : (w2.alloc (.cells #[.string a, .string b, .string c, .int .i64 v] 102)).cell? ⟨w2.heap.size, 1, none⟩ = some (.string b) := (World.cell?_alloc_at _ _ _ _ rfl).trans rfl
      have hw3 : (w2.alloc (.cells #[.string a, .string b, .string c, .int .i64 v] 102)).cell? ⟨w2.heap.size, 2, none⟩ = some (.string c) := (World.cell?_alloc_at _ _ _ _ rfl).trans rfl
      have hw4 : (w2.alloc (.cells #[.string a, .string b, .string c, .int .i64 v] 102)).cell? ⟨w2.heap.size, 3, none⟩ = some (.int .i64 v) := (World.cell?_alloc_at _ _ _ _ rfl).trans rfl
      have k1 := cell_regrown hw1
      have k2 := cell_regrown hw2
      have k3 := cell_regrown hw3
      have k4 := cell_regrown hw4
      clear hw1 hw2 hw3 hw4
      go_wp2_with fail
      generalize w2.alloc (.cells #[.string a, .string b, .string c, .int .i64 v] 102) = W at *
      have cM := mask3_regrown W a b c (by omega) (by omega) (by omega)
      have cJ := join_regrown W (mk3 a b c) v (by omega) (by omega) (by omega) (HW.out.keep HB4.out).p10
      generalize mk3 a b c = m at *
      refine wp_region_quiet_below (by kernel_rfl) (by kernel_rfl) ?_
      repeat (quiet_step (first | (with_reducible exact cM _ _) | (with_reducible exact cJ _ _)))
      refine wpQuiet_nil ?_
      intro _ hw'
      obtain ⟨⟨dq, osq⟩, hw''⟩ := hw'
      subst hw''
      have HB5 := Lib.hid (HB4.out.trans ((below_regrown W dq osq).mono HB4.out.size))
      generalize Go.Sort.grow (redrawn W dq) osq = W2 at *
      go_wp2_with fail
      go_ret
      exact ⟨by rw [HM.out]; rfl, HB5.out⟩
    | false =>
      have HM := Lib.hid (show maskS s = stars (min s.size 32) by unfold maskS; rw [hz, hn]; rfl)
      have hR : rdV s = .agg #[.string ⟨#[]⟩, .string ⟨#[]⟩, .string ⟨#[]⟩, .int .i64 0] := by
        unfold rdV rdA rdB rdC splN; rw [hn]; rfl
      clear hz hn
      obtain ⟨m, hm, hm2⟩ : ∃ m : Nat, min (s.size : Int) 32 = m ∧ min s.size 32 = m := ⟨min s.size 32, by omega, rfl⟩
      have hm32 : m ≤ 32 := by omega
      have HM2 := Lib.hid hm2
      have HM3 := Lib.hid hm
      clear hm2 hm
      go_enter Tryz.func27, Tryz.ntmps27
      go_wp2_with fail
      refine (cut_any s _ hs HW.out.wts).mono ?_
      rintro e w1 ⟨rfl, hb1⟩
      rw [hC]
      have HB1 := Lib.hid hb1
      have HB2 := Lib.hid (HB1.out.alloc HB1.out.size (.cells #[.string ⟨#[]⟩, .string ⟨#[]⟩, .string ⟨#[]⟩] 99))
      clear hb1 hC
      go_wp2_with fail
      refine (read_any s _ hs (HW.out.keep HB2.out)).mono ?_
      rintro e w2 ⟨rfl, hb2⟩
      rw [hR]
      have HB3 := Lib.hid (HB2.out.trans (hb2.mono HB2.out.size))
      have HB4 := Lib.hid (HB3.out.alloc HB3.out.size (.cells #[.string ⟨#[]⟩, .string ⟨#[]⟩, .string ⟨#[]⟩, .int .i64 0] 102))
      clear hb2 hR
      go_wp2_with fail
      rw [HM3.out]
      refine (stars_any m _ (by omega)).mono ?_
      rintro e w3 ⟨rfl, hb3⟩
      have HB5 := Lib.hid (HB4.out.trans (hb3.mono HB4.out.size))
      go_wp2_with fail
      go_ret
      exact ⟨by rw [HM.out, HM2.out]; rfl, HB5.out⟩

set_option maxHeartbeats 1600000 in
theorem token_any (s : ByteArray) (v : Int) (w : World) (hs : s.size ≤ maxLen) (hw : PT w) :
    Calls Tryz.prog 40 #[.string s, .int .i64 v] w fun e w' => e = .returned (.tuple #[.string (tokV s v), .int .i64 (tokE s v)]) ∧ Below w.heap.size w w' := by
  have HW := Lib.hid hw
  clear hw
  cases hz : shp s with
  | false =>
    have hC := cutV_no hz
    have HE := Lib.hid (show tokE s v = 10 by unfold tokE; rw [hz]; rfl)
    have HV := Lib.hid (show tokV s v = ⟨#[]⟩ by unfold tokV; rw [HE.out]; rfl)
    clear hz
    go_enter Tryz.func40, Tryz.ntmps40
    go_wp2_with fail
    refine (cut_any s _ hs HW.out.wts).mono ?_
    rintro e w1 ⟨rfl, hb1⟩
    rw [hC]
    go_wp2_with fail
    go_ret2
    exact ⟨by rw [HE.out, HV.out]; rfl, hb1⟩
  | true =>
    have e1 := no_list (s := pB s) (by rw [pB_size hz]; decide)
    have hl : s.size ≤ 1000 := by have := (shp_parts hz).2.2; omega
    have hC : cutV s = .agg #[.string (pB s), .string (pM s), .string (pL s)] := rfl
    by_cases hv : 1 ≤ v ∧ v ≤ 255
    · have HE := Lib.hid (show tokE s v = 0 by unfold tokE; rw [hz, if_pos rfl, if_neg (by omega)])
      have HV := Lib.hid (show tokV s v = tkS s v by unfold tokV; rw [if_pos HE.out])
      have HN := Lib.hid (show (decide (v < 1) || decide (255 < v)) = false by rw [decide_eq_false (by omega), decide_eq_false (by omega)]; rfl)
      have HI := Lib.hid hv
      clear hz hv
      go_enter Tryz.func40, Tryz.ntmps40
      go_wp2_with fail
      refine (cut_any s _ hs HW.out.wts).mono ?_
      rintro e w1 ⟨rfl, hb1⟩
      rw [hC]
      have HB1 := Lib.hid hb1
      clear hb1 hC
      generalize pB s = a at *
      generalize pM s = b at *
      generalize pL s = c at *
      go_wp2_with (go_at_call 77; refine (wrong_any v _).mono ?_; rintro e w5 ⟨rfl, rfl⟩; rw [HN.out])
      refine (join11_any s v _ hl (by have := HI.out; omega) (by have := HI.out; omega) (HW.out.keep HB1.out).p10).mono ?_
      rintro e w2 ⟨rfl, hb2⟩
      go_wp2_with fail
      go_ret2
      exact ⟨by rw [HE.out, HV.out]; rfl, HB1.out.trans (hb2.mono HB1.out.size)⟩
    · have HE := Lib.hid (show tokE s v = 1 by unfold tokE; rw [hz, if_pos rfl, if_pos (by omega)])
      have HV := Lib.hid (show tokV s v = ⟨#[]⟩ by unfold tokV; rw [HE.out]; rfl)
      have HN := Lib.hid (show (decide (v < 1) || decide (255 < v)) = true by
        rcases (show v < 1 ∨ 255 < v by omega) with h | h
        · rw [decide_eq_true h]; rfl
        · rw [decide_eq_true h, Bool.or_true])
      clear hz hv
      go_enter Tryz.func40, Tryz.ntmps40
      go_wp2_with fail
      refine (cut_any s _ hs HW.out.wts).mono ?_
      rintro e w1 ⟨rfl, hb1⟩
      rw [hC]
      have HB1 := Lib.hid hb1
      clear hb1 hC
      generalize pB s = a at *
      generalize pM s = b at *
      generalize pL s = c at *
      go_wp2_with (go_at_call 77; refine (wrong_any v _).mono ?_; rintro e w5 ⟨rfl, rfl⟩; rw [HN.out])
      go_ret2
      exact ⟨by rw [HE.out, HV.out]; rfl, HB1.out⟩

set_option maxHeartbeats 1600000 in
theorem split_any (t : ByteArray) (w : World) (hs : t.size ≤ maxLen) (hw : PT w) :
    Calls Tryz.prog 26 #[.string t] w fun e w' => e = .returned (.tuple #[.string (splV t), .int .i64 (splN t), .int .i64 (splE t)]) ∧ Below w.heap.size w w' := by
  have HW := Lib.hid hw
  clear hw
  cases hn : isTk t with
  | false =>
    have hR : rdV t = .agg #[.string ⟨#[]⟩, .string ⟨#[]⟩, .string ⟨#[]⟩, .int .i64 0] := by
      unfold rdV rdA rdB rdC splN; rw [hn]; rfl
    have HE := Lib.hid (show splE t = 11 ∧ splV t = ⟨#[]⟩ ∧ splN t = 0 by unfold splE splV splN; rw [hn]; exact ⟨rfl, rfl, rfl⟩)
    clear hn
    go_enter Tryz.func26, Tryz.ntmps26
    go_wp2_with fail
    refine (read_any t _ hs HW.out).mono ?_
    rintro e w1 ⟨rfl, hb1⟩
    rw [hR]
    have HB1 := Lib.hid hb1
    clear hb1
    go_wp2_with fail
    go_ret3
    exact ⟨by rw [HE.out.1, HE.out.2.1, HE.out.2.2]; rfl, HB1.out.alloc HB1.out.size _⟩
  | true =>
    obtain ⟨hz1, hv1, hv2⟩ := isTk_parts hn
    have hR : rdV t = .agg #[.string (pB (tkA t)), .string (pM (tkA t)), .string (pL (tkA t)), .int .i64 (tkN t)] := by
      unfold rdV rdA rdB rdC splN; rw [hn]; rfl
    have HE := Lib.hid (show splE t = 0 ∧ splV t = pB (tkA t) ++ pM (tkA t) ++ pL (tkA t) ∧ splN t = tkN t by
      unfold splE splV splN; rw [hn, whole_eq hz1]; exact ⟨rfl, rfl, rfl⟩)
    have e1 := no_list (s := pB (tkA t)) (by rw [pB_size hz1]; decide)
    have hB := pB_le (tkA t)
    have hM := pM_le (tkA t)
    have hL := pL_le (tkA t)
    clear hn hz1
    go_enter Tryz.func26, Tryz.ntmps26
    go_wp2_with fail
    refine (read_any t _ hs HW.out).mono ?_
    rintro e w2 ⟨rfl, hb1⟩
    rw [hR]
    have HB3 := Lib.hid hb1
    clear hb1 hR
    generalize pB (tkA t) = a at *
    generalize pM (tkA t) = b at *
    generalize pL (tkA t) = c at *
    generalize tkN t = v at *
    have HB4 := Lib.hid (HB3.out.alloc HB3.out.size (.cells #[.string a, .string b, .string c, .int .i64 v] 102))
    have hw1 : (w2.alloc (.cells #[.string a, .string b, .string c, .int .i64 v] 102)).cell? ⟨w2.heap.size, 0, none⟩ = some (.string a) := (World.cell?_alloc_at _ _ _ _ rfl).trans rfl
    have hw2 : (w2.alloc (.cells #[.string a, .string b, .string c, .int .i64 v] 102)).cell? ⟨w2.heap.size, 1, none⟩ = some (.string b) := (World.cell?_alloc_at _ _ _ _ rfl).trans rfl
    have hw3 : (w2.alloc (.cells #[.string a, .string b, .string c, .int .i64 v] 102)).cell? ⟨w2.heap.size, 2, none⟩ = some (.string c) := (World.cell?_alloc_at _ _ _ _ rfl).trans rfl
    have hw4 : (w2.alloc (.cells #[.string a, .string b, .string c, .int .i64 v] 102)).cell? ⟨w2.heap.size, 3, none⟩ = some (.int .i64 v) := (World.cell?_alloc_at _ _ _ _ rfl).trans rfl
    have k1 := cell_regrown hw1
    have k2 := cell_regrown hw2
    have k3 := cell_regrown hw3
    have k4 := cell_regrown hw4
    clear hw1 hw2 hw3 hw4
    go_wp2_with fail
    generalize w2.alloc (.cells #[.string a, .string b, .string c, .int .i64 v] 102) = W at *
    have cW := whole_regrown W a b c (by omega) (by omega) (by omega)
    refine wp_region_quiet_below (by kernel_rfl) (by kernel_rfl) ?_
    repeat (quiet_step (with_reducible exact cW _ _))
    refine wpQuiet_nil ?_
    intro _ hw'
    obtain ⟨⟨dq, osq⟩, hw''⟩ := hw'
    subst hw''
    have HB5 := Lib.hid (HB4.out.trans ((below_regrown W dq osq).mono HB4.out.size))
    generalize Go.Sort.grow (redrawn W dq) osq = W2 at *
    go_wp2_with fail
    go_ret3
    exact ⟨by rw [HE.out.1, HE.out.2.1, HE.out.2.2]; rfl, HB5.out⟩
end Go.Proofs.YthmlcmlpmolmoaaGreatDoor
/- Layer 14: a vault as laws use it. -/
namespace Go.Proofs.YthmlcmlpmolmoaaGreatDoor
set_option maxRecDepth 100000
open Go.RowKit
/-- the tables in memory -/
structure Tabs (w : World) : Prop where
  gt : GT w
  pt : PT w
  pws : Pws w
theorem Tabs.keep {w w' : World} (h : Tabs w) (hb : Below w.heap.size w w') : Tabs w' := ⟨h.gt.keep hb, h.pt.keep hb, h.pws.keep hb⟩
theorem Tabs.p10 {w : World} (h : Tabs w) : P10 w := h.pt.p10
/-- what Rotate answers, and leaves -/
def roV (V : Int) : Int := if V < 255 then V + 1 else 0
def roE (V : Int) : Int := if V < 255 then 0 else 14
def roN (V : Int) : Int := if V < 255 then V + 1 else V
/-- the keys of a tenant's versions -/
def vK (n : Nat) (key : Nat → Nat) (t : Int) (v : Int) : Nat → Nat := keyF n key t.toNat (nmS 1) v.toNat
/-- what a call leaves of a vault: VA w V O: it stands in w, at version V, its blocks O -/
def VStep (VA : World → Int → (Nat → Prop) → Prop) (w : World) (O : Nat → Prop) (w' : World) (V : Int) : Prop := ∃ O', VA w' V O' ∧ ChgS O w w' ∧ ∀ k, O' k → O k ∨ w.heap.size ≤ k
/-- a vault at G, among others that change memory: VA f w V O: it stands in w at version V, its blocks O, and can be rotated f times yet (it counts them in 63 bits) -/
structure VKitS (u : World) (G : Nat) (K : Int → Nat → Nat) (VA : Nat → World → Int → (Nat → Prop) → Prop) : Prop where
  bel : ∀ {f : Nat} w V O, VA f w V O → Below u.heap.size u w
  own : ∀ {f : Nat} w V O, VA f w V O → ∀ k, O k → u.heap.size ≤ k ∧ k < w.heap.size
  rng : ∀ {f : Nat} w V O, VA f w V O → 1 ≤ V ∧ V ≤ 255
  kind : ∀ {f : Nat} w V O, VA f w V O → ∀ k, O k → ∀ s, w.cell? ⟨k, 0, none⟩ ≠ some (.string s)
  keep : ∀ {f : Nat} (w w' : World) (V : Int) (O T : Nat → Prop), VA f w V O → ChgS T w w' → (∀ k, T k → u.heap.size ≤ k ∧ ¬ O k) → VA f w' V O
  token : ∀ {f : Nat} (w : World) (V : Int) (O : Nat → Prop) (s : ByteArray), VA f w V O → s.size ≤ maxLen → Calls Tryz.prog 16 #[.pointer (some ⟨G, 0, none⟩), .string s] w fun e w' => e = .returned (.tuple #[.string (vtV K V s), .int .i64 (vtE s)]) ∧ VStep (VA f) w O w' V
  back : ∀ {f : Nat} (w : World) (V : Int) (O : Nat → Prop) (s : ByteArray), VA f w V O → s.size ≤ maxLen → Calls Tryz.prog 18 #[.pointer (some ⟨G, 0, none⟩), .string s] w fun e w' => e = .returned (.tuple #[.string (vbV K V s), .int .i64 (vbE K V s)]) ∧ VStep (VA f) w O w' V
  renew : ∀ {f : Nat} (w : World) (V : Int) (O : Nat → Prop) (s : ByteArray), VA f w V O → s.size ≤ maxLen → Calls Tryz.prog 22 #[.pointer (some ⟨G, 0, none⟩), .string s] w fun e w' => e = .returned (.tuple #[.string (vrV K V s), .int .i64 (vbE K V s)]) ∧ VStep (VA f) w O w' V
  rotate : ∀ {f : Nat} (w : World) (V : Int) (O : Nat → Prop), VA (f + 1) w V O → Calls Tryz.prog 20 #[.pointer (some ⟨G, 0, none⟩)] w fun e w' => e = .returned (.tuple #[.int .i64 (roV V), .int .i64 (roE V)]) ∧ VStep (VA f) w O w' (roN V)
  version : ∀ {f : Nat} (w : World) (V : Int) (O : Nat → Prop), VA f w V O → Calls Tryz.prog 24 #[.pointer (some ⟨G, 0, none⟩)] w fun e w' => e = .returned (.int .i64 V) ∧ VStep (VA f) w O w' V
theorem VKitS.below {u w w' : World} {G : Nat} {K : Int → Nat → Nat} {VA : Nat → World → Int → (Nat → Prop) → Prop} {f : Nat} {V : Int} {O : Nat → Prop} (h : VKitS u G K VA) (hv : VA f w V O) (hb : Below w.heap.size w w') : VA f w' V O :=
  h.keep w w' V O (fun _ => False) hv (ChgS.of_below hb) (fun _ hk => absurd hk id)
/-- a vault at G, where nothing else changes memory -/
structure VKit (u : World) (G : Nat) (S : Nat → Prop) (K : Int → Nat → Nat) (VA : Nat → World → Int → Prop) : Prop where
  bel : ∀ {f : Nat} w V, VA f w V → Below u.heap.size u w
  rng : ∀ {f : Nat} w V, VA f w V → 1 ≤ V ∧ V ≤ 255
  new : ∀ {f : Nat} (w w' : World) (V : Int), VA f w V → Below w.heap.size w w' → VA f w' V
  token : ∀ {f : Nat} (w : World) (V : Int) (s : ByteArray), VA f w V → s.size ≤ maxLen → Calls Tryz.prog 16 #[.pointer (some ⟨G, 0, none⟩), .string s] w fun e w' => e = .returned (.tuple #[.string (vtV K V s), .int .i64 (vtE s)]) ∧ VA f w' V ∧ True
  back : ∀ {f : Nat} (w : World) (V : Int) (s : ByteArray), VA f w V → s.size ≤ maxLen → Calls Tryz.prog 18 #[.pointer (some ⟨G, 0, none⟩), .string s] w fun e w' => e = .returned (.tuple #[.string (vbV K V s), .int .i64 (vbE K V s)]) ∧ VA f w' V ∧ True
  renew : ∀ {f : Nat} (w : World) (V : Int) (s : ByteArray), VA f w V → s.size ≤ maxLen → Calls Tryz.prog 22 #[.pointer (some ⟨G, 0, none⟩), .string s] w fun e w' => e = .returned (.tuple #[.string (vrV K V s), .int .i64 (vbE K V s)]) ∧ VA f w' V ∧ True
  rotate : ∀ {f : Nat} (w : World) (V : Int), VA (f + 1) w V → Calls Tryz.prog 20 #[.pointer (some ⟨G, 0, none⟩)] w fun e w' => e = .returned (.tuple #[.int .i64 (roV V), .int .i64 (roE V)]) ∧ VA f w' (roN V) ∧ True
  version : ∀ {f : Nat} (w : World) (V : Int), VA f w V → Calls Tryz.prog 24 #[.pointer (some ⟨G, 0, none⟩)] w fun e w' => e = .returned (.int .i64 V) ∧ VA f w' V ∧ True
theorem VKit.below {u w w' : World} {G : Nat} {S : Nat → Prop} {K : Int → Nat → Nat} {VA : Nat → World → Int → Prop} {f : Nat} {V : Int} (h : VKit u G S K VA) (hv : VA f w V) (hb : Below w.heap.size w w') : VA f w' V := h.new w w' V hv hb
theorem VKitS.weak {u : World} {G : Nat} {K : Int → Nat → Nat} {VA : Nat → World → Int → (Nat → Prop) → Prop} (h : VKitS u G K VA) : VKit u G (fun _ => True) K (fun f w V => ∃ O, VA f w V O) where
  bel := fun w V ⟨O, hv⟩ => h.bel w V O hv
  rng := fun w V ⟨O, hv⟩ => h.rng w V O hv
  new := fun _ _ _ ⟨O, hv⟩ hb => ⟨O, h.below hv hb⟩
  token := fun w V s ⟨O, hv⟩ hs => (h.token w V O s hv hs).mono fun _ _ ⟨he, O', h1, _, _⟩ => ⟨he, ⟨O', h1⟩, trivial⟩
  back := fun w V s ⟨O, hv⟩ hs => (h.back w V O s hv hs).mono fun _ _ ⟨he, O', h1, _, _⟩ => ⟨he, ⟨O', h1⟩, trivial⟩
  renew := fun w V s ⟨O, hv⟩ hs => (h.renew w V O s hv hs).mono fun _ _ ⟨he, O', h1, _, _⟩ => ⟨he, ⟨O', h1⟩, trivial⟩
  rotate := fun w V ⟨O, hv⟩ => (h.rotate w V O hv).mono fun _ _ ⟨he, O', h1, _, _⟩ => ⟨he, ⟨O', h1⟩, trivial⟩
  version := fun w V ⟨O, hv⟩ => (h.version w V O hv).mono fun _ _ ⟨he, O', h1, _, _⟩ => ⟨he, ⟨O', h1⟩, trivial⟩
/-- may a vault be? -/
def vok (n : Nat) (t V : Int) : Bool := decide ((16 ≤ n ∧ n ≤ 64) ∧ (1 ≤ t ∧ t ≤ 64) ∧ (1 ≤ V ∧ V ≤ 255))
/-- what New does -/
def NewOkS : Prop := ∀ (A : Option Addr) (n c : Nat) (key : Nat → Nat) (t V : Int) (u w : World), vok n t V = true → SlB w A n key → (A = none → n = 0 ∧ c = 0) → Tabs u → Below u.heap.size u w →
  Calls Tryz.prog 12 #[.slice A n c, .int .i64 t, .int .i64 V] w fun e w' => ∃ G VA O, e = .returned (.tuple #[.pointer (some ⟨G, 0, none⟩), .int .i64 0]) ∧ VKitS u G (vK n key t) VA ∧ VA 1000 w' V O ∧ (∀ k, O k → w.heap.size ≤ k) ∧ Below w.heap.size w w'
def NewOk : Prop := ∀ (A : Option Addr) (n c : Nat) (key : Nat → Nat) (t V : Int) (u w : World), vok n t V = true → SlB w A n key → (A = none → n = 0 ∧ c = 0) → Tabs u → Below u.heap.size u w →
  Calls Tryz.prog 12 #[.slice A n c, .int .i64 t, .int .i64 V] w fun e w' => ∃ G S VA, e = .returned (.tuple #[.pointer (some ⟨G, 0, none⟩), .int .i64 0]) ∧ VKit u G S (vK n key t) VA ∧ VA 1000 w' V ∧ True ∧ Below w.heap.size w w'
theorem NewOkS.weak (h : NewOkS) : NewOk := fun A n c key t V u w h1 h2 h3 h4 h5 => (h A n c key t V u w h1 h2 h3 h4 h5).mono fun _ _ ⟨G, _, O, he, hk, hv, _, hb⟩ => ⟨G, _, _, he, hk.weak, ⟨O, hv⟩, trivial, hb⟩
def NewBad : Prop := ∀ (A : Option Addr) (n c : Nat) (key : Nat → Nat) (t V : Int) (w : World), vok n t V = false → n ≤ 140737488351232 → SlB w A n key → (A = none → n = 0 ∧ c = 0) → Tabs w →
  Calls Tryz.prog 12 #[.slice A n c, .int .i64 t, .int .i64 V] w fun e w' => e = .returned (.tuple #[.pointer none, .int .i64 1]) ∧ Below w.heap.size w w'
end Go.Proofs.YthmlcmlpmolmoaaGreatDoor
/- The tables of layer 14: out of the row's list to the walk's facts; a world that holds them. -/
namespace Go.Proofs.YthmlcmlpmolmoaaGreatDoor
set_option maxRecDepth 100000
open Go.ChangeShapes Go.WideShapes Go.ChangeAt Go.RowKit
theorem own : ownKnob Tryz.prog.godebug = none := by kernel_rfl
theorem laidOut : laidOutB Tryz.prog = true := by kernel_rfl
theorem gK : Tryz.prog.globalNamed "moneyer/sha.roundWords" = some 4 := by kernel_rfl
theorem gKType : (Tryz.prog.globals[4]?).map (·.type) = some 249 := by kernel_rfl
theorem gS : Tryz.prog.globalNamed "moneyer/sha.startWords" = some 1 := by kernel_rfl
theorem gSType : (Tryz.prog.globals[1]?).map (·.type) = some 221 := by kernel_rfl
theorem gP10Type : (Tryz.prog.globals[5]?).map (·.type) = some 254 := by kernel_rfl
theorem gTab : Tryz.prog.globalNamed "moneyer/digits.weights" = some 0 := by kernel_rfl
theorem gTabType : (Tryz.prog.globals[0]?).map (·.type) = some 186 := by kernel_rfl
theorem gPow : Tryz.prog.globalNamed "moneyer/radix.powers" = some 2 := by kernel_rfl
theorem gPowType : (Tryz.prog.globals[2]?).map (·.type) = some 225 := by kernel_rfl
theorem cellsK : Tryz.prog.cellsOf 249 = 64 := by kernel_rfl
theorem cellsS : Tryz.prog.cellsOf 221 = 8 := by kernel_rfl
theorem cellsU32 : Tryz.prog.cellsOf 75 = 1 := by kernel_rfl
theorem cellsP10 : Tryz.prog.cellsOf 254 = 20 := by kernel_rfl
theorem cellsU64 : Tryz.prog.cellsOf 190 = 1 := by kernel_rfl
theorem cellsTab : Tryz.prog.cellsOf 186 = 20 := by kernel_rfl
theorem cellsRow : Tryz.prog.cellsOf 185 = 10 := by kernel_rfl
theorem cellsInt : Tryz.prog.cellsOf 3 = 1 := by kernel_rfl
theorem cellsPow : Tryz.prog.cellsOf 225 = 16 := by kernel_rfl
def row0 : List Int := [0, 1, 2, 3, 4, 5, 6, 7, 8, 9]
def row1 : List Int := [0, 2, 4, 6, 8, 1, 3, 5, 7, 9]
def powL : List Int := (List.range 16).map fun i => ((10 ^ (i + 1) : Nat) : Int)
theorem laidK_eq {H : Type} : (Rows.laid_moneyer_sha_roundWords : DataW H) = Lib.tabData .u32 (kcL.map fun x => (x : Nat)) := rfl
theorem laidS_eq {H : Type} : (Rows.laid_moneyer_sha_startWords : DataW H) = Lib.tabData .u32 ((List.range 8).map fun i => ((at8 st0 i : Nat) : Int)) := rfl
theorem laidP10_eq {H : Type} : (Rows.laid_internal_strconv_uint64pow10 : DataW H) = Lib.tabData .u64 Lib.pow10Tab := rfl
theorem laidPow_eq {H : Type} : (Rows.laid_moneyer_radix_powers : DataW H) = Lib.tabData .i64 powL := rfl
theorem tabs_of {W : World} (h : laidMetH Tryz.prog [("math/bits.deBruijn32tab", Rows.laid_math_bits_deBruijn32tab), ("math/bits.deBruijn64tab", Rows.laid_math_bits_deBruijn64tab), ("internal/strconv.uint64pow10", Rows.laid_internal_strconv_uint64pow10), ("moneyer/digits.weights", Rows.laid_moneyer_digits_weights), ("moneyer/radix.powers", Rows.laid_moneyer_radix_powers), ("moneyer/sha.roundWords", Rows.laid_moneyer_sha_roundWords), ("moneyer/sha.startWords", Rows.laid_moneyer_sha_startWords)] W) : Tabs W := by
  have h' : laidMet Tryz.prog [("math/bits.deBruijn32tab", Rows.laid_math_bits_deBruijn32tab), ("math/bits.deBruijn64tab", Rows.laid_math_bits_deBruijn64tab), ("internal/strconv.uint64pow10", Rows.laid_internal_strconv_uint64pow10), ("moneyer/digits.weights", Rows.laid_moneyer_digits_weights), ("moneyer/radix.powers", Rows.laid_moneyer_radix_powers), ("moneyer/sha.roundWords", Rows.laid_moneyer_sha_roundWords), ("moneyer/sha.startWords", Rows.laid_moneyer_sha_startWords)] W := h
  obtain ⟨ps, ⟨_, _, _, _, _, _, _, _, _, _, hr1, _⟩, _⟩ := h'
  obtain ⟨_, _, _, _, _, _, _, _, _, _, hr2, _⟩ := hr1
  obtain ⟨g3, t3, cs3, fuel3, p3, q3, hg3, ht3, hvar3, hd3, hr3, _⟩ := hr2
  obtain ⟨g, t, cs, fuel, p, q, hg, ht, hvar, hd, hr4, _⟩ := hr3
  obtain ⟨g4, t4, cs4, fuel4, p4, q4, hg4, ht4, hvar4, hd4, hr5, _⟩ := hr4
  obtain ⟨g5, t5, cs5, fuel5, p5, q5, hg5, ht5, hvar5, hd5, hr6, _⟩ := hr5
  obtain ⟨g6, t6, cs6, fuel6, p6, q6, hg6, ht6, hvar6, hd6, _, _⟩ := hr6
  obtain rfl := Option.some.inj (gP10.symm.trans hg3)
  obtain rfl := Option.some.inj (gP10Type.symm.trans ht3)
  obtain rfl := Option.some.inj (gTab.symm.trans hg)
  obtain rfl := Option.some.inj (gTabType.symm.trans ht)
  obtain rfl := Option.some.inj (gPow.symm.trans hg4)
  obtain rfl := Option.some.inj (gPowType.symm.trans ht4)
  obtain rfl := Option.some.inj (gK.symm.trans hg5)
  obtain rfl := Option.some.inj (gKType.symm.trans ht5)
  obtain rfl := Option.some.inj (gS.symm.trans hg6)
  obtain rfl := Option.some.inj (gSType.symm.trans ht6)
  rw [laidK_eq] at hd5
  rw [laidS_eq] at hd6
  rw [laidP10_eq] at hd3
  rw [laidPow_eq] at hd4
  have e3 := Lib.cells_of_tab Tryz.underlying254 Tryz.underlying190 cellsU64 cellsP10 hd3
  have e4 := Lib.cells_of_tab Tryz.underlying225 Tryz.underlying3 cellsInt cellsPow hd4
  have e5 := Lib.cells_of_tab Tryz.underlying249 Tryz.underlying75 cellsU32 cellsK hd5
  have e6 := Lib.cells_of_tab Tryz.underlying221 Tryz.underlying75 cellsU32 cellsS hd6
  refine ⟨⟨fun i hi => ?_, fun i hi => ?_⟩, ⟨?_, hvar3.trans (congrArg some (Array.ext' e3))⟩, fun i hi => ?_⟩
  · rw [World.var?_cell gK hvar5 i, ← Array.getElem?_toList, e5, List.getElem?_map, List.getElem?_map]
    have hl : i < kcL.length := hi
    unfold kc
    rw [List.getD_eq_getElem?_getD, List.getElem?_eq_getElem hl]; rfl
  · rw [World.var?_cell gS hvar6 i, ← Array.getElem?_toList, e6]
    rw [List.getElem?_map, List.getElem?_map, List.getElem?_range hi]; rfl
  · obtain ⟨xs, m, rfl, hx, hl, hn, he⟩ := DataW.trod_array Tryz.underlying186 hd
    rw [cellsTab] at hl
    simp only [cellsRow] at he
    have hx1 : xs.map (·.1) = [Lib.tabData .i64 row0, Lib.tabData .i64 row1] := by
      have := congrArg Prod.fst hx
      simp only [Rows.laid_moneyer_digits_weights] at this
      injection this with this
      exact this.symm
    match xs, hn, hx1, he with
    | [⟨a, pa⟩, ⟨b, pb⟩], _, hx1, he =>
      simp only [List.map_cons, List.map_nil, List.cons.injEq, and_true] at hx1
      obtain ⟨rfl, rfl⟩ := hx1
      have e0 := Lib.cells_of_tab Tryz.underlying185 Tryz.underlying3 cellsInt cellsRow (he 0 (by omega))
      have e1 := Lib.cells_of_tab Tryz.underlying185 Tryz.underlying3 cellsInt cellsRow (he 1 (by omega))
      intro i hi
      rw [World.var?_cell gTab hvar i, ← Array.getElem?_toList]
      rcases Nat.lt_or_ge i 10 with h10 | h10
      · have h2 := congrArg (·[i]?) e0
        simp only [Nat.zero_mul, List.drop_zero, List.getElem?_take, if_pos h10] at h2
        rw [h2]
        have : ∀ i < 10, row0[i]? = some (wtab i) := by decide
        rw [List.getElem?_map, this i h10]; rfl
      · have h2 := congrArg (·[i - 10]?) e1
        simp only [Nat.one_mul, List.getElem?_take, if_pos (show i - 10 < 10 by omega), List.getElem?_drop, show 10 + (i - 10) = i by omega] at h2
        rw [h2]
        have : ∀ i < 10, row1[i]? = some (wtab (10 + i)) := by decide
        have h3 := this (i - 10) (by omega)
        rw [show 10 + (i - 10) = i by omega] at h3
        rw [List.getElem?_map, h3]; rfl
  · rw [World.var?_cell gPow hvar4 i, ← Array.getElem?_toList, e4]
    unfold powL
    rw [List.getElem?_map, List.getElem?_map, List.getElem?_range hi]; rfl
/-- the block's cells replaced -/
def withCells (l : List Value) : Obj → Obj
  | .cells _ t frozen => .cells l.toArray t frozen
  | o => o
def t32 : List Int := [0, 1, 28, 2, 29, 14, 24, 3, 30, 22, 20, 15, 25, 17, 4, 8, 31, 27, 13, 23, 21, 19, 16, 7, 26, 12, 18, 6, 11, 5, 10, 9]
def t64 : List Int := [0, 1, 56, 2, 57, 49, 28, 3, 61, 58, 42, 50, 38, 29, 17, 4, 62, 47, 59, 36, 45, 43, 51, 22, 53, 39, 33, 30, 24, 18, 12, 5, 63, 55, 48, 27, 60, 41, 37, 16, 46, 35, 44, 21, 52, 32, 23, 11, 54, 26, 40, 15, 34, 20, 31, 10, 25, 14, 19, 9, 13, 8, 7, 6]
/-- a world for the witness: the settled one, the tables in their places -/
noncomputable def laidWorld (os : Os) : World :=
  { World.holding Tryz.prog os ⟨#[], #[], []⟩ with heap := (((((((World.holding Tryz.prog os ⟨#[], #[], []⟩).heap.modify 4 (withCells (kcL.map fun (x : Nat) => Value.int .u32 (x : Int)))).modify 1 (withCells ((List.range 8).map fun i => Value.int .u32 ((at8 st0 i : Nat) : Int)))).modify 5 (withCells (Lib.pow10Tab.map fun z => Value.int .u64 z))).modify 0 (withCells ((row0 ++ row1).map fun z => Value.int .i64 z))).modify 2 (withCells (powL.map fun z => Value.int .i64 z))).modify 6 (withCells (t32.map fun z => Value.int .u8 z))).modify 7 (withCells (t64.map fun z => Value.int .u8 z)) }
end Go.Proofs.YthmlcmlpmolmoaaGreatDoor
/- Slices of a call's own, kept over changes elsewhere. -/
namespace Go.Proofs.YthmlcmlpmolmoaaGreatDoor
open Go.RowKit
theorem Mine.chg {w w' : World} {base n K : Nat} {v : Value} {f : Nat → Nat} {A : Option Addr} {c g : Nat} (h : Mine w base v n f A c g) (hc : Chg K w w') (hK : K < base) : Mine w' base v n f A c g :=
  ⟨h.val, fun hn => by
    have hc0 : 0 < c := Nat.lt_of_lt_of_le hn h.le
    obtain ⟨B, o, e, hB, hh⟩ := h.row hn
    have e2 := (h.own hc0).1
    rw [e] at e2
    injection e2 with e2
    injection e2 with e3 _ _
    have := h.from_ hc0
    exact ⟨B, o, e, Nat.lt_of_lt_of_le hB hc.size, fun j hj => ⟨(hh j hj).1, (hc.cell hB (by omega)).trans (hh j hj).2⟩⟩,
    fun hc0 => (h.own.chg hc (by have := h.from_ hc0; omega)) hc0, h.from_, h.le, h.max, h.nil⟩
theorem Mine.chgS {w w' : World} {base n : Nat} {v : Value} {f : Nat → Nat} {A : Option Addr} {c g : Nat} {S : Nat → Prop} (h : Mine w base v n f A c g) (hc : ChgS S w w') (hK : 0 < c → ¬ S g) : Mine w' base v n f A c g :=
  ⟨h.val, fun hn => by
    have hc0 : 0 < c := Nat.lt_of_lt_of_le hn h.le
    obtain ⟨B, o, e, hB, hh⟩ := h.row hn
    have e2 := (h.own hc0).1
    rw [e] at e2
    injection e2 with e2
    injection e2 with e3 _ _
    subst e3
    exact ⟨B, o, e, Nat.lt_of_lt_of_le hB hc.size, fun j hj => ⟨(hh j hj).1, (World.cell?_of_block (hc.block B hB (hK hc0))).trans (hh j hj).2⟩⟩,
    fun hc0 => (h.own.of_block (hc.block g (h.own.lt hc0) (hK hc0))) hc0, h.from_, h.le, h.max, h.nil⟩
end Go.Proofs.YthmlcmlpmolmoaaGreatDoor
/- Layer 14: how long tokens are, what is answered by case; texts compared. -/
namespace Go.Proofs.YthmlcmlpmolmoaaGreatDoor
set_option maxRecDepth 100000
open Go.RowKit
theorem tk_size (s : ByteArray) (v : Int) : (tkS s v).size = s.size + 1 + (itoaB v).size := by unfold tkS; rw [app_size, app_size]; rfl
theorem vt_size {K : Int → Nat → Nat} {V : Int} {s : ByteArray} (hs : isV s = true) : (vtV K V s).size = s.size + 1 + (itoaB V).size := by
  have e : vtV K V s = tkS (vEn (K V) s) V := if_pos hs
  rw [e, tk_size, (vEn_parts (K V) (isV_shp hs)).2.2.2.2]
theorem isV_size {s : ByteArray} (h : isV s = true) : 16 ≤ s.size ∧ s.size ≤ 19 := (shp_parts (isV_shp h)).2
theorem vt_le {K : Int → Nat → Nat} {V : Int} (s : ByteArray) (h1 : 1 ≤ V) (h2 : V ≤ 255) : (vtV K V s).size ≤ 41 := by
  cases h : isV s with
  | false =>
    have e : vtV K V s = ⟨#[]⟩ := if_neg (by rw [h]; decide)
    rw [e]; decide
  | true =>
    rw [vt_size h]
    have := itoaB_size V (by omega) (by omega)
    have := isV_size h
    omega
theorem vtE_ok {s : ByteArray} (h : isV s = true) : vtE s = 0 := if_pos h
theorem vtE_no {s : ByteArray} (h : isV s = false) : vtE s = 10 := if_neg (by rw [h]; decide)
theorem vtV_no {K : Int → Nat → Nat} {V : Int} {s : ByteArray} (h : isV s = false) : vtV K V s = { data := #[] } := if_neg (by rw [h]; decide)
theorem str_dec (s t : ByteArray) : (s.toList == t.toList) = decide (s = t) := by
  rw [Bool.eq_iff_iff, beq_iff_eq, decide_eq_true_iff, ByteArray.toList_eq, ByteArray.toList_eq]
  exact ⟨fun h => ByteArray.ext (Array.ext' h), fun h => by rw [h]⟩
theorem str_neq {s t : ByteArray} (h : ¬ s = t) : (s.toList == t.toList) = false := by rw [str_dec]; exact decide_eq_false h
end Go.Proofs.YthmlcmlpmolmoaaGreatDoor
/- Laws of layer 14: the small cases. -/
namespace Go.Proofs.YthmlcmlpmolmoaaGreatDoor
set_option maxRecDepth 100000
open Go.RowKit
theorem bytes0 (n : Nat) : bytesL n (fun _ => 0) = List.replicate n (Value.int .u8 0) := by
  apply List.ext_getElem?
  intro j
  by_cases hj : j < n
  · rw [bytesL_at hj, List.getElem?_replicate, if_pos hj]; rfl
  · rw [List.getElem?_eq_none (by rw [bytesL_length]; omega), List.getElem?_eq_none (by rw [List.length_replicate]; omega)]
theorem madeN (n : Nat) (w : World) : SlB (w.alloc (.cells (madeCells #[.int .u8 0] n) 5)) (some ⟨w.heap.size, 0, none⟩) n (fun _ => 0) :=
  (arr_made w _ _ n (fun _ => 0) (Array.ext' (by rw [toList_madeCells_one, bytes0]))).slB fun _ _ => Nat.zero_lt_succ _
/-- 4111111111111111, and with a wrong check digit -/
abbrev cS1 : ByteArray := { data := #[52, 49, 49, 49, 49, 49, 49, 49, 49, 49, 49, 49, 49, 49, 49, 49] }
abbrev cS2 : ByteArray := { data := #[52, 49, 49, 49, 49, 49, 49, 49, 49, 49, 49, 49, 49, 49, 49, 50] }
theorem cs1_ok : isV cS1 = true := by decide +kernel
theorem cs2_no : isV cS2 = false := by decide +kernel
set_option maxHeartbeats 1600000 in
theorem small14_any (hN : NewOk) (w : World) (ht : Tabs w) : Calls Tryz.prog 10 #[] w fun e w' => e = .returned (.bool true) ∧ Below w.heap.size w w' := by
  have HT := Lib.hid ht
  have hmk : ∀ W : World, (Instr.makeSlice 22 (.int .i64 16) (.int .i64 16)).run Tryz.prog W = .ok (.slice (some ⟨W.heap.size, 0, none⟩) 16 16) (W.alloc (.cells (madeCells #[.int .u8 0] 16) 5)) := fun W => mk8 16 (by decide) W
  clear ht
  go_enter Tryz.func10, Tryz.ntmps10
  go_wp2_with fail
  have HS := Lib.hid (madeN 16 w)
  have HB := Lib.hid (alloc_below w (.cells (madeCells #[.int .u8 0] 16) 5))
  generalize w.alloc (.cells (madeCells #[.int .u8 0] 16) 5) = w1 at *
  refine (hN _ 16 16 _ 1 1 w w1 rfl HS.out (fun h => by cases h) HT.out HB.out).mono ?_
  rintro e w2 ⟨G, S, VA, rfl, hk, hv, _, _⟩
  have HK := Lib.hid hk
  have HV := Lib.hid hv
  clear hmk hk hv
  go_wp2_with fail
  refine (HK.out.token w2 1 cS1 HV.out (by decide)).mono ?_
  rintro e w3 ⟨rfl, hv3, _⟩
  have HV3 := Lib.hid hv3
  have hsz : (vtV (vK 16 (fun _ => 0) 1) 1 cS1).size = 18 := by rw [vt_size cs1_ok]; decide +kernel
  have HBK := Lib.hid (vb_vt (K := vK 16 (fun _ => 0) 1) (V := 1) (W := 2) cs1_ok (by decide) (by decide) (by decide))
  rw [vtE_ok cs1_ok]
  clear hv3
  generalize hK : vK 16 (fun _ => 0) 1 = K at *
  generalize hT : vtV K 1 cS1 = tk at *
  clear hT hK
  go_wp2_with fail
  refine (HK.out.rotate w3 1 HV3.out).mono ?_
  rintro e w4 ⟨rfl, hv4, _⟩
  have HV4 := Lib.hid (show VA 999 w4 2 from hv4)
  rw [show roV 1 = 2 from rfl, show roE 1 = 0 from rfl]
  clear hv4
  go_wp2_with fail
  refine (HK.out.back w4 2 tk HV4.out (by rw [hsz]; decide)).mono ?_
  rintro e w5 ⟨rfl, hv5, _⟩
  have HV5 := Lib.hid hv5
  rw [HBK.out.1, HBK.out.2]
  clear hv5
  go_wp2_with fail
  refine (HK.out.token w5 2 cS2 HV5.out (by decide)).mono ?_
  rintro e w6 ⟨rfl, hv6, _⟩
  have HB6 := Lib.hid (HK.out.bel _ _ hv6)
  rw [vtE_no cs2_no, vtV_no cs2_no]
  clear hv6
  go_wp2_with fail
  go_ret
  exact ⟨rfl, HB6.out⟩
end Go.Proofs.YthmlcmlpmolmoaaGreatDoor
/- Law VaultBack (layer 14). Written by specs/mklaw14d.py. -/
namespace Go.Proofs.YthmlcmlpmolmoaaGreatDoor
set_option maxRecDepth 100000
open Go.RowKit
theorem tk_shp {t : ByteArray} (h : isTk t = true) : shp t = false := by
  cases hs : shp t with
  | false => rfl
  | true =>
    obtain ⟨hk, e⟩ := fst_has (tk_has h)
    obtain ⟨hall, _, _⟩ := shp_parts hs
    rw [List.all_eq_true] at hall
    have hm : (46 : UInt8) ∈ t.data.toList := by
      have h1 := at_list t _ hk
      rw [e] at h1
      exact List.mem_of_getElem? h1
    have := hall _ hm
    exact absurd this (by decide)
/-- what a token and the card number behind it show -/
theorem mask_tk {K : Int → Nat → Nat} {V : Int} {t : ByteArray} (h : vbE K V t = 0) :
    maskS t = tkS (maskS (vbV K V t)) (tkN t) ∧ (maskS t).extract 0 (vbV K V t).size = maskS (vbV K V t) ∧ (vbV K V t).size ≤ (maskS t).size ∧ (vbV K V t).size ≤ 19 := by
  obtain ⟨h1, _, h3, h4⟩ := vb_ok h
  have hz := (isTk_parts h1).1
  obtain ⟨q1, q2, q3, q4, q5⟩ := vDe_parts (K (tkN t)) hz
  have hm : maskS (vbV K V t) = mk3 (pB (tkA t)) (pM (tkA t)) (pL (tkA t)) := by
    rw [h4]
    unfold maskS
    rw [if_pos q1]
    unfold mk3
    rw [q2, q4, pM_size q1, q5, pM_size hz]
  have e : maskS t = tkS (maskS (vbV K V t)) (tkN t) := by
    rw [hm]
    unfold maskS
    rw [tk_shp h1, if_neg (by decide), if_pos h1]
  have hsz : (maskS (vbV K V t)).size = (vbV K V t).size := (mask_shape (isV_shp h3)).1
  refine ⟨e, ?_, ?_, (isV_size h3).2⟩
  · rw [e]
    unfold tkS
    rw [ByteArray.append_assoc]
    exact ext_left _ _ _ hsz
  · rw [e, tk_size, hsz]
    omega
set_option maxHeartbeats 1600000 in
theorem back14_bad (hN : NewOk) (hB : NewBad) (A : Option Addr) (n c : Nat) (key : Nat → Nat) (t V m : Int) (s s2 : ByteArray) (w : World) (hk : vok n t V = false) (hl : n ≤ 140737488351232) (hA : SlB w A n key) (hnil : A = none → n = 0 ∧ c = 0) (ht : Tabs w) :
    Calls Tryz.prog 4 #[.slice A n c, .int .i64 t, .int .i64 V, .string s, .int .i64 m, .string s2] w fun e w' => e = .returned (.bool true) ∧ Below w.heap.size w w' := by
  have HS := Lib.hid (small14_any hN w ht)
  have HB := Lib.hid (show ∀ W, Below w.heap.size w W → Calls Tryz.prog 12 #[.slice A n c, .int .i64 t, .int .i64 V] W fun e w' => e = .returned (.tuple #[.pointer none, .int .i64 1]) ∧ Below W.heap.size W w' from fun W h => hB A n c key t V W hk hl (hA.keep h) hnil (ht.keep h))
  clear hA hnil ht hk hl hN hB
  go_enter Tryz.func4, Tryz.ntmps4
  go_wp2_with fail
  refine HS.out.mono ?_
  rintro e w1 ⟨rfl, hb1⟩
  have HB1 := Lib.hid hb1
  clear hb1
  go_wp2_with fail
  refine (HB.out w1 HB1.out).mono ?_
  rintro e w2 ⟨rfl, hb2⟩
  have HB2 := Lib.hid (HB1.out.trans (hb2.mono HB1.out.size))
  clear hb2
  go_wp2_with fail
  go_ret
  exact ⟨rfl, HB2.out⟩
set_option maxHeartbeats 6400000 in
theorem back14_good (hN : NewOk) (A : Option Addr) (n c : Nat) (key : Nat → Nat) (t V m : Int) (s s2 : ByteArray) (w : World) (hk : vok n t V = true) (hs : s.size ≤ maxLen) (hs2 : s2.size ≤ maxLen) (hA : SlB w A n key) (hnil : A = none → n = 0 ∧ c = 0) (ht : Tabs w) :
    Calls Tryz.prog 4 #[.slice A n c, .int .i64 t, .int .i64 V, .string s, .int .i64 m, .string s2] w fun e w' => e = .returned (.bool true) ∧ Below w.heap.size w w' := by
  have HS := Lib.hid (small14_any hN w ht)
  have HN := Lib.hid (show ∀ W, Below w.heap.size w W → _ from fun W h => hN A n c key t V w W hk (hA.keep h) hnil ht h)
  have HT := Lib.hid ht
  have HZ := Lib.hid (show s.size ≤ maxLen ∧ s2.size ≤ maxLen from ⟨hs, hs2⟩)
  clear hA hnil ht hk hN hs hs2
  go_enter Tryz.func4, Tryz.ntmps4
  go_wp2_with fail
  refine HS.out.mono ?_
  rintro e w1 ⟨rfl, hb1⟩
  have HB1 := Lib.hid hb1
  clear hb1
  go_wp2_with fail
  refine (HN.out w1 HB1.out).mono ?_
  rintro e w2 ⟨G, S, VA, rfl, hkit, hv, _, _⟩
  have HK := Lib.hid hkit
  have HV := Lib.hid hv
  have HR := Lib.hid (hkit.rng _ _ hv)
  clear hkit hv HN HS
  generalize vK n key t = K at *
  go_wp2_with fail
  refine (HK.out.token w2 V s HV.out HZ.out.1).mono ?_
  rintro e w3 ⟨rfl, hv3, _⟩
  have HV3 := Lib.hid hv3
  have HB3 := Lib.hid (HK.out.bel _ _ hv3)
  clear hv3 HV
  have HIS := Lib.hid (fun W (hW : PT W) => isc_any s W HZ.out.1 hW)
  have hex : (isV s = false ∧ vtE s = 10 ∧ vtV K V s = { data := #[] }) ∨ (isV s = true ∧ vtE s = 0 ∧ vtV K V s = vtV K V s) := by
    cases h : isV s with
    | false => exact Or.inl ⟨rfl, vtE_no h, vtV_no h⟩
    | true => exact Or.inr ⟨rfl, vtE_ok h, rfl⟩
  have hEI : (vtE s == 0) = isV s := by
    cases h : isV s with
    | false => rw [vtE_no h]; rfl
    | true => rw [vtE_ok h]; rfl
  obtain ⟨E1, hE1⟩ : ∃ E1, vtE s = E1 := ⟨_, rfl⟩
  obtain ⟨X1, hX1⟩ : ∃ X1, vtV K V s = X1 := ⟨_, rfl⟩
  have HEX := Lib.hid (show (isV s = false ∧ E1 = 10 ∧ X1 = { data := #[] }) ∨ (isV s = true ∧ E1 = 0 ∧ X1 = vtV K V s) by rw [← hE1, ← hX1]; exact hex)
  rw [hE1] at hEI
  rw [hE1, hX1]
  obtain ⟨isb, hisb⟩ : ∃ isb, isV s = isb := ⟨_, rfl⟩
  rw [hisb] at hEI HIS
  clear hE1 hX1 hisb hex
  go_wp2_with fail
  refine (HIS.out w3 (HT.out.keep HB3.out).pt).mono ?_
  rintro e w4 ⟨rfl, hb4⟩
  have HV4 := Lib.hid (HK.out.below HV3.out hb4)
  clear hb4 HV3
  go_wp2_with fail
  refine (HK.out.back w4 V s2 HV4.out HZ.out.2).mono ?_
  rintro e w5a ⟨rfl, hv5, _⟩
  have HV5a := Lib.hid hv5
  have HB5 := Lib.hid (HK.out.bel _ _ hv5)
  clear hv5 hEI HV4 HIS
  by_cases hg : vbE K V s2 = 0
  · obtain ⟨h1, h2, h3, h4⟩ := vb_ok hg
    obtain ⟨u1, u2, u3, u4⟩ := mask_tk hg
    have hsE : splE s2 = 0 := if_pos h1
    have hsN : splN s2 = tkN s2 := if_pos h1
    have HSP := Lib.hid (fun W' (hW : PT W') => split_any s2 W' HZ.out.2 hW)
    rw [hsE, hsN] at HSP
    have HPZ := Lib.hid (show (vbV K V s2).size ≤ maxLen from Nat.le_trans u4 (by unfold maxLen; decide))
    have HPT := Lib.hid (vtE_ok h3)
    have HIP := Lib.hid (fun W' (hW : PT W') => isc_any (vbV K V s2) W' HPZ.out hW)
    rw [h3] at HIP
    have HMP := Lib.hid (fun W' (hW : PT W') => mask_any (vbV K V s2) W' HPZ.out hW)
    have HMT := Lib.hid (fun W' (hW : PT W') => mask_any s2 W' HZ.out.2 hW)
    have HEQ := Lib.hid (show tkN s2 = V → vtV K V (vbV K V s2) = s2 from fun e => vt_vb hg e)
    have hu2 := u2
    have hu3 : ((vbV K V s2).size : Int) ≤ ((maskS s2).size : Int) := by omega
    have hu4 : ((vbV K V s2).size : Int) ≤ 19 := by omega
    rw [hg]
    clear hg h1 h2 h3 h4 u1 u2 u3 u4 hsE hsN
    generalize vbV K V s2 = pp at *
    generalize maskS pp = mp at *
    generalize maskS s2 = mt at *
    generalize splV s2 = d at *
    go_wp2_with fail
    refine (HSP.out w5a (HT.out.keep HB5.out).pt).mono ?_
    rintro e w5 ⟨rfl, hb5⟩
    have HV5 := Lib.hid (HK.out.below HV5a.out hb5)
    clear hb5 HV5a HSP
    by_cases hn : tkN s2 = V
    · have hyt := HEQ.out hn
      rw [hn]
      clear hn HEQ
      go_wp2_with fail
      refine (HK.out.token w5 V pp HV5.out HPZ.out).mono ?_
      rintro e w6a ⟨rfl, hv6a, _⟩
      have HV6a := Lib.hid hv6a
      have HB6a := Lib.hid (HK.out.bel _ _ hv6a)
      rw [HPT.out]
      rw [hyt]
      clear hyt
      clear hv6a
      go_wp2_with fail
      refine (HIP.out w6a (HT.out.keep HB6a.out).pt).mono ?_
      rintro e w6b ⟨rfl, hb6b⟩
      have HV6b := Lib.hid (HK.out.below HV6a.out hb6b)
      have HB6b := Lib.hid (HK.out.bel _ _ HV6b.out)
      clear hb6b
      go_wp2_with fail
      refine (HMP.out w6b (HT.out.keep HB6b.out).pt).mono ?_
      rintro e w6c ⟨rfl, hb6c⟩
      have HV6c := Lib.hid (HK.out.below HV6b.out hb6c)
      have HB6c := Lib.hid (HK.out.bel _ _ HV6c.out)
      clear hb6c
      go_wp2_with fail
      refine (HMT.out w6c (HT.out.keep HB6c.out).pt).mono ?_
      rintro e w6 ⟨rfl, hb6⟩
      have HV6 := Lib.hid (HK.out.below HV6c.out hb6)
      clear hb6
      go_wp2_with fail
      obtain ⟨b, hb⟩ : ∃ b : Nat, m % 8 = (b : Int) := ⟨(m % 8).toNat, by omega⟩
      have hbb : bits BinOp.and .i64 m 7 = (b : Nat) := by rw [← hb]; exact i64_mask 3 7 (by decide) rfl m
      have hb31 : b ≤ 7 := by omega
      clear hb
      go_loopw [25] (fun i wr => ∃ (W : Int) (k fu : Nat), i = .int .i64 k ∧ k ≤ b ∧ b ≤ fu + k ∧ V ≤ W ∧ VA fu wr W) (fun i _ => b - (intOf i).toNat)
      case atStart => exact ⟨V, 0, 1000, rfl, Nat.zero_le _, by omega, Int.le_refl _, HV6.out⟩
      case round =>
        obtain ⟨W, k, fu, rfl, hkb, hfu, hVW, hva⟩ := hrel
        have HVA := Lib.hid hva
        have HVW := Lib.hid hVW
        clear hva HV6 hVW
        by_cases hlt : k < b
        · have hki : (k : Int) < (b : Nat) := by omega
          obtain ⟨fu, rfl⟩ : ∃ m, fu = m + 1 := ⟨fu - 1, by omega⟩
          go_wp2_with fail
          refine (HK.out.rotate wr W HVA.out).mono ?_
          rintro e w8 ⟨rfl, hv8, _⟩
          have HV8 := Lib.hid hv8
          have HN8 := Lib.hid (show V ≤ roN W by have := HVW.out; unfold roN; split <;> omega)
          clear hv8
          generalize roN W = W8 at *
          generalize roV W = r8 at *
          generalize roE W = e8 at *
          go_wp2_with fail
          go_roundw
          case rel => exact ⟨W8, k + 1, fu, by go_num, by omega, by omega, HN8.out, HV8.out⟩
          case measure => simp [intOf]; omega
        · obtain rfl : k = b := by omega
          have hrg := HK.out.rng _ _ HVA.out
          have HB7 := Lib.hid (HK.out.bel _ _ HVA.out)
          rcases HEX.out with ⟨h1, rfl, rfl⟩ | ⟨h1, rfl, rfl⟩
          · clear h1 hrg
            go_wp2_with fail
            go_ret
            exact ⟨rfl, HB7.out⟩
          · have hX := Nat.le_trans (vt_le (K := K) s HR.out.1 HR.out.2) (show 41 ≤ maxLen by unfold maxLen; decide)
            have HBK := Lib.hid (vb_vt (K := K) h1 HR.out.1 HR.out.2 HVW.out)
            have HBW := Lib.hid (vb_vt (K := K) h1 hrg.1 hrg.2 (Int.le_refl W))
            obtain ⟨k1, k2, k3, k4⟩ := vt_tk (K := K) h1 hrg.1 hrg.2
            have hY := Nat.le_trans (vt_le (K := K) s hrg.1 hrg.2) (show 41 ≤ maxLen by unfold maxLen; decide)
            have hsE : splE (vtV K W s) = 0 := if_pos k4
            have hsN : splN (vtV K W s) = W := (if_pos k4).trans k3
            have HSP := Lib.hid (fun W' (hW : PT W') => split_any (vtV K W s) W' hY hW)
            rw [hsE, hsN] at HSP
            have HRV := Lib.hid (show vrV K W (vtV K V s) = vtV K W s from by unfold vrV; rw [if_pos HBK.out.1, HBK.out.2])
            have HX := Lib.hid hX
            have HY := Lib.hid hY
            clear h1 k1 k2 k3 k4 hsE hsN hX hY
            generalize splV (vtV K W s) = d at *
            generalize vtV K W s = y1 at *
            generalize vtV K V s = x1 at *
            go_wp2_with fail
            refine (HK.out.back wr W x1 HVA.out HX.out).mono ?_
            rintro e w8 ⟨rfl, hv8, _⟩
            have HV8 := Lib.hid hv8
            rw [HBK.out.1, HBK.out.2]
            clear hv8
            go_wp2_with fail
            refine (HK.out.renew w8 W x1 HV8.out HX.out).mono ?_
            rintro e w9 ⟨rfl, hv9, _⟩
            have HV9 := Lib.hid hv9
            rw [HBK.out.1, HRV.out]
            clear hv9
            go_wp2_with fail
            refine (HK.out.back w9 W y1 HV9.out HY.out).mono ?_
            rintro e w10 ⟨rfl, hv10, _⟩
            have HV10 := Lib.hid hv10
            have HB10 := Lib.hid (HK.out.bel _ _ hv10)
            rw [HBW.out.1, HBW.out.2]
            clear hv10
            go_wp2_with fail
            refine (HSP.out w10 (HT.out.keep HB10.out).pt).mono ?_
            rintro e w11 ⟨rfl, hb11⟩
            have HV11 := Lib.hid (HK.out.below HV10.out hb11)
            clear hb11
            go_wp2_with fail
            refine (HK.out.version w11 W HV11.out).mono ?_
            rintro e w12 ⟨rfl, hv12, _⟩
            have HB12 := Lib.hid (HK.out.bel _ _ hv12)
            clear hv12
            go_wp2_with fail
            go_ret
            exact ⟨rfl, HB12.out⟩
    · have hne : (tkN s2 == V) = false := by simpa using hn
      generalize tkN s2 = nn at *
      clear hn HEQ
      go_wp2_with fail
      refine (HK.out.token w5 V pp HV5.out HPZ.out).mono ?_
      rintro e w6a ⟨rfl, hv6a, _⟩
      have HV6a := Lib.hid hv6a
      have HB6a := Lib.hid (HK.out.bel _ _ hv6a)
      rw [HPT.out]
      generalize vtV K V pp = yy at *
      clear hv6a
      go_wp2_with fail
      refine (HIP.out w6a (HT.out.keep HB6a.out).pt).mono ?_
      rintro e w6b ⟨rfl, hb6b⟩
      have HV6b := Lib.hid (HK.out.below HV6a.out hb6b)
      have HB6b := Lib.hid (HK.out.bel _ _ HV6b.out)
      clear hb6b
      go_wp2_with fail
      refine (HMP.out w6b (HT.out.keep HB6b.out).pt).mono ?_
      rintro e w6c ⟨rfl, hb6c⟩
      have HV6c := Lib.hid (HK.out.below HV6b.out hb6c)
      have HB6c := Lib.hid (HK.out.bel _ _ HV6c.out)
      clear hb6c
      go_wp2_with fail
      refine (HMT.out w6c (HT.out.keep HB6c.out).pt).mono ?_
      rintro e w6 ⟨rfl, hb6⟩
      have HV6 := Lib.hid (HK.out.below HV6c.out hb6)
      clear hb6
      go_wp2_with fail
      obtain ⟨b, hb⟩ : ∃ b : Nat, m % 8 = (b : Int) := ⟨(m % 8).toNat, by omega⟩
      have hbb : bits BinOp.and .i64 m 7 = (b : Nat) := by rw [← hb]; exact i64_mask 3 7 (by decide) rfl m
      have hb31 : b ≤ 7 := by omega
      clear hb
      go_loopw [25] (fun i wr => ∃ (W : Int) (k fu : Nat), i = .int .i64 k ∧ k ≤ b ∧ b ≤ fu + k ∧ V ≤ W ∧ VA fu wr W) (fun i _ => b - (intOf i).toNat)
      case atStart => exact ⟨V, 0, 1000, rfl, Nat.zero_le _, by omega, Int.le_refl _, HV6.out⟩
      case round =>
        obtain ⟨W, k, fu, rfl, hkb, hfu, hVW, hva⟩ := hrel
        have HVA := Lib.hid hva
        have HVW := Lib.hid hVW
        clear hva HV6 hVW
        by_cases hlt : k < b
        · have hki : (k : Int) < (b : Nat) := by omega
          obtain ⟨fu, rfl⟩ : ∃ m, fu = m + 1 := ⟨fu - 1, by omega⟩
          go_wp2_with fail
          refine (HK.out.rotate wr W HVA.out).mono ?_
          rintro e w8 ⟨rfl, hv8, _⟩
          have HV8 := Lib.hid hv8
          have HN8 := Lib.hid (show V ≤ roN W by have := HVW.out; unfold roN; split <;> omega)
          clear hv8
          generalize roN W = W8 at *
          generalize roV W = r8 at *
          generalize roE W = e8 at *
          go_wp2_with fail
          go_roundw
          case rel => exact ⟨W8, k + 1, fu, by go_num, by omega, by omega, HN8.out, HV8.out⟩
          case measure => simp [intOf]; omega
        · obtain rfl : k = b := by omega
          have hrg := HK.out.rng _ _ HVA.out
          have HB7 := Lib.hid (HK.out.bel _ _ HVA.out)
          rcases HEX.out with ⟨h1, rfl, rfl⟩ | ⟨h1, rfl, rfl⟩
          · clear h1 hrg
            go_wp2_with fail
            go_ret
            exact ⟨rfl, HB7.out⟩
          · have hX := Nat.le_trans (vt_le (K := K) s HR.out.1 HR.out.2) (show 41 ≤ maxLen by unfold maxLen; decide)
            have HBK := Lib.hid (vb_vt (K := K) h1 HR.out.1 HR.out.2 HVW.out)
            have HBW := Lib.hid (vb_vt (K := K) h1 hrg.1 hrg.2 (Int.le_refl W))
            obtain ⟨k1, k2, k3, k4⟩ := vt_tk (K := K) h1 hrg.1 hrg.2
            have hY := Nat.le_trans (vt_le (K := K) s hrg.1 hrg.2) (show 41 ≤ maxLen by unfold maxLen; decide)
            have hsE : splE (vtV K W s) = 0 := if_pos k4
            have hsN : splN (vtV K W s) = W := (if_pos k4).trans k3
            have HSP := Lib.hid (fun W' (hW : PT W') => split_any (vtV K W s) W' hY hW)
            rw [hsE, hsN] at HSP
            have HRV := Lib.hid (show vrV K W (vtV K V s) = vtV K W s from by unfold vrV; rw [if_pos HBK.out.1, HBK.out.2])
            have HX := Lib.hid hX
            have HY := Lib.hid hY
            clear h1 k1 k2 k3 k4 hsE hsN hX hY
            generalize splV (vtV K W s) = d at *
            generalize vtV K W s = y1 at *
            generalize vtV K V s = x1 at *
            go_wp2_with fail
            refine (HK.out.back wr W x1 HVA.out HX.out).mono ?_
            rintro e w8 ⟨rfl, hv8, _⟩
            have HV8 := Lib.hid hv8
            rw [HBK.out.1, HBK.out.2]
            clear hv8
            go_wp2_with fail
            refine (HK.out.renew w8 W x1 HV8.out HX.out).mono ?_
            rintro e w9 ⟨rfl, hv9, _⟩
            have HV9 := Lib.hid hv9
            rw [HBK.out.1, HRV.out]
            clear hv9
            go_wp2_with fail
            refine (HK.out.back w9 W y1 HV9.out HY.out).mono ?_
            rintro e w10 ⟨rfl, hv10, _⟩
            have HV10 := Lib.hid hv10
            have HB10 := Lib.hid (HK.out.bel _ _ hv10)
            rw [HBW.out.1, HBW.out.2]
            clear hv10
            go_wp2_with fail
            refine (HSP.out w10 (HT.out.keep HB10.out).pt).mono ?_
            rintro e w11 ⟨rfl, hb11⟩
            have HV11 := Lib.hid (HK.out.below HV10.out hb11)
            clear hb11
            go_wp2_with fail
            refine (HK.out.version w11 W HV11.out).mono ?_
            rintro e w12 ⟨rfl, hv12, _⟩
            have HB12 := Lib.hid (HK.out.bel _ _ hv12)
            clear hv12
            go_wp2_with fail
            go_ret
            exact ⟨rfl, HB12.out⟩
  · have hgE : (vbE K V s2 == 0) = false := by simpa using hg
    have HV6 := HV5a
    clear hg HV5a
    generalize vbE K V s2 = eg at *
    generalize vbV K V s2 = pp at *
    go_wp2_with fail
    obtain ⟨b, hb⟩ : ∃ b : Nat, m % 8 = (b : Int) := ⟨(m % 8).toNat, by omega⟩
    have hbb : bits BinOp.and .i64 m 7 = (b : Nat) := by rw [← hb]; exact i64_mask 3 7 (by decide) rfl m
    have hb31 : b ≤ 7 := by omega
    clear hb
    go_loopw [25] (fun i wr => ∃ (W : Int) (k fu : Nat), i = .int .i64 k ∧ k ≤ b ∧ b ≤ fu + k ∧ V ≤ W ∧ VA fu wr W) (fun i _ => b - (intOf i).toNat)
    case atStart => exact ⟨V, 0, 1000, rfl, Nat.zero_le _, by omega, Int.le_refl _, HV6.out⟩
    case round =>
      obtain ⟨W, k, fu, rfl, hkb, hfu, hVW, hva⟩ := hrel
      have HVA := Lib.hid hva
      have HVW := Lib.hid hVW
      clear hva HV6 hVW
      by_cases hlt : k < b
      · have hki : (k : Int) < (b : Nat) := by omega
        obtain ⟨fu, rfl⟩ : ∃ m, fu = m + 1 := ⟨fu - 1, by omega⟩
        go_wp2_with fail
        refine (HK.out.rotate wr W HVA.out).mono ?_
        rintro e w8 ⟨rfl, hv8, _⟩
        have HV8 := Lib.hid hv8
        have HN8 := Lib.hid (show V ≤ roN W by have := HVW.out; unfold roN; split <;> omega)
        clear hv8
        generalize roN W = W8 at *
        generalize roV W = r8 at *
        generalize roE W = e8 at *
        go_wp2_with fail
        go_roundw
        case rel => exact ⟨W8, k + 1, fu, by go_num, by omega, by omega, HN8.out, HV8.out⟩
        case measure => simp [intOf]; omega
      · obtain rfl : k = b := by omega
        have hrg := HK.out.rng _ _ HVA.out
        have HB7 := Lib.hid (HK.out.bel _ _ HVA.out)
        rcases HEX.out with ⟨h1, rfl, rfl⟩ | ⟨h1, rfl, rfl⟩
        · clear h1 hrg
          go_wp2_with fail
          go_ret
          exact ⟨rfl, HB7.out⟩
        · have hX := Nat.le_trans (vt_le (K := K) s HR.out.1 HR.out.2) (show 41 ≤ maxLen by unfold maxLen; decide)
          have HBK := Lib.hid (vb_vt (K := K) h1 HR.out.1 HR.out.2 HVW.out)
          have HBW := Lib.hid (vb_vt (K := K) h1 hrg.1 hrg.2 (Int.le_refl W))
          obtain ⟨k1, k2, k3, k4⟩ := vt_tk (K := K) h1 hrg.1 hrg.2
          have hY := Nat.le_trans (vt_le (K := K) s hrg.1 hrg.2) (show 41 ≤ maxLen by unfold maxLen; decide)
          have hsE : splE (vtV K W s) = 0 := if_pos k4
          have hsN : splN (vtV K W s) = W := (if_pos k4).trans k3
          have HSP := Lib.hid (fun W' (hW : PT W') => split_any (vtV K W s) W' hY hW)
          rw [hsE, hsN] at HSP
          have HRV := Lib.hid (show vrV K W (vtV K V s) = vtV K W s from by unfold vrV; rw [if_pos HBK.out.1, HBK.out.2])
          have HX := Lib.hid hX
          have HY := Lib.hid hY
          clear h1 k1 k2 k3 k4 hsE hsN hX hY
          generalize splV (vtV K W s) = d at *
          generalize vtV K W s = y1 at *
          generalize vtV K V s = x1 at *
          go_wp2_with fail
          refine (HK.out.back wr W x1 HVA.out HX.out).mono ?_
          rintro e w8 ⟨rfl, hv8, _⟩
          have HV8 := Lib.hid hv8
          rw [HBK.out.1, HBK.out.2]
          clear hv8
          go_wp2_with fail
          refine (HK.out.renew w8 W x1 HV8.out HX.out).mono ?_
          rintro e w9 ⟨rfl, hv9, _⟩
          have HV9 := Lib.hid hv9
          rw [HBK.out.1, HRV.out]
          clear hv9
          go_wp2_with fail
          refine (HK.out.back w9 W y1 HV9.out HY.out).mono ?_
          rintro e w10 ⟨rfl, hv10, _⟩
          have HV10 := Lib.hid hv10
          have HB10 := Lib.hid (HK.out.bel _ _ hv10)
          rw [HBW.out.1, HBW.out.2]
          clear hv10
          go_wp2_with fail
          refine (HSP.out w10 (HT.out.keep HB10.out).pt).mono ?_
          rintro e w11 ⟨rfl, hb11⟩
          have HV11 := Lib.hid (HK.out.below HV10.out hb11)
          clear hb11
          go_wp2_with fail
          refine (HK.out.version w11 W HV11.out).mono ?_
          rintro e w12 ⟨rfl, hv12, _⟩
          have HB12 := Lib.hid (HK.out.bel _ _ hv12)
          clear hv12
          go_wp2_with fail
          go_ret
          exact ⟨rfl, HB12.out⟩
theorem back14_any (hN : NewOk) (hB : NewBad) (A : Option Addr) (n c : Nat) (key : Nat → Nat) (t V m : Int) (s s2 : ByteArray) (w : World) (hl : n ≤ 140737488351232) (hs : s.size ≤ maxLen) (hs2 : s2.size ≤ maxLen) (hA : SlB w A n key) (hnil : A = none → n = 0 ∧ c = 0) (ht : Tabs w) :
    Calls Tryz.prog 4 #[.slice A n c, .int .i64 t, .int .i64 V, .string s, .int .i64 m, .string s2] w fun e w' => e = .returned (.bool true) ∧ Below w.heap.size w w' := by
  cases hk : vok n t V with
  | false => exact back14_bad hN hB A n c key t V m s s2 w hk hl hA hnil ht
  | true => exact back14_good hN A n c key t V m s s2 w hk hs hs2 hA hnil ht
end Go.Proofs.YthmlcmlpmolmoaaGreatDoor
