/- The document's ledger (layer 17): Restore. Written by specs/mkref17v.py. -/
import Derived.Test.YtlglkfgephilnaaRef17T
namespace Go.Proofs.Ytlglkfgephilnaa
set_option maxRecDepth 100000
open Go.RowKit
theorem run_ixP (B o n cp k : Nat) (hk : k < n) (w : World) : (Instr.indexAt 22 (.slice (some ⟨B, o, none⟩) n cp) (.int .i64 (k : Int))).run Try.prog w = .ok (.pointer (some ⟨B, o + k * 4, none⟩)) w := by
  have h1 : ¬ (k : Int) < 0 := by omega
  have h2 : (k : Int) < n := by omega
  go_simp
/-- what the operations of the append give -/
def apW (X B o k m cp : Nat) (v : Value) (q : Po) : Nat → Value → Prop
  | 0, y => y = .pointer (some ⟨X, 0, none⟩)
  | 1, y => y = .pointer (some ⟨X, 0, none⟩)
  | 2, y => y = .pointer (some ⟨X, 0, none⟩)
  | 3, y => y = .pointer (some ⟨X, 0, none⟩)
  | 4, y => y = v
  | 5, y => y = .slice (some ⟨B, o, none⟩) m cp
  | 6, y => y = .int .i64 (k : Int)
  | 7, y => y = .pointer (some ⟨B, o + k * 4, none⟩)
  | 8, y => y = .agg #[.string q.k, .int .i64 q.a, .int .i64 q.s, .string q.t]
  | 11, y => y = .pointer (some ⟨X, 0, none⟩)
  | 12, y => y = .pointer (some ⟨X, 0, none⟩)
  | _, _ => True
theorem po_twice {F : List Po} {k : Nat} (hk : k < F.length) {y : Po} (hn : fndP (F.take k) F[k].k = some y) : ¬ LgOk F := fun h => by
  obtain ⟨h1, h2⟩ := fndP_mem hn
  obtain ⟨j, hj, rfl⟩ := List.getElem_of_mem h1
  rw [List.length_take] at hj
  rw [List.getElem_take] at h2
  have := h.apart
  rw [List.pairwise_iff_getElem] at this
  exact this j k (by omega) hk (by omega) h2
set_option maxHeartbeats 6400000 in
theorem rres17_any (u : World) (A : Option Addr) (cp : Nat) (F : List Po) (w : World) (hb : Below u.heap.size u w) (hF : LiS poE w A F) :
    Calls Try.prog 11 #[.slice A F.length cp] w fun e w' => Below w.heap.size w w' ∧ ((LgOk F ∧ ∃ G v, e = .returned (.tuple #[.pointer (some ⟨G, 0, none⟩), .int .i64 0]) ∧ RLg u G w' F v ∧ ∀ k, (k = G ∨ v.ownBlock = some k) → w.heap.size ≤ k) ∨ (¬ LgOk F ∧ e = .returned (.tuple #[.pointer none, .int .i64 1]))) := by
  by_cases h16 : F.length ≤ 24
  · have h16i : ¬ (24 : Int) < F.length := by omega
    have HF := Lib.hid hF
    have H16 := Lib.hid h16
    obtain ⟨X, hXd⟩ : ∃ X, X = w.heap.size := ⟨_, rfl⟩
    have HR := Lib.hid (show RLg u X (w.alloc (.cells #[.slice none 0 0] 55)) [] (.slice none 0 0) from by
      subst hXd
      exact ⟨hb.trans ((alloc_below w _).mono hb.size), hb.size, (World.cell?_alloc_at _ _ _ _ rfl).trans rfl, World.frozen?_alloc_at _ _ _ _ rfl, OwL.nil _ _ _, (fun g hg => by cases hg), LgIn.nil⟩)
    have HB1 := Lib.hid (alloc_below w (.cells #[.slice none 0 0] 55))
    have HX := Lib.hid (show w.heap.size ≤ X by omega)
    have HUX := Lib.hid (show u.heap.size ≤ X by rw [hXd]; exact hb.size)
    have HXD := Lib.hid hXd
    clear hb hF h16 hXd
    go_enter Try.func11, Try.ntmps11
    go_wp2_with fail
    rw [← HXD.out]
    go_loopw [5] (fun i wr => ∃ (k : Nat) (v : Value), k ≤ F.length ∧ i = .int .i64 k ∧ RLg u X wr (F.take k) v ∧ (∀ g, v.ownBlock = some g → w.heap.size ≤ g) ∧ Below w.heap.size w wr) (fun i _ => F.length - (intOf i).toNat)
    case atStart => exact ⟨0, _, Nat.zero_le _, rfl, HR.out, (fun g hg => by cases hg), HB1.out⟩
    case round =>
      obtain ⟨k, v, hk, rfl, hr, hv, hb⟩ := hrel
      have HVW := Lib.hid hv
      clear hv
      have HRB := Lib.hid hr
      have HB := Lib.hid hb
      clear hr hb HR HB1
      by_cases hlt : k < F.length
      · have hki : (k : Int) < F.length := by omega
        have hk24 : k < 24 := by have := H16.out; omega
        obtain ⟨B, o, rfl, hB0, d0, d1, d2, d3⟩ := po_at HF.out hlt
        have HHV := Lib.hid (show v.ownBlock ≠ some B from fun hg => by have := HVW.out _ hg; omega)
        have HPA := Lib.hid (show PoAt wr B (o + k * 4) F[k] from (show PoAt w B (o + k * 4) F[k] from ⟨d0, d1, d2, d3⟩).keep HB.out)
        have hBl := HPA.out.lt
        obtain ⟨c0, c1, c2, c3⟩ := HPA.out
        clear d0 d1 d2 d3 hB0
        have HTK := Lib.hid (show F.take (k + 1) = F.take k ++ [F[k]] from by rw [List.take_add_one, List.getElem?_eq_getElem hlt]; rfl)
        have HNX := Lib.hid (fun (ok : PoOk F[k]) (hn : fndP (F.take k) F[k].k = none) => HRB.out.ok.add ok hn (by rw [List.length_take]; omega))
        have HTW := Lib.hid (fun y (hn : fndP (F.take k) F[k].k = some y) => po_twice hlt hn)
        have HEA := Lib.hid (show LgOk F → PoOk F[k] from fun h => h.each _ (List.getElem_mem hlt))
        generalize F[k] = q at *
        have HM := Lib.hid (rmay17_any q wr)
        go_wp2_with fail
        refine HM.out.mono ?_
        rintro e w3 ⟨rfl, hb3⟩
        have HB3 := Lib.hid (HB.out.trans (hb3.mono HB.out.size))
        have HK3 := Lib.hid (HRB.out.keep hb3)
        have HP3 := Lib.hid (HPA.out.keep hb3)
        obtain ⟨d0, d1, d2, d3⟩ := HP3.out
        clear hb3 HM c0 c1 c2 c3 HRB HPA
        cases hpm : pmK q
        · have HNO := Lib.hid (show ¬ LgOk F from fun hbk => by have := pm_iff.2 (HEA.out hbk); rw [hpm] at this; cases this)
          clear hpm HNX HTW HEA
          go_wp2_with fail
          go_ret2
          exact ⟨HB3.out, Or.inr ⟨HNO.out, rfl⟩⟩
        · have HPO := Lib.hid (pm_iff.1 hpm)
          have HAT := Lib.hid (rat17_any u X (F.take k) v q.k w3 HK3.out)
          clear hpm
          go_wp2_with fail
          refine HAT.out.mono ?_
          rintro e w4 ⟨p, rfl, hp, rfl⟩
          clear HAT
          rcases hp with ⟨rfl, hf⟩ | ⟨kk, hkk, rfl, hf⟩
          · have HOK2 := Lib.hid (HNX.out HPO.out hf)
            obtain ⟨L', hL'⟩ : ∃ L', L' = F.take k := ⟨_, rfl⟩
            rw [← hL'] at HK3 HOK2 HTK
            obtain ⟨m, hm⟩ : ∃ m, m = F.length := ⟨_, rfl⟩
            have hkm : k < m := by omega
            have HJ := Lib.hid (JA.start (na := 10) (nb := 9) HK3.out HP3.out)
            clear hL' HNX HTW HEA hf
            go_wp2_with fail
            clear d0 d1 d2 d3
            generalize w4 = W0 at *
            rw [← hm]
            have HMF := Lib.hid hm
            clear hm
            refine ord.wp_region_ordZ (JA u W0 X L' v q B (o + k * 4) 10 9) 13 [[], [], [1], [2], [3], [], [], [5, 6], [7], [8], [4, 9], [0], [11]] [(0, 35), (1, 36), (2, 37), (3, 38), (4, 39), (5, 40), (6, 41), (7, 42), (8, 43), (9, 44), (10, 45), (11, 46), (12, 47)] (apW X B o k m cp v q) (by kernel_rfl) (by kernel_rfl) (by kernel_rfl) (ord.steps_cons ?_ (ord.steps_cons ?_ (ord.steps_cons ?_ (ord.steps_cons ?_ (ord.steps_cons ?_ (ord.steps_cons ?_ (ord.steps_cons ?_ (ord.steps_cons ?_ (ord.steps_cons ?_ (ord.steps_cons ?_ (ord.steps_cons ?_ (ord.steps_cons ?_ (ord.steps_cons ?_ ord.steps_nil))))))))))))) HJ.out ?_
            · intro o1 ho x c w hj hc hG
              obtain rfl := Option.some.inj ho
              clear ho
              refine Or.inl ⟨ord.want0 rfl, ?_⟩
              exact ord.makes_move rfl ⟨hj.keep (by decide) (by decide) _, rfl⟩
            · intro o1 ho x c w hj hc hG
              obtain rfl := Option.some.inj ho
              clear ho
              refine Or.inl ⟨ord.want0 rfl, ?_⟩
              exact ord.makes_move rfl ⟨hj.keep (by decide) (by decide) _, rfl⟩
            · intro o1 ho x c w hj hc hG
              obtain rfl := Option.some.inj ho
              clear ho
              have h1 : x 1 = .pointer (some ⟨X, 0, none⟩) := (hG (1, 36) (List.mem_of_getElem? (i := 1) rfl) rfl).2
              refine Or.inl ⟨ord.want0 rfl, ?_⟩
              exact ord.makes_nilCheck rfl h1 ⟨hj.keep (by decide) (by decide) _, rfl⟩
            · intro o1 ho x c w hj hc hG
              obtain rfl := Option.some.inj ho
              clear ho
              have h2 : x 2 = .pointer (some ⟨X, 0, none⟩) := (hG (2, 37) (List.mem_of_getElem? (i := 2) rfl) rfl).2
              refine Or.inl ⟨ord.want0 rfl, ?_⟩
              exact ord.makes_fieldAddr rfl h2 (run_fl X w) ⟨hj.keep (by decide) (by decide) _, rfl⟩
            · intro o1 ho x c w hj hc hG
              obtain rfl := Option.some.inj ho
              clear ho
              have h3 : x 3 = .pointer (some ⟨X, 0, none⟩) := (hG (3, 38) (List.mem_of_getElem? (i := 3) rfl) rfl).2
              refine Or.inl ⟨ord.want0 rfl, ?_⟩
              exact ord.makes_ld rfl h3 (run_ldV _ _ w hj.cell) ⟨hj.keep (by decide) (by decide) _, rfl⟩
            · intro o1 ho x c w hj hc hG
              obtain rfl := Option.some.inj ho
              clear ho
              refine Or.inl ⟨ord.want0 rfl, ?_⟩
              exact ord.makes_move rfl ⟨hj.keep (by decide) (by decide) _, rfl⟩
            · intro o1 ho x c w hj hc hG
              obtain rfl := Option.some.inj ho
              clear ho
              refine Or.inl ⟨ord.want0 rfl, ?_⟩
              exact ord.makes_move rfl ⟨hj.keep (by decide) (by decide) _, rfl⟩
            · intro o1 ho x c w hj hc hG
              obtain rfl := Option.some.inj ho
              clear ho
              have h5 : x 5 = .slice (some ⟨B, o, none⟩) m cp := (hG (5, 40) (List.mem_of_getElem? (i := 5) rfl) rfl).2
              have h6 : x 6 = .int .i64 (k : Int) := (hG (6, 41) (List.mem_of_getElem? (i := 6) rfl) rfl).2
              refine Or.inl ⟨ord.want0 rfl, ?_⟩
              exact ord.makes_ixAddr rfl h5 h6 (run_ixP B o m cp k hkm w) ⟨hj.keep (by decide) (by decide) _, rfl⟩
            · intro o1 ho x c w hj hc hG
              obtain rfl := Option.some.inj ho
              clear ho
              have h7 : x 7 = .pointer (some ⟨B, o + k * 4, none⟩) := (hG (7, 42) (List.mem_of_getElem? (i := 7) rfl) rfl).2
              refine Or.inl ⟨ord.want0 rfl, ?_⟩
              exact ord.makes_ld rfl h7 (run_ldP _ _ _ w hj.box) ⟨hj.keep (by decide) (by decide) _, rfl⟩
            · intro o1 ho x c w hj hc hG
              obtain rfl := Option.some.inj ho
              clear ho
              have h8 : x 8 = .agg #[.string q.k, .int .i64 q.a, .int .i64 q.s, .string q.t] := (hG (8, 43) (List.mem_of_getElem? (i := 8) rfl) rfl).2
              refine Or.inl ⟨ord.want0 rfl, ?_⟩
              exact ord.makes_build1 rfl h8 (run_lit1 q w) ⟨hj.build (by decide), trivial⟩
            · intro o1 ho x c w hj hc hG
              obtain rfl := Option.some.inj ho
              clear ho
              have h4 : x 4 = v := (hG (4, 39) (List.mem_of_getElem? (i := 4) rfl) rfl).2
              have h9 := (hG (9, 44) (List.mem_of_getElem? (i := 9) rfl) rfl).1
              refine Or.inl ⟨ord.want0 rfl, ?_⟩
              obtain ⟨y, w', hr, hj'⟩ := hj.append hc h9 HHV.out
              exact makes_app rfl rfl h4 rfl hr ⟨hj', trivial⟩
            · intro o1 ho x c w hj hc hG
              obtain rfl := Option.some.inj ho
              clear ho
              have h0 : x 0 = .pointer (some ⟨X, 0, none⟩) := (hG (0, 35) (List.mem_of_getElem? (i := 0) rfl) rfl).2
              refine Or.inl ⟨ord.want0 rfl, ?_⟩
              exact ord.makes_nilCheck rfl h0 ⟨hj.keep (by decide) (by decide) _, rfl⟩
            · intro o1 ho x c w hj hc hG
              obtain rfl := Option.some.inj ho
              clear ho
              have h11 : x 11 = .pointer (some ⟨X, 0, none⟩) := (hG (11, 46) (List.mem_of_getElem? (i := 11) rfl) rfl).2
              refine Or.inl ⟨ord.want0 rfl, ?_⟩
              exact ord.makes_fieldAddr rfl h11 (run_fl X w) ⟨hj.keep (by decide) (by decide) _, rfl⟩
            · intro x c w5 hj hG
              have g10 := (hG (10, 45) (List.mem_of_getElem? (i := 10) rfl)).1
              have e12 : x 12 = .pointer (some ⟨X, 0, none⟩) := (hG (12, 47) (List.mem_of_getElem? (i := 12) rfl)).2
              clear hG
              simp only [ord.puts, ord.put', List.set_cons_zero, List.set_cons_succ, if_true]
              rw [e12]
              simp only [List.drop_succ_cons, List.drop_zero]
              have hcell := hj.cell
              have hfroz := hj.froz
              obtain ⟨yA, yc, hye, _⟩ := (hj.post _ g10).1.cap_le
              rw [show (L' ++ [q]).length = L'.length + 1 from List.length_append] at hye
              have HD := Lib.hid (hj.done g10 HUX.out HOK2.out)
              clear hj g10 e12 HJ
              rw [hye] at HD ⊢
              clear hye
              have hml := HMF.out
              go_wp2_with fail
              go_roundw
              case rel =>
                obtain ⟨v2, r1, r2, r3⟩ := HD.out
                rw [← HTK.out] at r1
                refine ⟨k + 1, v2, by omega, by go_num, r1, fun g hg => ?_, HB3.out.trans (r2.below HB3.out.size fun j hj => ?_)⟩
                · rcases r3 g hg with h | h
                  · exact HVW.out g h
                  · exact Nat.le_trans HB3.out.size h
                · rcases hj with rfl | hj
                  · exact HX.out
                  · exact HVW.out j hj
              case measure => simp [intOf]; omega
          · have hkd : (0 : Int) ≤ kk := by omega
            have HNO := Lib.hid (HTW.out _ hf)
            clear HNX HTW HEA hf
            go_wp2_with fail
            go_ret2
            exact ⟨HB3.out, Or.inr ⟨HNO.out, rfl⟩⟩
      · obtain rfl : k = F.length := by omega
        rw [List.take_length] at HRB
        have HTO := Lib.hid (rtotal17_any u X F v wr HRB.out)
        have hE := HRB.out.ok
        have HE := Lib.hid hE
        clear hE
        go_wp2_with fail
        refine HTO.out.mono ?_
        rintro e w4 ⟨rfl, rfl⟩
        clear HTO
        by_cases ht : 5000000000000 < totP F
        · have HNO := Lib.hid (show ¬ LgOk F from fun h => by have := h.tot; omega)
          have qt : decide (5000000000000 < totP F) = true := decide_eq_true ht
          clear ht
          go_wp2_with fail
          go_ret2
          exact ⟨HB.out, Or.inr ⟨HNO.out, rfl⟩⟩
        · have HYES := Lib.hid (show LgOk F from ⟨HE.out.few, HE.out.apart, HE.out.each, by omega⟩)
          have qt : decide (5000000000000 < totP F) = false := decide_eq_false ht
          clear ht
          go_wp2_with fail
          go_ret2
          exact ⟨HB.out, Or.inl ⟨HYES.out, X, v, rfl, HRB.out, fun j hj => hj.elim (fun e => e ▸ HX.out) (HVW.out j)⟩⟩
  · have h16i : (24 : Int) < F.length := by omega
    have HNO := Lib.hid (show ¬ LgOk F from fun h => h16 h.few)
    have HBL := Lib.hid (alloc_below w (.cells #[.slice none 0 0] 55))
    clear hb hF h16
    go_enter Try.func11, Try.ntmps11
    go_wp2_with fail
    go_ret2
    exact ⟨HBL.out, Or.inr ⟨HNO.out, rfl⟩⟩
end Go.Proofs.Ytlglkfgephilnaa
