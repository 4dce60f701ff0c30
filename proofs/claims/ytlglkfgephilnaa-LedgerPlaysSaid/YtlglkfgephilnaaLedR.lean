/- Layer 17, the code: Restore. -/
import Derived.Test.YtlglkfgephilnaaLedL
namespace Go.Proofs.Ytlglkfgephilnaa
set_option maxRecDepth 100000
open Go.RowKit
/-- a post of a row that may be -/
theorem ad_next {F : List Po} (h : LgOk F) {k : Nat} (hk : k < F.length) : adE (F.take k) F[k] = 0 := by
  have hm := h.each _ (List.getElem_mem hk)
  refine ad_iff.2 ⟨hm, ?_, by rw [List.length_take]; have := h.few; omega, ?_⟩
  · rw [fndP_none]
    intro p hp e
    obtain ⟨j, hj, rfl⟩ := List.getElem_of_mem hp
    rw [List.length_take] at hj
    rw [List.getElem_take] at e
    exact List.pairwise_iff_getElem.1 h.apart j k (by omega) hk (by omega) e
  · rw [cnt_ok hm, ← tot_take hk]
    have h1 : totP F = totP (F.take (k + 1)) + totP (F.drop (k + 1)) := by rw [← totP_app, List.take_append_drop]
    have h2 := totP_nn (L := F.drop (k + 1)) fun p hp => h.each p (List.mem_of_mem_drop hp)
    have := h.tot
    omega
set_option maxHeartbeats 3200000 in
theorem cres17_any (u : World) (A : Option Addr) (cp : Nat) (F : List Po) (w : World) (hb : Below u.heap.size u w) (hF : LiS poE w A F) (hl : F.length ≤ 140737488355328) :
    Calls Try.prog 9 #[.slice A F.length cp] w fun e w' => Below w.heap.size w w' ∧ ((LgOk F ∧ ∃ G B v, e = .returned (.tuple #[.pointer (some ⟨G, 0, none⟩), .int .i64 0]) ∧ LgA u G B w' F v ∧ ∀ k, (k = G ∨ k = B ∨ v.ownBlock = some k) → w.heap.size ≤ k) ∨ (¬ LgOk F ∧ e = .returned (.tuple #[.pointer none, .int .i64 1]))) := by
  have HN := Lib.hid (cnew17_any u w hb)
  have HF := Lib.hid hF
  have hli : (F.length : Int) ≤ 140737488355328 := by omega
  clear hb hF hl
  go_enter Try.func9, Try.ntmps9
  go_wp2_with fail
  refine HN.out.mono ?_
  rintro e w1 ⟨G, B, rfl, hr, ⟨hG, hB⟩, hb1⟩
  have HR := Lib.hid hr
  have HG := Lib.hid (And.intro hG hB)
  have HB1 := Lib.hid hb1
  clear hr hG hB hb1 HN
  go_wp2_with fail
  go_loopw [10] (fun i wr => ∃ (k : Nat) (v : Value), k ≤ F.length ∧ i = .int .i64 k ∧ LgA u G B wr (F.take k) v ∧ (∀ g, v.ownBlock = some g → w.heap.size ≤ g) ∧ Below w.heap.size w wr) (fun i _ => F.length - (intOf i).toNat)
  case atStart => exact ⟨0, _, Nat.zero_le _, rfl, HR.out, (fun g hg => by cases hg), HB1.out⟩
  case round =>
    obtain ⟨k, v, hk, rfl, hr, hv, hb⟩ := hrel
    have HVW := Lib.hid hv
    have HRB := Lib.hid hr
    have HB := Lib.hid hb
    clear hr hb hv HR HB1
    by_cases hlt : k < F.length
    · have hki : (k : Int) < F.length := by omega
      obtain ⟨B0, o, rfl, hBl, c0, c1, c2, c3⟩ := po_at (HF.out.keep HB.out) hlt
      have HTK := Lib.hid (show F.take (k + 1) = F.take k ++ [F[k]] from by rw [List.take_add_one, List.getElem?_eq_getElem hlt]; rfl)
      have HNX := Lib.hid (fun (h : LgOk F) => ad_next h hlt)
      generalize F[k] = q at *
      have hb2 := alloc_below wr (.cells #[.string q.k, .int .i64 q.a, .int .i64 q.s, .string q.t] 31)
      have HB2 := Lib.hid (HB.out.trans (hb2.mono HB.out.size))
      have HAD := Lib.hid (cadd17_any u G B (F.take k) v q _ (HRB.out.keep hb2))
      clear hb2
      go_wp2_with fail
      refine HAD.out.mono ?_
      rintro e w3 ⟨rfl, h3⟩
      have H3 := Lib.hid h3
      clear h3 HAD
      by_cases he : adE (F.take k) q = 0
      · have hn : adN (F.take k) q = F.take (k + 1) := (if_pos he).trans HTK.out.symm
        rw [hn] at H3
        rw [he]
        clear he hn HNX
        go_wp2_with fail
        go_roundw
        case rel =>
          obtain ⟨v2, r1, r2, r3⟩ := H3.out
          refine ⟨k + 1, v2, by omega, by go_num, r1, fun g hg => ?_, HB2.out.trans (r2.below HB2.out.size fun j hj => ?_)⟩
          · rcases r3 g hg with h | h
            · exact HVW.out g h
            · exact Nat.le_trans HB2.out.size h
          · rcases hj with rfl | rfl | hj
            · exact HG.out.1
            · exact HG.out.2
            · exact HVW.out j hj
        case measure => simp [intOf]; omega
      · have HNO := Lib.hid (show ¬ LgOk F from fun h => he (HNX.out h))
        have HBE := Lib.hid (show Below w.heap.size w w3 from by
          obtain ⟨v2, r1, r2, r3⟩ := H3.out
          exact HB2.out.trans (r2.below HB2.out.size fun j hj => by
            rcases hj with rfl | rfl | hj
            · exact HG.out.1
            · exact HG.out.2
            · exact HVW.out j hj))
        generalize adE (F.take k) q = r at *
        have q1 : (r != 0) = true := by simpa using he
        have q2 : (r == 0) = false := by simpa using he
        clear he HNX H3
        go_wp2_with fail
        go_ret2
        exact ⟨HBE.out, Or.inr ⟨HNO.out, rfl⟩⟩
    · obtain rfl : k = F.length := by omega
      rw [List.take_length] at HRB
      have HE := Lib.hid HRB.out.ok
      go_wp2_with fail
      go_ret2
      exact ⟨HB.out, Or.inl ⟨HE.out, G, B, v, rfl, HRB.out, fun j hj => by
        rcases hj with rfl | rfl | hj
        · exact HG.out.1
        · exact HG.out.2
        · exact HVW.out j hj⟩⟩
end Go.Proofs.Ytlglkfgephilnaa
