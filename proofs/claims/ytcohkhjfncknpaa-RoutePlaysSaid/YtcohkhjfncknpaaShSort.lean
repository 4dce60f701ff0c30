/- The library's sort at routes, strings.Compare; the code's byPrefix. -/
import Derived.Shelf.SlSortCmp.WholeK
import Derived.Shelf.Small.Strs
import Derived.Test.YtcohkhjfncknpaaRowG
import Derived.Test.YtcohkhjfncknpaaRouE
namespace Go.Proofs.Ytcohkhjfncknpaa
set_option maxRecDepth 100000
open Go.RowKit Go.Sort Go.Lib
def laysSortRt_ren : Go.Shelf.Ren := ⟨fun | 6 => 25 | 15 => 31 | 14 => 30 | 28 => 43 | 29 => 44 | 20 => 35 | 21 => 36 | 22 => 37 | 23 => 38 | 24 => 39 | 25 => 40 | 26 => 41 | 27 => 42 | 46 => 46 | 47 => 47 | 48 => 48 | 49 => 49 | 50 => 50 | 57 => 52 | n => n, fun | 22 => 38 | 24 => 41 | 25 => 59 | 3 => 3 | 39 => 64 | 0 => 0 | 53 => 76 | 55 => 78 | 4 => 4 | 46 => 70 | 45 => 69 | 50 => 33 | 5 => 5 | 9 => 9 | 66 => 79 | 70 => 83 | 76 => 85 | 77 => 86 | n => n, fun | n => n⟩
theorem laysSortRt : Go.Proofs.SlLaysF0.n6 Try.prog laysSortRt_ren := {
  mixed := by kernel_rfl
  f6 := ⟨Try.f25.name, by decide, Try.func25.trans (congrArg some (by kernel_rfl))⟩
  f14 := ⟨Try.f30.name, by decide, Try.func30.trans (congrArg some (by kernel_rfl))⟩
  f15 := Try.func31.trans (congrArg some (by kernel_rfl))
  f20 := ⟨Try.f35.name, by decide, Try.func35.trans (congrArg some (by kernel_rfl))⟩
  f21 := ⟨Try.f36.name, by decide, Try.func36.trans (congrArg some (by kernel_rfl))⟩
  f22 := ⟨Try.f37.name, by decide, Try.func37.trans (congrArg some (by kernel_rfl))⟩
  f23 := ⟨Try.f38.name, by decide, Try.func38.trans (congrArg some (by kernel_rfl))⟩
  f24 := ⟨Try.f39.name, by decide, Try.func39.trans (congrArg some (by kernel_rfl))⟩
  f25 := ⟨Try.f40.name, by decide, Try.func40.trans (congrArg some (by kernel_rfl))⟩
  f26 := ⟨Try.f41.name, by decide, Try.func41.trans (congrArg some (by kernel_rfl))⟩
  f27 := ⟨Try.f42.name, by decide, Try.func42.trans (congrArg some (by kernel_rfl))⟩
  f28 := Try.func43.trans (congrArg some (by kernel_rfl))
  f29 := Try.func44.trans (congrArg some (by kernel_rfl))
  f46 := ⟨Try.f46.name, by decide, Try.func46.trans (congrArg some (by kernel_rfl))⟩
  f47 := Try.func47.trans (congrArg some (by kernel_rfl))
  f48 := Try.func48.trans (congrArg some (by kernel_rfl))
  f49 := ⟨Try.f49.name, by decide, Try.func49.trans (congrArg some (by kernel_rfl))⟩
  f50 := ⟨Try.f50.name, by decide, Try.func50.trans (congrArg some (by kernel_rfl))⟩
  f57 := ⟨Try.f52.name, by decide, Try.func52.trans (congrArg some (by kernel_rfl))⟩
  t0 := Try.underlying0
  a0 := Try.isAgg0
  z0 := Try.sizeOf0
  v0 := Try.zeroValue0
  t3 := Try.underlying3
  a3 := Try.isAgg3
  z3 := Try.sizeOf3
  v3 := Try.zeroValue3
  t4 := Try.underlying4
  a4 := Try.isAgg4
  z4 := Try.sizeOf4
  v4 := Try.zeroValue4
  t5 := Try.underlying5
  a5 := Try.isAgg5
  z5 := Try.sizeOf5
  v5 := Try.zeroValue5
  t9 := Try.underlying9
  a9 := Try.isAgg9
  z9 := Try.sizeOf9
  v9 := Try.zeroValue9
  t22 := Try.underlying38
  a22 := Try.isAgg38
  z22 := Try.sizeOf38
  v22 := Try.zeroValue38
  t25 := Try.underlying59
  a25 := Try.isAgg59
  z25 := Try.sizeOf59
  v25 := Try.zeroValue59
  t39 := Try.underlying64
  a39 := Try.isAgg64
  z39 := Try.sizeOf64
  v39 := Try.zeroValue64
  t45 := Try.underlying69
  a45 := Try.isAgg69
  z45 := Try.sizeOf69
  v45 := Try.zeroValue69
  t46 := Try.underlying70
  a46 := Try.isAgg70
  z46 := Try.sizeOf70
  v46 := Try.zeroValue70
  t50 := Try.underlying33
  a50 := Try.isAgg33
  z50 := Try.sizeOf33
  v50 := Try.zeroValue33
  t53 := Try.underlying76
  a53 := Try.isAgg76
  z53 := Try.sizeOf76
  v53 := Try.zeroValue76
  t55 := Try.underlying78
  a55 := Try.isAgg78
  z55 := Try.sizeOf78
  v55 := Try.zeroValue78
  t66 := Try.underlying79
  a66 := Try.isAgg79
  z66 := Try.sizeOf79
  v66 := Try.zeroValue79
  t70 := Try.underlying83
  a70 := Try.isAgg83
  z70 := Try.sizeOf83
  v70 := Try.zeroValue83
  t76 := Try.underlying85
  a76 := Try.isAgg85
  z76 := Try.sizeOf85
  v76 := Try.zeroValue85
  t77 := Try.underlying86
  a77 := Try.isAgg86
  z77 := Try.sizeOf86
  v77 := Try.zeroValue86 }
def lays106_ren : Go.Shelf.Ren := ⟨fun | 106 => 32 | 213 => 45 | 265 => 51 | n => n, fun | 9 => 9 | 3 => 3 | n => n, fun | n => n⟩
theorem lays106 : Go.Proofs.Lays.n106 Try.prog lays106_ren := {
  mixed := by kernel_rfl
  f106 := Try.func32.trans (congrArg some (by kernel_rfl))
  f213 := Try.func45.trans (congrArg some (by kernel_rfl))
  f265 := Try.func51.trans (congrArg some (by kernel_rfl))
  t3 := Try.underlying3
  a3 := Try.isAgg3
  z3 := Try.sizeOf3
  v3 := Try.zeroValue3
  t9 := Try.underlying9
  a9 := Try.isAgg9
  z9 := Try.sizeOf9
  v9 := Try.zeroValue9 }

instance : Inhabited Rt := ⟨⟨⟨#[]⟩, 0⟩⟩
theorem cmpb_less : ∀ x y : List UInt8, (decide (Lib.compareBytes x y < 0)) = Go.Op.bytesLess x y
  | [], [] => rfl
  | [], _ :: _ => rfl
  | _ :: _, [] => rfl
  | a :: x, b :: y => by
    unfold Lib.compareBytes Go.Op.bytesLess
    have ih := cmpb_less x y
    by_cases h1 : a < b
    · rw [if_pos h1]
      simp [h1]
    · rw [if_neg h1]
      by_cases h2 : b < a
      · rw [if_pos h2]
        have h3 : a ≠ b := fun e => by subst e; exact h1 h2
        simp [h1, h3]
      · rw [if_neg h2, ih]
        have h3 : a = b := UInt8.le_antisymm (UInt8.not_lt.1 h2) (UInt8.not_lt.1 h1)
        simp [h3]
/-- what byPrefix tells -/
def cmpR (x y : Rt) : Int := Lib.compareBytes x.p.data.toList y.p.data.toList
theorem lt_cmpR (x y : Rt) : ltOf cmpR x y = lsB x.p y.p := by
  unfold ltOf cmpR lsB
  rw [cmpb_less, ByteArray.toList_eq, ByteArray.toList_eq]
theorem swo_cmpR : SWO (ltOf cmpR) where
  irrefl := fun x => by rw [lt_cmpR]; exact lsB_irr _
  trans := fun x y z h1 h2 => by rw [lt_cmpR] at h1 h2 ⊢; exact lsB_trans h1 h2
  ntrans := fun x y z h1 h2 => by
    rw [lt_cmpR] at h1 h2 ⊢
    cases h3 : lsB x.p z.p with
    | false => rfl
    | true =>
      cases h4 : lsB y.p x.p with
      | true => have := lsB_trans h4 h3; rw [h2] at this; cases this
      | false => have := lsB_tri h1 h4; rw [this] at h3; rw [h2] at h3; cases h3
theorem scmp_any (a b : ByteArray) (w : World) : Calls Try.prog 32 #[.string a, .string b] w fun e w' => e = .returned (.int .i64 (Lib.compareBytes a.data.toList b.data.toList)) ∧ w' = w := Any.strings_Compare lays106 a b w
theorem byp_any (x y : Rt) (w : World) : Calls Try.prog 26 #[.agg (rtE.e x).toArray, .agg (rtE.e y).toArray] w fun e w' => e = .returned (.int .i64 (cmpR x y)) ∧ ∃ q os', w' = grow (w.drewN q) os' := by
  have HC := Lib.hid (fun w => scmp_any x.p y.p w)
  show Calls Try.prog 26 #[.agg #[.string x.p, .int .i64 x.t], .agg #[.string y.p, .int .i64 y.t]] w _
  unfold cmpR
  generalize Lib.compareBytes x.p.data.toList y.p.data.toList = c at *
  generalize x.p = xp at *
  generalize y.p = yp at *
  generalize x.t = xt at *
  generalize y.t = yt at *
  go_enter Try.func26, Try.ntmps26
  go_wp2_with fail
  refine (HC.out _).mono ?_
  rintro e w1 ⟨rfl, rfl⟩
  go_wp2_with fail
  go_ret
  exact ⟨rfl, 0, #[.cells #[.string xp, .int .i64 xt] 41, .cells #[.string yp, .int .i64 yt] 41], by rw [alloc_eq_grow, alloc_eq_grow, grow_grow]; rfl⟩
/-- slices.SortFunc over a row of routes with different prefixes -/
theorem sort15_any {T : TypeId} {w : World} {base g c : Nat} {F : List Rt} (h : OwL rtE T w base (.slice (some ⟨g, 0, none⟩) F.length c) F) (hn : F.length < 1000) (hd : F.Pairwise fun a b => a.p ≠ b.p) :
    Calls Try.prog 25 #[.slice (some ⟨g, 0, none⟩) F.length c, .func (.func 26) #[] #[]] w fun e w' =>
      e = .returned (.tuple #[]) ∧ ∃ F', F'.Perm F ∧ Rise F' ∧ OwL rtE T w' base (.slice (some ⟨g, 0, none⟩) F.length c) F' ∧ w.grownBy w' (some g) := by
  obtain ⟨hH, hg⟩ := h.holds
  have hz : F.toArray.size = F.length := by simp
  have HK := AnyQ.slices_SortFunc laysSortRt 2 Try.isAgg41 Try.sizeOf41 rtE.e rtE.len rtE.one cmpR swo_cmpR 26 #[] g 0 c F.toArray w (fun args w => by go_simp) (fun m os dk _ x y => byp_any x y _) hH hg (by rw [hz]; omega)
  rw [hz] at HK
  refine HK.mono ?_
  rintro e w' ⟨rfl, d', n, os, hp, hs, rfl⟩
  have hz' : d'.size = F.length := by rw [hp.1, hz]
  have hperm : d'.toList.Perm F := by
    have h3 := hp.2.2
    rw [← hz'] at h3
    rw [show d'.extract 0 d'.size = d' by simp, hz', ← hz, show F.toArray.extract 0 F.toArray.size = F.toArray by simp] at h3
    simpa using h3
  have hd' : d'.toList.Pairwise fun a b => a.p ≠ b.p := (hperm.symm.pairwise hd fun h => h.symm)
  refine ⟨rfl, d'.toList, hperm, ?_, ?_, ?_⟩
  · refine List.pairwise_iff_getElem.2 fun i j hi hj hij => ?_
    have h1 := hs i j (Nat.zero_le _) hij (by rw [← hz']; simpa using hj)
    rw [lt_cmpR, getElem!_pos d' i (by simpa using hi), getElem!_pos d' j (by simpa using hj)] at h1
    have h2 := List.pairwise_iff_getElem.1 hd' i j hi hj hij
    cases h3 : lsB d'.toList[i].p d'.toList[j].p with
    | true => rfl
    | false => exact absurd (lsB_tri h3 (by simpa using h1)) h2
  · have h4 := h.sorted (G := d'.toList) (n := n) (os := os) (by simpa using hz')
    show OwL rtE T (sortWorldK rtE.e rtE.k w g 0 n d' os) base _ d'.toList
    simpa using h4
  · exact grownBy_sortedK d'
end Go.Proofs.Ytcohkhjfncknpaa
