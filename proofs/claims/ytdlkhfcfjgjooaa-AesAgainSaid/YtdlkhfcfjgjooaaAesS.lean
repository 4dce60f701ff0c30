/- One key and one block, encrypted by number: nothing here hangs on the program. -/
import Derived.Test.YtdlkhfcfjgjooaaAes
namespace Go.Proofs.Ytdlkhfcfjgjooaa

def sboxL : List Nat := [99, 124, 119, 123, 242, 107, 111, 197, 48, 1, 103, 43, 254, 215, 171, 118, 202, 130, 201, 125, 250, 89, 71, 240, 173, 212, 162, 175, 156, 164, 114, 192, 183, 253, 147, 38, 54, 63, 247, 204, 52, 165, 229, 241, 113, 216, 49, 21, 4, 199, 35, 195, 24, 150, 5, 154, 7, 18, 128, 226, 235, 39, 178, 117, 9, 131, 44, 26, 27, 110, 90, 160, 82, 59, 214, 179, 41, 227, 47, 132, 83, 209, 0, 237, 32, 252, 177, 91, 106, 203, 190, 57, 74, 76, 88, 207, 208, 239, 170, 251, 67, 77, 51, 133, 69, 249, 2, 127, 80, 60, 159, 168, 81, 163, 64, 143, 146, 157, 56, 245, 188, 182, 218, 33, 16, 255, 243, 210, 205, 12, 19, 236, 95, 151, 68, 23, 196, 167, 126, 61, 100, 93, 25, 115, 96, 129, 79, 220, 34, 42, 144, 136, 70, 238, 184, 20, 222, 94, 11, 219, 224, 50, 58, 10, 73, 6, 36, 92, 194, 211, 172, 98, 145, 149, 228, 121, 231, 200, 55, 109, 141, 213, 78, 169, 108, 86, 244, 234, 101, 122, 174, 8, 186, 120, 37, 46, 28, 166, 180, 198, 232, 221, 116, 31, 75, 189, 139, 138, 112, 62, 181, 102, 72, 3, 246, 14, 97, 53, 87, 185, 134, 193, 29, 158, 225, 248, 152, 17, 105, 217, 142, 148, 155, 30, 135, 233, 206, 85, 40, 223, 140, 161, 137, 13, 191, 230, 66, 104, 65, 153, 45, 15, 176, 84, 187, 22]
def sb (a : Nat) : Nat := sboxL.getD a 0
set_option maxRecDepth 100000 in
theorem sb_box {a : Nat} (h : a < 256) : box a = sb a := by
  have key : ∀ a, a < 256 → gbox (gfast a) = sb a := by decide +kernel
  unfold box
  rw [ginv_fast h]
  exact key a h
/-- the round keys of the small case -/
def ksL : List Nat := [0, 1, 2, 3, 4, 5, 6, 7, 8, 9, 10, 11, 12, 13, 14, 15, 214, 170, 116, 253, 210, 175, 114, 250, 218, 166, 120, 241, 214, 171, 118, 254, 182, 146, 207, 11, 100, 61, 189, 241, 190, 155, 197, 0, 104, 48, 179, 254, 182, 255, 116, 78, 210, 194, 201, 191, 108, 89, 12, 191, 4, 105, 191, 65, 71, 247, 247, 188, 149, 53, 62, 3, 249, 108, 50, 188, 253, 5, 141, 253, 60, 170, 163, 232, 169, 159, 157, 235, 80, 243, 175, 87, 173, 246, 34, 170, 94, 57, 15, 125, 247, 166, 146, 150, 167, 85, 61, 193, 10, 163, 31, 107, 20, 249, 112, 26, 227, 95, 226, 140, 68, 10, 223, 77, 78, 169, 192, 38, 71, 67, 135, 53, 164, 28, 101, 185, 224, 22, 186, 244, 174, 191, 122, 210, 84, 153, 50, 209, 240, 133, 87, 104, 16, 147, 237, 156, 190, 44, 151, 78, 19, 17, 29, 127, 227, 148, 74, 23, 243, 7, 167, 139, 77, 43, 48, 197]
def kf (x : Nat) : Nat := ksL.getD x 0
def ktS (S : Nat → Nat) (i j : Nat) : Nat := if i % 4 = 0 then sb (S (4 * (i - 1) + (j + 1) % 4)) ^^^ (if j = 0 then gpow 2 (i / 4 - 1) else 0) else S (4 * (i - 1) + j)
set_option maxRecDepth 100000 in
theorem kf_next : ∀ i, i < 44 → 4 ≤ i → ∀ j, j < 4 → kf (4 * (i - 4) + j) ^^^ ktS kf i j = kf (4 * i + j) := by decide +kernel
set_option maxRecDepth 100000 in
theorem kf_lt : ∀ x, x < 176 → kf x < 256 := by decide +kernel
theorem kt_small {S : Nat → Nat} {i j : Nat} (hi : 4 ≤ i) (hj : j < 4) (h : By (4 * i) S) : kt 4 S i j = ktS S i j := by
  unfold kt ktS
  by_cases h0 : i % 4 = 0
  · rw [if_pos h0, if_pos h0, sb_box (h _ (by omega))]
  · rw [if_neg h0, if_neg h0, if_neg (fun e => by omega)]
theorem ks_small : ∀ i, i < 44 → ∀ j, j < 4 → ks 4 (fun x => x) (4 * i + j) = kf (4 * i + j) := by
  intro i
  induction i using Nat.strongRecOn with
  | ind i ih =>
    intro hi j hj
    by_cases h4 : i < 4
    · rw [ks_key (by omega)]
      have : ∀ x, x < 16 → x = kf x := by decide +kernel
      exact this _ (by omega)
    · have hS : ∀ x, x < 4 * i → ks 4 (fun x => x) x = kf x := fun x hx => by
        have := ih (x / 4) (by omega) (by omega) (x % 4) (by omega)
        rwa [show 4 * (x / 4) + x % 4 = x by omega] at this
      rw [ks_next (by decide) (by omega) (by omega) hj, nxt_congr (T := kf) (by decide) (by omega) hj hS]
      unfold nxt
      rw [kt_small (by omega) hj (fun x hx => kf_lt x (by omega))]
      exact kf_next i hi (by omega) j hj
theorem ks_small' {x : Nat} (hx : x < 176) : ks 4 (fun x => x) x = kf x := by
  have := ks_small (x / 4) (by omega) (x % 4) (by omega)
  rwa [show 4 * (x / 4) + x % 4 = x by omega] at this
/-- the states of the small case, round by round -/
def stL : List (List Nat) := [[0, 16, 32, 48, 64, 80, 96, 112, 128, 144, 160, 176, 192, 208, 224, 240],
  [137, 216, 16, 232, 133, 90, 206, 104, 45, 24, 67, 216, 203, 18, 143, 228],
  [73, 21, 89, 143, 85, 229, 215, 160, 218, 202, 148, 250, 31, 10, 99, 247],
  [250, 99, 106, 40, 37, 179, 57, 201, 64, 102, 138, 49, 87, 36, 77, 23],
  [36, 114, 64, 35, 105, 102, 179, 250, 110, 210, 117, 50, 136, 66, 91, 108],
  [200, 22, 119, 188, 155, 122, 201, 59, 37, 2, 121, 146, 176, 38, 25, 150],
  [198, 47, 225, 9, 247, 94, 237, 195, 204, 121, 57, 93, 132, 249, 207, 93],
  [209, 135, 108, 15, 121, 196, 48, 10, 180, 85, 148, 173, 214, 111, 244, 31],
  [253, 227, 186, 210, 5, 229, 208, 215, 53, 71, 150, 78, 241, 254, 55, 241],
  [189, 110, 124, 61, 242, 181, 119, 158, 11, 97, 33, 110, 139, 16, 182, 137],
  [105, 196, 224, 216, 106, 123, 4, 48, 216, 205, 183, 128, 112, 180, 197, 90]]
def stf (r i : Nat) : Nat := (stL.getD r []).getD i 0
set_option maxRecDepth 100000 in
theorem stf_lt : ∀ r, r < 11 → ∀ i, i < 16 → stf r i < 256 := by decide +kernel
set_option maxRecDepth 100000 in
theorem stf_next : ∀ r, r < 10 → ∀ i, i < 16 → (if r + 1 < 10 then mixc (subs sb 4 (stf r)) i else subs sb 4 (stf r) i) ^^^ kf (16 * (r + 1) + i) = stf (r + 1) i := by decide +kernel
theorem est_small : ∀ r, r < 11 → Eq16 (est 4 (ks 4 (fun x => x)) (fun i => 17 * i) r) (stf r)
  | 0, _ => fun i hi => by
    show 17 * i ^^^ ks 4 (fun x => x) (16 * 0 + i) = _
    rw [ks_small' (by omega)]
    have : ∀ i, i < 16 → 17 * i ^^^ kf (16 * 0 + i) = stf 0 i := by decide +kernel
    exact this i hi
  | r + 1, hr => fun i hi => by
    have ih := est_small r (by omega)
    have hs : Eq16 (subs box 4 (est 4 (ks 4 (fun x => x)) (fun i => 17 * i) r)) (subs sb 4 (stf r)) := (subs_congr box 4 ih).trans fun j _ => sb_box (stf_lt r (by omega) _ (Nat.mod_lt _ (by decide)))
    show (if r + 1 < 4 + 6 then mixc (subs box 4 (est 4 (ks 4 (fun x => x)) (fun i => 17 * i) r)) else subs box 4 (est 4 (ks 4 (fun x => x)) (fun i => 17 * i) r)) i ^^^ ks 4 (fun x => x) (16 * (r + 1) + i) = _
    rw [ks_small' (by omega), ← stf_next r (by omega) i hi]
    by_cases h : r + 1 < 10
    · rw [if_pos h, if_pos h, mixc_congr hs i hi]
    · rw [if_neg h, if_neg h, hs i hi]
/-- what the small case is encrypted to -/
def smallL : List Nat := [105, 196, 224, 216, 106, 123, 4, 48, 216, 205, 183, 128, 112, 180, 197, 90]
theorem enc_small : Eq16 (enc 4 (ks 4 (fun x => x)) (fun i => 17 * i)) (fun i => smallL.getD i 0) := (est_small 10 (by decide)).trans fun i hi => by
  have : ∀ i, i < 16 → stf 10 i = smallL.getD i 0 := by decide +kernel
  exact this i hi
end Go.Proofs.Ytdlkhfcfjgjooaa
