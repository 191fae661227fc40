/- THE PROGRAM's TOKENS: isDigit, digit, numberAt, powerAt, tokenAt. -/
import Derived.Test.YtaajdcaciofmaaaDoorPlain
import Derived.Test.YtaajdcaciofmaaaDoorProg
import Derived.WalkKit
import Derived.WalkSpells
import Derived.WalkLawsBesides
import Derived.Handy
import Derived.Deep.RegionHeld3
namespace Go.Proofs.YtaajdcaciofmaaaDoor
open Go.RowKit

theorem ret4 {a b c d a' b' c' d' : Int} (h1 : a = a') (h2 : b = b') (h3 : c = c') (h4 : d = d') : Ending.returned (.agg #[.int .i64 a, .int .i64 b, .int .i64 c, .int .i64 d]) = Ending.returned (.agg #[.int .i64 a', .int .i64 b', .int .i64 c', .int .i64 d']) := by subst h1 h2 h3 h4; rfl
theorem bcell {W w1 : World} (hb : Below W.heap.size W w1) : (∀ b o, b < W.heap.size → w1.cell? ⟨b, o, none⟩ = W.cell? ⟨b, o, none⟩) ∧ (∀ b o, b < W.heap.size → w1.frozen? ⟨b, o, none⟩ = W.frozen? ⟨b, o, none⟩) :=
  ⟨fun b o h => hb.cell (p := ⟨b, o, none⟩) h, fun b o h => hb.frozen (p := ⟨b, o, none⟩) h⟩
theorem byt_cast {s : ByteArray} {i : Nat} (h : i < s.size) : ((s[i]'h).toNat : Int) = (byt s i : Int) := by rw [byt_lt h]

set_option maxHeartbeats 400000 in
theorem isDigit_any (s : ByteArray) (i : Nat) (a : Int) (w : World) (ha : a = i) (_hs : s.size ≤ 1000) (_hi : i ≤ 1000) :
    Calls Tryd.prog 63 #[.string s, .int .i64 a] w fun e w' => e = .returned (.bool (isD s i)) ∧ w' = w := by
  subst ha
  by_cases h : i < s.size
  · have hb := byt_cast h
    by_cases h1 : 48 ≤ byt s i
    · by_cases h2 : byt s i ≤ 57
      · go_enter Tryd.func63, Tryd.ntmps63
        go_wp2
        go_ret
        exact ⟨by simp [isD, h1, h2]; omega, rfl⟩
      · go_enter Tryd.func63, Tryd.ntmps63
        go_wp2
        go_ret
        exact ⟨by simp [isD, h1, h2]; omega, rfl⟩
    · go_enter Tryd.func63, Tryd.ntmps63
      go_wp2
      go_ret
      exact ⟨by simp [isD, h1], rfl⟩
  · have hb := byt_ge h
    go_enter Tryd.func63, Tryd.ntmps63
    go_wp2
    go_ret
    exact ⟨by simp [isD, hb], rfl⟩

set_option maxHeartbeats 400000 in
theorem digit_any (s : ByteArray) (i : Nat) (a : Int) (w : World) (ha : a = i) (_hs : s.size ≤ 1000) (hd : isD s i = true) :
    Calls Tryd.prog 71 #[.string s, .int .i64 a] w fun e w' => e = .returned (.int .i64 ((byt s i : Int) - 48)) ∧ w' = w := by
  subst ha
  have hi := isD_in hd
  have hb := byt_cast hi
  rw [isD_iff] at hd
  obtain ⟨h1, h2⟩ := hd
  go_enter Tryd.func71, Tryd.ntmps71
  go_wp2
  go_ret
  exact ⟨by simp, rfl⟩

set_option maxHeartbeats 400000 in
theorem numberAt_any (s : ByteArray) (i : Nat) (a : Int) (w : World) (ha : a = i) (hs : s.size ≤ 1000) (hd : isD s i = true) :
    Calls Tryd.prog 64 #[.string s, .int .i64 a] w fun e w' => e = .returned (.agg #[.int .i64 1, .int .i64 (tokAt s i).at', .int .i64 (tokAt s i).to, .int .i64 (tokAt s i).v]) ∧ Below w.heap.size w w' := by
  subst ha
  have hi := isD_in hd
  have hD := (isD_iff s i).1 hd
  have ht : byt s i ≠ 256 := by omega
  by_cases h2 : isD s (i + 1) = true
  · have hi2 := isD_in h2
    have hD2 := (isD_iff s (i + 1)).1 h2
    have HT : Hid (tokAt s i = ⟨1, i, i + 2, 10 * (byt s i - 48) + (byt s (i + 1) - 48)⟩) := by unfold Hid tokAt; rw [if_neg ht, if_pos hd, if_pos h2]
    have H2 : Hid (isD s (i + 1) = true) := h2
    have H1 : Hid (isD s i = true) := hd
    clear hd ht
    go_enter Tryd.func64, Tryd.ntmps64
    go_wp2_with (first | (go_at_call 71; refine (digit_any s i _ _ (by rfl) (by omega) H1.out).mono ?_; rintro e w' ⟨rfl, rfl⟩) | (go_at_call 63; refine (isDigit_any s (i+1) _ _ (by omega) (by omega) (by omega)).mono ?_; rintro e w' ⟨rfl, rfl⟩))
    go_region_with (first | (go_at_call 71; refine (digit_any s (i+1) _ _ (by omega) (by omega) H2.out).mono ?_; rintro e w' ⟨rfl, rfl⟩))
    all_goals
      go_wp2
      go_returns
      exact ⟨by rw [HT.out]; dsimp only; exact ret4 (by omega) (by omega) (by omega) (by omega), by go_grown⟩
  · have HT : Hid (tokAt s i = ⟨1, i, i + 1, byt s i - 48⟩) := by unfold Hid tokAt; rw [if_neg ht, if_pos hd, if_neg h2]
    have H1 : Hid (isD s i = true) := hd
    have h2' : isD s (i + 1) = false := by simpa using h2
    clear hd ht h2
    go_enter Tryd.func64, Tryd.ntmps64
    go_wp2_with (first | (go_at_call 71; refine (digit_any s i _ _ (by rfl) (by omega) H1.out).mono ?_; rintro e w' ⟨rfl, rfl⟩) | (go_at_call 63; refine (isDigit_any s (i+1) _ _ (by omega) (by omega) (by omega)).mono ?_; rintro e w' ⟨rfl, rfl⟩))
    go_returns
    exact ⟨by rw [HT.out]; dsimp only; exact ret4 (by omega) (by omega) (by omega) (by omega), by go_grown⟩
end Go.Proofs.YtaajdcaciofmaaaDoor
