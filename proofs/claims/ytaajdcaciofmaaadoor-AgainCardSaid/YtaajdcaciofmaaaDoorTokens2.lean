/- THE PROGRAM's TOKENS: powerAt. -/
import Derived.Test.YtaajdcaciofmaaaDoorTokens
namespace Go.Proofs.YtaajdcaciofmaaaDoor
open Go.RowKit

/-- The program's kind of a token. -/
def pk (c : Nat) : Int := if c = 0 then 0 else if c = 1 then 1 else if c = 2 then 2 else if c = 3 then 3 else if c = 47 then 4 else if c = 49 then 5 else 6

set_option maxHeartbeats 400000 in
theorem powerAt_any (s : ByteArray) (i : Nat) (a k : Int) (w : World) (ha : a = i) (hs : s.size ≤ 1000) (hi : i < s.size) (hx : byt s i = 117 ∧ k = 2 ∨ byt s i = 120 ∧ k = 3) :
    Calls Tryd.prog 65 #[.string s, .int .i64 a, .int .i64 k] w fun e w' => e = .returned (.agg #[.int .i64 k, .int .i64 (tokAt s i).at', .int .i64 (tokAt s i).to, .int .i64 (tokAt s i).v]) ∧ Below w.heap.size w w' := by
  subst ha
  have h0 : byt s i ≠ 256 := by omega
  have h1 : ¬ isD s i = true := by rw [isD_iff]; omega
  by_cases h2 : isD s (i + 1) = true
  · have hi2 := isD_in h2
    have hD2 := (isD_iff s (i + 1)).1 h2
    have HT : Hid ((tokAt s i).at' = i ∧ (tokAt s i).to = i + 2 ∧ (tokAt s i).v = byt s (i + 1) - 48) := by
      unfold Hid tokAt
      rcases hx with ⟨hx, _⟩ | ⟨hx, _⟩ <;> simp [h1, h2, hx]
    have H2 : Hid (isD s (i + 1) = true) := h2
    clear h0 h1 hx
    go_enter Tryd.func65, Tryd.ntmps65
    go_wp2_with (first | (go_at_call 71; refine (digit_any s (i + 1) _ _ (by omega) (by omega) H2.out).mono ?_; rintro e w' ⟨rfl, rfl⟩) | (go_at_call 63; refine (isDigit_any s (i+1) _ _ (by omega) (by omega) (by omega)).mono ?_; rintro e w' ⟨rfl, rfl⟩))
    go_returns
    obtain ⟨e1, e2, e3⟩ := HT.out
    exact ⟨by rw [e1, e2, e3]; exact ret4 (by omega) (by omega) (by omega) (by omega), by go_grown⟩
  · have HT : Hid ((tokAt s i).at' = i ∧ (tokAt s i).to = i + 1 ∧ (tokAt s i).v = 1) := by
      unfold Hid tokAt
      rcases hx with ⟨hx, _⟩ | ⟨hx, _⟩ <;> simp [h1, h2, hx]
    have h2' : isD s (i + 1) = false := by simpa using h2
    clear h0 h1 hx h2
    go_enter Tryd.func65, Tryd.ntmps65
    go_wp2_with (first | (go_at_call 63; refine (isDigit_any s (i+1) _ _ (by omega) (by omega) (by omega)).mono ?_; rintro e w' ⟨rfl, rfl⟩))
    go_returns
    obtain ⟨e1, e2, e3⟩ := HT.out
    exact ⟨by rw [e1, e2, e3]; exact ret4 (by omega) (by omega) (by omega) (by omega), by go_grown⟩
end Go.Proofs.YtaajdcaciofmaaaDoor
