/- THE DOCUMENT's ANSWER: digit, small, sign. -/
import Derived.Test.YtaajdcaciofmaaaDoorTokens3
namespace Go.Proofs.YtaajdcaciofmaaaDoor
open Go.RowKit

/-- The signs. -/
def sgn (b : Nat) : Bool := b == 43 || b == 45 || b == 44 || b == 61 || b == 124 || b == 38 || b == 126 || b == 40 || b == 41 || b == 91 || b == 93

theorem sgn_of (k n : Nat) (h : ((k : Int) == (n : Int)) = true) (hk : sgn k = true) : sgn n = true := by
  have e : k = n := by simp at h; omega
  subst e; exact hk
theorem sgn_none (n : Nat) (h0 : (((43 : Nat) : Int) == (n : Int)) = false) (h1 : (((45 : Nat) : Int) == (n : Int)) = false) (h2 : (((44 : Nat) : Int) == (n : Int)) = false) (h3 : (((61 : Nat) : Int) == (n : Int)) = false) (h4 : (((124 : Nat) : Int) == (n : Int)) = false) (h5 : (((38 : Nat) : Int) == (n : Int)) = false) (h6 : (((126 : Nat) : Int) == (n : Int)) = false) (h7 : (((40 : Nat) : Int) == (n : Int)) = false) (h8 : (((41 : Nat) : Int) == (n : Int)) = false) (h9 : (((91 : Nat) : Int) == (n : Int)) = false) (h10 : (((93 : Nat) : Int) == (n : Int)) = false) : sgn n = false := by
  simp only [beq_eq_false_iff_ne] at *
  unfold sgn
  simp only [Bool.or_eq_false_iff, beq_eq_false_iff_ne]
  omega

set_option maxHeartbeats 400000 in
theorem rdigit_any (n : Nat) (a : Int) (w : World) (ha : a = n) (_h : n ≤ 255) :
    Calls Tryd.prog 53 #[.int .u8 a] w fun e w' => e = .returned (.bool (decide (48 ≤ n) && decide (n ≤ 57))) ∧ w' = w := by
  subst ha
  by_cases h1 : 48 ≤ n
  · by_cases h2 : n ≤ 57
    · go_enter Tryd.func53, Tryd.ntmps53
      go_wp2
      go_ret
      exact ⟨by simp [h1, h2]; omega, rfl⟩
    · go_enter Tryd.func53, Tryd.ntmps53
      go_wp2
      go_ret
      exact ⟨by simp [h1, h2]; omega, rfl⟩
  · go_enter Tryd.func53, Tryd.ntmps53
    go_wp2
    go_ret
    exact ⟨by simp, rfl⟩

set_option maxRecDepth 100000 in
set_option maxHeartbeats 4000000 in
theorem sign_any (n : Nat) (a : Int) (w : World) (ha : a = n) (_h : n ≤ 255) :
    Calls Tryd.prog 56 #[.int .u8 a] w fun e w' => e = .returned (.bool (sgn n)) ∧ w' = w := by
  subst ha
  go_enter Tryd.func56, Tryd.ntmps56
  go_wp2
  refine wp_loop_rounds 12 ?_
  repeat any_goals (rw [rounds_succ]; go_wp2)
  all_goals go_ret
  all_goals first
    | exact ⟨congrArg (fun b => Ending.returned (.bool b)) (sgn_of _ n (by assumption) (by decide)).symm, rfl⟩
    | exact ⟨congrArg (fun b => Ending.returned (.bool b)) (sgn_none n (by assumption) (by assumption) (by assumption) (by assumption) (by assumption) (by assumption) (by assumption) (by assumption) (by assumption) (by assumption) (by assumption)).symm, rfl⟩
end Go.Proofs.YtaajdcaciofmaaaDoor
