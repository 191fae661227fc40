/- THE PROGRAM's ARITHMETIC: Mod; the document's: modulo, raised. -/
import Derived.Test.YtaajdcaciofmaaaDoorFrame
namespace Go.Proofs.YtaajdcaciofmaaaDoor
open Go.RowKit

theorem tmod7 (n : Int) : (n.tmod 7 + 7).tmod 7 = n % 7 := by
  rcases Int.lt_or_le n 0 with h | h
  · have := Int.tmod_def n 7
    rw [Int.tmod_eq_emod_of_nonneg (by have := Int.lt_tmod_of_pos n (b := 7) (by omega); omega)]
    have e : n.tmod 7 = -((-n) % 7) := by
      have h1 : n = -(-n) := by omega
      rw [h1, Int.neg_tmod, Int.tmod_eq_emod_of_nonneg (by omega)]; simp
    rw [e]; omega
  · rw [Int.tmod_eq_emod_of_nonneg h, Int.tmod_eq_emod_of_nonneg (by omega)]; omega

theorem tmod7_bd (n : Int) : -7 < n.tmod 7 ∧ n.tmod 7 < 7 := ⟨by have := Int.lt_tmod_of_pos n (b := 7) (by omega); omega, Int.tmod_lt_of_pos n (by omega)⟩
theorem ret1 {k : IntKind} {a b : Int} (h : a = b) : Ending.returned (.int k a) = Ending.returned (.int k b) := by rw [h]

set_option maxHeartbeats 400000 in
theorem Mod_any (n : Int) (w : World) :
    Calls Tryd.prog 35 #[.int .i64 n] w fun e w' => e = .returned (.int .i64 (n % 7)) ∧ w' = w := by
  have hb := tmod7_bd n
  have ht := tmod7 n
  have HT : Hid ((n.tmod 7 + 7).tmod 7 = n % 7) := ht
  clear ht
  go_enter Tryd.func35, Tryd.ntmps35
  go_wp2
  go_ret
  exact ⟨ret1 (by rw [← HT.out]; exact (Int.tmod_eq_emod_of_nonneg (by omega)).symm), rfl⟩

set_option maxHeartbeats 400000 in
theorem modulo_any (n : Int) (w : World) :
    Calls Tryd.prog 22 #[.int .i64 n] w fun e w' => e = .returned (.int .i64 (n % 7)) ∧ w' = w := by
  have hb := tmod7_bd n
  have ht := tmod7 n
  have HT : Hid ((n.tmod 7 + 7).tmod 7 = n % 7) := ht
  clear ht
  go_enter Tryd.func22, Tryd.ntmps22
  go_wp2
  go_ret
  exact ⟨ret1 (by rw [← HT.out]; exact (Int.tmod_eq_emod_of_nonneg (by omega)).symm), rfl⟩

/-- a to the n-th, modulo 7. -/
def pw7 (a : Nat) : Nat → Nat
  | 0 => 1
  | n + 1 => pw7 a n * a % 7
theorem pw7_lt (a n : Nat) : pw7 a n < 7 := by cases n <;> simp [pw7]; omega

set_option maxHeartbeats 400000 in
theorem raised_any (a n : Nat) (A N : Int) (w : World) (hA : A = a) (hN : N = n) (ha : a < 7) (hn : n ≤ 6) :
    Calls Tryd.prog 36 #[.int .i64 A, .int .i64 N] w fun e w' => e = .returned (.int .i64 (pw7 a n)) ∧ w' = w := by
  subst hA hN
  go_enter Tryd.func36, Tryd.ntmps36
  go_wp2
  go_loop [5, 6] (fun v i => ∃ k : Nat, k ≤ n ∧ i = .int .i64 k ∧ v = .int .i64 (pw7 a k)) (fun _ i => n - (intOf i).toNat)
  case atStart => exact ⟨0, Nat.zero_le _, rfl, rfl⟩
  case round =>
    obtain ⟨k, hk, rfl, rfl⟩ := hrel
    have hp := pw7_lt a k
    have hm : (pw7 a k : Int) * a ≤ 36 := by
      have h := Nat.mul_le_mul (show pw7 a k ≤ 6 by omega) (show a ≤ 6 by omega)
      have : ((pw7 a k * a : Nat) : Int) ≤ ((6 * 6 : Nat) : Int) := by exact_mod_cast h
      rw [Int.natCast_mul] at this; omega
    have hm0 : 0 ≤ (pw7 a k : Int) * a := by
      have : (0 : Int) ≤ ((pw7 a k * a : Nat) : Int) := by omega
      rw [Int.natCast_mul] at this; omega
    have HS : Hid (((pw7 a k : Int) * a) % 7 = (pw7 a (k + 1) : Nat)) := by unfold Hid; simp [pw7]
    by_cases hlt : k < n
    · go_wp2
      go_round
      case rel => exact ⟨k + 1, by omega, by go_num, by rw [← HS.out]⟩
      case measure => simp [intOf]; omega
    · have e : k = n := by omega
      subst e
      go_wp2
      go_ret
      exact ⟨rfl, rfl⟩
end Go.Proofs.YtaajdcaciofmaaaDoor
