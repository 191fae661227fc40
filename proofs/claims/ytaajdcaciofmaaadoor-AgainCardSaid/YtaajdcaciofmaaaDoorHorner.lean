/- PLAIN: what a polynomial comes to: from the top (the program), by powers (the document). -/
import Derived.Test.YtaajdcaciofmaaaDoorMods
import Derived.Test.YtaajdcaciofmaaaDoorParse
namespace Go.Proofs.YtaajdcaciofmaaaDoor

/-- From the top, k of n numbers. -/
def horn (c : Nat → Nat) (n u : Nat) : Nat → Nat
  | 0 => 0
  | k + 1 => (horn c n u k * u + c (n - 1 - k)) % 7
/-- By powers, k numbers. -/
def pows (c : Nat → Nat) (u : Nat) : Nat → Nat
  | 0 => 0
  | k + 1 => (pows c u k + c k * pw7 u k) % 7
theorem horn_lt (c : Nat → Nat) (n u k : Nat) : horn c n u k < 7 := by cases k <;> simp [horn]; omega
theorem pows_lt (c : Nat → Nat) (u k : Nat) : pows c u k < 7 := by cases k <;> simp [pows]; omega

/-- The sum itself. -/
def sumI (c : Nat → Nat) (u : Nat) : Nat → Nat
  | 0 => 0
  | k + 1 => sumI c u k + c k * u ^ k
theorem sumI_front (u : Nat) : ∀ (k : Nat) (c : Nat → Nat), sumI c u (k + 1) = c 0 + u * sumI (fun j => c (j + 1)) u k
  | 0, c => by simp [sumI]
  | k + 1, c => by
    rw [sumI, sumI_front u k c, sumI, Nat.mul_add, ← Nat.add_assoc]
    congr 1
    rw [Nat.pow_succ, Nat.mul_comm (u ^ k) u, ← Nat.mul_assoc, ← Nat.mul_assoc, Nat.mul_comm (c (k + 1)) u]
theorem pw7_pow (u : Nat) : ∀ k, pw7 u k = u ^ k % 7
  | 0 => rfl
  | k + 1 => by rw [pw7, pw7_pow u k, Nat.pow_succ, Nat.mod_mul_mod]
theorem pows_sum (c : Nat → Nat) (u : Nat) : ∀ k, pows c u k = sumI c u k % 7
  | 0 => rfl
  | k + 1 => by
    rw [pows, pows_sum c u k, pw7_pow, sumI]
    rw [Nat.add_mod (sumI c u k % 7), Nat.mod_mod, Nat.mul_mod_mod, ← Nat.add_mod]
theorem horn_sum (c : Nat → Nat) (n u : Nat) : ∀ k, k ≤ n → horn c n u k = sumI (fun j => c (n - k + j)) u k % 7
  | 0, _ => rfl
  | k + 1, h => by
    rw [horn, horn_sum c n u k (by omega), sumI_front]
    have e : (fun j => c (n - (k + 1) + (j + 1))) = fun j => c (n - k + j) := by
      funext j; congr 1; omega
    rw [e, show n - (k + 1) + 0 = n - 1 - k by omega, Nat.add_mod, Nat.mod_mul_mod, ← Nat.add_mod, Nat.add_comm, Nat.mul_comm u]
theorem horn_pows (c : Nat → Nat) (n u : Nat) : horn c n u n = pows c u n := by
  rw [horn_sum c n u n (Nat.le_refl _), pows_sum]
  congr 1
  have e : (fun j => c (n - n + j)) = c := by funext j; congr 1; omega
  rw [e]

/-- What the polynomial p comes to. -/
def valP (p : List Nat) (u x : Nat) : Nat := horn (fun i => horn (fun j => p.getD (i * 7 + j) 0) 7 u 7) 5 x 5
def lineR (p : List Nat) (u : Nat) : List Nat := [pows (fun j => p.getD (0 * 7 + j) 0) u 7, pows (fun j => p.getD (1 * 7 + j) 0) u 7, pows (fun j => p.getD (2 * 7 + j) 0) u 7, pows (fun j => p.getD (3 * 7 + j) 0) u 7, pows (fun j => p.getD (4 * 7 + j) 0) u 7]
def valL (l : List Nat) (x : Nat) : Nat := pows (fun i => l.getD i 0) x 5
theorem pows_congr {c d : Nat → Nat} {u : Nat} : ∀ k, (∀ j, j < k → c j = d j) → pows c u k = pows d u k
  | 0, _ => rfl
  | k + 1, h => by rw [pows, pows, pows_congr k (fun j hj => h j (by omega)), h k (by omega)]
theorem lineR_get (p : List Nat) (u i : Nat) (h : i < 5) : (lineR p u).getD i 0 = pows (fun j => p.getD (i * 7 + j) 0) u 7 := by
  match i, h with
  | 0, _ => rfl
  | 1, _ => rfl
  | 2, _ => rfl
  | 3, _ => rfl
  | 4, _ => rfl
theorem val_same (p : List Nat) (u x : Nat) : valL (lineR p u) x = valP p u x := by
  unfold valP valL
  rw [horn_pows]
  exact pows_congr 5 (fun i hi => by rw [lineR_get p u i hi, horn_pows])
end Go.Proofs.YtaajdcaciofmaaaDoor
