/- TWO POLYNOMIALS COMPARED: '==' on arrays of arrays. -/
import Derived.Test.YtaajdcaciofmaaaDoorText1
import Derived.Test.YtaajdcaciofmaaaDoorArr
import Derived.Test.YtaajdcaciofmaaaDoorRead
import Derived.ChangeKeysEq
namespace Go.Proofs.YtaajdcaciofmaaaDoor
open Go.RowKit

theorem eqItems_all {P : Program} (w : World) (d : Nat) (e : TypeId) (c : Nat) (xs ys : Array Value) (g : Nat → Bool) : ∀ is : List Nat,
    (∀ i ∈ is, ∃ a b, (part e xs (i * c)).run P w = .ok a w ∧ (part e ys (i * c)).run P w = .ok b w ∧ (Op.equalIn d e a b).run P w = .ok (g i) w) →
    (Op.eqItems d e c xs ys is).run P w = .ok (is.all g) w
  | [], _ => by simp [Op.eqItems]
  | i :: is, h => by
    obtain ⟨a, b, h1, h2, h3⟩ := h i (by simp)
    have ih := eqItems_all w d e c xs ys g is (fun j hj => h j (by simp [hj]))
    simp only [Op.eqItems, Sem.run_bind, h1, h2, h3, Result.andThen_ok]
    cases hg : g i
    · simp [hg]
    · simp [hg, ih]
theorem info_some {P : Program} {t : TypeId} (h : (P.info? t).isSome = true) : ∃ i, P.info? t = some i := by
  cases q : P.info? t with
  | none => rw [q] at h; cases h
  | some i => exact ⟨i, rfl⟩
theorem part_row (xs : Array Value) (off : Nat) (w : World) : (part 35 xs off).run Tryd.prog w = .ok (.agg (xs.extract off (off + 7))) w := by
  simp [part, isAgg, run_underlying Tryd.underlying35]
theorem row_eq (d : Nat) (xs ys : Array Value) (f g : Nat → Int) (w : World) (hx : ∀ j, j < 7 → xs[j]? = some (.int .i64 (f j))) (hy : ∀ j, j < 7 → ys[j]? = some (.int .i64 (g j))) :
    (Op.equalIn (d + 1 + 1) 35 (.agg xs) (.agg ys)).run Tryd.prog w = .ok ((List.range 7).all fun j => f j == g j) w := by
  obtain ⟨i, hi⟩ := info_some (P := Tryd.prog) (t := 3) (by kernel_rfl)
  have hc : Tryd.prog.cellsOf 3 = 1 := by kernel_rfl
  have hk : Tryd.prog.plainKey 3 = true := by kernel_rfl
  rw [run_equalIn_array w (d + 1) xs ys Tryd.underlying35 hi, hc]
  refine eqItems_all w (d + 1) 3 1 xs ys _ _ ?_
  intro j hj
  rw [List.mem_range] at hj
  refine ⟨_, _, run_part_plain w hk (by rw [Nat.mul_one]; exact hx j hj), run_part_plain w hk (by rw [Nat.mul_one]; exact hy j hj), ?_⟩
  exact run_equalIn_int w d 3 .i64 .i64 _ _ Tryd.underlying3
theorem ext_get (xs : Array Value) (i j : Nat) (hs : xs.size = 35) (hi : i < 5) (hj : j < 7) : (xs.extract (i * 7) (i * 7 + 7))[j]? = xs[i * 7 + j]? := by
  rw [Array.getElem?_extract]
  rw [if_pos (by omega)]
/-- Compared cell by cell. -/
theorem poly_eq (d : Nat) (p q : List Nat) (w : World) (hp : Good p) (hq : Good q) :
    (Op.equalIn (d + 1 + 1 + 1) 37 (.agg (pv p)) (.agg (pv q))).run Tryd.prog w = .ok (decide (p = q)) w := by
  obtain ⟨i, hi⟩ := info_some (P := Tryd.prog) (t := 35) (by kernel_rfl)
  have hc : Tryd.prog.cellsOf 35 = 7 := by kernel_rfl
  rw [run_equalIn_array w (d + 1 + 1) (pv p) (pv q) Tryd.underlying37 hi, hc]
  have key := eqItems_all (P := Tryd.prog) w (d + 1 + 1) 35 7 (pv p) (pv q) (fun i => (List.range 7).all fun j => (p.getD (i * 7 + j) 0 : Int) == (q.getD (i * 7 + j) 0 : Int)) (List.range 5) ?_
  · refine key.trans (congrArg (fun b => Result.ok b w) ?_)
    rw [Bool.eq_iff_iff]
    simp only [List.all_eq_true, List.mem_range, beq_iff_eq, decide_eq_true_eq]
    constructor
    · intro h
      apply List.ext_getElem
      · rw [hp.1, hq.1]
      · intro n h1 h2
        have h3 := h (n / 7) (by rw [hp.1] at h1; omega) (n % 7) (by omega)
        rw [show n / 7 * 7 + n % 7 = n by omega, List.getD_eq_getElem?_getD, List.getD_eq_getElem?_getD, List.getElem?_eq_getElem h1, List.getElem?_eq_getElem h2] at h3
        simp only [Option.getD_some] at h3
        exact Int.ofNat.inj h3
    · intro h i hi j hj; rw [h]
  · intro i hi'
    rw [List.mem_range] at hi'
    refine ⟨_, _, part_row _ _ w, part_row _ _ w, row_eq d _ _ _ _ w ?_ ?_⟩
    · intro j hj
      rw [ext_get _ i j (by rw [pv_size, hp.1]) hi' hj]
      exact pv_get (by rw [hp.1]; omega)
    · intro j hj
      rw [ext_get _ i j (by rw [pv_size, hq.1]) hi' hj]
      exact pv_get (by rw [hq.1]; omega)
theorem poly_eq_zero (p : List Nat) (w : World) (hp : Good p) :
    (Op.equalIn 10000 37 (.agg (pv p)) (.agg #[.int .i64 0, .int .i64 0, .int .i64 0, .int .i64 0, .int .i64 0, .int .i64 0, .int .i64 0, .int .i64 0, .int .i64 0, .int .i64 0, .int .i64 0, .int .i64 0, .int .i64 0, .int .i64 0, .int .i64 0, .int .i64 0, .int .i64 0, .int .i64 0, .int .i64 0, .int .i64 0, .int .i64 0, .int .i64 0, .int .i64 0, .int .i64 0, .int .i64 0, .int .i64 0, .int .i64 0, .int .i64 0, .int .i64 0, .int .i64 0, .int .i64 0, .int .i64 0, .int .i64 0, .int .i64 0, .int .i64 0])).run Tryd.prog w = .ok (decide (p = zeros)) w := by
  have e := Array.ext' lit_zeros
  rw [e]
  exact poly_eq 9997 p zeros w hp zeros_good
end Go.Proofs.YtaajdcaciofmaaaDoor
