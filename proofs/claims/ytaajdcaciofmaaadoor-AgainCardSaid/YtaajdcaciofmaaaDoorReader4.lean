/- THE READER: term whole; polynomial. -/
import Derived.Test.YtaajdcaciofmaaaDoorReader3
import Derived.Test.YtaajdcaciofmaaaDoorPlus
namespace Go.Proofs.YtaajdcaciofmaaaDoor
open Go.RowKit

theorem term_ok (s : ByteArray) (a k b : Nat) (w : World) (hs : s.size ≤ 1000) (ha : a ≤ s.size) (hr : Rd w b s (tk s a k)) (h : (tm (tk s a) false s.size k).e = 0) :
    Calls Tryd.prog 43 #[.pointer (some ⟨b, 0, none⟩)] w fun e w' => e = .returned (.agg #[.int .i64 (tm (tk s a) false s.size k).n, .int .i64 (tm (tk s a) false s.size k).u, .int .i64 (tm (tk s a) false s.size k).x]) ∧ Rd w' b s (tk s a (tm (tk s a) false s.size k).k) ∧ Fr [b] w w' := by
  unfold tm at *
  by_cases h1 : (tk s a k).c = 1
  · rw [if_pos h1] at *
    refine (term_number s a k b w hs ha hr h1).mono ?_
    rintro e w1 (g | g)
    · exact g.2
    · exact absurd h g.1
  · rw [if_neg h1] at *
    by_cases h2 : (tk s a k).c = 2 ∨ (tk s a k).c = 3
    · rw [if_pos h2] at *
      refine (term_power s a k b w hs ha hr h2).mono ?_
      rintro e w1 (g | g)
      · exact g.2
      · exact absurd h g.1
    · rw [if_neg h2] at h
      exact absurd h (by simp)
theorem term_not (s : ByteArray) (a k b : Nat) (w : World) (hs : s.size ≤ 1000) (ha : a ≤ s.size) (hr : Rd w b s (tk s a k)) (h : (tm (tk s a) false s.size k).e ≠ 0) :
    Calls Tryd.prog 43 #[.pointer (some ⟨b, 0, none⟩)] w fun e w' => e = .panicked (faulty (tm (tk s a) false s.size k).e (tm (tk s a) false s.size k).bad) ∧ Fr [b] w w' := by
  unfold tm at *
  by_cases h1 : (tk s a k).c = 1
  · rw [if_pos h1] at *
    refine (term_number s a k b w hs ha hr h1).mono ?_
    rintro e w1 (g | g)
    · exact absurd g.1 h
    · exact g.2
  · rw [if_neg h1] at *
    by_cases h2 : (tk s a k).c = 2 ∨ (tk s a k).c = 3
    · rw [if_pos h2] at *
      refine (term_power s a k b w hs ha hr h2).mono ?_
      rintro e w1 (g | g)
      · exact absurd g.1 h
      · exact g.2
    · rw [if_neg h2] at *
      exact term_bad s a k b w hr (by omega)

theorem pk_is4 {c : Nat} (h : c = 47) : pk c = 4 := by subst h; rfl
theorem pk_is5 {c : Nat} (h : c = 49) : pk c = 5 := by subst h; rfl
theorem pk_ne4 {c : Nat} (h : c ≠ 47) : (pk c != 4) = true := by
  rw [bne_iff_ne]; unfold pk
  repeat' split
  all_goals omega
theorem pk_ne5 {c : Nat} (h : c ≠ 49) : (pk c != 5) = true := by
  rw [bne_iff_ne]; unfold pk
  repeat' split
  all_goals omega
theorem pk_no5 {c : Nat} (h : c ≠ 49) : (pk c == 5) = false := by
  rw [beq_eq_false_iff_ne]; unfold pk
  repeat' split
  all_goals omega
theorem pl_bad {f : Nat → Tok} {bare : Bool} {N m k sg : Nat} {p : List Nat} (hm : 0 < m) (h : (tm f bare N k).e ≠ 0) : pl f bare N m k sg p = ⟨(tm f bare N k).e, (tm f bare N k).bad, k, p⟩ := by
  obtain ⟨m, rfl⟩ : ∃ n, m = n + 1 := ⟨m - 1, by omega⟩
  simp only [pl, h, if_false]
theorem pl_plus {f : Nat → Tok} {bare : Bool} {N m k sg : Nat} {p : List Nat} (hm : 0 < m) (h : (tm f bare N k).e = 0) (hc : (f (tm f bare N k).k).c = 47) :
    pl f bare N m k sg p = pl f bare N (m - 1) ((tm f bare N k).k + 1) 1 (plus p (tm f bare N k).u (tm f bare N k).x (sg * (tm f bare N k).n)) := by
  obtain ⟨m, rfl⟩ : ∃ n, m = n + 1 := ⟨m - 1, by omega⟩
  simp only [pl, h, hc, if_true, Nat.add_sub_cancel]
theorem pl_minus {f : Nat → Tok} {bare : Bool} {N m k sg : Nat} {p : List Nat} (hm : 0 < m) (h : (tm f bare N k).e = 0) (hc : (f (tm f bare N k).k).c = 49) :
    pl f bare N m k sg p = pl f bare N (m - 1) ((tm f bare N k).k + 1) 6 (plus p (tm f bare N k).u (tm f bare N k).x (sg * (tm f bare N k).n)) := by
  obtain ⟨m, rfl⟩ : ∃ n, m = n + 1 := ⟨m - 1, by omega⟩
  simp [pl, h, hc]
theorem pl_done {f : Nat → Tok} {bare : Bool} {N m k sg : Nat} {p : List Nat} (hm : 0 < m) (h : (tm f bare N k).e = 0) (h4 : (f (tm f bare N k).k).c ≠ 47) (h5 : (f (tm f bare N k).k).c ≠ 49) :
    pl f bare N m k sg p = ⟨0, 0, (tm f bare N k).k, plus p (tm f bare N k).u (tm f bare N k).x (sg * (tm f bare N k).n)⟩ := by
  obtain ⟨m, rfl⟩ : ∃ n, m = n + 1 := ⟨m - 1, by omega⟩
  simp only [pl, h, h4, h5, if_true, if_false]

def sgOf (neg : Bool) : Nat := if neg then 6 else 1

/-- What the reading of a polynomial ends in. -/
def PolyPost (s : ByteArray) (a b : Nat) (R : PlR) (w : World) (e : Ending) (w' : World) : Prop :=
  (R.e = 0 ∧ e = .returned (.agg (pv R.p)) ∧ Good R.p ∧ Rd w' b s (tk s a R.k) ∧ Fr [b] w w') ∨ (R.e ≠ 0 ∧ e = .panicked (faulty R.e R.bad) ∧ Fr [b] w w')
end Go.Proofs.YtaajdcaciofmaaaDoor
