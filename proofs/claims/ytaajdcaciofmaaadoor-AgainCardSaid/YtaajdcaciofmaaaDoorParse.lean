/- PLAIN: the reading of powers, terms, polynomials, over a stream of tokens f. Nothing of the program. -/
import Derived.Test.YtaajdcaciofmaaaDoorPlain
namespace Go.Proofs.YtaajdcaciofmaaaDoor

/-- What the reading of powers comes to: the error (0: none), its place; the next token's number; the powers of u and x. -/
structure PwR where
  e : Nat
  bad : Nat
  k : Nat
  u : Nat
  x : Nat

def pw (f : Nat → Tok) (bare : Bool) : Nat → Nat → Nat → Nat → PwR
  | 0, k, u, x => ⟨0, 0, k, u, x⟩
  | m + 1, k, u, x =>
    if (f k).c = 2 then (if u + (f k).v ≤ 6 then pw f bare m (k + 1) (u + (f k).v) x else ⟨5, (f k).at', k, u, x⟩)
    else if (f k).c = 3 then (if bare = true then ⟨7, (f k).at', k, u, x⟩ else if x + (f k).v ≤ 4 then pw f bare m (k + 1) u (x + (f k).v) else ⟨5, (f k).at', k, u, x⟩)
    else ⟨0, 0, k, u, x⟩

theorem pw_u {f : Nat → Tok} {bare : Bool} {m k u x : Nat} (hm : 0 < m) (hc : (f k).c = 2) (h : u + (f k).v ≤ 6) : pw f bare m k u x = pw f bare (m - 1) (k + 1) (u + (f k).v) x := by
  obtain ⟨m, rfl⟩ : ∃ n, m = n + 1 := ⟨m - 1, by omega⟩
  simp [pw, hc, h]
theorem pw_u_bad {f : Nat → Tok} {bare : Bool} {m k u x : Nat} (hm : 0 < m) (hc : (f k).c = 2) (h : ¬ u + (f k).v ≤ 6) : pw f bare m k u x = ⟨5, (f k).at', k, u, x⟩ := by
  obtain ⟨m, rfl⟩ : ∃ n, m = n + 1 := ⟨m - 1, by omega⟩
  simp [pw, hc, h]
theorem pw_x {f : Nat → Tok} {m k u x : Nat} (hm : 0 < m) (hc : (f k).c = 3) (h : x + (f k).v ≤ 4) : pw f false m k u x = pw f false (m - 1) (k + 1) u (x + (f k).v) := by
  obtain ⟨m, rfl⟩ : ∃ n, m = n + 1 := ⟨m - 1, by omega⟩
  simp [pw, hc, h]
theorem pw_x_bad {f : Nat → Tok} {m k u x : Nat} (hm : 0 < m) (hc : (f k).c = 3) (h : ¬ x + (f k).v ≤ 4) : pw f false m k u x = ⟨5, (f k).at', k, u, x⟩ := by
  obtain ⟨m, rfl⟩ : ∃ n, m = n + 1 := ⟨m - 1, by omega⟩
  simp [pw, hc, h]
theorem pw_x_bare {f : Nat → Tok} {m k u x : Nat} (hm : 0 < m) (hc : (f k).c = 3) : pw f true m k u x = ⟨7, (f k).at', k, u, x⟩ := by
  obtain ⟨m, rfl⟩ : ∃ n, m = n + 1 := ⟨m - 1, by omega⟩
  simp [pw, hc]
theorem pw_end {f : Nat → Tok} {bare : Bool} {m k u x : Nat} (h2 : (f k).c ≠ 2) (h3 : (f k).c ≠ 3) : pw f bare m k u x = ⟨0, 0, k, u, x⟩ := by
  cases m <;> simp [pw, h2, h3]
/-- What is read stays within the bounds; the tokens go on. -/
theorem pw_facts (f : Nat → Tok) (bare : Bool) : ∀ (m k u x : Nat), u ≤ 6 → x ≤ 4 → (pw f bare m k u x).u ≤ 6 ∧ (pw f bare m k u x).x ≤ 4 ∧ k ≤ (pw f bare m k u x).k ∧ (pw f bare m k u x).k ≤ k + m := by
  intro m
  induction m with
  | zero => intro k u x hu hx; simp [pw, hu, hx]
  | succ m ih =>
    intro k u x hu hx
    simp only [pw]
    split
    · split
      · have := ih (k + 1) (u + (f k).v) x (by omega) hx; omega
      · simp [hu, hx]
    · split
      · split
        · simp [hu, hx]
        · split
          · have := ih (k + 1) u (x + (f k).v) hu (by omega); omega
          · simp [hu, hx]
      · simp [hu, hx]

structure TmR where
  e : Nat
  bad : Nat
  k : Nat
  n : Nat
  u : Nat
  x : Nat

/-- A term from token k on; there are at most N tokens ahead of the end. -/
def tm (f : Nat → Tok) (bare : Bool) (N k : Nat) : TmR :=
  if (f k).c = 1 then ⟨(pw f bare (N - (k + 1)) (k + 1) 0 0).e, (pw f bare (N - (k + 1)) (k + 1) 0 0).bad, (pw f bare (N - (k + 1)) (k + 1) 0 0).k, (f k).v, (pw f bare (N - (k + 1)) (k + 1) 0 0).u, (pw f bare (N - (k + 1)) (k + 1) 0 0).x⟩
  else if (f k).c = 2 ∨ (f k).c = 3 then ⟨(pw f bare (N - k) k 0 0).e, (pw f bare (N - k) k 0 0).bad, (pw f bare (N - k) k 0 0).k, 1, (pw f bare (N - k) k 0 0).u, (pw f bare (N - k) k 0 0).x⟩
  else ⟨4, (f k).at', k, 0, 0, 0⟩

/-- A number n added, sg times, at the powers u and x. -/
def plus (p : List Nat) (u x a : Nat) : List Nat := p.set (7 * x + u) ((p.getD (7 * x + u) 0 + a) % 7)

structure PlR where
  e : Nat
  bad : Nat
  k : Nat
  p : List Nat

def pl (f : Nat → Tok) (bare : Bool) (N : Nat) : Nat → Nat → Nat → List Nat → PlR
  | 0, k, _, p => ⟨4, 0, k, p⟩
  | m + 1, k, sg, p =>
    if (tm f bare N k).e = 0 then
      (if (f (tm f bare N k).k).c = 47 then pl f bare N m ((tm f bare N k).k + 1) 1 (plus p (tm f bare N k).u (tm f bare N k).x (sg * (tm f bare N k).n))
      else if (f (tm f bare N k).k).c = 49 then pl f bare N m ((tm f bare N k).k + 1) 6 (plus p (tm f bare N k).u (tm f bare N k).x (sg * (tm f bare N k).n))
      else ⟨0, 0, (tm f bare N k).k, plus p (tm f bare N k).u (tm f bare N k).x (sg * (tm f bare N k).n)⟩)
    else ⟨(tm f bare N k).e, (tm f bare N k).bad, k, p⟩

def zeros : List Nat := List.replicate 35 0

/-- A polynomial from token k on. -/
def poly (f : Nat → Tok) (bare : Bool) (N k : Nat) : PlR :=
  if (f k).c = 49 then pl f bare N (N + 1) (k + 1) 6 zeros else pl f bare N (N + 1) k 1 zeros

/-- A text read as a polynomial: the error, its place, the numbers. -/
structure RdR where
  e : Nat
  bad : Nat
  p : List Nat

def rd (s : ByteArray) : RdR :=
  if 90 < s.size then ⟨2, 0, zeros⟩
  else if (poly (tk s 0) false s.size 0).e = 0 then
    (if (tk s 0 (poly (tk s 0) false s.size 0).k).c = 0 then ⟨0, 0, (poly (tk s 0) false s.size 0).p⟩ else ⟨4, (tk s 0 (poly (tk s 0) false s.size 0).k).at', zeros⟩)
  else ⟨(poly (tk s 0) false s.size 0).e, (poly (tk s 0) false s.size 0).bad, zeros⟩

/-- 35 numbers, 0 to 6. -/
def Good (p : List Nat) : Prop := p.length = 35 ∧ ∀ i, p.getD i 0 < 7
theorem zeros_good : Good zeros := ⟨rfl, fun i => by
  unfold zeros
  rw [List.getD_eq_getElem?_getD, List.getElem?_replicate]
  split <;> simp⟩
theorem plus_good {p : List Nat} (h : Good p) (u x a : Nat) : Good (plus p u x a) := by
  refine ⟨by simp [plus, h.1], fun i => ?_⟩
  unfold plus
  simp only [List.getD_eq_getElem?_getD, List.getElem?_set]
  split
  · split
    · simp; omega
    · simp
  · have := h.2 i; simpa [List.getD_eq_getElem?_getD] using this

theorem tm_facts (f : Nat → Tok) (bare : Bool) (N k : Nat) : (tm f bare N k).u ≤ 6 ∧ (tm f bare N k).x ≤ 4 ∧ k ≤ (tm f bare N k).k ∧ (k < N → (tm f bare N k).k ≤ N) := by
  unfold tm
  split
  · have := pw_facts f bare (N - (k + 1)) (k + 1) 0 0 (by omega) (by omega)
    refine ⟨this.1, this.2.1, ?_, ?_⟩ <;> simp <;> omega
  · split
    · have := pw_facts f bare (N - k) k 0 0 (by omega) (by omega)
      refine ⟨this.1, this.2.1, ?_, ?_⟩ <;> simp <;> omega
    · refine ⟨?_, ?_, ?_, ?_⟩ <;> simp; omega
theorem tm_num {f : Nat → Tok} (bare : Bool) (N k : Nat) (h : ∀ k, (f k).v ≤ 99) : (tm f bare N k).n ≤ 99 := by
  unfold tm
  split
  · exact h k
  · split <;> simp
end Go.Proofs.YtaajdcaciofmaaaDoor
