import Derived.Test.YthlmgpllapccfaaDoorProg
import Derived.WalkKit
import Derived.WalkSpells
import Derived.WalkLawsBesides
import Derived.Handy
import Derived.Deep.RegionHeld3
import Derived.Lib.Join
import Derived.Lib.ItoaNum
import Derived.StillTail
import Derived.BigQuiet
import Derived.Deep.MidRow
import Derived.Laws.IdiomStrings
import Derived.ChangeKeysEq
import Derived.Deep.LoopGhost
/- PLAIN: texts, tokens, the reading of a polynomial, as functions on numbers and lists. Nothing of the program. -/
namespace Go.Proofs.YthlmgpllapccfaaDoor

/-- The byte at i; 256 where there is none. -/
def byt (s : ByteArray) (i : Nat) : Nat := if h : i < s.size then (s[i]'h).toNat else 256
theorem byt_lt {s : ByteArray} {i : Nat} (h : i < s.size) : byt s i = (s[i]'h).toNat := by simp [byt, h]
theorem byt_ge {s : ByteArray} {i : Nat} (h : ¬ i < s.size) : byt s i = 256 := by simp [byt, h]
theorem byt_le (s : ByteArray) (i : Nat) : byt s i ≤ 256 := by
  unfold byt; split
  · rename_i h; have := (s[i]'h).toNat_lt; omega
  · omega
theorem byt_in {s : ByteArray} {i : Nat} (h : byt s i ≠ 256) : i < s.size := by
  by_cases g : i < s.size
  · exact g
  · exact absurd (byt_ge g) h
theorem byt_small {s : ByteArray} {i : Nat} (h : i < s.size) : byt s i ≤ 255 := by
  rw [byt_lt h]; have := (s[i]'h).toNat_lt; omega

def isD (s : ByteArray) (i : Nat) : Bool := decide (48 ≤ byt s i) && decide (byt s i ≤ 57)
theorem isD_iff (s : ByteArray) (i : Nat) : isD s i = true ↔ 48 ≤ byt s i ∧ byt s i ≤ 57 := by simp [isD]
theorem isD_in {s : ByteArray} {i : Nat} (h : isD s i = true) : i < s.size := by
  rw [isD_iff] at h; exact byt_in (by omega)

/-- Behind the spaces from i on. -/
def skipF (s : ByteArray) : Nat → Nat → Nat
  | 0, i => i
  | m + 1, i => if byt s i = 32 then skipF s m (i + 1) else i
def skip (s : ByteArray) (i : Nat) : Nat := skipF s (s.size - i) i
theorem skip_space {s : ByteArray} {i : Nat} (h : byt s i = 32) : skip s i = skip s (i + 1) := by
  have hi := byt_in (s := s) (i := i) (by omega)
  unfold skip
  rw [show s.size - i = (s.size - (i + 1)) + 1 from by omega]
  simp [skipF, h]
theorem skip_here {s : ByteArray} {i : Nat} (h : byt s i ≠ 32) : skip s i = i := by
  unfold skip
  cases hm : s.size - i with
  | zero => rfl
  | succ m => simp [skipF, h]
theorem skipF_facts (s : ByteArray) : ∀ (m i : Nat), s.size - i = m → i ≤ s.size → i ≤ skipF s m i ∧ skipF s m i ≤ s.size ∧ byt s (skipF s m i) ≠ 32 := by
  intro m
  induction m with
  | zero => intro i h1 h2; refine ⟨Nat.le_refl _, h2, ?_⟩; show byt s i ≠ 32; rw [byt_ge (by omega)]; omega
  | succ m ih =>
    intro i h1 h2
    by_cases h : byt s i = 32
    · simp only [skipF, h, if_true]
      have := ih (i + 1) (by omega) (by omega)
      exact ⟨by omega, this.2.1, this.2.2⟩
    · simp only [skipF, h, if_false]
      exact ⟨Nat.le_refl _, h2, h⟩
theorem skip_facts {s : ByteArray} {i : Nat} (h : i ≤ s.size) : i ≤ skip s i ∧ skip s i ≤ s.size ∧ byt s (skip s i) ≠ 32 := skipF_facts s _ i rfl h

/-- A token: what it is (0: the end; 1: a number; 2: a power of u; 3: a power of x; else its byte and 4), where it begins, where it ends, its number. -/
structure Tok where
  c : Nat
  at' : Nat
  to : Nat
  v : Nat

def tokAt (s : ByteArray) (j : Nat) : Tok :=
  if byt s j = 256 then ⟨0, j, j, 0⟩
  else if isD s j = true then (if isD s (j + 1) = true then ⟨1, j, j + 2, 10 * (byt s j - 48) + (byt s (j + 1) - 48)⟩ else ⟨1, j, j + 1, byt s j - 48⟩)
  else if byt s j = 117 then (if isD s (j + 1) = true then ⟨2, j, j + 2, byt s (j + 1) - 48⟩ else ⟨2, j, j + 1, 1⟩)
  else if byt s j = 120 then (if isD s (j + 1) = true then ⟨3, j, j + 2, byt s (j + 1) - 48⟩ else ⟨3, j, j + 1, 1⟩)
  else ⟨byt s j + 4, j, j + 1, 0⟩
def tok (s : ByteArray) (i : Nat) : Tok := tokAt s (skip s i)

/-- What a token of the text at j ≤ its size is good for. -/
theorem tokAt_facts {s : ByteArray} {j : Nat} (h : j ≤ s.size) : (tokAt s j).at' = j ∧ j ≤ (tokAt s j).to ∧ (tokAt s j).to ≤ s.size ∧ (tokAt s j).v ≤ 99 ∧ (tokAt s j).c ≤ 260 ∧ ((tokAt s j).c = 0 ↔ j = s.size) ∧ ((tokAt s j).c ≠ 0 → j < (tokAt s j).to) := by
  have hb := byt_le s j
  unfold tokAt
  by_cases h0 : byt s j = 256
  · have : ¬ j < s.size := fun g => by have := byt_small g; omega
    rw [if_pos h0]; refine ⟨rfl, ?_, ?_, ?_, ?_, ?_, ?_⟩ <;> simp <;> omega
  · have hj := byt_in h0
    rw [if_neg h0]
    by_cases h1 : isD s j = true
    · have h1' := (isD_iff s j).1 h1
      rw [if_pos h1]
      by_cases h2 : isD s (j + 1) = true
      · have h2' := (isD_iff s (j + 1)).1 h2
        have := isD_in h2
        rw [if_pos h2]; refine ⟨rfl, ?_, ?_, ?_, ?_, ?_, ?_⟩ <;> simp <;> omega
      · rw [if_neg h2]; refine ⟨rfl, ?_, ?_, ?_, ?_, ?_, ?_⟩ <;> simp <;> omega
    · rw [if_neg h1]
      by_cases h3 : byt s j = 117
      · rw [if_pos h3]
        by_cases h2 : isD s (j + 1) = true
        · have h2' := (isD_iff s (j + 1)).1 h2
          have := isD_in h2
          rw [if_pos h2]; refine ⟨rfl, ?_, ?_, ?_, ?_, ?_, ?_⟩ <;> simp <;> omega
        · rw [if_neg h2]; refine ⟨rfl, ?_, ?_, ?_, ?_, ?_, ?_⟩ <;> simp <;> omega
      · rw [if_neg h3]
        by_cases h4 : byt s j = 120
        · rw [if_pos h4]
          by_cases h2 : isD s (j + 1) = true
          · have h2' := (isD_iff s (j + 1)).1 h2
            have := isD_in h2
            rw [if_pos h2]; refine ⟨rfl, ?_, ?_, ?_, ?_, ?_, ?_⟩ <;> simp <;> omega
          · rw [if_neg h2]; refine ⟨rfl, ?_, ?_, ?_, ?_, ?_, ?_⟩ <;> simp <;> omega
        · rw [if_neg h4]; refine ⟨rfl, ?_, ?_, ?_, ?_, ?_, ?_⟩ <;> simp <;> omega

/-- Where the k-th token is looked for, beginning at a; and that token. -/
def pos (s : ByteArray) (a : Nat) : Nat → Nat
  | 0 => a
  | k + 1 => (tok s (pos s a k)).to
def tk (s : ByteArray) (a k : Nat) : Tok := tok s (pos s a k)

theorem tok_facts {s : ByteArray} {i : Nat} (h : i ≤ s.size) : i ≤ (tok s i).at' ∧ (tok s i).at' ≤ (tok s i).to ∧ (tok s i).to ≤ s.size ∧ (tok s i).v ≤ 99 ∧ (tok s i).c ≤ 260 ∧ ((tok s i).c = 0 ↔ (tok s i).at' = s.size) ∧ ((tok s i).c ≠ 0 → i < (tok s i).to) := by
  obtain ⟨a, b, _⟩ := skip_facts h
  obtain ⟨c, d, e, f, g, k, l⟩ := tokAt_facts b
  unfold tok
  rw [c]
  exact ⟨a, d, e, f, g, k, fun q => by have := l q; omega⟩
theorem pos_le {s : ByteArray} {a : Nat} (h : a ≤ s.size) : ∀ k, pos s a k ≤ s.size
  | 0 => h
  | k + 1 => (tok_facts (pos_le h k)).2.2.1
theorem tk_facts {s : ByteArray} {a : Nat} (h : a ≤ s.size) (k : Nat) : (tk s a k).at' ≤ s.size ∧ (tk s a k).to ≤ s.size ∧ (tk s a k).v ≤ 99 ∧ (tk s a k).c ≤ 260 := by
  obtain ⟨_, b, c, d, e, _, _⟩ := tok_facts (pos_le h k)
  unfold tk
  exact ⟨by omega, c, d, e⟩
theorem pos_grows {s : ByteArray} {a : Nat} (h : a ≤ s.size) : ∀ k, (tk s a k).c ≠ 0 → k < pos s a (k + 1)
  | 0, q => by have := (tok_facts (pos_le h 0)).2.2.2.2.2.2 q; show 0 < (tok s (pos s a 0)).to; omega
  | k + 1, q => by
    have := (tok_facts (pos_le h (k + 1))).2.2.2.2.2.2 q
    show k + 1 < (tok s (pos s a (k + 1))).to
    by_cases g : (tk s a k).c = 0
    · have z := (tok_facts (pos_le h k)).2.2.2.2.2.1.1 g
      have y := (tok_facts (pos_le h k)).2.1
      have x := (tok_facts (pos_le h k)).2.2.1
      have w : pos s a (k + 1) = s.size := by show (tok s (pos s a k)).to = s.size; omega
      have v := (tok_facts (pos_le h (k + 1))).2.2.1
      omega
    · have := pos_grows h k g; omega
/-- The token of the text's size in number is the end. -/
theorem tk_end {s : ByteArray} {a : Nat} (h : a ≤ s.size) {k : Nat} (hk : s.size ≤ k) : (tk s a k).c = 0 := by
  by_cases q : (tk s a k).c = 0
  · exact q
  · have := pos_grows h k q
    have := pos_le h (k + 1)
    omega
theorem tk_lt {s : ByteArray} {a : Nat} (h : a ≤ s.size) {k : Nat} (hk : (tk s a k).c ≠ 0) : k < s.size := by
  by_cases q : k < s.size
  · exact q
  · exact absurd (tk_end h (by omega)) hk

end Go.Proofs.YthlmgpllapccfaaDoor
/- PLAIN: the reading of powers, terms, polynomials, over a stream of tokens f. Nothing of the program. -/
namespace Go.Proofs.YthlmgpllapccfaaDoor

/-- What the reading of powers comes to: the error (0: none), its place; the next token's number; the powers of u and x. -/
structure PwR where
  e : Nat
  bad : Nat
  k : Nat
  u : Nat
  x : Nat

def pw (f : Nat → Tok) (bare : Bool) : Nat → Nat → Nat → Nat → PwR
  | 0, k, u, x => ⟨0, 0, k, u, x⟩
  | m + 1, k, u, x =>
    if (f k).c = 2 then (if u + (f k).v ≤ 6 then pw f bare m (k + 1) (u + (f k).v) x else ⟨5, (f k).at', k, u, x⟩)
    else if (f k).c = 3 then (if bare = true then ⟨7, (f k).at', k, u, x⟩ else if x + (f k).v ≤ 4 then pw f bare m (k + 1) u (x + (f k).v) else ⟨5, (f k).at', k, u, x⟩)
    else ⟨0, 0, k, u, x⟩

theorem pw_u {f : Nat → Tok} {bare : Bool} {m k u x : Nat} (hm : 0 < m) (hc : (f k).c = 2) (h : u + (f k).v ≤ 6) : pw f bare m k u x = pw f bare (m - 1) (k + 1) (u + (f k).v) x := by
  obtain ⟨m, rfl⟩ : ∃ n, m = n + 1 := ⟨m - 1, by omega⟩
  simp [pw, hc, h]
theorem pw_u_bad {f : Nat → Tok} {bare : Bool} {m k u x : Nat} (hm : 0 < m) (hc : (f k).c = 2) (h : ¬ u + (f k).v ≤ 6) : pw f bare m k u x = ⟨5, (f k).at', k, u, x⟩ := by
  obtain ⟨m, rfl⟩ : ∃ n, m = n + 1 := ⟨m - 1, by omega⟩
  simp [pw, hc, h]
theorem pw_x {f : Nat → Tok} {m k u x : Nat} (hm : 0 < m) (hc : (f k).c = 3) (h : x + (f k).v ≤ 4) : pw f false m k u x = pw f false (m - 1) (k + 1) u (x + (f k).v) := by
  obtain ⟨m, rfl⟩ : ∃ n, m = n + 1 := ⟨m - 1, by omega⟩
  simp [pw, hc, h]
theorem pw_x_bad {f : Nat → Tok} {m k u x : Nat} (hm : 0 < m) (hc : (f k).c = 3) (h : ¬ x + (f k).v ≤ 4) : pw f false m k u x = ⟨5, (f k).at', k, u, x⟩ := by
  obtain ⟨m, rfl⟩ : ∃ n, m = n + 1 := ⟨m - 1, by omega⟩
  simp [pw, hc, h]
theorem pw_x_bare {f : Nat → Tok} {m k u x : Nat} (hm : 0 < m) (hc : (f k).c = 3) : pw f true m k u x = ⟨7, (f k).at', k, u, x⟩ := by
  obtain ⟨m, rfl⟩ : ∃ n, m = n + 1 := ⟨m - 1, by omega⟩
  simp [pw, hc]
theorem pw_end {f : Nat → Tok} {bare : Bool} {m k u x : Nat} (h2 : (f k).c ≠ 2) (h3 : (f k).c ≠ 3) : pw f bare m k u x = ⟨0, 0, k, u, x⟩ := by
  cases m <;> simp [pw, h2, h3]
/-- What is read stays within the bounds; the tokens go on. -/
theorem pw_facts (f : Nat → Tok) (bare : Bool) : ∀ (m k u x : Nat), u ≤ 6 → x ≤ 4 → (pw f bare m k u x).u ≤ 6 ∧ (pw f bare m k u x).x ≤ 4 ∧ k ≤ (pw f bare m k u x).k ∧ (pw f bare m k u x).k ≤ k + m := by
  intro m
  induction m with
  | zero => intro k u x hu hx; simp [pw, hu, hx]
  | succ m ih =>
    intro k u x hu hx
    simp only [pw]
    split
    · split
      · have := ih (k + 1) (u + (f k).v) x (by omega) hx; omega
      · simp [hu, hx]
    · split
      · split
        · simp [hu, hx]
        · split
          · have := ih (k + 1) u (x + (f k).v) hu (by omega); omega
          · simp [hu, hx]
      · simp [hu, hx]

structure TmR where
  e : Nat
  bad : Nat
  k : Nat
  n : Nat
  u : Nat
  x : Nat

/-- A term from token k on; there are at most N tokens ahead of the end. -/
def tm (f : Nat → Tok) (bare : Bool) (N k : Nat) : TmR :=
  if (f k).c = 1 then ⟨(pw f bare (N - (k + 1)) (k + 1) 0 0).e, (pw f bare (N - (k + 1)) (k + 1) 0 0).bad, (pw f bare (N - (k + 1)) (k + 1) 0 0).k, (f k).v, (pw f bare (N - (k + 1)) (k + 1) 0 0).u, (pw f bare (N - (k + 1)) (k + 1) 0 0).x⟩
  else if (f k).c = 2 ∨ (f k).c = 3 then ⟨(pw f bare (N - k) k 0 0).e, (pw f bare (N - k) k 0 0).bad, (pw f bare (N - k) k 0 0).k, 1, (pw f bare (N - k) k 0 0).u, (pw f bare (N - k) k 0 0).x⟩
  else ⟨4, (f k).at', k, 0, 0, 0⟩

/-- A number n added, sg times, at the powers u and x. -/
def plus (p : List Nat) (u x a : Nat) : List Nat := p.set (7 * x + u) ((p.getD (7 * x + u) 0 + a) % 7)

structure PlR where
  e : Nat
  bad : Nat
  k : Nat
  p : List Nat

def pl (f : Nat → Tok) (bare : Bool) (N : Nat) : Nat → Nat → Nat → List Nat → PlR
  | 0, k, _, p => ⟨4, 0, k, p⟩
  | m + 1, k, sg, p =>
    if (tm f bare N k).e = 0 then
      (if (f (tm f bare N k).k).c = 47 then pl f bare N m ((tm f bare N k).k + 1) 1 (plus p (tm f bare N k).u (tm f bare N k).x (sg * (tm f bare N k).n))
      else if (f (tm f bare N k).k).c = 49 then pl f bare N m ((tm f bare N k).k + 1) 6 (plus p (tm f bare N k).u (tm f bare N k).x (sg * (tm f bare N k).n))
      else ⟨0, 0, (tm f bare N k).k, plus p (tm f bare N k).u (tm f bare N k).x (sg * (tm f bare N k).n)⟩)
    else ⟨(tm f bare N k).e, (tm f bare N k).bad, k, p⟩

def zeros : List Nat := List.replicate 35 0

/-- A polynomial from token k on. -/
def poly (f : Nat → Tok) (bare : Bool) (N k : Nat) : PlR :=
  if (f k).c = 49 then pl f bare N (N + 1) (k + 1) 6 zeros else pl f bare N (N + 1) k 1 zeros

/-- A text read as a polynomial: the error, its place, the numbers. -/
structure RdR where
  e : Nat
  bad : Nat
  p : List Nat

def rd (s : ByteArray) : RdR :=
  if 90 < s.size then ⟨2, 0, zeros⟩
  else if (poly (tk s 0) false s.size 0).e = 0 then
    (if (tk s 0 (poly (tk s 0) false s.size 0).k).c = 0 then ⟨0, 0, (poly (tk s 0) false s.size 0).p⟩ else ⟨4, (tk s 0 (poly (tk s 0) false s.size 0).k).at', zeros⟩)
  else ⟨(poly (tk s 0) false s.size 0).e, (poly (tk s 0) false s.size 0).bad, zeros⟩

/-- 35 numbers, 0 to 6. -/
def Good (p : List Nat) : Prop := p.length = 35 ∧ ∀ i, p.getD i 0 < 7
theorem zeros_good : Good zeros := ⟨rfl, fun i => by
  unfold zeros
  rw [List.getD_eq_getElem?_getD, List.getElem?_replicate]
  split <;> simp⟩
theorem plus_good {p : List Nat} (h : Good p) (u x a : Nat) : Good (plus p u x a) := by
  refine ⟨by simp [plus, h.1], fun i => ?_⟩
  unfold plus
  simp only [List.getD_eq_getElem?_getD, List.getElem?_set]
  split
  · split
    · simp; omega
    · simp
  · have := h.2 i; simpa [List.getD_eq_getElem?_getD] using this

theorem tm_facts (f : Nat → Tok) (bare : Bool) (N k : Nat) : (tm f bare N k).u ≤ 6 ∧ (tm f bare N k).x ≤ 4 ∧ k ≤ (tm f bare N k).k ∧ (k < N → (tm f bare N k).k ≤ N) := by
  unfold tm
  split
  · have := pw_facts f bare (N - (k + 1)) (k + 1) 0 0 (by omega) (by omega)
    refine ⟨this.1, this.2.1, ?_, ?_⟩ <;> simp <;> omega
  · split
    · have := pw_facts f bare (N - k) k 0 0 (by omega) (by omega)
      refine ⟨this.1, this.2.1, ?_, ?_⟩ <;> simp <;> omega
    · refine ⟨?_, ?_, ?_, ?_⟩ <;> simp; omega
theorem tm_num {f : Nat → Tok} (bare : Bool) (N k : Nat) (h : ∀ k, (f k).v ≤ 99) : (tm f bare N k).n ≤ 99 := by
  unfold tm
  split
  · exact h k
  · split <;> simp
theorem pl_bad {f : Nat → Tok} {bare : Bool} {N m k sg : Nat} {p : List Nat} (hm : 0 < m) (h : (tm f bare N k).e ≠ 0) : pl f bare N m k sg p = ⟨(tm f bare N k).e, (tm f bare N k).bad, k, p⟩ := by
  obtain ⟨m, rfl⟩ : ∃ n, m = n + 1 := ⟨m - 1, by omega⟩
  simp only [pl, h, if_false]
theorem pl_plus {f : Nat → Tok} {bare : Bool} {N m k sg : Nat} {p : List Nat} (hm : 0 < m) (h : (tm f bare N k).e = 0) (hc : (f (tm f bare N k).k).c = 47) :
    pl f bare N m k sg p = pl f bare N (m - 1) ((tm f bare N k).k + 1) 1 (plus p (tm f bare N k).u (tm f bare N k).x (sg * (tm f bare N k).n)) := by
  obtain ⟨m, rfl⟩ : ∃ n, m = n + 1 := ⟨m - 1, by omega⟩
  simp only [pl, h, hc, if_true, Nat.add_sub_cancel]
theorem pl_minus {f : Nat → Tok} {bare : Bool} {N m k sg : Nat} {p : List Nat} (hm : 0 < m) (h : (tm f bare N k).e = 0) (hc : (f (tm f bare N k).k).c = 49) :
    pl f bare N m k sg p = pl f bare N (m - 1) ((tm f bare N k).k + 1) 6 (plus p (tm f bare N k).u (tm f bare N k).x (sg * (tm f bare N k).n)) := by
  obtain ⟨m, rfl⟩ : ∃ n, m = n + 1 := ⟨m - 1, by omega⟩
  simp [pl, h, hc]
theorem pl_done {f : Nat → Tok} {bare : Bool} {N m k sg : Nat} {p : List Nat} (hm : 0 < m) (h : (tm f bare N k).e = 0) (h4 : (f (tm f bare N k).k).c ≠ 47) (h5 : (f (tm f bare N k).k).c ≠ 49) :
    pl f bare N m k sg p = ⟨0, 0, (tm f bare N k).k, plus p (tm f bare N k).u (tm f bare N k).x (sg * (tm f bare N k).n)⟩ := by
  obtain ⟨m, rfl⟩ : ∃ n, m = n + 1 := ⟨m - 1, by omega⟩
  simp only [pl, h, h4, h5, if_true, if_false]

def sgOf (neg : Bool) : Nat := if neg then 6 else 1
end Go.Proofs.YthlmgpllapccfaaDoor
/- WHAT ALL WALKS USE. -/
namespace Go.Proofs.YthlmgpllapccfaaDoor
open Go.RowKit

theorem ret4 {a b c d a' b' c' d' : Int} (h1 : a = a') (h2 : b = b') (h3 : c = c') (h4 : d = d') : Ending.returned (.agg #[.int .i64 a, .int .i64 b, .int .i64 c, .int .i64 d]) = Ending.returned (.agg #[.int .i64 a', .int .i64 b', .int .i64 c', .int .i64 d']) := by subst h1 h2 h3 h4; rfl
theorem bcell {W w1 : World} (hb : Below W.heap.size W w1) : (∀ b o, b < W.heap.size → w1.cell? ⟨b, o, none⟩ = W.cell? ⟨b, o, none⟩) ∧ (∀ b o, b < W.heap.size → w1.frozen? ⟨b, o, none⟩ = W.frozen? ⟨b, o, none⟩) :=
  ⟨fun b o h => hb.cell (p := ⟨b, o, none⟩) h, fun b o h => hb.frozen (p := ⟨b, o, none⟩) h⟩
theorem byt_cast {s : ByteArray} {i : Nat} (h : i < s.size) : ((s[i]'h).toNat : Int) = (byt s i : Int) := by rw [byt_lt h]

theorem below_alloc {w w1 : World} {o : Obj} (h : Below (w.alloc o).heap.size (w.alloc o) w1) : Below w.heap.size w w1 :=
  ((Below.refl _ _).alloc (Nat.le_refl _) _).trans (h.mono (by simp))

theorem ret4v {a b c d a' b' c' d' : Int} (h1 : a = a') (h2 : b = b') (h3 : c = c') (h4 : d = d') : Value.agg #[.int .i64 a, .int .i64 b, .int .i64 c, .int .i64 d] = Value.agg #[.int .i64 a', .int .i64 b', .int .i64 c', .int .i64 d'] := by subst h1 h2 h3 h4; rfl

end Go.Proofs.YthlmgpllapccfaaDoor
/- THE FRAME: what a call leaves as it was: every old block but those that are named. -/
namespace Go.Proofs.YthlmgpllapccfaaDoor
open Go.RowKit

/-- Every block of w but those of bs is in w' as it was. -/
structure Fr (bs : List Nat) (w w' : World) : Prop where
  os : w'.os = w.os
  tape : w'.tape = w.tape
  output : w'.output = w.output
  size : w.heap.size ≤ w'.heap.size
  block : ∀ k, k < w.heap.size → k ∉ bs → w'.heap[k]? = w.heap[k]?

theorem Fr.refl (bs : List Nat) (w : World) : Fr bs w w := ⟨rfl, rfl, rfl, Nat.le_refl _, fun _ _ _ => rfl⟩
theorem Fr.trans {bs cs : List Nat} {a b c : World} (h : Fr bs a b) (k : Fr cs b c) (hs : ∀ x ∈ cs, x ∈ bs ∨ a.heap.size ≤ x) : Fr bs a c :=
  ⟨k.os.trans h.os, k.tape.trans h.tape, k.output.trans h.output, Nat.le_trans h.size k.size, fun i hi hn => (k.block i (Nat.lt_of_lt_of_le hi h.size) (fun hc => by rcases hs i hc with g | g; exact hn g; omega)).trans (h.block i hi hn)⟩
theorem Fr.of_below {bs : List Nat} {w w' : World} (h : Below w.heap.size w w') : Fr bs w w' := ⟨h.os, h.tape, h.output, h.size, fun k hk _ => h.block k hk⟩
theorem Fr.below {bs : List Nat} {w w' : World} {B : Nat} (h : Fr bs w w') (hB : B ≤ w.heap.size) (hbs : ∀ x ∈ bs, B ≤ x) : Below B w w' :=
  ⟨h.os, h.tape, h.output, h.size, fun k hk => h.block k (by omega) (fun hc => by have := hbs k hc; omega)⟩
theorem Fr.drew {bs : List Nat} {a w : World} (h : Fr bs a w) : Fr bs a w.drew := ⟨h.os, h.tape, h.output, h.size, h.block⟩
theorem Fr.alloc {bs : List Nat} {a w : World} (h : Fr bs a w) (o : Obj) : Fr bs a (w.alloc o) :=
  ⟨h.os, h.tape, h.output, by have := h.size; simp; omega, fun k hk hn => (Below.heap_alloc _ _ _ (Nat.lt_of_lt_of_le hk h.size)).trans (h.block k hk hn)⟩
theorem Fr.setCell {bs : List Nat} {a w : World} (h : Fr bs a w) (p : Addr) (v : Value) (hp : p.block ∈ bs ∨ a.heap.size ≤ p.block) : Fr bs a (w.setCell p v) :=
  ⟨h.os, h.tape, h.output, by have := h.size; simp [World.setCell]; omega, fun k hk hn => (Below.heap_setCell _ _ _ _ (fun e => by subst e; rcases hp with g | g; exact hn g; omega)).trans (h.block k hk hn)⟩
theorem Fr.cell {bs : List Nat} {w w' : World} (h : Fr bs w w') {b : Nat} (o : Nat) (hb : b < w.heap.size) (hn : b ∉ bs) : w'.cell? ⟨b, o, none⟩ = w.cell? ⟨b, o, none⟩ := by
  simp only [World.cell?, h.block b hb hn]
theorem Fr.frozen {bs : List Nat} {w w' : World} (h : Fr bs w w') {b : Nat} (o : Nat) (hb : b < w.heap.size) (hn : b ∉ bs) : w'.frozen? ⟨b, o, none⟩ = w.frozen? ⟨b, o, none⟩ := by
  simp only [World.frozen?, h.block b hb hn]
theorem Fr.mono {bs cs : List Nat} {w w' : World} (h : Fr bs w w') (hs : ∀ x ∈ bs, x ∈ cs ∨ w.heap.size ≤ x) : Fr cs w w' :=
  ⟨h.os, h.tape, h.output, h.size, fun k hk hn => h.block k hk (fun hc => by rcases hs k hc with g | g; exact hn g; omega)⟩

theorem cell_set_off (w : World) (b o o' : Nat) (v : Value) (h : o ≠ o') : (w.setCell ⟨b, o, none⟩ v).cell? ⟨b, o', none⟩ = w.cell? ⟨b, o', none⟩ :=
  World.cell?_setCell_other w _ _ v (by intro e; exact h (by injection e))
/-- A whole block. -/
def Blk (w : World) (b : Nat) (cs : Array Value) (t : TypeId) : Prop := w.heap[b]? = some (.cells cs t (0, 0))
theorem Blk.lt {w : World} {b : Nat} {cs : Array Value} {t : TypeId} (h : Blk w b cs t) : b < w.heap.size := by
  rcases Nat.lt_or_ge b w.heap.size with g | g
  · exact g
  · unfold Blk at h; rw [Array.getElem?_eq_none g] at h; simp at h
theorem Blk.cell {w : World} {b : Nat} {cs : Array Value} {t : TypeId} (h : Blk w b cs t) (o : Nat) : w.cell? ⟨b, o, none⟩ = cs[o]? := by
  unfold Blk at h; simp [World.cell?, h]
theorem Blk.frozen {w : World} {b : Nat} {cs : Array Value} {t : TypeId} (h : Blk w b cs t) (o : Nat) : w.frozen? ⟨b, o, none⟩ = false := by
  unfold Blk at h; simp [World.frozen?, h]
theorem Blk.fr {bs : List Nat} {w w' : World} {b : Nat} {cs : Array Value} {t : TypeId} (h : Blk w b cs t) (f : Fr bs w w') (hn : b ∉ bs) : Blk w' b cs t := by
  have := h.lt
  unfold Blk at *; rw [f.block b this hn]; exact h
theorem Blk.drew {w : World} {b : Nat} {cs : Array Value} {t : TypeId} (h : Blk w b cs t) : Blk w.drew b cs t := h
theorem Blk.alloc {w : World} {b : Nat} {cs : Array Value} {t : TypeId} (h : Blk w b cs t) (o : Obj) : Blk (w.alloc o) b cs t := h.fr ((Fr.refl [] w).alloc o) (by simp)
theorem Blk.new (w : World) (cs : Array Value) (t : TypeId) : Blk (w.alloc (.cells cs t)) w.heap.size cs t := by
  show (w.heap.push _)[w.heap.size]? = _
  simp
theorem Blk.newAt (w : World) (cs : Array Value) (t : TypeId) {n : Nat} (h : w.heap.size = n) : Blk (w.alloc (.cells cs t)) n cs t := by subst h; exact Blk.new w cs t
theorem Blk.set {w : World} {b : Nat} {cs : Array Value} {t : TypeId} (h : Blk w b cs t) (o : Nat) (v : Value) : Blk (w.setCell ⟨b, o, none⟩ v) b (cs.setIfInBounds o v) t := by
  unfold Blk at *
  simp [World.setCell, Array.getElem?_modify, h]
theorem Blk.setOther {w : World} {b : Nat} {cs : Array Value} {t : TypeId} (h : Blk w b cs t) (p : Addr) (v : Value) (hn : b ≠ p.block) : Blk (w.setCell p v) b cs t := by
  unfold Blk at *; rw [Below.heap_setCell _ _ _ _ hn]; exact h
theorem Blk.store3 {w : World} {n : Nat} {x0 x1 x2 : Value} {t : TypeId} (h : Blk w n #[x0, x1, x2] t) (a b c : Value) : Blk (((w.setCell ⟨n, 0, none⟩ a).setCell ⟨n, 1, none⟩ b).setCell ⟨n, 2, none⟩ c) n #[a, b, c] t :=
  Blk.set (Blk.set (Blk.set h 0 _) 1 _) 2 _
theorem Blk.store4 {w : World} {n : Nat} {x0 x1 x2 x3 : Value} {t : TypeId} (h : Blk w n #[x0, x1, x2, x3] t) (a b c d : Value) : Blk ((((w.setCell ⟨n, 0, none⟩ a).setCell ⟨n, 1, none⟩ b).setCell ⟨n, 2, none⟩ c).setCell ⟨n, 3, none⟩ d) n #[a, b, c, d] t :=
  Blk.set (Blk.set (Blk.set (Blk.set h 0 _) 1 _) 2 _) 3 _
theorem Blk.cells3 {w : World} {n : Nat} {x0 x1 x2 : Value} {t : TypeId} (h : Blk w n #[x0, x1, x2] t) : w.cell? ⟨n, 0, none⟩ = some x0 ∧ w.cell? ⟨n, 1, none⟩ = some x1 ∧ w.cell? ⟨n, 2, none⟩ = some x2 := ⟨h.cell 0, h.cell 1, h.cell 2⟩
theorem Blk.free3 {w : World} {n : Nat} {cs : Array Value} {t : TypeId} (h : Blk w n cs t) : w.frozen? ⟨n, 0, none⟩ = false ∧ w.frozen? ⟨n, 1, none⟩ = false ∧ w.frozen? ⟨n, 2, none⟩ = false := ⟨h.frozen 0, h.frozen 1, h.frozen 2⟩
theorem ret3 {a b c a' b' c' : Int} (h1 : a = a') (h2 : b = b') (h3 : c = c') : Ending.returned (.agg #[.int .i64 a, .int .i64 b, .int .i64 c]) = Ending.returned (.agg #[.int .i64 a', .int .i64 b', .int .i64 c']) := by subst h1 h2 h3; rfl
end Go.Proofs.YthlmgpllapccfaaDoor
/- THE PROGRAM's ARITHMETIC: Mod; the document's: modulo, raised. -/
namespace Go.Proofs.YthlmgpllapccfaaDoor
open Go.RowKit

theorem tmod7 (n : Int) : (n.tmod 7 + 7).tmod 7 = n % 7 := by
  rcases Int.lt_or_le n 0 with h | h
  · have := Int.tmod_def n 7
    rw [Int.tmod_eq_emod_of_nonneg (by have := Int.lt_tmod_of_pos n (b := 7) (by omega); omega)]
    have e : n.tmod 7 = -((-n) % 7) := by
      have h1 : n = -(-n) := by omega
      rw [h1, Int.neg_tmod, Int.tmod_eq_emod_of_nonneg (by omega)]; simp
    rw [e]; omega
  · rw [Int.tmod_eq_emod_of_nonneg h, Int.tmod_eq_emod_of_nonneg (by omega)]; omega

theorem tmod7_bd (n : Int) : -7 < n.tmod 7 ∧ n.tmod 7 < 7 := ⟨by have := Int.lt_tmod_of_pos n (b := 7) (by omega); omega, Int.tmod_lt_of_pos n (by omega)⟩
theorem ret1 {k : IntKind} {a b : Int} (h : a = b) : Ending.returned (.int k a) = Ending.returned (.int k b) := by rw [h]

set_option maxHeartbeats 400000 in
theorem Mod_any (n : Int) (w : World) :
    Calls Tryd.prog 33 #[.int .i64 n] w fun e w' => e = .returned (.int .i64 (n % 7)) ∧ w' = w := by
  have hb := tmod7_bd n
  have ht := tmod7 n
  have HT : Hid ((n.tmod 7 + 7).tmod 7 = n % 7) := ht
  clear ht
  go_enter Tryd.func33, Tryd.ntmps33
  go_wp2
  go_ret
  exact ⟨ret1 (by rw [← HT.out]; exact (Int.tmod_eq_emod_of_nonneg (by omega)).symm), rfl⟩

set_option maxHeartbeats 400000 in
theorem modulo_any (n : Int) (w : World) :
    Calls Tryd.prog 22 #[.int .i64 n] w fun e w' => e = .returned (.int .i64 (n % 7)) ∧ w' = w := by
  have hb := tmod7_bd n
  have ht := tmod7 n
  have HT : Hid ((n.tmod 7 + 7).tmod 7 = n % 7) := ht
  clear ht
  go_enter Tryd.func22, Tryd.ntmps22
  go_wp2
  go_ret
  exact ⟨ret1 (by rw [← HT.out]; exact (Int.tmod_eq_emod_of_nonneg (by omega)).symm), rfl⟩

/-- a to the n-th, modulo 7. -/
def pw7 (a : Nat) : Nat → Nat
  | 0 => 1
  | n + 1 => pw7 a n * a % 7
theorem pw7_lt (a n : Nat) : pw7 a n < 7 := by cases n <;> simp [pw7]; omega

set_option maxHeartbeats 400000 in
theorem raised_any (a n : Nat) (A N : Int) (w : World) (hA : A = a) (hN : N = n) (ha : a < 7) (hn : n ≤ 6) :
    Calls Tryd.prog 34 #[.int .i64 A, .int .i64 N] w fun e w' => e = .returned (.int .i64 (pw7 a n)) ∧ w' = w := by
  subst hA hN
  go_enter Tryd.func34, Tryd.ntmps34
  go_wp2
  go_loop [5, 6] (fun v i => ∃ k : Nat, k ≤ n ∧ i = .int .i64 k ∧ v = .int .i64 (pw7 a k)) (fun _ i => n - (intOf i).toNat)
  case atStart => exact ⟨0, Nat.zero_le _, rfl, rfl⟩
  case round =>
    obtain ⟨k, hk, rfl, rfl⟩ := hrel
    have hp := pw7_lt a k
    have hm : (pw7 a k : Int) * a ≤ 36 := by
      have h := Nat.mul_le_mul (show pw7 a k ≤ 6 by omega) (show a ≤ 6 by omega)
      have : ((pw7 a k * a : Nat) : Int) ≤ ((6 * 6 : Nat) : Int) := by exact_mod_cast h
      rw [Int.natCast_mul] at this; omega
    have hm0 : 0 ≤ (pw7 a k : Int) * a := by
      have : (0 : Int) ≤ ((pw7 a k * a : Nat) : Int) := by omega
      rw [Int.natCast_mul] at this; omega
    have HS : Hid (((pw7 a k : Int) * a) % 7 = (pw7 a (k + 1) : Nat)) := by unfold Hid; simp [pw7]
    by_cases hlt : k < n
    · go_wp2
      go_round
      case rel => exact ⟨k + 1, by omega, by go_num, by rw [← HS.out]⟩
      case measure => simp [intOf]; omega
    · have e : k = n := by omega
      subst e
      go_wp2
      go_ret
      exact ⟨rfl, rfl⟩
theorem prod_bd {a b : Nat} (ha : a < 7) (hb : b < 7) : 0 ≤ (a : Int) * (b : Int) ∧ (a : Int) * (b : Int) ≤ 36 := by
  have h := Nat.mul_le_mul (show a ≤ 6 by omega) (show b ≤ 6 by omega)
  have h1 : ((a * b : Nat) : Int) ≤ ((6 * 6 : Nat) : Int) := by exact_mod_cast h
  have h2 : (0 : Int) ≤ ((a * b : Nat) : Int) := by omega
  rw [Int.natCast_mul] at h1 h2
  exact ⟨h2, by omega⟩
theorem hidV {p : Prop} (h : p) : Hid p := h
theorem hidT {p : Prop} (h : p) : Hid p := h
end Go.Proofs.YthlmgpllapccfaaDoor
/- PLAIN: a polynomial's text. -/
namespace Go.Proofs.YthlmgpllapccfaaDoor

def bs (l : List UInt8) : ByteArray := ⟨l.toArray⟩
theorem bs_append (a b : List UInt8) : bs a ++ bs b = bs (a ++ b) := by
  apply ByteArray.ext
  simp [bs]
theorem bs_inj {a b : List UInt8} (h : bs a = bs b) : a = b := by
  have := congrArg (fun x : ByteArray => x.data.toList) h
  simpa [bs] using this
theorem bs_list (a : List UInt8) : (bs a).data.toList = a := rfl
def dgt (n : Nat) : UInt8 := UInt8.ofNat (48 + n)
def ptx (c : UInt8) (n : Nat) : List UInt8 := if n = 0 then [] else if n = 1 then [c] else [c, dgt n]
def pws (u x : Nat) : List UInt8 := ptx 117 u ++ ptx 120 x
def tmx (n u x : Nat) : List UInt8 := if n = 1 ∧ (u ≠ 0 ∨ x ≠ 0) then pws u x else dgt n :: pws u x
/-- The first k terms, from the top. -/
def tms (p : List Nat) : Nat → List (List UInt8)
  | 0 => []
  | k + 1 => if p.getD (34 - k) 0 = 0 then tms p k else tms p k ++ [tmx (p.getD (34 - k) 0) ((34 - k) % 7) ((34 - k) / 7)]
/-- The text so far, as the document writes it. -/
def wrt (p : List Nat) : Nat → List UInt8
  | 0 => []
  | k + 1 => if p.getD (34 - k) 0 = 0 then wrt p k else (if wrt p k = [] then [] else wrt p k ++ [43]) ++ tmx (p.getD (34 - k) 0) ((34 - k) % 7) ((34 - k) / 7)
def txt (p : List Nat) : List UInt8 := if wrt p 35 = [] then [48] else wrt p 35

theorem ptx_nil {c : UInt8} {n : Nat} : ptx c n = [] ↔ n = 0 := by
  unfold ptx; split
  · simp [*]
  · split <;> simp [*]
theorem pws_nil {u x : Nat} : pws u x = [] ↔ u = 0 ∧ x = 0 := by
  unfold pws; rw [List.append_eq_nil_iff, ptx_nil, ptx_nil]
theorem tmx_ne (n u x : Nat) : tmx n u x ≠ [] := by
  unfold tmx; split
  · rename_i h; intro q; rw [pws_nil] at q; omega
  · simp
theorem tms_ne (p : List Nat) : ∀ k, ∀ t ∈ tms p k, t ≠ []
  | 0, t, h => by simp [tms] at h
  | k + 1, t, h => by
    unfold tms at h
    split at h
    · exact tms_ne p k t h
    · rw [List.mem_append] at h
      rcases h with h | h
      · exact tms_ne p k t h
      · rw [List.mem_singleton] at h; subst h; exact tmx_ne _ _ _
theorem join_snoc (xs : List (List UInt8)) (x sep : List UInt8) (h : xs ≠ []) : Lib.join (xs ++ [x]) sep = Lib.join xs sep ++ sep ++ x := by
  cases xs with
  | nil => exact absurd rfl h
  | cons y r =>
    rw [List.cons_append, Lib.join_cons, Lib.join_cons]
    unfold Lib.joinTail
    simp [List.append_assoc]
theorem join_ne {xs : List (List UInt8)} {sep : List UInt8} (h : ∀ t ∈ xs, t ≠ []) : Lib.join xs sep = [] ↔ xs = [] := by
  cases xs with
  | nil => simp [Lib.join_nil]
  | cons y r =>
    rw [Lib.join_cons]
    have := h y (by simp)
    simp [this]
theorem wrt_join (p : List Nat) : ∀ k, wrt p k = Lib.join (tms p k) [43]
  | 0 => rfl
  | k + 1 => by
    unfold wrt tms
    split
    · exact wrt_join p k
    · rw [wrt_join p k]
      by_cases h : tms p k = []
      · rw [h]
        simp [Lib.join_nil, Lib.join_one]
      · rw [if_neg (fun q => h ((join_ne (tms_ne p k)).1 q)), join_snoc _ _ _ h]
theorem txt_join (p : List Nat) (h : tms p 35 ≠ []) : txt p = Lib.join (tms p 35) [43] := by
  unfold txt; rw [if_neg (by rw [wrt_join]; exact fun q => h ((join_ne (tms_ne p 35)).1 q)), wrt_join]
theorem tms_nil (p : List Nat) : ∀ k, k ≤ 35 → (tms p k = [] ↔ ∀ j, j < k → p.getD (34 - j) 0 = 0)
  | 0, _ => by simp [tms]
  | k + 1, hk => by
    unfold tms
    have ih := tms_nil p k (by omega)
    split
    · rename_i h
      rw [ih]
      constructor
      · intro q j hj
        by_cases e : j = k
        · subst e; exact h
        · exact q j (by omega)
      · intro q j hj; exact q j (by omega)
    · rename_i h
      constructor
      · intro q; simp at q
      · intro q; exact absurd (q k (by omega)) h
theorem txt_zero (p : List Nat) (h : tms p 35 = []) : txt p = [48] := by
  unfold txt; rw [wrt_join, h]; rfl
theorem good_zeros {p : List Nat} (hp : Good p) : tms p 35 = [] ↔ p = zeros := by
  rw [tms_nil p 35 (Nat.le_refl _)]
  constructor
  · intro q
    apply List.ext_getElem
    · rw [hp.1]; rfl
    · intro i h1 h2
      have e := q (34 - i) (by rw [hp.1] at h1; omega)
      rw [show 34 - (34 - i) = i by rw [hp.1] at h1; omega] at e
      rw [List.getD_eq_getElem?_getD, List.getElem?_eq_getElem h1] at e
      simp only [Option.getD_some] at e
      rw [e]
      unfold zeros at h2 ⊢
      rw [List.getElem_replicate]
  · intro q j hj
    subst q
    unfold zeros
    rw [List.getD_eq_getElem?_getD, List.getElem?_replicate]
    split <;> rfl
theorem tmx_len (n u x : Nat) : (tmx n u x).length ≤ 5 := by
  have h : ∀ c m, (ptx c m).length ≤ 2 := by
    intro c m; unfold ptx; split
    · simp
    · split <;> simp
  have h1 := h 117 u
  have h2 := h 120 x
  unfold tmx pws
  split <;> simp <;> omega
theorem tms_len (p : List Nat) : ∀ k, (tms p k).length ≤ k
  | 0 => by simp [tms]
  | k + 1 => by
    have := tms_len p k
    unfold tms; split
    · omega
    · simp; omega
theorem wrt_len (p : List Nat) : ∀ k, (wrt p k).length ≤ 6 * k
  | 0 => by simp [wrt]
  | k + 1 => by
    have := wrt_len p k
    have := tmx_len (p.getD (34 - k) 0) ((34 - k) % 7) ((34 - k) / 7)
    unfold wrt; split
    · omega
    · split <;> simp only [List.length_append, List.length_cons, List.length_nil] <;> omega
theorem dec_small {n : Nat} (h : n < 10) : Lib.decDigits n = [dgt n] := by
  match n, h with
  | 0, _ => decide +kernel
  | 1, _ => decide +kernel
  | 2, _ => decide +kernel
  | 3, _ => decide +kernel
  | 4, _ => decide +kernel
  | 5, _ => decide +kernel
  | 6, _ => decide +kernel
  | 7, _ => decide +kernel
  | 8, _ => decide +kernel
  | 9, _ => decide +kernel
theorem dgt_int {n : Nat} (h : n < 10) : ((dgt n).toNat : Int) = 48 + (n : Int) := by
  unfold dgt
  rw [UInt8.toNat_ofNat']
  omega
theorem bs_size (l : List UInt8) : (bs l).size = l.length := by simp [bs, ByteArray.size]
theorem ptx_len (c : UInt8) (n : Nat) : (ptx c n).length ≤ 2 := by
  unfold ptx; split
  · simp
  · split <;> simp
theorem pws_len (u x : Nat) : (pws u x).length ≤ 4 := by
  have := ptx_len 117 u; have := ptx_len 120 x
  unfold pws; simp; omega
theorem pws_eq (u x : Nat) : bs (ptx 117 u) ++ bs (ptx 120 x) = bs (pws u x) := bs_append _ _
theorem bs_empty (l : List UInt8) : (bs l).toList.isEmpty = l.isEmpty := by rw [ByteArray.toList_eq]; rfl
end Go.Proofs.YthlmgpllapccfaaDoor
/- A REGION THAT DRAWS ITS ORDER, WHOSE FIRST n OPERATIONS ONLY READ (AND CALL WHAT ONLY READS), THE REST FORCED BEHIND THEM (a store at the end): one walk in the text's order serves every order. Over the library's notions of quiet operations (Derived.Deep.Quiet) and of a forced tail (Derived.StillTail). -/
namespace Go.Proofs.YthlmgpllapccfaaDoor
open Go
section
variable {P : Program} {ops : Array Oper} {md : Region.Mode} {C : World → Prop}

/-- f operations more come up, each of the first n and quiet; then L. -/
def headQ (P : Program) (md : Region.Mode) (ops : Array Oper) (C : World → Prop) (n : Nat) (L : Array Bool → Act → Prop) : Nat → Array Bool → Act → Prop
  | 0, listed, a => L listed a
  | f + 1, listed, a => Region.ready md ops listed ≠ [] ∧ ∀ i ∈ Region.ready md ops listed, i < n ∧ qOp P ops C i (headQ P md ops C n L f (listed.setIfInBounds i true)) a

theorem any_of_headQ {n g : Nat} {L : Array Bool → Act → Prop} {Q : Exit → Act → World → Prop} (hL : ∀ listed a w, C w → L listed a → wpAny P md ops Q g listed a w) :
    ∀ (f : Nat) (listed : Array Bool) (a : Act) (w : World), C w → headQ P md ops C n L f listed a → wpAny P md ops Q (f + g) listed a w := by
  intro f
  induction f with
  | zero => intro listed a w hw h; rw [Nat.zero_add]; exact hL listed a w hw h
  | succ f ih =>
    intro listed a w hw h
    rw [Nat.add_right_comm]
    exact ⟨fun e => absurd e h.1, fun i hi => wpOp_of_qOp hw (fun a' w' hw' h' => ih _ a' w' hw' h') (h.2 i hi).2⟩

theorem headQ_ready {n : Nat} {L : Array Bool → Act → Prop} (hdone : ∀ listed a, L listed a → ∀ j ∈ Region.ready md ops listed, n ≤ j) {f : Nat} {listed : Array Bool} {a : Act}
    (h : headQ P md ops C n L f listed a) {j : Nat} (hj : j ∈ Region.ready md ops listed) (hn : j < n) : ∃ f', f = f' + 1 ∧ qOp P ops C j (headQ P md ops C n L f' (listed.setIfInBounds j true)) a := by
  cases f with
  | zero => have := hdone listed a h j hj; omega
  | succ f => exact ⟨f, rfl, (h.2 j hj).2⟩

theorem headQ_first {n i : Nat} {oi : Oper} {v : Value} {L : Array Bool → Act → Prop} (hi : ops[i]? = some oi) (hsel : ∀ (j : Nat) (o : Oper) cs b, ops[j]? = some o → o.op ≠ .select cs b)
    (hs : Region.sinkB md ops n = true) (hc : Region.chainB md ops n = true) (hn : n < ops.size) (hin : i < n) (hdone : ∀ listed a, L listed a → ∀ j ∈ Region.ready md ops listed, n ≤ j) :
    ∀ (f : Nat) (listed : Array Bool) (a : Act), HeadInv md ops n listed →
      (∀ j oj, ops[j]? = some oj → j ≠ i → listed.getD j true = false → (∀ e ∈ oj.after, Region.binds md e = true → e.on ≠ i) → oi.apart ops oj = true) →
      i ∈ Region.ready md ops listed → YieldsIn P ops C oi v a → headQ P md ops C n L f (listed.setIfInBounds i true) (a.put oi.dst v) → headQ P md ops C n L (f + 1) listed a := by
  intro f
  induction f with
  | zero =>
    intro listed a inv hfree hr hy H
    have hun := (mem_ready.1 hr).1
    refine ⟨List.ne_nil_of_mem hr, fun j hj => ?_⟩
    have hjn : j < n := Nat.lt_of_not_le fun h => tail_waits hs hc hn inv _ i rfl hin hun j h hj
    refine ⟨hjn, ?_⟩
    by_cases hji : j = i
    · rw [hji]; exact hy.qOp hi H
    · obtain ⟨f', e, _⟩ := headQ_ready hdone H (ready_mono hj hji) hjn
      omega
  | succ f ih =>
    intro listed a inv hfree hr hy H
    have hun := (mem_ready.1 hr).1
    refine ⟨List.ne_nil_of_mem hr, fun j hj => ?_⟩
    have hjn : j < n := Nat.lt_of_not_le fun h => tail_waits hs hc hn inv _ i rfl hin hun j h hj
    refine ⟨hjn, ?_⟩
    by_cases hji : j = i
    · rw [hji]; exact hy.qOp hi H
    · obtain ⟨f', e, h1⟩ := headQ_ready hdone H (ready_mono hj hji) hjn
      have e' : f' = f := by omega
      subst e'
      obtain ⟨hjun, oj, hoj, hall⟩ := mem_ready.1 hj
      have hno : ∀ e ∈ oj.after, Region.binds md e = true → e.on ≠ i := fun e he hb heq => by
        have := hall e he hb
        rw [heq, getD_both hun] at this
        exact Bool.false_ne_true this
      have h2 := qOp_put hoj (hfree j oj hoj hji hjun hno) (fun cs b => hsel i oi cs b hi) (fun cs b => hsel j oj cs b hoj) hy h1
      refine qOp_mono (fun a' h3 => ih (listed.setIfInBounds j true) a' (inv.set hj hjn) (fun k ok hk hki hunk hnk => hfree k ok hk hki ?_ hnk) (ready_mono hr (Ne.symm hji)) h3.1 ?_) h2
      · by_cases hjk : j = k
        · rw [← hjk]; exact hjun
        · rw [getD_set_ne true hjk] at hunk; exact hunk
      · rw [Array.setIfInBounds_comm _ _ hji]; exact h3.2

theorem headQ_lex {n g : Nat} {Lq : Act → Prop} (hsel : Region.noSelect ops = true) (hs : Region.sinkB md ops n = true) (hc : Region.chainB md ops n = true) (hn : n < ops.size) :
    ∀ (l : List Oper) (k : Nat) (listed : Array Bool) (a : Act), (∀ j, j < l.length → l[j]? = ops[k + j]?) → k + l.length = n → HeadInv md ops n listed →
    Region.lexHead md ops g l.length k listed = true → wpQuiet P ops C Lq l a →
    headQ P md ops C n (fun listed' a' => Region.seqB md ops g n listed' = true ∧ Lq a') l.length listed a := by
  intro l
  induction l with
  | nil =>
    intro k listed a _ hk _ hB h
    have e : k = n := by simpa using hk
    subst e
    exact ⟨by simpa [Region.lexHead] using hB, h⟩
  | cons o l ih =>
    intro k listed a hl hk inv hB h
    have h0 : ops[k]? = some o := by simpa using (hl 0 (by simp)).symm
    simp only [List.length_cons, Region.lexHead, Bool.and_eq_true] at hB
    simp only [List.length_cons] at hk
    have hr : k ∈ Region.ready md ops listed := by simpa using hB.1.1
    have hq : qOp P ops C k (wpQuiet P ops C Lq l) a := by unfold qOp; simp only [h0]; exact h
    obtain ⟨v, hy, hK⟩ := yieldsIn_of_qOp h0 hq
    refine headQ_first h0 (Region.noSelect_spec hsel) hs hc hn (by omega) (fun listed' a' hL => seqB_ready hL.1) l.length listed a inv (Region.free_spec h0 hB.1.2) hr hy ?_
    refine ih (k + 1) _ _ (fun j hj => ?_) (by omega) (inv.set hr (by omega)) hB.2 hK
    have := hl (j + 1) (by simp; omega)
    rw [show k + 1 + j = k + (j + 1) by omega, ← this]; simp

/-- THE LAW. -/
theorem region_quiet_tail {id : Nat} {Q : Exit → Act → World → Prop} {a : Act} {w : World} {l : List Oper} (n : Nat) (hm : P.follows .mixedOrders = true) (hB : Region.lexTailB .any l.toArray n = true)
    (h : wpQuiet P l.toArray (fun w' => ∃ m, w' = w.drewN m) (fun a' => ∀ w', (∃ m, w' = w.drewN m) → wpList P l.toArray Q (l.drop n) a' w') (l.take n) a) : (Code.region id l.toArray true).wp P Q a w := by
  simp only [Region.lexTailB, Bool.and_eq_true, decide_eq_true_eq] at hB
  obtain ⟨⟨⟨⟨hsel, hn⟩, hs⟩, hc⟩, hlex⟩ := hB
  have htl : (l.take n).length = n := by simp only [List.size_toArray] at hn; simp; omega
  have hdl : (l.drop n).length = l.toArray.size - n := by simp
  have H := headQ_lex (md := .any) (g := l.toArray.size - n) hsel hs hc hn (l.take n) 0 (Array.replicate l.toArray.size false) a (fun j hj => by
      rw [htl] at hj
      simp [hj]) (by omega)
    ⟨by simp, fun j oj _ hl => by rw [getD_replicate_false] at hl; exact absurd hl Bool.false_ne_true, fun t _ ht => getD_in (by simpa using ht) (getD_replicate_false _ _)⟩
    (by rw [htl]; exact hlex) h
  refine wp_region_any hm ?_
  have K := any_of_headQ (Q := Q) (g := l.toArray.size - n) (fun listed a' w' hw' hL => by
    have := wpAny_of_seq (md := .any) (Q' := Q) (l.drop n) n listed a' w' (fun j => by simp [List.getElem?_drop]) (by rw [hdl]; exact hL.1) (hL.2 w' hw')
    rwa [hdl] at this) _ _ _ { w with drawn := w.drawn + 1 } ⟨1, rfl⟩ H
  rw [htl, show n + (l.toArray.size - n) = l.toArray.size by omega] at K
  exact K
end
end Go.Proofs.YthlmgpllapccfaaDoor
/- WHOLE ARRAYS IN BLOCKS OF THEIR OWN: loads and stores of 35 cells. -/
namespace Go.Proofs.YthlmgpllapccfaaDoor
open Go.RowKit

/-- A polynomial as cells. -/
def pv (p : List Nat) : Array Value := (p.map fun n : Nat => Value.int .i64 (n : Int)).toArray
theorem pv_size (p : List Nat) : (pv p).size = p.length := by simp [pv]
theorem pv_get {p : List Nat} {j : Nat} (h : j < p.length) : (pv p)[j]? = some (.int .i64 (p.getD j 0)) := by simp [pv, List.getElem?_eq_getElem h]
theorem pv_set (p : List Nat) (j v : Nat) : (pv p).setIfInBounds j (.int .i64 v) = pv (p.set j v) := by simp [pv, List.map_set]
theorem pv_one (p : List Nat) : (pv p).all (·.oneCell') = true := by
  rw [Array.all_eq_true_iff_forall_mem]
  intro v hv
  simp only [pv, List.mem_toArray, List.mem_map] at hv
  obtain ⟨n, _, rfl⟩ := hv
  rfl

/-- What is known of the world alone. -/
theorem wp_forget {P : Program} {c : Code} {Q : Exit → Act → World → Prop} {a : Act} {w : World} (I : World → Prop) (hI : I w) (h : ∀ W, I W → Code.wp P c Q a W) : Code.wp P c Q a w := h w hI

theorem Blk.putN {w : World} {b : Nat} {p : List Nat} {t : TypeId} (h : Blk w b (pv p) t) (j k : Nat) (n : Int) (hn : n = k) : Blk (w.setCell ⟨b, j, none⟩ (.int .i64 n)) b (pv (p.set j k)) t := by
  subst hn
  have := h.set j (.int .i64 k)
  rwa [pv_set] at this
theorem Blk.there {w : World} {b : Nat} {cs : Array Value} {t : TypeId} (h : Blk w b cs t) {n : Nat} (hn : n ≤ cs.size) : w.there b 0 n := fun j hj => by
  rw [Nat.zero_add, h.cell, h.frozen]
  exact ⟨by simp; omega, rfl⟩
theorem heap_setCells (b : Nat) : ∀ (vs : List Value) (o : Nat) (w : World) (k : Nat), k ≠ b → (w.setCells b o vs).heap[k]? = w.heap[k]?
  | [], _, _, _, _ => rfl
  | v :: r, o, w, k, h => by
    rw [World.setCells, heap_setCells b r (o + 1) _ k h]
    exact Below.heap_setCell _ _ _ _ h
theorem rest_setCells (b : Nat) : ∀ (vs : List Value) (o : Nat) (w : World), (w.setCells b o vs).os = w.os ∧ (w.setCells b o vs).tape = w.tape ∧ (w.setCells b o vs).output = w.output ∧ (w.setCells b o vs).heap.size = w.heap.size
  | [], _, _ => ⟨rfl, rfl, rfl, rfl⟩
  | v :: r, o, w => by
    rw [World.setCells]
    have := rest_setCells b r (o + 1) (w.setCell ⟨b, o, none⟩ v)
    refine ⟨this.1, this.2.1, this.2.2.1, this.2.2.2.trans (by simp [World.setCell])⟩
theorem Fr.setCells {bs : List Nat} {a w : World} (h : Fr bs a w) (b o : Nat) (vs : List Value) (hp : b ∈ bs ∨ a.heap.size ≤ b) : Fr bs a (w.setCells b o vs) := by
  obtain ⟨h1, h2, h3, h4⟩ := rest_setCells b vs o w
  exact ⟨h1.trans h.os, h2.trans h.tape, h3.trans h.output, by rw [h4]; exact h.size, fun k hk hn => (heap_setCells b vs o w k (fun e => by subst e; rcases hp with g | g; exact hn g; omega)).trans (h.block k hk hn)⟩
theorem Below.setCells {B : Nat} {a w : World} (h : Below B a w) (b o : Nat) (vs : List Value) (hp : B ≤ b) : Below B a (w.setCells b o vs) := by
  obtain ⟨h1, h2, h3, h4⟩ := rest_setCells b vs o w
  exact ⟨h1.trans h.os, h2.trans h.tape, h3.trans h.output, by rw [h4]; exact h.size, fun k hk => (heap_setCells b vs o w k (by omega)).trans (h.block k hk)⟩
theorem Blk.setCellsOther {w : World} {b : Nat} {cs : Array Value} {t : TypeId} (h : Blk w b cs t) (c o : Nat) (vs : List Value) (hn : b ≠ c) : Blk (w.setCells c o vs) b cs t := by
  unfold Blk at *; rw [heap_setCells _ _ _ _ _ hn]; exact h
theorem Blk.over (b : Nat) (t : TypeId) : ∀ (vs : List Value) (o : Nat) (w : World) (cs : Array Value), Blk w b cs t → ∃ ds : Array Value, Blk (w.setCells b o vs) b ds t ∧ ds.size = cs.size ∧ ∀ j, j < cs.size → ds[j]? = if o ≤ j ∧ j < o + vs.length then vs[j - o]? else cs[j]?
  | [], o, w, cs, h => ⟨cs, h, rfl, fun j _ => by rw [if_neg (by simp)]⟩
  | v :: r, o, w, cs, h => by
    obtain ⟨ds, h1, h2, h3⟩ := Blk.over b t r (o + 1) (w.setCell ⟨b, o, none⟩ v) _ (h.set o v)
    refine ⟨ds, h1, by simpa using h2, fun j hj => ?_⟩
    rw [h3 j (by simpa using hj)]
    by_cases hjo : j = o
    · subst hjo
      rw [if_neg (by omega), if_pos (by simp)]
      simp [hj]
    · by_cases hin : o + 1 ≤ j ∧ j < o + 1 + r.length
      · rw [if_pos hin, if_pos (by simp; omega), show j - o = (j - (o + 1)) + 1 by omega]; simp
      · rw [if_neg hin, if_neg (by simp; omega)]
        simp [Ne.symm hjo]
theorem Blk.setAll {w : World} {b : Nat} {cs : Array Value} {t : TypeId} (h : Blk w b cs t) (vs : Array Value) (hs : vs.size = cs.size) : Blk (w.setCells b 0 vs.toList) b vs t := by
  obtain ⟨ds, h1, h2, h3⟩ := Blk.over b t vs.toList 0 w cs h
  have e : ds = vs := by
    apply Array.ext_getElem?
    intro j
    by_cases hj : j < cs.size
    · rw [h3 j hj, if_pos (by simp; omega)]; simp
    · rw [Array.getElem?_eq_none (by omega), Array.getElem?_eq_none (by omega)]
  rw [← e]; rw [← e] at h1; exact h1
theorem size_poly {p : List Nat} (hp : Good p) : (Tryd.prog.info? 37).map (·.size) = some (pv p).size := by rw [pv_size, hp.1]; kernel_rfl
theorem size_rPoly {p : List Nat} (hp : Good p) : (Tryd.prog.info? 41).map (·.size) = some (pv p).size := by rw [pv_size, hp.1]; kernel_rfl
theorem lit_zeros : (#[.int .i64 0, .int .i64 0, .int .i64 0, .int .i64 0, .int .i64 0, .int .i64 0, .int .i64 0, .int .i64 0, .int .i64 0, .int .i64 0, .int .i64 0, .int .i64 0, .int .i64 0, .int .i64 0, .int .i64 0, .int .i64 0, .int .i64 0, .int .i64 0, .int .i64 0, .int .i64 0, .int .i64 0, .int .i64 0, .int .i64 0, .int .i64 0, .int .i64 0, .int .i64 0, .int .i64 0, .int .i64 0, .int .i64 0, .int .i64 0, .int .i64 0, .int .i64 0, .int .i64 0, .int .i64 0, .int .i64 0] : Array Value).toList = (pv zeros).toList := by kernel_rfl
end Go.Proofs.YthlmgpllapccfaaDoor
/- THE DOCUMENT's TEXT OF A POLYNOMIAL: letter. -/
namespace Go.Proofs.YthlmgpllapccfaaDoor
open Go.RowKit

theorem conv_at (n : Nat) (hn : n < 10) (g : Nat) (w : World) (h : w.cell? ⟨g, 0, none⟩ = some (.int .u8 (48 + (n : Int)))) :
    (convert 73 9 (.slice (some ⟨g, 0, none⟩) 1 1)).run Tryd.prog w = .ok (.string (bs [dgt n])) w := by
  refine run_convert_bytes_back w 73 9 5 ⟨g, 0, none⟩ 1 [dgt n] Tryd.underlying73 Tryd.underlying5 Tryd.underlying9 ?_
  intro j hj
  have : j = 0 := by simpa using hj
  subst this
  show w.cell? ⟨g, 0, none⟩ = some (.int .u8 ((dgt n).toNat : Int))
  rw [dgt_int hn]; exact h
theorem conv_new (n : Nat) (hn : n < 10) (w : World) :
    (convert 73 9 (.slice (some ⟨w.heap.size, 0, none⟩) 1 1)).run Tryd.prog (w.alloc (.cells #[.int .u8 (48 + (n : Int))] 5)) = .ok (.string (bs [dgt n])) (w.alloc (.cells #[.int .u8 (48 + (n : Int))] 5)) :=
  conv_at n hn w.heap.size _ (Blk.cell (Blk.new w _ _) 0)

set_option maxRecDepth 100000 in
theorem letter_any (c : UInt8) (S : ByteArray) (n : Nat) (N : Int) (w : World) (hN : N = n) (hS : S = bs [c]) (hn : n ≤ 6) :
    Calls Tryd.prog 31 #[.string S, .int .i64 N] w fun e w' => e = .returned (.string (bs (ptx c n))) ∧ Below w.heap.size w w' := by
  subst hN hS
  unfold ptx
  by_cases h0 : n = 0
  · subst h0
    go_enter Tryd.func31, Tryd.ntmps31
    go_wp2
    go_ret
    exact ⟨rfl, Below.refl _ _⟩
  · rw [if_neg h0]
    by_cases h1 : n = 1
    · subst h1
      go_enter Tryd.func31, Tryd.ntmps31
      go_wp2
      go_ret
      exact ⟨rfl, Below.refl _ _⟩
    · rw [if_neg h1]
      have q0 : ((n : Int) == 0) = false := by rw [beq_eq_false_iff_ne]; omega
      have q1 : ((n : Int) == 1) = false := by rw [beq_eq_false_iff_ne]; omega
      go_enter Tryd.func31, Tryd.ntmps31
      have hcv := fun (w' : World) => conv_new n (by omega) w'
      go_wp2
      go_ret
      exact ⟨by rw [bs_append]; rfl, by go_grown⟩
end Go.Proofs.YthlmgpllapccfaaDoor
/- TWO POLYNOMIALS COMPARED: '==' on arrays of arrays. -/
namespace Go.Proofs.YthlmgpllapccfaaDoor
open Go.RowKit

theorem eqItems_all {P : Program} (w : World) (d : Nat) (e : TypeId) (c : Nat) (xs ys : Array Value) (g : Nat → Bool) : ∀ is : List Nat,
    (∀ i ∈ is, ∃ a b, (part e xs (i * c)).run P w = .ok a w ∧ (part e ys (i * c)).run P w = .ok b w ∧ (Op.equalIn d e a b).run P w = .ok (g i) w) →
    (Op.eqItems d e c xs ys is).run P w = .ok (is.all g) w
  | [], _ => by simp [Op.eqItems]
  | i :: is, h => by
    obtain ⟨a, b, h1, h2, h3⟩ := h i (by simp)
    have ih := eqItems_all w d e c xs ys g is (fun j hj => h j (by simp [hj]))
    simp only [Op.eqItems, Sem.run_bind, h1, h2, h3, Result.andThen_ok]
    cases hg : g i
    · simp [hg]
    · simp [hg, ih]
theorem info_some {P : Program} {t : TypeId} (h : (P.info? t).isSome = true) : ∃ i, P.info? t = some i := by
  cases q : P.info? t with
  | none => rw [q] at h; cases h
  | some i => exact ⟨i, rfl⟩
theorem part_row (xs : Array Value) (off : Nat) (w : World) : (part 35 xs off).run Tryd.prog w = .ok (.agg (xs.extract off (off + 7))) w := by
  simp [part, isAgg, run_underlying Tryd.underlying35]
theorem row_eq (d : Nat) (xs ys : Array Value) (f g : Nat → Int) (w : World) (hx : ∀ j, j < 7 → xs[j]? = some (.int .i64 (f j))) (hy : ∀ j, j < 7 → ys[j]? = some (.int .i64 (g j))) :
    (Op.equalIn (d + 1 + 1) 35 (.agg xs) (.agg ys)).run Tryd.prog w = .ok ((List.range 7).all fun j => f j == g j) w := by
  obtain ⟨i, hi⟩ := info_some (P := Tryd.prog) (t := 3) (by kernel_rfl)
  have hc : Tryd.prog.cellsOf 3 = 1 := by kernel_rfl
  have hk : Tryd.prog.plainKey 3 = true := by kernel_rfl
  rw [run_equalIn_array w (d + 1) xs ys Tryd.underlying35 hi, hc]
  refine eqItems_all w (d + 1) 3 1 xs ys _ _ ?_
  intro j hj
  rw [List.mem_range] at hj
  refine ⟨_, _, run_part_plain w hk (by rw [Nat.mul_one]; exact hx j hj), run_part_plain w hk (by rw [Nat.mul_one]; exact hy j hj), ?_⟩
  exact run_equalIn_int w d 3 .i64 .i64 _ _ Tryd.underlying3
theorem ext_get (xs : Array Value) (i j : Nat) (hs : xs.size = 35) (hi : i < 5) (hj : j < 7) : (xs.extract (i * 7) (i * 7 + 7))[j]? = xs[i * 7 + j]? := by
  rw [Array.getElem?_extract]
  rw [if_pos (by omega)]
/-- Compared cell by cell. -/
theorem poly_eq (d : Nat) (p q : List Nat) (w : World) (hp : Good p) (hq : Good q) :
    (Op.equalIn (d + 1 + 1 + 1) 37 (.agg (pv p)) (.agg (pv q))).run Tryd.prog w = .ok (decide (p = q)) w := by
  obtain ⟨i, hi⟩ := info_some (P := Tryd.prog) (t := 35) (by kernel_rfl)
  have hc : Tryd.prog.cellsOf 35 = 7 := by kernel_rfl
  rw [run_equalIn_array w (d + 1 + 1) (pv p) (pv q) Tryd.underlying37 hi, hc]
  have key := eqItems_all (P := Tryd.prog) w (d + 1 + 1) 35 7 (pv p) (pv q) (fun i => (List.range 7).all fun j => (p.getD (i * 7 + j) 0 : Int) == (q.getD (i * 7 + j) 0 : Int)) (List.range 5) ?_
  · refine key.trans (congrArg (fun b => Result.ok b w) ?_)
    rw [Bool.eq_iff_iff]
    simp only [List.all_eq_true, List.mem_range, beq_iff_eq, decide_eq_true_eq]
    constructor
    · intro h
      apply List.ext_getElem
      · rw [hp.1, hq.1]
      · intro n h1 h2
        have h3 := h (n / 7) (by rw [hp.1] at h1; omega) (n % 7) (by omega)
        rw [show n / 7 * 7 + n % 7 = n by omega, List.getD_eq_getElem?_getD, List.getD_eq_getElem?_getD, List.getElem?_eq_getElem h1, List.getElem?_eq_getElem h2] at h3
        simp only [Option.getD_some] at h3
        exact Int.ofNat.inj h3
    · intro h i hi j hj; rw [h]
  · intro i hi'
    rw [List.mem_range] at hi'
    refine ⟨_, _, part_row _ _ w, part_row _ _ w, row_eq d _ _ _ _ w ?_ ?_⟩
    · intro j hj
      rw [ext_get _ i j (by rw [pv_size, hp.1]) hi' hj]
      exact pv_get (by rw [hp.1]; omega)
    · intro j hj
      rw [ext_get _ i j (by rw [pv_size, hq.1]) hi' hj]
      exact pv_get (by rw [hq.1]; omega)
theorem poly_eq_zero (p : List Nat) (w : World) (hp : Good p) :
    (Op.equalIn 10000 37 (.agg (pv p)) (.agg #[.int .i64 0, .int .i64 0, .int .i64 0, .int .i64 0, .int .i64 0, .int .i64 0, .int .i64 0, .int .i64 0, .int .i64 0, .int .i64 0, .int .i64 0, .int .i64 0, .int .i64 0, .int .i64 0, .int .i64 0, .int .i64 0, .int .i64 0, .int .i64 0, .int .i64 0, .int .i64 0, .int .i64 0, .int .i64 0, .int .i64 0, .int .i64 0, .int .i64 0, .int .i64 0, .int .i64 0, .int .i64 0, .int .i64 0, .int .i64 0, .int .i64 0, .int .i64 0, .int .i64 0, .int .i64 0, .int .i64 0])).run Tryd.prog w = .ok (decide (p = zeros)) w := by
  have e := Array.ext' lit_zeros
  rw [e]
  exact poly_eq 9997 p zeros w hp zeros_good
end Go.Proofs.YthlmgpllapccfaaDoor
/- THE DOCUMENT's TEXT OF A POLYNOMIAL: write. -/
namespace Go.Proofs.YthlmgpllapccfaaDoor
open Go.RowKit

theorem add_to (a b c : List UInt8) (S : ByteArray) (hS : S = bs b) (hc : a ++ b = c) (ha : a.length ≤ 1000) (hb : b.length ≤ 1000) (w : World) : (Op.stringOp .add (bs a) S).run Tryd.prog w = .ok (.string (bs c)) w := by
  subst hS hc
  rw [run_string_add_sum w (bs a) (bs b) (by rw [bs_size, bs_size]; omega), bs_append]
theorem wrt_step (p : List Nat) (k : Nat) (h : ¬ p.getD (34 - k) 0 = 0) : wrt p (k + 1) = (if wrt p k = [] then [] else wrt p k ++ [43]) ++ tmx (p.getD (34 - k) 0) ((34 - k) % 7) ((34 - k) / 7) := by rw [wrt, if_neg h]
theorem wrt_skip (p : List Nat) (k : Nat) (h : p.getD (34 - k) 0 = 0) : wrt p (k + 1) = wrt p k := by rw [wrt, if_pos h]
theorem tmx_full {v j i : Nat} (h : v > 1 ∨ i + j = 0) : tmx v j i = dgt v :: (ptx 117 j ++ ptx 120 i) := by
  unfold tmx pws; rw [if_neg (by omega)]
theorem tmx_bare {v j i : Nat} (hv : v ≠ 0) (h : ¬ (v > 1 ∨ i + j = 0)) : tmx v j i = ptx 117 j ++ ptx 120 i := by
  unfold tmx pws; rw [if_pos (by omega)]

set_option maxRecDepth 100000 in
set_option maxHeartbeats 4000000 in
theorem write_any (p : List Nat) (w : World) (hp : Good p) :
    Calls Tryd.prog 18 #[.agg (pv p)] w fun e w' => e = .returned (.string (bs (txt p))) ∧ Below w.heap.size w w' := by
  go_enter Tryd.func18, Tryd.ntmps18
  go_wp2
  refine wp_forget (fun W => Blk W w.heap.size (pv p) 41 ∧ Below w.heap.size w W) ⟨Blk.new w _ _, by go_grown⟩ ?_
  rintro W ⟨b1, hbW⟩
  have B1 := hidT b1
  have BW := hidT hbW
  clear b1 hbW
  go_loopg [3, 4] 5 (fun gm v3 v4 wr => ∃ a : Nat, gm = 5 - a ∧ a ≤ 5 ∧ v4 = .int .i64 (((5 - a : Nat) : Int) - 1) ∧ v3 = .string (bs (wrt p (a * 7))) ∧ Hid (Below W.heap.size W wr))
  case atStart => exact ⟨0, rfl, by omega, rfl, rfl, Below.refl _ _⟩
  case round =>
    obtain ⟨a, hgm, ha, rfl, rfl, HD⟩ := hrel
    by_cases h5 : a < 5
    · obtain ⟨i, hi5⟩ : ∃ i : Nat, 5 - a = i + 1 := ⟨4 - a, by omega⟩
      have hi4 : i < 5 := by omega
      have e : (((5 - a : Nat) : Int) - 1) = (i : Int) := by omega
      rw [e]
      clear e
      have i0' : (0 : Int) ≤ (i : Int) := by omega
      have i1' : (i : Int) < 5 := by omega
      have HI := hidT hi5
      clear hi5
      go_wp2
      go_loopg [3, 5] 7 (fun gm v3 v5 wr => ∃ m : Nat, gm = 7 - m ∧ m ≤ 7 ∧ v5 = .int .i64 (((7 - m : Nat) : Int) - 1) ∧ v3 = .string (bs (wrt p (a * 7 + m))) ∧ Hid (Below W.heap.size W wr))
      case atStart => exact ⟨0, rfl, by omega, rfl, rfl, HD⟩
      case round =>
        obtain ⟨m, hgm2, hm, rfl, rfl, HE⟩ := hrel
        clear HD
        by_cases h7 : m < 7
        · obtain ⟨j, hj7⟩ : ∃ j : Nat, 7 - m = j + 1 := ⟨6 - m, by omega⟩
          have hj6 : j < 7 := by omega
          have e : (((7 - m : Nat) : Int) - 1) = (j : Int) := by omega
          rw [e]
          clear e
          have j0 : (0 : Int) ≤ (j : Int) := by omega
          have j1 : (j : Int) < 7 := by omega
          have HM1 : Hid ((((7 - (m + 1) : Nat) : Int) - 1) = (j : Int) - 1) := by unfold Hid; omega
          have hidx : 34 - (a * 7 + m) = i * 7 + j := by have := HI.out; omega
          have HX : Hid ((34 - (a * 7 + m)) % 7 = j ∧ (34 - (a * 7 + m)) / 7 = i) := by unfold Hid; omega
          have HSK := hidT (wrt_skip p (a * 7 + m))
          have HST := hidT (wrt_step p (a * 7 + m))
          have HL : Hid ((wrt p (a * 7 + m)).length ≤ 210) := by unfold Hid; have := wrt_len p (a * 7 + m); omega
          rw [HX.out.1, HX.out.2, hidx] at HST
          rw [hidx] at HSK
          rw [show a * 7 + m + 1 = a * 7 + (m + 1) by omega] at HST HSK
          have hq : i * 7 + j < p.length := by rw [hp.1]; omega
          have hcell := pv_get hq
          have hv7 := hp.2 (i * 7 + j)
          have BR : Hid (Blk wr w.heap.size (pv p) 41) := Blk.fr B1.out (Fr.of_below (bs := []) HE.out) (by simp)
          have hc : wr.cell? ⟨w.heap.size, i * 7 + j, none⟩ = some (.int .i64 (p.getD (i * 7 + j) 0)) := by rw [BR.out.cell]; exact hcell
          clear hcell hidx hj7
          generalize p.getD (i * 7 + j) 0 = v at *
          by_cases hv : v = 0
          · subst hv
            have HSS := hidT (HSK.out rfl)
            clear HSK HST
            go_wp2
            go_roundg (7 - (m + 1))
            case measure => omega
            case rel => exact ⟨m + 1, rfl, by omega, by rw [HM1.out], by rw [HSS.out], HE⟩
          · have hv' : ¬ ((v : Int) = 0) := by omega
            have HV := hidT hv
            have HSS := hidT (HST.out hv)
            clear hv HST HSK
            have hpu := ptx_len 117 j
            have hpx := ptx_len 120 i
            have HPU := hidT hpu
            have HPX := hidT hpx
            clear hpu hpx
            have hcv := fun (w' : World) => conv_new v (by omega) w'
            have hc2 : ∀ o, (wr.alloc o).cell? ⟨w.heap.size, i * 7 + j, none⟩ = some (.int .i64 v) := fun o => by rw [(Blk.alloc BR.out o).cell, ← BR.out.cell]; exact hc
            generalize hwX : wrt p (a * 7 + m) = X at *
            have HWX := hidT hwX
            clear hwX
            by_cases hE : X = []
            · have hE' : (bs X).toList.isEmpty = true := by rw [bs_empty, hE]; rfl
              rw [if_pos hE] at HSS
              have HXE := hidT hE
              clear hE
              by_cases hd : v > 1 ∨ i + j = 0
              · have HDD := hidT hd
                by_cases h1 : 1 < v
                · have hd' : (1 : Int) < (v : Int) := by omega
                  obtain ⟨Y2, HY2⟩ : ∃ Y, Hid (X ++ [dgt v] = Y) := ⟨_, hidT rfl⟩
                  have HL2 : Hid (Y2.length ≤ 212) := by unfold Hid; rw [← HY2.out, List.length_append]; have := HL.out; (try simp only [List.length_cons, List.length_nil]); omega
                  have hadd2 := fun (w' : World) => add_to X [dgt v] Y2 (bs [dgt v]) rfl HY2.out (by have := HL.out; omega) (by simp) w'
                  obtain ⟨Y3, HY3⟩ : ∃ Y, Hid (Y2 ++ ptx 117 j = Y) := ⟨_, hidT rfl⟩
                  have HL3 : Hid (Y3.length ≤ 214) := by unfold Hid; rw [← HY3.out, List.length_append]; have := HPU.out; have := HL2.out; (try simp only [List.length_cons, List.length_nil]); omega
                  have hadd3 := fun (w' : World) => add_to Y2 (ptx 117 j) Y3 (bs (ptx 117 j)) rfl HY3.out (by have := HL2.out; omega) (by have := HPU.out; omega) w'
                  obtain ⟨Y4, HY4⟩ : ∃ Y, Hid (Y3 ++ ptx 120 i = Y) := ⟨_, hidT rfl⟩
                  have HL4 : Hid (Y4.length ≤ 216) := by unfold Hid; rw [← HY4.out, List.length_append]; have := HPX.out; have := HL3.out; (try simp only [List.length_cons, List.length_nil]); omega
                  have hadd4 := fun (w' : World) => add_to Y3 (ptx 120 i) Y4 (bs (ptx 120 i)) rfl HY4.out (by have := HL3.out; omega) (by have := HPX.out; omega) w'
                  go_wp2_with (go_at_call 31; first | (refine (letter_any 117 _ j _ _ (by rfl) (by rfl) (by omega)).mono ?_; rintro e w1 ⟨rfl, hb1⟩; have HB1 := hidT hb1) | (refine (letter_any 120 _ i _ _ (by rfl) (by rfl) (by omega)).mono ?_; rintro e w2 ⟨rfl, hb2⟩; have HB2 := hidT hb2))
                  go_roundg (7 - (m + 1))
                  case measure => omega
                  case rel =>
                    refine ⟨m + 1, rfl, by omega, by rw [HM1.out], ?_, ?_⟩
                    · rw [HSS.out, tmx_full HDD.out, ← HY4.out, ← HY3.out, ← HY2.out]; simp [HXE.out]
                    · exact Fr.below (bs := []) ((((Fr.of_below HE.out).alloc _).trans (Fr.of_below (bs := []) HB1.out) (by simp)).trans (Fr.of_below (bs := []) HB2.out) (by simp)) (Nat.le_refl _) (by simp)
                · have hd' : ¬ ((1 : Int) < (v : Int)) := by omega
                  have hd0 : (i : Int) + (j : Int) = 0 := by omega
                  obtain ⟨Y2, HY2⟩ : ∃ Y, Hid (X ++ [dgt v] = Y) := ⟨_, hidT rfl⟩
                  have HL2 : Hid (Y2.length ≤ 212) := by unfold Hid; rw [← HY2.out, List.length_append]; have := HL.out; (try simp only [List.length_cons, List.length_nil]); omega
                  have hadd2 := fun (w' : World) => add_to X [dgt v] Y2 (bs [dgt v]) rfl HY2.out (by have := HL.out; omega) (by simp) w'
                  obtain ⟨Y3, HY3⟩ : ∃ Y, Hid (Y2 ++ ptx 117 j = Y) := ⟨_, hidT rfl⟩
                  have HL3 : Hid (Y3.length ≤ 214) := by unfold Hid; rw [← HY3.out, List.length_append]; have := HPU.out; have := HL2.out; (try simp only [List.length_cons, List.length_nil]); omega
                  have hadd3 := fun (w' : World) => add_to Y2 (ptx 117 j) Y3 (bs (ptx 117 j)) rfl HY3.out (by have := HL2.out; omega) (by have := HPU.out; omega) w'
                  obtain ⟨Y4, HY4⟩ : ∃ Y, Hid (Y3 ++ ptx 120 i = Y) := ⟨_, hidT rfl⟩
                  have HL4 : Hid (Y4.length ≤ 216) := by unfold Hid; rw [← HY4.out, List.length_append]; have := HPX.out; have := HL3.out; (try simp only [List.length_cons, List.length_nil]); omega
                  have hadd4 := fun (w' : World) => add_to Y3 (ptx 120 i) Y4 (bs (ptx 120 i)) rfl HY4.out (by have := HL3.out; omega) (by have := HPX.out; omega) w'
                  go_wp2_with (go_at_call 31; first | (refine (letter_any 117 _ j _ _ (by rfl) (by rfl) (by omega)).mono ?_; rintro e w1 ⟨rfl, hb1⟩; have HB1 := hidT hb1) | (refine (letter_any 120 _ i _ _ (by rfl) (by rfl) (by omega)).mono ?_; rintro e w2 ⟨rfl, hb2⟩; have HB2 := hidT hb2))
                  go_roundg (7 - (m + 1))
                  case measure => omega
                  case rel =>
                    refine ⟨m + 1, rfl, by omega, by rw [HM1.out], ?_, ?_⟩
                    · rw [HSS.out, tmx_full HDD.out, ← HY4.out, ← HY3.out, ← HY2.out]; simp [HXE.out]
                    · exact Fr.below (bs := []) ((((Fr.of_below HE.out).alloc _).trans (Fr.of_below (bs := []) HB1.out) (by simp)).trans (Fr.of_below (bs := []) HB2.out) (by simp)) (Nat.le_refl _) (by simp)
              · have HDD := hidT hd
                have hd' : ¬ ((1 : Int) < (v : Int)) := by omega
                have hd0 : ¬ ((i : Int) + (j : Int) = 0) := by omega
                obtain ⟨Y3, HY3⟩ : ∃ Y, Hid (X ++ ptx 117 j = Y) := ⟨_, hidT rfl⟩
                have HL3 : Hid (Y3.length ≤ 214) := by unfold Hid; rw [← HY3.out, List.length_append]; have := HPU.out; have := HL.out; (try simp only [List.length_cons, List.length_nil]); omega
                have hadd3 := fun (w' : World) => add_to X (ptx 117 j) Y3 (bs (ptx 117 j)) rfl HY3.out (by have := HL.out; omega) (by have := HPU.out; omega) w'
                obtain ⟨Y4, HY4⟩ : ∃ Y, Hid (Y3 ++ ptx 120 i = Y) := ⟨_, hidT rfl⟩
                have HL4 : Hid (Y4.length ≤ 216) := by unfold Hid; rw [← HY4.out, List.length_append]; have := HPX.out; have := HL3.out; (try simp only [List.length_cons, List.length_nil]); omega
                have hadd4 := fun (w' : World) => add_to Y3 (ptx 120 i) Y4 (bs (ptx 120 i)) rfl HY4.out (by have := HL3.out; omega) (by have := HPX.out; omega) w'
                go_wp2_with (go_at_call 31; first | (refine (letter_any 117 _ j _ _ (by rfl) (by rfl) (by omega)).mono ?_; rintro e w1 ⟨rfl, hb1⟩; have HB1 := hidT hb1) | (refine (letter_any 120 _ i _ _ (by rfl) (by rfl) (by omega)).mono ?_; rintro e w2 ⟨rfl, hb2⟩; have HB2 := hidT hb2))
                go_roundg (7 - (m + 1))
                case measure => omega
                case rel =>
                  refine ⟨m + 1, rfl, by omega, by rw [HM1.out], ?_, ?_⟩
                  · rw [HSS.out, tmx_bare HV.out HDD.out, ← HY4.out, ← HY3.out]; simp [HXE.out]
                  · exact Fr.below (bs := []) (((Fr.of_below HE.out).trans (Fr.of_below (bs := []) HB1.out) (by simp)).trans (Fr.of_below (bs := []) HB2.out) (by simp)) (Nat.le_refl _) (by simp)
            · have hE' : (bs X).toList.isEmpty = false := by rw [bs_empty]; simp [hE]
              rw [if_neg hE] at HSS
              clear hE
              obtain ⟨Y1, HY1⟩ : ∃ Y, Hid (X ++ [43] = Y) := ⟨_, hidT rfl⟩
              have HL1 : Hid (Y1.length ≤ 211) := by unfold Hid; rw [← HY1.out, List.length_append]; have := HL.out; (try simp only [List.length_cons, List.length_nil]); omega
              have hadd1 := fun (w' : World) => add_to X [43] Y1 ⟨#[43]⟩ rfl HY1.out (by have := HL.out; omega) (by simp) w'
              by_cases hd : v > 1 ∨ i + j = 0
              · have HDD := hidT hd
                by_cases h1 : 1 < v
                · have hd' : (1 : Int) < (v : Int) := by omega
                  obtain ⟨Y2, HY2⟩ : ∃ Y, Hid (Y1 ++ [dgt v] = Y) := ⟨_, hidT rfl⟩
                  have HL2 : Hid (Y2.length ≤ 212) := by unfold Hid; rw [← HY2.out, List.length_append]; have := HL1.out; (try simp only [List.length_cons, List.length_nil]); omega
                  have hadd2 := fun (w' : World) => add_to Y1 [dgt v] Y2 (bs [dgt v]) rfl HY2.out (by have := HL1.out; omega) (by simp) w'
                  obtain ⟨Y3, HY3⟩ : ∃ Y, Hid (Y2 ++ ptx 117 j = Y) := ⟨_, hidT rfl⟩
                  have HL3 : Hid (Y3.length ≤ 214) := by unfold Hid; rw [← HY3.out, List.length_append]; have := HPU.out; have := HL2.out; (try simp only [List.length_cons, List.length_nil]); omega
                  have hadd3 := fun (w' : World) => add_to Y2 (ptx 117 j) Y3 (bs (ptx 117 j)) rfl HY3.out (by have := HL2.out; omega) (by have := HPU.out; omega) w'
                  obtain ⟨Y4, HY4⟩ : ∃ Y, Hid (Y3 ++ ptx 120 i = Y) := ⟨_, hidT rfl⟩
                  have HL4 : Hid (Y4.length ≤ 216) := by unfold Hid; rw [← HY4.out, List.length_append]; have := HPX.out; have := HL3.out; (try simp only [List.length_cons, List.length_nil]); omega
                  have hadd4 := fun (w' : World) => add_to Y3 (ptx 120 i) Y4 (bs (ptx 120 i)) rfl HY4.out (by have := HL3.out; omega) (by have := HPX.out; omega) w'
                  go_wp2_with (go_at_call 31; first | (refine (letter_any 117 _ j _ _ (by rfl) (by rfl) (by omega)).mono ?_; rintro e w1 ⟨rfl, hb1⟩; have HB1 := hidT hb1) | (refine (letter_any 120 _ i _ _ (by rfl) (by rfl) (by omega)).mono ?_; rintro e w2 ⟨rfl, hb2⟩; have HB2 := hidT hb2))
                  go_roundg (7 - (m + 1))
                  case measure => omega
                  case rel =>
                    refine ⟨m + 1, rfl, by omega, by rw [HM1.out], ?_, ?_⟩
                    · rw [HSS.out, tmx_full HDD.out, ← HY4.out, ← HY3.out, ← HY2.out, ← HY1.out]; simp
                    · exact Fr.below (bs := []) ((((Fr.of_below HE.out).alloc _).trans (Fr.of_below (bs := []) HB1.out) (by simp)).trans (Fr.of_below (bs := []) HB2.out) (by simp)) (Nat.le_refl _) (by simp)
                · have hd' : ¬ ((1 : Int) < (v : Int)) := by omega
                  have hd0 : (i : Int) + (j : Int) = 0 := by omega
                  obtain ⟨Y2, HY2⟩ : ∃ Y, Hid (Y1 ++ [dgt v] = Y) := ⟨_, hidT rfl⟩
                  have HL2 : Hid (Y2.length ≤ 212) := by unfold Hid; rw [← HY2.out, List.length_append]; have := HL1.out; (try simp only [List.length_cons, List.length_nil]); omega
                  have hadd2 := fun (w' : World) => add_to Y1 [dgt v] Y2 (bs [dgt v]) rfl HY2.out (by have := HL1.out; omega) (by simp) w'
                  obtain ⟨Y3, HY3⟩ : ∃ Y, Hid (Y2 ++ ptx 117 j = Y) := ⟨_, hidT rfl⟩
                  have HL3 : Hid (Y3.length ≤ 214) := by unfold Hid; rw [← HY3.out, List.length_append]; have := HPU.out; have := HL2.out; (try simp only [List.length_cons, List.length_nil]); omega
                  have hadd3 := fun (w' : World) => add_to Y2 (ptx 117 j) Y3 (bs (ptx 117 j)) rfl HY3.out (by have := HL2.out; omega) (by have := HPU.out; omega) w'
                  obtain ⟨Y4, HY4⟩ : ∃ Y, Hid (Y3 ++ ptx 120 i = Y) := ⟨_, hidT rfl⟩
                  have HL4 : Hid (Y4.length ≤ 216) := by unfold Hid; rw [← HY4.out, List.length_append]; have := HPX.out; have := HL3.out; (try simp only [List.length_cons, List.length_nil]); omega
                  have hadd4 := fun (w' : World) => add_to Y3 (ptx 120 i) Y4 (bs (ptx 120 i)) rfl HY4.out (by have := HL3.out; omega) (by have := HPX.out; omega) w'
                  go_wp2_with (go_at_call 31; first | (refine (letter_any 117 _ j _ _ (by rfl) (by rfl) (by omega)).mono ?_; rintro e w1 ⟨rfl, hb1⟩; have HB1 := hidT hb1) | (refine (letter_any 120 _ i _ _ (by rfl) (by rfl) (by omega)).mono ?_; rintro e w2 ⟨rfl, hb2⟩; have HB2 := hidT hb2))
                  go_roundg (7 - (m + 1))
                  case measure => omega
                  case rel =>
                    refine ⟨m + 1, rfl, by omega, by rw [HM1.out], ?_, ?_⟩
                    · rw [HSS.out, tmx_full HDD.out, ← HY4.out, ← HY3.out, ← HY2.out, ← HY1.out]; simp
                    · exact Fr.below (bs := []) ((((Fr.of_below HE.out).alloc _).trans (Fr.of_below (bs := []) HB1.out) (by simp)).trans (Fr.of_below (bs := []) HB2.out) (by simp)) (Nat.le_refl _) (by simp)
              · have HDD := hidT hd
                have hd' : ¬ ((1 : Int) < (v : Int)) := by omega
                have hd0 : ¬ ((i : Int) + (j : Int) = 0) := by omega
                obtain ⟨Y3, HY3⟩ : ∃ Y, Hid (Y1 ++ ptx 117 j = Y) := ⟨_, hidT rfl⟩
                have HL3 : Hid (Y3.length ≤ 214) := by unfold Hid; rw [← HY3.out, List.length_append]; have := HPU.out; have := HL1.out; (try simp only [List.length_cons, List.length_nil]); omega
                have hadd3 := fun (w' : World) => add_to Y1 (ptx 117 j) Y3 (bs (ptx 117 j)) rfl HY3.out (by have := HL1.out; omega) (by have := HPU.out; omega) w'
                obtain ⟨Y4, HY4⟩ : ∃ Y, Hid (Y3 ++ ptx 120 i = Y) := ⟨_, hidT rfl⟩
                have HL4 : Hid (Y4.length ≤ 216) := by unfold Hid; rw [← HY4.out, List.length_append]; have := HPX.out; have := HL3.out; (try simp only [List.length_cons, List.length_nil]); omega
                have hadd4 := fun (w' : World) => add_to Y3 (ptx 120 i) Y4 (bs (ptx 120 i)) rfl HY4.out (by have := HL3.out; omega) (by have := HPX.out; omega) w'
                go_wp2_with (go_at_call 31; first | (refine (letter_any 117 _ j _ _ (by rfl) (by rfl) (by omega)).mono ?_; rintro e w1 ⟨rfl, hb1⟩; have HB1 := hidT hb1) | (refine (letter_any 120 _ i _ _ (by rfl) (by rfl) (by omega)).mono ?_; rintro e w2 ⟨rfl, hb2⟩; have HB2 := hidT hb2))
                go_roundg (7 - (m + 1))
                case measure => omega
                case rel =>
                  refine ⟨m + 1, rfl, by omega, by rw [HM1.out], ?_, ?_⟩
                  · rw [HSS.out, tmx_bare HV.out HDD.out, ← HY4.out, ← HY3.out, ← HY1.out]; simp
                  · exact Fr.below (bs := []) (((Fr.of_below HE.out).trans (Fr.of_below (bs := []) HB1.out) (by simp)).trans (Fr.of_below (bs := []) HB2.out) (by simp)) (Nat.le_refl _) (by simp)
        · have e7 : m = 7 := by omega
          subst e7
          have HK1 : Hid ((((5 - (a + 1) : Nat) : Int) - 1) = (i : Int) - 1) := by unfold Hid; have := HI.out; omega
          go_wp2
          go_roundg (5 - (a + 1))
          case measure => omega
          case rel => exact ⟨a + 1, rfl, by omega, by rw [HK1.out], by rw [show (a + 1) * 7 = a * 7 + 7 by omega], HE⟩
    · have e5 : a = 5 := by omega
      subst e5
      have HT : Hid (txt p = if wrt p (5 * 7) = [] then [48] else wrt p (5 * 7)) := rfl
      generalize hwX : wrt p (5 * 7) = X at *
      by_cases hE : X = []
      · have hE' : (bs X).toList.isEmpty = true := by rw [bs_empty, hE]; rfl
        rw [if_pos hE] at HT
        clear hE hwX
        go_wp2
        go_ret
        exact ⟨by rw [HT.out]; rfl, Fr.below (bs := []) ((Fr.of_below BW.out).trans (Fr.of_below (bs := []) HD.out) (by simp)) (Nat.le_refl _) (by simp)⟩
      · have hE' : (bs X).toList.isEmpty = false := by rw [bs_empty]; simp [hE]
        rw [if_neg hE] at HT
        clear hE hwX
        go_wp2
        go_ret
        exact ⟨by rw [HT.out]; rfl, Fr.below (bs := []) ((Fr.of_below BW.out).trans (Fr.of_below (bs := []) HD.out) (by simp)) (Nat.le_refl _) (by simp)⟩
end Go.Proofs.YthlmgpllapccfaaDoor
/- ADDED: the statement's own functions: pick, digit, term. -/
namespace Go.Proofs.YthlmgpllapccfaaDoor
open Go.RowKit

/-- Which of n things. -/
def pck (c : Int) (n : Nat) : Nat := ((if c < 0 then -(c + 1) else c) % n).toNat
theorem pck_lt (c : Int) {n : Nat} (h : 0 < n) : pck c n < n := by
  unfold pck
  have h1 : (0 : Int) < n := by omega
  have := Int.emod_lt_of_pos (if c < 0 then -(c + 1) else c) h1
  have := Int.emod_nonneg (if c < 0 then -(c + 1) else c) (b := n) (by omega)
  omega
theorem pck_cast (c : Int) {n : Nat} (h : 0 < n) : (pck c n : Int) = Int.tmod (if c < 0 then -(c + 1) else c) n := by
  unfold pck
  have := Int.emod_nonneg (if c < 0 then -(c + 1) else c) (b := n) (by omega)
  rw [Int.toNat_of_nonneg this, Int.tmod_eq_emod_of_nonneg]
  split <;> omega
set_option maxRecDepth 100000 in
theorem kpick_any (c : Int) (n : Nat) (N : Int) (w : World) (hN : N = n) (h : 0 < n) (hn : n ≤ 100) (h1 : -9223372036854775808 ≤ c) (h2 : c ≤ 9223372036854775807) :
    Calls Tryd.prog 14 #[.int .i64 c, .int .i64 N] w fun e w' => e = .returned (.int .i64 (pck c n)) ∧ w' = w := by
  subst hN
  have hp := pck_cast c h
  have hl := pck_lt c h
  have hn0 : ¬ ((n : Int) = 0) := by omega
  have hn1 : ¬ ((n : Int) = -1) := by omega
  have HP := hidT hp
  clear hp
  by_cases hc : c < 0
  · rw [if_pos hc] at HP
    go_enter Tryd.func14, Tryd.ntmps14
    go_wp2
    go_ret
    exact ⟨by rw [HP.out, Int.neg_tmod]; rfl, rfl⟩
  · rw [if_neg hc] at HP
    go_enter Tryd.func14, Tryd.ntmps14
    go_wp2
    go_ret
    exact ⟨by rw [HP.out, Int.tmod_eq_emod_of_nonneg (by omega)]; rfl, rfl⟩
theorem kdigit_any (n : Nat) (N : Int) (w : World) (hN : N = n) (hn : n < 10) :
    Calls Tryd.prog 23 #[.int .i64 N] w fun e w' => e = .returned (.string (bs [dgt n])) ∧ Below w.heap.size w w' := by
  subst hN
  have hcv := fun (w' : World) => conv_new n hn w'
  go_enter Tryd.func23, Tryd.ntmps23
  go_wp2
  go_ret
  exact ⟨rfl, by go_grown⟩

theorem kpick_to (c : Int) (n : Nat) (C N : Int) (w : World) (hC : C = c) (hN : N = n) (h : 0 < n) (hn : n ≤ 100) (h1 : -9223372036854775808 ≤ c) (h2 : c ≤ 9223372036854775807) :
    Calls Tryd.prog 14 #[.int .i64 C, .int .i64 N] w fun e w' => e = .returned (.int .i64 (pck c n)) ∧ w' = w := by
  subst hC; exact kpick_any C n N w hN h hn h1 h2
theorem add_to0 (a : List UInt8) (A : ByteArray) (b c : List UInt8) (S : ByteArray) (hA : A = bs a) (hS : S = bs b) (hc : a ++ b = c) (ha : a.length ≤ 1000) (hb : b.length ≤ 1000) (w : World) : (Op.stringOp .add A S).run Tryd.prog w = .ok (.string (bs c)) w := by
  subst hA; exact add_to a b c S hS hc ha hb w
theorem tdiv_bd (v : Int) (k : Nat) (hk : 2 ≤ k) (h1 : -9223372036854775808 ≤ v) (h2 : v ≤ 9223372036854775807) : -9223372036854775808 ≤ Int.tdiv v k ∧ Int.tdiv v k ≤ 9223372036854775807 := by
  have h := Int.natAbs_tdiv v k
  have e : Nat.div v.natAbs (k : Int).natAbs = v.natAbs / k := rfl
  rw [e] at h
  have h3 : v.natAbs / k ≤ v.natAbs / 2 := Nat.div_le_div_left hk (by omega)
  omega
theorem bel2 {a b c : World} (h : Below a.heap.size a b) (k : Below b.heap.size b c) : Below a.heap.size a c :=
  Fr.below (bs := []) ((Fr.of_below h).trans (Fr.of_below (bs := []) k) (by simp)) (Nat.le_refl _) (by simp)
end Go.Proofs.YthlmgpllapccfaaDoor
/- PLAIN: what is written is read back: tokens at a place of the text. -/
namespace Go.Proofs.YthlmgpllapccfaaDoor

/-- From byte i on the text is R. -/
def Sfx (s : ByteArray) (i : Nat) (R : List UInt8) : Prop := s.data.toList.drop i = R ∧ i ≤ s.size
theorem Sfx.len {s : ByteArray} {i : Nat} {R : List UInt8} (h : Sfx s i R) : i + R.length = s.size := by
  have e := congrArg List.length h.1
  rw [List.length_drop] at e
  have : s.data.toList.length = s.size := by rw [Array.length_toList]; rfl
  have := h.2
  omega
theorem Sfx.cons {s : ByteArray} {i : Nat} {c : UInt8} {R : List UInt8} (h : Sfx s i (c :: R)) : byt s i = c.toNat ∧ Sfx s (i + 1) R := by
  have hl := h.len
  simp only [List.length_cons] at hl
  have hi : i < s.size := by omega
  have h1 := congrArg (fun l : List UInt8 => l[0]?) h.1
  have h2 := congrArg (fun l : List UInt8 => l.drop 1) h.1
  simp only [List.getElem?_drop, Nat.add_zero, List.getElem?_cons_zero] at h1
  simp only [List.drop_drop, List.drop_succ_cons, List.drop_zero] at h2
  refine ⟨?_, h2, by omega⟩
  rw [byt_lt hi]
  have : s.data.toList[i]? = some (s[i]'hi) := by
    rw [Array.getElem?_toList, Array.getElem?_eq_getElem hi]; rfl
  rw [this] at h1
  rw [Option.some.inj h1]
theorem Sfx.nil {s : ByteArray} {i : Nat} (h : Sfx s i []) : byt s i = 256 := by
  have hl := h.len
  simp only [List.length_nil] at hl
  exact byt_ge (by omega)
/-- No digit ahead. -/
def nd : List UInt8 → Prop
  | [] => True
  | c :: _ => ¬ (48 ≤ c.toNat ∧ c.toNat ≤ 57)
theorem Sfx.noD {s : ByteArray} {i : Nat} {R : List UInt8} (h : Sfx s i R) (hn : nd R) : isD s i = false := by
  cases R with
  | nil => have := h.nil; simp [isD, this]
  | cons c R =>
    have := h.cons.1
    unfold nd at hn
    simp only [isD, this, Bool.and_eq_false_iff, decide_eq_false_iff_not]
    omega
theorem tok_num {s : ByteArray} {i : Nat} {d : UInt8} {R : List UInt8} (h : Sfx s i (d :: R)) (h0 : 48 ≤ d.toNat) (h9 : d.toNat ≤ 57) (hn : nd R) : tok s i = ⟨1, i, i + 1, d.toNat - 48⟩ := by
  obtain ⟨hb, hs⟩ := h.cons
  have hd : isD s i = true := by rw [isD_iff]; omega
  unfold tok
  rw [skip_here (by omega)]
  unfold tokAt
  rw [if_neg (by omega), if_pos hd, hs.noD hn, if_neg (by simp), hb]
theorem tok_u1 {s : ByteArray} {i : Nat} {R : List UInt8} (h : Sfx s i (117 :: R)) (hn : nd R) : tok s i = ⟨2, i, i + 1, 1⟩ := by
  obtain ⟨hb, hs⟩ := h.cons
  have hb' : byt s i = 117 := hb
  have hd : ¬ isD s i = true := by rw [isD_iff]; omega
  unfold tok
  rw [skip_here (by omega)]
  unfold tokAt
  rw [if_neg (by omega), if_neg hd, if_pos hb', hs.noD hn, if_neg (by simp)]
theorem tok_u2 {s : ByteArray} {i : Nat} {d : UInt8} {R : List UInt8} (h : Sfx s i (117 :: d :: R)) (h0 : 48 ≤ d.toNat) (h9 : d.toNat ≤ 57) : tok s i = ⟨2, i, i + 2, d.toNat - 48⟩ := by
  obtain ⟨hb, hs⟩ := h.cons
  obtain ⟨hb2, _⟩ := hs.cons
  have hb' : byt s i = 117 := hb
  have hd : ¬ isD s i = true := by rw [isD_iff]; omega
  have hd2 : isD s (i + 1) = true := by rw [isD_iff]; omega
  unfold tok
  rw [skip_here (by omega)]
  unfold tokAt
  rw [if_neg (by omega), if_neg hd, if_pos hb', if_pos hd2, hb2]
theorem tok_x1 {s : ByteArray} {i : Nat} {R : List UInt8} (h : Sfx s i (120 :: R)) (hn : nd R) : tok s i = ⟨3, i, i + 1, 1⟩ := by
  obtain ⟨hb, hs⟩ := h.cons
  have hb' : byt s i = 120 := hb
  have hd : ¬ isD s i = true := by rw [isD_iff]; omega
  unfold tok
  rw [skip_here (by omega)]
  unfold tokAt
  rw [if_neg (by omega), if_neg hd, if_neg (by omega), if_pos hb', hs.noD hn, if_neg (by simp)]
theorem tok_x2 {s : ByteArray} {i : Nat} {d : UInt8} {R : List UInt8} (h : Sfx s i (120 :: d :: R)) (h0 : 48 ≤ d.toNat) (h9 : d.toNat ≤ 57) : tok s i = ⟨3, i, i + 2, d.toNat - 48⟩ := by
  obtain ⟨hb, hs⟩ := h.cons
  obtain ⟨hb2, _⟩ := hs.cons
  have hb' : byt s i = 120 := hb
  have hd : ¬ isD s i = true := by rw [isD_iff]; omega
  have hd2 : isD s (i + 1) = true := by rw [isD_iff]; omega
  unfold tok
  rw [skip_here (by omega)]
  unfold tokAt
  rw [if_neg (by omega), if_neg hd, if_neg (by omega), if_pos hb', if_pos hd2, hb2]
theorem tok_plus {s : ByteArray} {i : Nat} {R : List UInt8} (h : Sfx s i (43 :: R)) : tok s i = ⟨47, i, i + 1, 0⟩ := by
  obtain ⟨hb, hs⟩ := h.cons
  have hb' : byt s i = 43 := hb
  have hd : ¬ isD s i = true := by rw [isD_iff]; omega
  unfold tok
  rw [skip_here (by omega)]
  unfold tokAt
  rw [if_neg (by omega), if_neg hd, if_neg (by omega), if_neg (by omega), hb']
theorem tok_end {s : ByteArray} {i : Nat} (h : Sfx s i []) : tok s i = ⟨0, i, i, 0⟩ := by
  have hb := h.nil
  unfold tok
  rw [skip_here (by omega)]
  unfold tokAt
  rw [if_pos hb]

/-- Token k begins at i, where the text is R. -/
def TAt (s : ByteArray) (k i : Nat) (R : List UInt8) : Prop := pos s 0 k = i ∧ k ≤ i ∧ Sfx s i R
theorem TAt.next {s : ByteArray} {k i j : Nat} {R R' : List UInt8} {c a v : Nat} (h : TAt s k i R) (ht : tok s i = ⟨c, a, j, v⟩) (hj : i < j) (hs : Sfx s j R') : TAt s (k + 1) j R' := by
  refine ⟨?_, by have := h.2.1; omega, hs⟩
  show (tok s (pos s 0 k)).to = j
  rw [h.1, ht]
theorem TAt.tk {s : ByteArray} {k i : Nat} {R : List UInt8} (h : TAt s k i R) : tk s 0 k = tok s i := by unfold Go.Proofs.YthlmgpllapccfaaDoor.tk; rw [h.1]
theorem dgt_nat {n : Nat} (h : n < 10) : (dgt n).toNat = 48 + n := by have := dgt_int h; omega
end Go.Proofs.YthlmgpllapccfaaDoor
/- PLAIN: what is written is read back: powers, terms, the whole text. -/
namespace Go.Proofs.YthlmgpllapccfaaDoor

/-- A term ends here. -/
def stp : List UInt8 → Prop
  | [] => True
  | c :: _ => c = 43
theorem stp_nd {R : List UInt8} (h : stp R) : nd R := by
  cases R with
  | nil => trivial
  | cons c R => unfold stp at h; subst h; exact (by decide : ¬ (48 ≤ (43 : UInt8).toNat ∧ (43 : UInt8).toNat ≤ 57))
theorem TAt.stp {s : ByteArray} {k i : Nat} {R : List UInt8} (h : TAt s k i R) (hs : stp R) : (Go.Proofs.YthlmgpllapccfaaDoor.tk s 0 k).c ≠ 2 ∧ (Go.Proofs.YthlmgpllapccfaaDoor.tk s 0 k).c ≠ 3 ∧ (Go.Proofs.YthlmgpllapccfaaDoor.tk s 0 k).c ≠ 1 ∧ ((Go.Proofs.YthlmgpllapccfaaDoor.tk s 0 k).c = 47 ↔ R ≠ []) ∧ (Go.Proofs.YthlmgpllapccfaaDoor.tk s 0 k).c ≠ 49 ∧ ((Go.Proofs.YthlmgpllapccfaaDoor.tk s 0 k).c = 0 ↔ R = []) := by
  rw [h.tk]
  cases R with
  | nil => rw [tok_end h.2.2]; simp
  | cons c R => unfold Go.Proofs.YthlmgpllapccfaaDoor.stp at hs; subst hs; rw [tok_plus h.2.2]; simp
theorem nd_ptx {c : UInt8} {n : Nat} {R : List UInt8} (hc : ¬ (48 ≤ c.toNat ∧ c.toNat ≤ 57)) (h : nd R) : nd (ptx c n ++ R) := by
  unfold ptx
  split
  · exact h
  · split <;> exact hc
theorem pwx {s : ByteArray} {k i x u m : Nat} {R : List UInt8} (h : TAt s k i (ptx 120 x ++ R)) (hs : stp R) (hx : x ≤ 4) (hm : (ptx 120 x).length ≤ m) :
    ∃ k', pw (tk s 0) false m k u 0 = ⟨0, 0, k', u, x⟩ ∧ TAt s k' (i + (ptx 120 x).length) R := by
  unfold ptx at *
  by_cases h0 : x = 0
  · subst h0
    simp only [if_true, List.nil_append, List.length_nil, Nat.add_zero] at *
    obtain ⟨a, b, _⟩ := h.stp hs
    exact ⟨k, pw_end a b, h⟩
  · rw [if_neg h0] at *
    by_cases h1 : x = 1
    · subst h1
      simp only [if_true, List.cons_append, List.nil_append, List.length_cons, List.length_nil, Nat.zero_add] at *
      have ht := tok_x1 h.2.2 (stp_nd hs)
      have hn := h.next ht (by omega) h.2.2.cons.2
      obtain ⟨a, b, _⟩ := hn.stp hs
      refine ⟨k + 1, ?_, hn⟩
      rw [pw_x (by omega) (by rw [h.tk, ht]) (by rw [h.tk, ht]; omega), h.tk, ht]
      exact pw_end a b
    · rw [if_neg h1] at *
      simp only [List.cons_append, List.nil_append, List.length_cons, List.length_nil] at *
      have hd := dgt_nat (n := x) (by omega)
      have ht := tok_x2 h.2.2 (by omega) (by omega)
      have hn := h.next ht (by omega) h.2.2.cons.2.cons.2
      obtain ⟨a, b, _⟩ := hn.stp hs
      refine ⟨k + 1, ?_, hn⟩
      have e : (dgt x).toNat - 48 = x := by omega
      rw [e] at ht
      rw [pw_x (by omega) (by rw [h.tk, ht]) (by rw [h.tk, ht]; show 0 + x ≤ 4; omega), h.tk, ht]
      show pw (tk s 0) false (m - 1) (k + 1) u (0 + x) = _
      rw [Nat.zero_add]
      exact pw_end a b
theorem pwu {s : ByteArray} {k i u x m : Nat} {R : List UInt8} (h : TAt s k i (pws u x ++ R)) (hs : stp R) (hu : u ≤ 6) (hx : x ≤ 4) (hm : (pws u x).length ≤ m) :
    ∃ k', pw (tk s 0) false m k 0 0 = ⟨0, 0, k', u, x⟩ ∧ TAt s k' (i + (pws u x).length) R := by
  have hnx : nd (ptx 120 x ++ R) := nd_ptx (by decide) (stp_nd hs)
  unfold pws at *
  rw [List.append_assoc] at h
  rw [List.length_append] at *
  generalize hpx : ptx 120 x = P at *
  unfold ptx at h hm ⊢
  by_cases h0 : u = 0
  · subst h0
    simp only [if_true, List.nil_append, List.length_nil, Nat.zero_add] at *
    subst hpx
    exact pwx h hs hx hm
  · rw [if_neg h0] at *
    by_cases h1 : u = 1
    · subst h1
      simp only [if_true, List.cons_append, List.nil_append, List.length_cons, List.length_nil, Nat.zero_add] at *
      have ht := tok_u1 h.2.2 hnx
      have hn := h.next ht (by omega) h.2.2.cons.2
      subst hpx
      obtain ⟨k', e, ha⟩ := pwx (u := 1) (m := m - 1) hn hs hx (by omega)
      refine ⟨k', ?_, by rw [← Nat.add_assoc]; exact ha⟩
      rw [pw_u (by omega) (by rw [h.tk, ht]) (by rw [h.tk, ht]; omega), h.tk, ht]
      exact e
    · rw [if_neg h1] at *
      simp only [List.cons_append, List.nil_append, List.length_cons, List.length_nil] at *
      have hd := dgt_nat (n := u) (by omega)
      have ht := tok_u2 h.2.2 (by omega) (by omega)
      have hn := h.next ht (by omega) h.2.2.cons.2.cons.2
      have e' : (dgt u).toNat - 48 = u := by omega
      rw [e'] at ht
      subst hpx
      obtain ⟨k', e, ha⟩ := pwx (u := u) (m := m - 1) hn hs hx (by omega)
      refine ⟨k', ?_, by rw [← Nat.add_assoc]; exact ha⟩
      rw [pw_u (by omega) (by rw [h.tk, ht]) (by rw [h.tk, ht]; show 0 + u ≤ 6; omega), h.tk, ht]
      show pw (tk s 0) false (m - 1) (k + 1) (0 + u) 0 = _
      rw [Nat.zero_add]
      exact e
end Go.Proofs.YthlmgpllapccfaaDoor
