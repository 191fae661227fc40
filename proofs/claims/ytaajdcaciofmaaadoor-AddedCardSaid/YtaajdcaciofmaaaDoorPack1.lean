import Derived.Test.YtaajdcaciofmaaaDoorProg
import Derived.WalkKit
import Derived.WalkSpells
import Derived.WalkLawsBesides
import Derived.Handy
import Derived.Deep.RegionHeld3
import Derived.Lib.Join
import Derived.Lib.ItoaNum
import Derived.KernelRfl
/- PLAIN: texts, tokens, the reading of a polynomial, as functions on numbers and lists. Nothing of the program. -/
namespace Go.Proofs.YtaajdcaciofmaaaDoor

/-- The byte at i; 256 where there is none. -/
def byt (s : ByteArray) (i : Nat) : Nat := if h : i < s.size then (s[i]'h).toNat else 256
theorem byt_lt {s : ByteArray} {i : Nat} (h : i < s.size) : byt s i = (s[i]'h).toNat := by simp [byt, h]
theorem byt_ge {s : ByteArray} {i : Nat} (h : ¬ i < s.size) : byt s i = 256 := by simp [byt, h]
theorem byt_le (s : ByteArray) (i : Nat) : byt s i ≤ 256 := by
  unfold byt; split
  · rename_i h; have := (s[i]'h).toNat_lt; omega
  · omega
theorem byt_in {s : ByteArray} {i : Nat} (h : byt s i ≠ 256) : i < s.size := by
  by_cases g : i < s.size
  · exact g
  · exact absurd (byt_ge g) h
theorem byt_small {s : ByteArray} {i : Nat} (h : i < s.size) : byt s i ≤ 255 := by
  rw [byt_lt h]; have := (s[i]'h).toNat_lt; omega

def isD (s : ByteArray) (i : Nat) : Bool := decide (48 ≤ byt s i) && decide (byt s i ≤ 57)
theorem isD_iff (s : ByteArray) (i : Nat) : isD s i = true ↔ 48 ≤ byt s i ∧ byt s i ≤ 57 := by simp [isD]
theorem isD_in {s : ByteArray} {i : Nat} (h : isD s i = true) : i < s.size := by
  rw [isD_iff] at h; exact byt_in (by omega)

/-- Behind the spaces from i on. -/
def skipF (s : ByteArray) : Nat → Nat → Nat
  | 0, i => i
  | m + 1, i => if byt s i = 32 then skipF s m (i + 1) else i
def skip (s : ByteArray) (i : Nat) : Nat := skipF s (s.size - i) i
theorem skip_space {s : ByteArray} {i : Nat} (h : byt s i = 32) : skip s i = skip s (i + 1) := by
  have hi := byt_in (s := s) (i := i) (by omega)
  unfold skip
  rw [show s.size - i = (s.size - (i + 1)) + 1 from by omega]
  simp [skipF, h]
theorem skip_here {s : ByteArray} {i : Nat} (h : byt s i ≠ 32) : skip s i = i := by
  unfold skip
  cases hm : s.size - i with
  | zero => rfl
  | succ m => simp [skipF, h]
theorem skipF_facts (s : ByteArray) : ∀ (m i : Nat), s.size - i = m → i ≤ s.size → i ≤ skipF s m i ∧ skipF s m i ≤ s.size ∧ byt s (skipF s m i) ≠ 32 := by
  intro m
  induction m with
  | zero => intro i h1 h2; refine ⟨Nat.le_refl _, h2, ?_⟩; show byt s i ≠ 32; rw [byt_ge (by omega)]; omega
  | succ m ih =>
    intro i h1 h2
    by_cases h : byt s i = 32
    · simp only [skipF, h, if_true]
      have := ih (i + 1) (by omega) (by omega)
      exact ⟨by omega, this.2.1, this.2.2⟩
    · simp only [skipF, h, if_false]
      exact ⟨Nat.le_refl _, h2, h⟩
theorem skip_facts {s : ByteArray} {i : Nat} (h : i ≤ s.size) : i ≤ skip s i ∧ skip s i ≤ s.size ∧ byt s (skip s i) ≠ 32 := skipF_facts s _ i rfl h

/-- A token: what it is (0: the end; 1: a number; 2: a power of u; 3: a power of x; else its byte and 4), where it begins, where it ends, its number. -/
structure Tok where
  c : Nat
  at' : Nat
  to : Nat
  v : Nat

def tokAt (s : ByteArray) (j : Nat) : Tok :=
  if byt s j = 256 then ⟨0, j, j, 0⟩
  else if isD s j = true then (if isD s (j + 1) = true then ⟨1, j, j + 2, 10 * (byt s j - 48) + (byt s (j + 1) - 48)⟩ else ⟨1, j, j + 1, byt s j - 48⟩)
  else if byt s j = 117 then (if isD s (j + 1) = true then ⟨2, j, j + 2, byt s (j + 1) - 48⟩ else ⟨2, j, j + 1, 1⟩)
  else if byt s j = 120 then (if isD s (j + 1) = true then ⟨3, j, j + 2, byt s (j + 1) - 48⟩ else ⟨3, j, j + 1, 1⟩)
  else ⟨byt s j + 4, j, j + 1, 0⟩
def tok (s : ByteArray) (i : Nat) : Tok := tokAt s (skip s i)

/-- What a token of the text at j ≤ its size is good for. -/
theorem tokAt_facts {s : ByteArray} {j : Nat} (h : j ≤ s.size) : (tokAt s j).at' = j ∧ j ≤ (tokAt s j).to ∧ (tokAt s j).to ≤ s.size ∧ (tokAt s j).v ≤ 99 ∧ (tokAt s j).c ≤ 260 ∧ ((tokAt s j).c = 0 ↔ j = s.size) ∧ ((tokAt s j).c ≠ 0 → j < (tokAt s j).to) := by
  have hb := byt_le s j
  unfold tokAt
  by_cases h0 : byt s j = 256
  · have : ¬ j < s.size := fun g => by have := byt_small g; omega
    rw [if_pos h0]; refine ⟨rfl, ?_, ?_, ?_, ?_, ?_, ?_⟩ <;> simp <;> omega
  · have hj := byt_in h0
    rw [if_neg h0]
    by_cases h1 : isD s j = true
    · have h1' := (isD_iff s j).1 h1
      rw [if_pos h1]
      by_cases h2 : isD s (j + 1) = true
      · have h2' := (isD_iff s (j + 1)).1 h2
        have := isD_in h2
        rw [if_pos h2]; refine ⟨rfl, ?_, ?_, ?_, ?_, ?_, ?_⟩ <;> simp <;> omega
      · rw [if_neg h2]; refine ⟨rfl, ?_, ?_, ?_, ?_, ?_, ?_⟩ <;> simp <;> omega
    · rw [if_neg h1]
      by_cases h3 : byt s j = 117
      · rw [if_pos h3]
        by_cases h2 : isD s (j + 1) = true
        · have h2' := (isD_iff s (j + 1)).1 h2
          have := isD_in h2
          rw [if_pos h2]; refine ⟨rfl, ?_, ?_, ?_, ?_, ?_, ?_⟩ <;> simp <;> omega
        · rw [if_neg h2]; refine ⟨rfl, ?_, ?_, ?_, ?_, ?_, ?_⟩ <;> simp <;> omega
      · rw [if_neg h3]
        by_cases h4 : byt s j = 120
        · rw [if_pos h4]
          by_cases h2 : isD s (j + 1) = true
          · have h2' := (isD_iff s (j + 1)).1 h2
            have := isD_in h2
            rw [if_pos h2]; refine ⟨rfl, ?_, ?_, ?_, ?_, ?_, ?_⟩ <;> simp <;> omega
          · rw [if_neg h2]; refine ⟨rfl, ?_, ?_, ?_, ?_, ?_, ?_⟩ <;> simp <;> omega
        · rw [if_neg h4]; refine ⟨rfl, ?_, ?_, ?_, ?_, ?_, ?_⟩ <;> simp <;> omega

/-- Where the k-th token is looked for, beginning at a; and that token. -/
def pos (s : ByteArray) (a : Nat) : Nat → Nat
  | 0 => a
  | k + 1 => (tok s (pos s a k)).to
def tk (s : ByteArray) (a k : Nat) : Tok := tok s (pos s a k)

theorem tok_facts {s : ByteArray} {i : Nat} (h : i ≤ s.size) : i ≤ (tok s i).at' ∧ (tok s i).at' ≤ (tok s i).to ∧ (tok s i).to ≤ s.size ∧ (tok s i).v ≤ 99 ∧ (tok s i).c ≤ 260 ∧ ((tok s i).c = 0 ↔ (tok s i).at' = s.size) ∧ ((tok s i).c ≠ 0 → i < (tok s i).to) := by
  obtain ⟨a, b, _⟩ := skip_facts h
  obtain ⟨c, d, e, f, g, k, l⟩ := tokAt_facts b
  unfold tok
  rw [c]
  exact ⟨a, d, e, f, g, k, fun q => by have := l q; omega⟩
theorem pos_le {s : ByteArray} {a : Nat} (h : a ≤ s.size) : ∀ k, pos s a k ≤ s.size
  | 0 => h
  | k + 1 => (tok_facts (pos_le h k)).2.2.1
theorem tk_facts {s : ByteArray} {a : Nat} (h : a ≤ s.size) (k : Nat) : (tk s a k).at' ≤ s.size ∧ (tk s a k).to ≤ s.size ∧ (tk s a k).v ≤ 99 ∧ (tk s a k).c ≤ 260 := by
  obtain ⟨_, b, c, d, e, _, _⟩ := tok_facts (pos_le h k)
  unfold tk
  exact ⟨by omega, c, d, e⟩
theorem pos_grows {s : ByteArray} {a : Nat} (h : a ≤ s.size) : ∀ k, (tk s a k).c ≠ 0 → k < pos s a (k + 1)
  | 0, q => by have := (tok_facts (pos_le h 0)).2.2.2.2.2.2 q; show 0 < (tok s (pos s a 0)).to; omega
  | k + 1, q => by
    have := (tok_facts (pos_le h (k + 1))).2.2.2.2.2.2 q
    show k + 1 < (tok s (pos s a (k + 1))).to
    by_cases g : (tk s a k).c = 0
    · have z := (tok_facts (pos_le h k)).2.2.2.2.2.1.1 g
      have y := (tok_facts (pos_le h k)).2.1
      have x := (tok_facts (pos_le h k)).2.2.1
      have w : pos s a (k + 1) = s.size := by show (tok s (pos s a k)).to = s.size; omega
      have v := (tok_facts (pos_le h (k + 1))).2.2.1
      omega
    · have := pos_grows h k g; omega
/-- The token of the text's size in number is the end. -/
theorem tk_end {s : ByteArray} {a : Nat} (h : a ≤ s.size) {k : Nat} (hk : s.size ≤ k) : (tk s a k).c = 0 := by
  by_cases q : (tk s a k).c = 0
  · exact q
  · have := pos_grows h k q
    have := pos_le h (k + 1)
    omega
theorem tk_lt {s : ByteArray} {a : Nat} (h : a ≤ s.size) {k : Nat} (hk : (tk s a k).c ≠ 0) : k < s.size := by
  by_cases q : k < s.size
  · exact q
  · exact absurd (tk_end h (by omega)) hk

end Go.Proofs.YtaajdcaciofmaaaDoor
/- PLAIN: the reading of powers, terms, polynomials, over a stream of tokens f. Nothing of the program. -/
namespace Go.Proofs.YtaajdcaciofmaaaDoor

/-- What the reading of powers comes to: the error (0: none), its place; the next token's number; the powers of u and x. -/
structure PwR where
  e : Nat
  bad : Nat
  k : Nat
  u : Nat
  x : Nat

def pw (f : Nat → Tok) (bare : Bool) : Nat → Nat → Nat → Nat → PwR
  | 0, k, u, x => ⟨0, 0, k, u, x⟩
  | m + 1, k, u, x =>
    if (f k).c = 2 then (if u + (f k).v ≤ 6 then pw f bare m (k + 1) (u + (f k).v) x else ⟨5, (f k).at', k, u, x⟩)
    else if (f k).c = 3 then (if bare = true then ⟨7, (f k).at', k, u, x⟩ else if x + (f k).v ≤ 4 then pw f bare m (k + 1) u (x + (f k).v) else ⟨5, (f k).at', k, u, x⟩)
    else ⟨0, 0, k, u, x⟩

theorem pw_u {f : Nat → Tok} {bare : Bool} {m k u x : Nat} (hm : 0 < m) (hc : (f k).c = 2) (h : u + (f k).v ≤ 6) : pw f bare m k u x = pw f bare (m - 1) (k + 1) (u + (f k).v) x := by
  obtain ⟨m, rfl⟩ : ∃ n, m = n + 1 := ⟨m - 1, by omega⟩
  simp [pw, hc, h]
theorem pw_u_bad {f : Nat → Tok} {bare : Bool} {m k u x : Nat} (hm : 0 < m) (hc : (f k).c = 2) (h : ¬ u + (f k).v ≤ 6) : pw f bare m k u x = ⟨5, (f k).at', k, u, x⟩ := by
  obtain ⟨m, rfl⟩ : ∃ n, m = n + 1 := ⟨m - 1, by omega⟩
  simp [pw, hc, h]
theorem pw_x {f : Nat → Tok} {m k u x : Nat} (hm : 0 < m) (hc : (f k).c = 3) (h : x + (f k).v ≤ 4) : pw f false m k u x = pw f false (m - 1) (k + 1) u (x + (f k).v) := by
  obtain ⟨m, rfl⟩ : ∃ n, m = n + 1 := ⟨m - 1, by omega⟩
  simp [pw, hc, h]
theorem pw_x_bad {f : Nat → Tok} {m k u x : Nat} (hm : 0 < m) (hc : (f k).c = 3) (h : ¬ x + (f k).v ≤ 4) : pw f false m k u x = ⟨5, (f k).at', k, u, x⟩ := by
  obtain ⟨m, rfl⟩ : ∃ n, m = n + 1 := ⟨m - 1, by omega⟩
  simp [pw, hc, h]
theorem pw_x_bare {f : Nat → Tok} {m k u x : Nat} (hm : 0 < m) (hc : (f k).c = 3) : pw f true m k u x = ⟨7, (f k).at', k, u, x⟩ := by
  obtain ⟨m, rfl⟩ : ∃ n, m = n + 1 := ⟨m - 1, by omega⟩
  simp [pw, hc]
theorem pw_end {f : Nat → Tok} {bare : Bool} {m k u x : Nat} (h2 : (f k).c ≠ 2) (h3 : (f k).c ≠ 3) : pw f bare m k u x = ⟨0, 0, k, u, x⟩ := by
  cases m <;> simp [pw, h2, h3]
/-- What is read stays within the bounds; the tokens go on. -/
theorem pw_facts (f : Nat → Tok) (bare : Bool) : ∀ (m k u x : Nat), u ≤ 6 → x ≤ 4 → (pw f bare m k u x).u ≤ 6 ∧ (pw f bare m k u x).x ≤ 4 ∧ k ≤ (pw f bare m k u x).k ∧ (pw f bare m k u x).k ≤ k + m := by
  intro m
  induction m with
  | zero => intro k u x hu hx; simp [pw, hu, hx]
  | succ m ih =>
    intro k u x hu hx
    simp only [pw]
    split
    · split
      · have := ih (k + 1) (u + (f k).v) x (by omega) hx; omega
      · simp [hu, hx]
    · split
      · split
        · simp [hu, hx]
        · split
          · have := ih (k + 1) u (x + (f k).v) hu (by omega); omega
          · simp [hu, hx]
      · simp [hu, hx]

structure TmR where
  e : Nat
  bad : Nat
  k : Nat
  n : Nat
  u : Nat
  x : Nat

/-- A term from token k on; there are at most N tokens ahead of the end. -/
def tm (f : Nat → Tok) (bare : Bool) (N k : Nat) : TmR :=
  if (f k).c = 1 then ⟨(pw f bare (N - (k + 1)) (k + 1) 0 0).e, (pw f bare (N - (k + 1)) (k + 1) 0 0).bad, (pw f bare (N - (k + 1)) (k + 1) 0 0).k, (f k).v, (pw f bare (N - (k + 1)) (k + 1) 0 0).u, (pw f bare (N - (k + 1)) (k + 1) 0 0).x⟩
  else if (f k).c = 2 ∨ (f k).c = 3 then ⟨(pw f bare (N - k) k 0 0).e, (pw f bare (N - k) k 0 0).bad, (pw f bare (N - k) k 0 0).k, 1, (pw f bare (N - k) k 0 0).u, (pw f bare (N - k) k 0 0).x⟩
  else ⟨4, (f k).at', k, 0, 0, 0⟩

/-- A number n added, sg times, at the powers u and x. -/
def plus (p : List Nat) (u x a : Nat) : List Nat := p.set (7 * x + u) ((p.getD (7 * x + u) 0 + a) % 7)

structure PlR where
  e : Nat
  bad : Nat
  k : Nat
  p : List Nat

def pl (f : Nat → Tok) (bare : Bool) (N : Nat) : Nat → Nat → Nat → List Nat → PlR
  | 0, k, _, p => ⟨4, 0, k, p⟩
  | m + 1, k, sg, p =>
    if (tm f bare N k).e = 0 then
      (if (f (tm f bare N k).k).c = 47 then pl f bare N m ((tm f bare N k).k + 1) 1 (plus p (tm f bare N k).u (tm f bare N k).x (sg * (tm f bare N k).n))
      else if (f (tm f bare N k).k).c = 49 then pl f bare N m ((tm f bare N k).k + 1) 6 (plus p (tm f bare N k).u (tm f bare N k).x (sg * (tm f bare N k).n))
      else ⟨0, 0, (tm f bare N k).k, plus p (tm f bare N k).u (tm f bare N k).x (sg * (tm f bare N k).n)⟩)
    else ⟨(tm f bare N k).e, (tm f bare N k).bad, k, p⟩

def zeros : List Nat := List.replicate 35 0

/-- A polynomial from token k on. -/
def poly (f : Nat → Tok) (bare : Bool) (N k : Nat) : PlR :=
  if (f k).c = 49 then pl f bare N (N + 1) (k + 1) 6 zeros else pl f bare N (N + 1) k 1 zeros

/-- A text read as a polynomial: the error, its place, the numbers. -/
structure RdR where
  e : Nat
  bad : Nat
  p : List Nat

def rd (s : ByteArray) : RdR :=
  if 90 < s.size then ⟨2, 0, zeros⟩
  else if (poly (tk s 0) false s.size 0).e = 0 then
    (if (tk s 0 (poly (tk s 0) false s.size 0).k).c = 0 then ⟨0, 0, (poly (tk s 0) false s.size 0).p⟩ else ⟨4, (tk s 0 (poly (tk s 0) false s.size 0).k).at', zeros⟩)
  else ⟨(poly (tk s 0) false s.size 0).e, (poly (tk s 0) false s.size 0).bad, zeros⟩

/-- 35 numbers, 0 to 6. -/
def Good (p : List Nat) : Prop := p.length = 35 ∧ ∀ i, p.getD i 0 < 7
theorem zeros_good : Good zeros := ⟨rfl, fun i => by
  unfold zeros
  rw [List.getD_eq_getElem?_getD, List.getElem?_replicate]
  split <;> simp⟩
theorem plus_good {p : List Nat} (h : Good p) (u x a : Nat) : Good (plus p u x a) := by
  refine ⟨by simp [plus, h.1], fun i => ?_⟩
  unfold plus
  simp only [List.getD_eq_getElem?_getD, List.getElem?_set]
  split
  · split
    · simp; omega
    · simp
  · have := h.2 i; simpa [List.getD_eq_getElem?_getD] using this

theorem tm_facts (f : Nat → Tok) (bare : Bool) (N k : Nat) : (tm f bare N k).u ≤ 6 ∧ (tm f bare N k).x ≤ 4 ∧ k ≤ (tm f bare N k).k ∧ (k < N → (tm f bare N k).k ≤ N) := by
  unfold tm
  split
  · have := pw_facts f bare (N - (k + 1)) (k + 1) 0 0 (by omega) (by omega)
    refine ⟨this.1, this.2.1, ?_, ?_⟩ <;> simp <;> omega
  · split
    · have := pw_facts f bare (N - k) k 0 0 (by omega) (by omega)
      refine ⟨this.1, this.2.1, ?_, ?_⟩ <;> simp <;> omega
    · refine ⟨?_, ?_, ?_, ?_⟩ <;> simp; omega
theorem tm_num {f : Nat → Tok} (bare : Bool) (N k : Nat) (h : ∀ k, (f k).v ≤ 99) : (tm f bare N k).n ≤ 99 := by
  unfold tm
  split
  · exact h k
  · split <;> simp
end Go.Proofs.YtaajdcaciofmaaaDoor
/- THE PROGRAM's TOKENS: isDigit, digit, numberAt, powerAt, tokenAt. -/
namespace Go.Proofs.YtaajdcaciofmaaaDoor
open Go.RowKit

theorem ret4 {a b c d a' b' c' d' : Int} (h1 : a = a') (h2 : b = b') (h3 : c = c') (h4 : d = d') : Ending.returned (.agg #[.int .i64 a, .int .i64 b, .int .i64 c, .int .i64 d]) = Ending.returned (.agg #[.int .i64 a', .int .i64 b', .int .i64 c', .int .i64 d']) := by subst h1 h2 h3 h4; rfl
theorem bcell {W w1 : World} (hb : Below W.heap.size W w1) : (∀ b o, b < W.heap.size → w1.cell? ⟨b, o, none⟩ = W.cell? ⟨b, o, none⟩) ∧ (∀ b o, b < W.heap.size → w1.frozen? ⟨b, o, none⟩ = W.frozen? ⟨b, o, none⟩) :=
  ⟨fun b o h => hb.cell (p := ⟨b, o, none⟩) h, fun b o h => hb.frozen (p := ⟨b, o, none⟩) h⟩
theorem byt_cast {s : ByteArray} {i : Nat} (h : i < s.size) : ((s[i]'h).toNat : Int) = (byt s i : Int) := by rw [byt_lt h]

set_option maxHeartbeats 400000 in
theorem isDigit_any (s : ByteArray) (i : Nat) (a : Int) (w : World) (ha : a = i) (_hs : s.size ≤ 1000) (_hi : i ≤ 1000) :
    Calls Tryd.prog 63 #[.string s, .int .i64 a] w fun e w' => e = .returned (.bool (isD s i)) ∧ w' = w := by
  subst ha
  by_cases h : i < s.size
  · have hb := byt_cast h
    by_cases h1 : 48 ≤ byt s i
    · by_cases h2 : byt s i ≤ 57
      · go_enter Tryd.func63, Tryd.ntmps63
        go_wp2
        go_ret
        exact ⟨by simp [isD, h1, h2]; omega, rfl⟩
      · go_enter Tryd.func63, Tryd.ntmps63
        go_wp2
        go_ret
        exact ⟨by simp [isD, h1, h2]; omega, rfl⟩
    · go_enter Tryd.func63, Tryd.ntmps63
      go_wp2
      go_ret
      exact ⟨by simp [isD, h1], rfl⟩
  · have hb := byt_ge h
    go_enter Tryd.func63, Tryd.ntmps63
    go_wp2
    go_ret
    exact ⟨by simp [isD, hb], rfl⟩

set_option maxHeartbeats 400000 in
theorem digit_any (s : ByteArray) (i : Nat) (a : Int) (w : World) (ha : a = i) (_hs : s.size ≤ 1000) (hd : isD s i = true) :
    Calls Tryd.prog 71 #[.string s, .int .i64 a] w fun e w' => e = .returned (.int .i64 ((byt s i : Int) - 48)) ∧ w' = w := by
  subst ha
  have hi := isD_in hd
  have hb := byt_cast hi
  rw [isD_iff] at hd
  obtain ⟨h1, h2⟩ := hd
  go_enter Tryd.func71, Tryd.ntmps71
  go_wp2
  go_ret
  exact ⟨by simp, rfl⟩

set_option maxHeartbeats 400000 in
theorem numberAt_any (s : ByteArray) (i : Nat) (a : Int) (w : World) (ha : a = i) (hs : s.size ≤ 1000) (hd : isD s i = true) :
    Calls Tryd.prog 64 #[.string s, .int .i64 a] w fun e w' => e = .returned (.agg #[.int .i64 1, .int .i64 (tokAt s i).at', .int .i64 (tokAt s i).to, .int .i64 (tokAt s i).v]) ∧ Below w.heap.size w w' := by
  subst ha
  have hi := isD_in hd
  have hD := (isD_iff s i).1 hd
  have ht : byt s i ≠ 256 := by omega
  by_cases h2 : isD s (i + 1) = true
  · have hi2 := isD_in h2
    have hD2 := (isD_iff s (i + 1)).1 h2
    have HT : Hid (tokAt s i = ⟨1, i, i + 2, 10 * (byt s i - 48) + (byt s (i + 1) - 48)⟩) := by unfold Hid tokAt; rw [if_neg ht, if_pos hd, if_pos h2]
    have H2 : Hid (isD s (i + 1) = true) := h2
    have H1 : Hid (isD s i = true) := hd
    clear hd ht
    go_enter Tryd.func64, Tryd.ntmps64
    go_wp2_with (first | (go_at_call 71; refine (digit_any s i _ _ (by rfl) (by omega) H1.out).mono ?_; rintro e w' ⟨rfl, rfl⟩) | (go_at_call 63; refine (isDigit_any s (i+1) _ _ (by omega) (by omega) (by omega)).mono ?_; rintro e w' ⟨rfl, rfl⟩))
    go_region_with (first | (go_at_call 71; refine (digit_any s (i+1) _ _ (by omega) (by omega) H2.out).mono ?_; rintro e w' ⟨rfl, rfl⟩))
    all_goals
      go_wp2
      go_returns
      exact ⟨by rw [HT.out]; dsimp only; exact ret4 (by omega) (by omega) (by omega) (by omega), by go_grown⟩
  · have HT : Hid (tokAt s i = ⟨1, i, i + 1, byt s i - 48⟩) := by unfold Hid tokAt; rw [if_neg ht, if_pos hd, if_neg h2]
    have H1 : Hid (isD s i = true) := hd
    have h2' : isD s (i + 1) = false := by simpa using h2
    clear hd ht h2
    go_enter Tryd.func64, Tryd.ntmps64
    go_wp2_with (first | (go_at_call 71; refine (digit_any s i _ _ (by rfl) (by omega) H1.out).mono ?_; rintro e w' ⟨rfl, rfl⟩) | (go_at_call 63; refine (isDigit_any s (i+1) _ _ (by omega) (by omega) (by omega)).mono ?_; rintro e w' ⟨rfl, rfl⟩))
    go_returns
    exact ⟨by rw [HT.out]; dsimp only; exact ret4 (by omega) (by omega) (by omega) (by omega), by go_grown⟩
end Go.Proofs.YtaajdcaciofmaaaDoor
/- THE PROGRAM's TOKENS: powerAt. -/
namespace Go.Proofs.YtaajdcaciofmaaaDoor
open Go.RowKit

/-- The program's kind of a token. -/
def pk (c : Nat) : Int := if c = 0 then 0 else if c = 1 then 1 else if c = 2 then 2 else if c = 3 then 3 else if c = 47 then 4 else if c = 49 then 5 else 6

set_option maxHeartbeats 400000 in
theorem powerAt_any (s : ByteArray) (i : Nat) (a k : Int) (w : World) (ha : a = i) (hs : s.size ≤ 1000) (hi : i < s.size) (hx : byt s i = 117 ∧ k = 2 ∨ byt s i = 120 ∧ k = 3) :
    Calls Tryd.prog 65 #[.string s, .int .i64 a, .int .i64 k] w fun e w' => e = .returned (.agg #[.int .i64 k, .int .i64 (tokAt s i).at', .int .i64 (tokAt s i).to, .int .i64 (tokAt s i).v]) ∧ Below w.heap.size w w' := by
  subst ha
  have h0 : byt s i ≠ 256 := by omega
  have h1 : ¬ isD s i = true := by rw [isD_iff]; omega
  by_cases h2 : isD s (i + 1) = true
  · have hi2 := isD_in h2
    have hD2 := (isD_iff s (i + 1)).1 h2
    have HT : Hid ((tokAt s i).at' = i ∧ (tokAt s i).to = i + 2 ∧ (tokAt s i).v = byt s (i + 1) - 48) := by
      unfold Hid tokAt
      rcases hx with ⟨hx, _⟩ | ⟨hx, _⟩ <;> simp [h1, h2, hx]
    have H2 : Hid (isD s (i + 1) = true) := h2
    clear h0 h1 hx
    go_enter Tryd.func65, Tryd.ntmps65
    go_wp2_with (first | (go_at_call 71; refine (digit_any s (i + 1) _ _ (by omega) (by omega) H2.out).mono ?_; rintro e w' ⟨rfl, rfl⟩) | (go_at_call 63; refine (isDigit_any s (i+1) _ _ (by omega) (by omega) (by omega)).mono ?_; rintro e w' ⟨rfl, rfl⟩))
    go_returns
    obtain ⟨e1, e2, e3⟩ := HT.out
    exact ⟨by rw [e1, e2, e3]; exact ret4 (by omega) (by omega) (by omega) (by omega), by go_grown⟩
  · have HT : Hid ((tokAt s i).at' = i ∧ (tokAt s i).to = i + 1 ∧ (tokAt s i).v = 1) := by
      unfold Hid tokAt
      rcases hx with ⟨hx, _⟩ | ⟨hx, _⟩ <;> simp [h1, h2, hx]
    have h2' : isD s (i + 1) = false := by simpa using h2
    clear h0 h1 hx h2
    go_enter Tryd.func65, Tryd.ntmps65
    go_wp2_with (first | (go_at_call 63; refine (isDigit_any s (i+1) _ _ (by omega) (by omega) (by omega)).mono ?_; rintro e w' ⟨rfl, rfl⟩))
    go_returns
    obtain ⟨e1, e2, e3⟩ := HT.out
    exact ⟨by rw [e1, e2, e3]; exact ret4 (by omega) (by omega) (by omega) (by omega), by go_grown⟩
end Go.Proofs.YtaajdcaciofmaaaDoor
/- THE PROGRAM's TOKENS: tokenAt. -/
namespace Go.Proofs.YtaajdcaciofmaaaDoor
open Go.RowKit

theorem below_alloc {w w1 : World} {o : Obj} (h : Below (w.alloc o).heap.size (w.alloc o) w1) : Below w.heap.size w w1 :=
  ((Below.refl _ _).alloc (Nat.le_refl _) _).trans (h.mono (by simp))

theorem ret4v {a b c d a' b' c' d' : Int} (h1 : a = a') (h2 : b = b') (h3 : c = c') (h4 : d = d') : Value.agg #[.int .i64 a, .int .i64 b, .int .i64 c, .int .i64 d] = Value.agg #[.int .i64 a', .int .i64 b', .int .i64 c', .int .i64 d'] := by subst h1 h2 h3 h4; rfl

set_option maxHeartbeats 1000000 in
theorem tokenAt_any (s : ByteArray) (i : Nat) (a : Int) (w : World) (ha : a = i) (hs : s.size ≤ 1000) (hi : i ≤ s.size) :
    Calls Tryd.prog 41 #[.string s, .int .i64 a] w fun e w' => e = .returned (.agg #[.int .i64 (pk (tok s i).c), .int .i64 (tok s i).at', .int .i64 (tok s i).to, .int .i64 (tok s i).v]) ∧ Below w.heap.size w w' := by
  subst ha
  go_enter Tryd.func41, Tryd.ntmps41
  go_wp2
  go_loop [1] (fun v => ∃ k : Nat, k ≤ s.size ∧ v = .int .i64 k ∧ Hid (skip s k = skip s i)) (fun v => s.size - (intOf v).toNat)
  case atStart => exact ⟨i, hi, rfl, rfl⟩
  case round =>
    obtain ⟨k, hk, rfl, HK⟩ := hrel
    by_cases hlt : k < s.size
    · have hb := byt_cast hlt
      by_cases hsp : byt s k = 32
      · have H2 : Hid (skip s (k + 1) = skip s i) := by unfold Hid; rw [← skip_space hsp]; exact HK.out
        go_wp2
        go_round
        case rel => exact ⟨k + 1, by omega, by go_num, H2⟩
        case measure => simp [intOf]; omega
      · have HT : Hid (tok s i = tokAt s k) := by unfold Hid tok; rw [← HK.out, skip_here hsp]
        have hsm := byt_small hlt
        have hz : byt s k ≠ 256 := by omega
        by_cases hd : isD s k = true
        · have HC : Hid (pk (tokAt s k).c = 1) := by
            unfold Hid tokAt; rw [if_neg hz, if_pos hd]; split <;> rfl
          have H1 : Hid (isD s k = true) := hd
          go_wp2_with (first | (go_at_call 63; refine (isDigit_any s k _ _ (by omega) (by omega) (by omega)).mono ?_; rintro e w' ⟨rfl, rfl⟩) | (go_at_call 64; refine (numberAt_any s k _ _ (by omega) (by omega) H1.out).mono ?_; rintro e w1 ⟨rfl, hbel⟩; obtain ⟨hc1, hf1⟩ := bcell hbel))
          have hbw := below_alloc hbel
          refine bodyPost_ret (v := .agg #[.int .i64 1, .int .i64 (tokAt s k).at', .int .i64 (tokAt s k).to, .int .i64 (tokAt s k).v]) (by simp [results, Tryd.results41, go_sem, hc1]) rfl ?_
          exact ⟨by rw [HT.out]; exact ret4 (by rw [HC.out]) rfl rfl rfl, by go_grown⟩
        · have hd' : isD s k = false := by simpa using hd
          by_cases hu : byt s k = 117
          · have HC : Hid (pk (tokAt s k).c = 2) := by
              unfold Hid tokAt; rw [if_neg hz, if_neg hd, if_pos hu]; split <;> rfl
            go_wp2_with (first | (go_at_call 63; refine (isDigit_any s k _ _ (by omega) (by omega) (by omega)).mono ?_; rintro e w' ⟨rfl, rfl⟩) | (go_at_call 65; refine (powerAt_any s k _ _ _ (by omega) (by omega) hlt (by omega)).mono ?_; rintro e w1 ⟨rfl, hbel⟩; obtain ⟨hc1, hf1⟩ := bcell hbel))
            have hbw := below_alloc hbel
            refine bodyPost_ret (v := .agg #[.int .i64 2, .int .i64 (tokAt s k).at', .int .i64 (tokAt s k).to, .int .i64 (tokAt s k).v]) (by simp [results, Tryd.results41, go_sem, hc1]) rfl ?_
            exact ⟨by rw [HT.out]; exact ret4 (by rw [HC.out]) rfl rfl rfl, by go_grown⟩
          · by_cases hx : byt s k = 120
            · have HC : Hid (pk (tokAt s k).c = 3) := by
                unfold Hid tokAt; rw [if_neg hz, if_neg hd, if_neg hu, if_pos hx]; split <;> rfl
              go_wp2_with (first | (go_at_call 63; refine (isDigit_any s k _ _ (by omega) (by omega) (by omega)).mono ?_; rintro e w' ⟨rfl, rfl⟩) | (go_at_call 65; refine (powerAt_any s k _ _ _ (by omega) (by omega) hlt (by omega)).mono ?_; rintro e w1 ⟨rfl, hbel⟩; obtain ⟨hc1, hf1⟩ := bcell hbel))
              have hbw := below_alloc hbel
              refine bodyPost_ret (v := .agg #[.int .i64 3, .int .i64 (tokAt s k).at', .int .i64 (tokAt s k).to, .int .i64 (tokAt s k).v]) (by simp [results, Tryd.results41, go_sem, hc1]) rfl ?_
              exact ⟨by rw [HT.out]; exact ret4 (by rw [HC.out]) rfl rfl rfl, by go_grown⟩
            · have HC : Hid (tokAt s k = ⟨byt s k + 4, k, k + 1, 0⟩) := by
                unfold Hid tokAt; rw [if_neg hz, if_neg hd, if_neg hu, if_neg hx]
              have HP : Hid (pk (byt s k + 4) = if byt s k = 43 then 4 else if byt s k = 45 then 5 else 6) := by
                unfold Hid pk
                rw [if_neg (by omega), if_neg (by omega), if_neg (by omega), if_neg (by omega)]
                by_cases hp : byt s k = 43
                · rw [if_pos (by omega), if_pos hp]
                · rw [if_neg (by omega), if_neg hp]
                  by_cases hm : byt s k = 45
                  · rw [if_pos (by omega), if_pos hm]
                  · rw [if_neg (by omega), if_neg hm]
              by_cases hp : byt s k = 43
              · have HP' : Hid (pk (byt s k + 4) = 4) := by unfold Hid; rw [HP.out, if_pos hp]
                go_wp2_with (first | (go_at_call 63; refine (isDigit_any s k _ _ (by omega) (by omega) (by omega)).mono ?_; rintro e w' ⟨rfl, rfl⟩))
                go_returns
                exact ⟨by rw [HT.out, HC.out]; dsimp only; exact ret4 (by rw [HP'.out]) (by omega) (by omega) (by omega), by go_grown⟩
              · by_cases hm : byt s k = 45
                · have HP' : Hid (pk (byt s k + 4) = 5) := by unfold Hid; rw [HP.out, if_neg hp, if_pos hm]
                  go_wp2_with (first | (go_at_call 63; refine (isDigit_any s k _ _ (by omega) (by omega) (by omega)).mono ?_; rintro e w' ⟨rfl, rfl⟩))
                  go_returns
                  exact ⟨by rw [HT.out, HC.out]; dsimp only; exact ret4 (by rw [HP'.out]) (by omega) (by omega) (by omega), by go_grown⟩
                · have HP' : Hid (pk (byt s k + 4) = 6) := by unfold Hid; rw [HP.out, if_neg hp, if_neg hm]
                  go_wp2_with (first | (go_at_call 63; refine (isDigit_any s k _ _ (by omega) (by omega) (by omega)).mono ?_; rintro e w' ⟨rfl, rfl⟩))
                  go_returns
                  exact ⟨by rw [HT.out, HC.out]; dsimp only; exact ret4 (by rw [HP'.out]) (by omega) (by omega) (by omega), by go_grown⟩
    · have hz := byt_ge hlt
      have HT : Hid (tok s i = ⟨0, k, k, 0⟩) := by
        unfold Hid tok
        rw [← HK.out, skip_here (by omega)]; unfold tokAt; rw [if_pos hz]
      go_wp2
      go_returns
      exact ⟨by rw [HT.out]; exact ret4 rfl rfl rfl rfl, by go_grown⟩
end Go.Proofs.YtaajdcaciofmaaaDoor
/- THE FRAME: what a call leaves as it was: every old block but those that are named. -/
namespace Go.Proofs.YtaajdcaciofmaaaDoor
open Go.RowKit

/-- Every block of w but those of bs is in w' as it was. -/
structure Fr (bs : List Nat) (w w' : World) : Prop where
  os : w'.os = w.os
  tape : w'.tape = w.tape
  output : w'.output = w.output
  size : w.heap.size ≤ w'.heap.size
  block : ∀ k, k < w.heap.size → k ∉ bs → w'.heap[k]? = w.heap[k]?

theorem Fr.refl (bs : List Nat) (w : World) : Fr bs w w := ⟨rfl, rfl, rfl, Nat.le_refl _, fun _ _ _ => rfl⟩
theorem Fr.trans {bs cs : List Nat} {a b c : World} (h : Fr bs a b) (k : Fr cs b c) (hs : ∀ x ∈ cs, x ∈ bs ∨ a.heap.size ≤ x) : Fr bs a c :=
  ⟨k.os.trans h.os, k.tape.trans h.tape, k.output.trans h.output, Nat.le_trans h.size k.size, fun i hi hn => (k.block i (Nat.lt_of_lt_of_le hi h.size) (fun hc => by rcases hs i hc with g | g; exact hn g; omega)).trans (h.block i hi hn)⟩
theorem Fr.of_below {bs : List Nat} {w w' : World} (h : Below w.heap.size w w') : Fr bs w w' := ⟨h.os, h.tape, h.output, h.size, fun k hk _ => h.block k hk⟩
theorem Fr.below {bs : List Nat} {w w' : World} {B : Nat} (h : Fr bs w w') (hB : B ≤ w.heap.size) (hbs : ∀ x ∈ bs, B ≤ x) : Below B w w' :=
  ⟨h.os, h.tape, h.output, h.size, fun k hk => h.block k (by omega) (fun hc => by have := hbs k hc; omega)⟩
theorem Fr.drew {bs : List Nat} {a w : World} (h : Fr bs a w) : Fr bs a w.drew := ⟨h.os, h.tape, h.output, h.size, h.block⟩
theorem Fr.alloc {bs : List Nat} {a w : World} (h : Fr bs a w) (o : Obj) : Fr bs a (w.alloc o) :=
  ⟨h.os, h.tape, h.output, by have := h.size; simp; omega, fun k hk hn => (Below.heap_alloc _ _ _ (Nat.lt_of_lt_of_le hk h.size)).trans (h.block k hk hn)⟩
theorem Fr.setCell {bs : List Nat} {a w : World} (h : Fr bs a w) (p : Addr) (v : Value) (hp : p.block ∈ bs ∨ a.heap.size ≤ p.block) : Fr bs a (w.setCell p v) :=
  ⟨h.os, h.tape, h.output, by have := h.size; simp [World.setCell]; omega, fun k hk hn => (Below.heap_setCell _ _ _ _ (fun e => by subst e; rcases hp with g | g; exact hn g; omega)).trans (h.block k hk hn)⟩
theorem Fr.cell {bs : List Nat} {w w' : World} (h : Fr bs w w') {b : Nat} (o : Nat) (hb : b < w.heap.size) (hn : b ∉ bs) : w'.cell? ⟨b, o, none⟩ = w.cell? ⟨b, o, none⟩ := by
  simp only [World.cell?, h.block b hb hn]
theorem Fr.frozen {bs : List Nat} {w w' : World} (h : Fr bs w w') {b : Nat} (o : Nat) (hb : b < w.heap.size) (hn : b ∉ bs) : w'.frozen? ⟨b, o, none⟩ = w.frozen? ⟨b, o, none⟩ := by
  simp only [World.frozen?, h.block b hb hn]
theorem Fr.mono {bs cs : List Nat} {w w' : World} (h : Fr bs w w') (hs : ∀ x ∈ bs, x ∈ cs ∨ w.heap.size ≤ x) : Fr cs w w' :=
  ⟨h.os, h.tape, h.output, h.size, fun k hk hn => h.block k hk (fun hc => by rcases hs k hc with g | g; exact hn g; omega)⟩

theorem cell_set_off (w : World) (b o o' : Nat) (v : Value) (h : o ≠ o') : (w.setCell ⟨b, o, none⟩ v).cell? ⟨b, o', none⟩ = w.cell? ⟨b, o', none⟩ :=
  World.cell?_setCell_other w _ _ v (by intro e; exact h (by injection e))
/-- A whole block. -/
def Blk (w : World) (b : Nat) (cs : Array Value) (t : TypeId) : Prop := w.heap[b]? = some (.cells cs t (0, 0))
theorem Blk.lt {w : World} {b : Nat} {cs : Array Value} {t : TypeId} (h : Blk w b cs t) : b < w.heap.size := by
  rcases Nat.lt_or_ge b w.heap.size with g | g
  · exact g
  · unfold Blk at h; rw [Array.getElem?_eq_none g] at h; simp at h
theorem Blk.cell {w : World} {b : Nat} {cs : Array Value} {t : TypeId} (h : Blk w b cs t) (o : Nat) : w.cell? ⟨b, o, none⟩ = cs[o]? := by
  unfold Blk at h; simp [World.cell?, h]
theorem Blk.frozen {w : World} {b : Nat} {cs : Array Value} {t : TypeId} (h : Blk w b cs t) (o : Nat) : w.frozen? ⟨b, o, none⟩ = false := by
  unfold Blk at h; simp [World.frozen?, h]
theorem Blk.fr {bs : List Nat} {w w' : World} {b : Nat} {cs : Array Value} {t : TypeId} (h : Blk w b cs t) (f : Fr bs w w') (hn : b ∉ bs) : Blk w' b cs t := by
  have := h.lt
  unfold Blk at *; rw [f.block b this hn]; exact h
theorem Blk.drew {w : World} {b : Nat} {cs : Array Value} {t : TypeId} (h : Blk w b cs t) : Blk w.drew b cs t := h
theorem Blk.alloc {w : World} {b : Nat} {cs : Array Value} {t : TypeId} (h : Blk w b cs t) (o : Obj) : Blk (w.alloc o) b cs t := h.fr ((Fr.refl [] w).alloc o) (by simp)
theorem Blk.new (w : World) (cs : Array Value) (t : TypeId) : Blk (w.alloc (.cells cs t)) w.heap.size cs t := by
  show (w.heap.push _)[w.heap.size]? = _
  simp
theorem Blk.newAt (w : World) (cs : Array Value) (t : TypeId) {n : Nat} (h : w.heap.size = n) : Blk (w.alloc (.cells cs t)) n cs t := by subst h; exact Blk.new w cs t
theorem Blk.set {w : World} {b : Nat} {cs : Array Value} {t : TypeId} (h : Blk w b cs t) (o : Nat) (v : Value) : Blk (w.setCell ⟨b, o, none⟩ v) b (cs.setIfInBounds o v) t := by
  unfold Blk at *
  simp [World.setCell, Array.getElem?_modify, h]
theorem Blk.setOther {w : World} {b : Nat} {cs : Array Value} {t : TypeId} (h : Blk w b cs t) (p : Addr) (v : Value) (hn : b ≠ p.block) : Blk (w.setCell p v) b cs t := by
  unfold Blk at *; rw [Below.heap_setCell _ _ _ _ hn]; exact h
theorem Blk.store3 {w : World} {n : Nat} {x0 x1 x2 : Value} {t : TypeId} (h : Blk w n #[x0, x1, x2] t) (a b c : Value) : Blk (((w.setCell ⟨n, 0, none⟩ a).setCell ⟨n, 1, none⟩ b).setCell ⟨n, 2, none⟩ c) n #[a, b, c] t :=
  Blk.set (Blk.set (Blk.set h 0 _) 1 _) 2 _
theorem Blk.store4 {w : World} {n : Nat} {x0 x1 x2 x3 : Value} {t : TypeId} (h : Blk w n #[x0, x1, x2, x3] t) (a b c d : Value) : Blk ((((w.setCell ⟨n, 0, none⟩ a).setCell ⟨n, 1, none⟩ b).setCell ⟨n, 2, none⟩ c).setCell ⟨n, 3, none⟩ d) n #[a, b, c, d] t :=
  Blk.set (Blk.set (Blk.set (Blk.set h 0 _) 1 _) 2 _) 3 _
theorem Blk.cells3 {w : World} {n : Nat} {x0 x1 x2 : Value} {t : TypeId} (h : Blk w n #[x0, x1, x2] t) : w.cell? ⟨n, 0, none⟩ = some x0 ∧ w.cell? ⟨n, 1, none⟩ = some x1 ∧ w.cell? ⟨n, 2, none⟩ = some x2 := ⟨h.cell 0, h.cell 1, h.cell 2⟩
theorem Blk.free3 {w : World} {n : Nat} {cs : Array Value} {t : TypeId} (h : Blk w n cs t) : w.frozen? ⟨n, 0, none⟩ = false ∧ w.frozen? ⟨n, 1, none⟩ = false ∧ w.frozen? ⟨n, 2, none⟩ = false := ⟨h.frozen 0, h.frozen 1, h.frozen 2⟩
theorem ret3 {a b c a' b' c' : Int} (h1 : a = a') (h2 : b = b') (h3 : c = c') : Ending.returned (.agg #[.int .i64 a, .int .i64 b, .int .i64 c]) = Ending.returned (.agg #[.int .i64 a', .int .i64 b', .int .i64 c']) := by subst h1 h2 h3; rfl
end Go.Proofs.YtaajdcaciofmaaaDoor
/- THE PROGRAM's ARITHMETIC: Mod; the document's: modulo, raised. -/
namespace Go.Proofs.YtaajdcaciofmaaaDoor
open Go.RowKit

theorem tmod7 (n : Int) : (n.tmod 7 + 7).tmod 7 = n % 7 := by
  rcases Int.lt_or_le n 0 with h | h
  · have := Int.tmod_def n 7
    rw [Int.tmod_eq_emod_of_nonneg (by have := Int.lt_tmod_of_pos n (b := 7) (by omega); omega)]
    have e : n.tmod 7 = -((-n) % 7) := by
      have h1 : n = -(-n) := by omega
      rw [h1, Int.neg_tmod, Int.tmod_eq_emod_of_nonneg (by omega)]; simp
    rw [e]; omega
  · rw [Int.tmod_eq_emod_of_nonneg h, Int.tmod_eq_emod_of_nonneg (by omega)]; omega

theorem tmod7_bd (n : Int) : -7 < n.tmod 7 ∧ n.tmod 7 < 7 := ⟨by have := Int.lt_tmod_of_pos n (b := 7) (by omega); omega, Int.tmod_lt_of_pos n (by omega)⟩
theorem ret1 {k : IntKind} {a b : Int} (h : a = b) : Ending.returned (.int k a) = Ending.returned (.int k b) := by rw [h]

set_option maxHeartbeats 400000 in
theorem Mod_any (n : Int) (w : World) :
    Calls Tryd.prog 35 #[.int .i64 n] w fun e w' => e = .returned (.int .i64 (n % 7)) ∧ w' = w := by
  have hb := tmod7_bd n
  have ht := tmod7 n
  have HT : Hid ((n.tmod 7 + 7).tmod 7 = n % 7) := ht
  clear ht
  go_enter Tryd.func35, Tryd.ntmps35
  go_wp2
  go_ret
  exact ⟨ret1 (by rw [← HT.out]; exact (Int.tmod_eq_emod_of_nonneg (by omega)).symm), rfl⟩

set_option maxHeartbeats 400000 in
theorem modulo_any (n : Int) (w : World) :
    Calls Tryd.prog 22 #[.int .i64 n] w fun e w' => e = .returned (.int .i64 (n % 7)) ∧ w' = w := by
  have hb := tmod7_bd n
  have ht := tmod7 n
  have HT : Hid ((n.tmod 7 + 7).tmod 7 = n % 7) := ht
  clear ht
  go_enter Tryd.func22, Tryd.ntmps22
  go_wp2
  go_ret
  exact ⟨ret1 (by rw [← HT.out]; exact (Int.tmod_eq_emod_of_nonneg (by omega)).symm), rfl⟩

/-- a to the n-th, modulo 7. -/
def pw7 (a : Nat) : Nat → Nat
  | 0 => 1
  | n + 1 => pw7 a n * a % 7
theorem pw7_lt (a n : Nat) : pw7 a n < 7 := by cases n <;> simp [pw7]; omega

set_option maxHeartbeats 400000 in
theorem raised_any (a n : Nat) (A N : Int) (w : World) (hA : A = a) (hN : N = n) (ha : a < 7) (hn : n ≤ 6) :
    Calls Tryd.prog 36 #[.int .i64 A, .int .i64 N] w fun e w' => e = .returned (.int .i64 (pw7 a n)) ∧ w' = w := by
  subst hA hN
  go_enter Tryd.func36, Tryd.ntmps36
  go_wp2
  go_loop [5, 6] (fun v i => ∃ k : Nat, k ≤ n ∧ i = .int .i64 k ∧ v = .int .i64 (pw7 a k)) (fun _ i => n - (intOf i).toNat)
  case atStart => exact ⟨0, Nat.zero_le _, rfl, rfl⟩
  case round =>
    obtain ⟨k, hk, rfl, rfl⟩ := hrel
    have hp := pw7_lt a k
    have hm : (pw7 a k : Int) * a ≤ 36 := by
      have h := Nat.mul_le_mul (show pw7 a k ≤ 6 by omega) (show a ≤ 6 by omega)
      have : ((pw7 a k * a : Nat) : Int) ≤ ((6 * 6 : Nat) : Int) := by exact_mod_cast h
      rw [Int.natCast_mul] at this; omega
    have hm0 : 0 ≤ (pw7 a k : Int) * a := by
      have : (0 : Int) ≤ ((pw7 a k * a : Nat) : Int) := by omega
      rw [Int.natCast_mul] at this; omega
    have HS : Hid (((pw7 a k : Int) * a) % 7 = (pw7 a (k + 1) : Nat)) := by unfold Hid; simp [pw7]
    by_cases hlt : k < n
    · go_wp2
      go_round
      case rel => exact ⟨k + 1, by omega, by go_num, by rw [← HS.out]⟩
      case measure => simp [intOf]; omega
    · have e : k = n := by omega
      subst e
      go_wp2
      go_ret
      exact ⟨rfl, rfl⟩
end Go.Proofs.YtaajdcaciofmaaaDoor
/- PLAIN: a polynomial's text. -/
namespace Go.Proofs.YtaajdcaciofmaaaDoor

def bs (l : List UInt8) : ByteArray := ⟨l.toArray⟩
theorem bs_append (a b : List UInt8) : bs a ++ bs b = bs (a ++ b) := by
  apply ByteArray.ext
  simp [bs]
theorem bs_inj {a b : List UInt8} (h : bs a = bs b) : a = b := by
  have := congrArg (fun x : ByteArray => x.data.toList) h
  simpa [bs] using this
theorem bs_list (a : List UInt8) : (bs a).data.toList = a := rfl
def dgt (n : Nat) : UInt8 := UInt8.ofNat (48 + n)
def ptx (c : UInt8) (n : Nat) : List UInt8 := if n = 0 then [] else if n = 1 then [c] else [c, dgt n]
def pws (u x : Nat) : List UInt8 := ptx 117 u ++ ptx 120 x
def tmx (n u x : Nat) : List UInt8 := if n = 1 ∧ (u ≠ 0 ∨ x ≠ 0) then pws u x else dgt n :: pws u x
/-- The first k terms, from the top. -/
def tms (p : List Nat) : Nat → List (List UInt8)
  | 0 => []
  | k + 1 => if p.getD (34 - k) 0 = 0 then tms p k else tms p k ++ [tmx (p.getD (34 - k) 0) ((34 - k) % 7) ((34 - k) / 7)]
/-- The text so far, as the document writes it. -/
def wrt (p : List Nat) : Nat → List UInt8
  | 0 => []
  | k + 1 => if p.getD (34 - k) 0 = 0 then wrt p k else (if wrt p k = [] then [] else wrt p k ++ [43]) ++ tmx (p.getD (34 - k) 0) ((34 - k) % 7) ((34 - k) / 7)
def txt (p : List Nat) : List UInt8 := if wrt p 35 = [] then [48] else wrt p 35

theorem ptx_nil {c : UInt8} {n : Nat} : ptx c n = [] ↔ n = 0 := by
  unfold ptx; split
  · simp [*]
  · split <;> simp [*]
theorem pws_nil {u x : Nat} : pws u x = [] ↔ u = 0 ∧ x = 0 := by
  unfold pws; rw [List.append_eq_nil_iff, ptx_nil, ptx_nil]
theorem tmx_ne (n u x : Nat) : tmx n u x ≠ [] := by
  unfold tmx; split
  · rename_i h; intro q; rw [pws_nil] at q; omega
  · simp
theorem tms_ne (p : List Nat) : ∀ k, ∀ t ∈ tms p k, t ≠ []
  | 0, t, h => by simp [tms] at h
  | k + 1, t, h => by
    unfold tms at h
    split at h
    · exact tms_ne p k t h
    · rw [List.mem_append] at h
      rcases h with h | h
      · exact tms_ne p k t h
      · rw [List.mem_singleton] at h; subst h; exact tmx_ne _ _ _
theorem join_snoc (xs : List (List UInt8)) (x sep : List UInt8) (h : xs ≠ []) : Lib.join (xs ++ [x]) sep = Lib.join xs sep ++ sep ++ x := by
  cases xs with
  | nil => exact absurd rfl h
  | cons y r =>
    rw [List.cons_append, Lib.join_cons, Lib.join_cons]
    unfold Lib.joinTail
    simp [List.append_assoc]
theorem join_ne {xs : List (List UInt8)} {sep : List UInt8} (h : ∀ t ∈ xs, t ≠ []) : Lib.join xs sep = [] ↔ xs = [] := by
  cases xs with
  | nil => simp [Lib.join_nil]
  | cons y r =>
    rw [Lib.join_cons]
    have := h y (by simp)
    simp [this]
theorem wrt_join (p : List Nat) : ∀ k, wrt p k = Lib.join (tms p k) [43]
  | 0 => rfl
  | k + 1 => by
    unfold wrt tms
    split
    · exact wrt_join p k
    · rw [wrt_join p k]
      by_cases h : tms p k = []
      · rw [h]
        simp [Lib.join_nil, Lib.join_one]
      · rw [if_neg (fun q => h ((join_ne (tms_ne p k)).1 q)), join_snoc _ _ _ h]
theorem txt_join (p : List Nat) (h : tms p 35 ≠ []) : txt p = Lib.join (tms p 35) [43] := by
  unfold txt; rw [if_neg (by rw [wrt_join]; exact fun q => h ((join_ne (tms_ne p 35)).1 q)), wrt_join]
theorem tms_nil (p : List Nat) : ∀ k, k ≤ 35 → (tms p k = [] ↔ ∀ j, j < k → p.getD (34 - j) 0 = 0)
  | 0, _ => by simp [tms]
  | k + 1, hk => by
    unfold tms
    have ih := tms_nil p k (by omega)
    split
    · rename_i h
      rw [ih]
      constructor
      · intro q j hj
        by_cases e : j = k
        · subst e; exact h
        · exact q j (by omega)
      · intro q j hj; exact q j (by omega)
    · rename_i h
      constructor
      · intro q; simp at q
      · intro q; exact absurd (q k (by omega)) h
theorem txt_zero (p : List Nat) (h : tms p 35 = []) : txt p = [48] := by
  unfold txt; rw [wrt_join, h]; rfl
theorem good_zeros {p : List Nat} (hp : Good p) : tms p 35 = [] ↔ p = zeros := by
  rw [tms_nil p 35 (Nat.le_refl _)]
  constructor
  · intro q
    apply List.ext_getElem
    · rw [hp.1]; rfl
    · intro i h1 h2
      have e := q (34 - i) (by rw [hp.1] at h1; omega)
      rw [show 34 - (34 - i) = i by rw [hp.1] at h1; omega] at e
      rw [List.getD_eq_getElem?_getD, List.getElem?_eq_getElem h1] at e
      simp only [Option.getD_some] at e
      rw [e]
      unfold zeros at h2 ⊢
      rw [List.getElem_replicate]
  · intro q j hj
    subst q
    unfold zeros
    rw [List.getD_eq_getElem?_getD, List.getElem?_replicate]
    split <;> rfl
theorem tmx_len (n u x : Nat) : (tmx n u x).length ≤ 5 := by
  have h : ∀ c m, (ptx c m).length ≤ 2 := by
    intro c m; unfold ptx; split
    · simp
    · split <;> simp
  have h1 := h 117 u
  have h2 := h 120 x
  unfold tmx pws
  split <;> simp <;> omega
theorem tms_len (p : List Nat) : ∀ k, (tms p k).length ≤ k
  | 0 => by simp [tms]
  | k + 1 => by
    have := tms_len p k
    unfold tms; split
    · omega
    · simp; omega
theorem wrt_len (p : List Nat) : ∀ k, (wrt p k).length ≤ 6 * k
  | 0 => by simp [wrt]
  | k + 1 => by
    have := wrt_len p k
    have := tmx_len (p.getD (34 - k) 0) ((34 - k) % 7) ((34 - k) / 7)
    unfold wrt; split
    · omega
    · split <;> simp only [List.length_append, List.length_cons, List.length_nil] <;> omega
theorem dec_small {n : Nat} (h : n < 10) : Lib.decDigits n = [dgt n] := by
  match n, h with
  | 0, _ => decide +kernel
  | 1, _ => decide +kernel
  | 2, _ => decide +kernel
  | 3, _ => decide +kernel
  | 4, _ => decide +kernel
  | 5, _ => decide +kernel
  | 6, _ => decide +kernel
  | 7, _ => decide +kernel
  | 8, _ => decide +kernel
  | 9, _ => decide +kernel
theorem dgt_int {n : Nat} (h : n < 10) : ((dgt n).toNat : Int) = 48 + (n : Int) := by
  unfold dgt
  rw [UInt8.toNat_ofNat']
  omega
end Go.Proofs.YtaajdcaciofmaaaDoor
/- PLAIN: what is written is read back: tokens at a place of the text. -/
namespace Go.Proofs.YtaajdcaciofmaaaDoor

/-- From byte i on the text is R. -/
def Sfx (s : ByteArray) (i : Nat) (R : List UInt8) : Prop := s.data.toList.drop i = R ∧ i ≤ s.size
theorem Sfx.len {s : ByteArray} {i : Nat} {R : List UInt8} (h : Sfx s i R) : i + R.length = s.size := by
  have e := congrArg List.length h.1
  rw [List.length_drop] at e
  have : s.data.toList.length = s.size := by rw [Array.length_toList]; rfl
  have := h.2
  omega
theorem Sfx.cons {s : ByteArray} {i : Nat} {c : UInt8} {R : List UInt8} (h : Sfx s i (c :: R)) : byt s i = c.toNat ∧ Sfx s (i + 1) R := by
  have hl := h.len
  simp only [List.length_cons] at hl
  have hi : i < s.size := by omega
  have h1 := congrArg (fun l : List UInt8 => l[0]?) h.1
  have h2 := congrArg (fun l : List UInt8 => l.drop 1) h.1
  simp only [List.getElem?_drop, Nat.add_zero, List.getElem?_cons_zero] at h1
  simp only [List.drop_drop, List.drop_succ_cons, List.drop_zero] at h2
  refine ⟨?_, h2, by omega⟩
  rw [byt_lt hi]
  have : s.data.toList[i]? = some (s[i]'hi) := by
    rw [Array.getElem?_toList, Array.getElem?_eq_getElem hi]; rfl
  rw [this] at h1
  rw [Option.some.inj h1]
theorem Sfx.nil {s : ByteArray} {i : Nat} (h : Sfx s i []) : byt s i = 256 := by
  have hl := h.len
  simp only [List.length_nil] at hl
  exact byt_ge (by omega)
/-- No digit ahead. -/
def nd : List UInt8 → Prop
  | [] => True
  | c :: _ => ¬ (48 ≤ c.toNat ∧ c.toNat ≤ 57)
theorem Sfx.noD {s : ByteArray} {i : Nat} {R : List UInt8} (h : Sfx s i R) (hn : nd R) : isD s i = false := by
  cases R with
  | nil => have := h.nil; simp [isD, this]
  | cons c R =>
    have := h.cons.1
    unfold nd at hn
    simp only [isD, this, Bool.and_eq_false_iff, decide_eq_false_iff_not]
    omega
theorem tok_num {s : ByteArray} {i : Nat} {d : UInt8} {R : List UInt8} (h : Sfx s i (d :: R)) (h0 : 48 ≤ d.toNat) (h9 : d.toNat ≤ 57) (hn : nd R) : tok s i = ⟨1, i, i + 1, d.toNat - 48⟩ := by
  obtain ⟨hb, hs⟩ := h.cons
  have hd : isD s i = true := by rw [isD_iff]; omega
  unfold tok
  rw [skip_here (by omega)]
  unfold tokAt
  rw [if_neg (by omega), if_pos hd, hs.noD hn, if_neg (by simp), hb]
theorem tok_u1 {s : ByteArray} {i : Nat} {R : List UInt8} (h : Sfx s i (117 :: R)) (hn : nd R) : tok s i = ⟨2, i, i + 1, 1⟩ := by
  obtain ⟨hb, hs⟩ := h.cons
  have hb' : byt s i = 117 := hb
  have hd : ¬ isD s i = true := by rw [isD_iff]; omega
  unfold tok
  rw [skip_here (by omega)]
  unfold tokAt
  rw [if_neg (by omega), if_neg hd, if_pos hb', hs.noD hn, if_neg (by simp)]
theorem tok_u2 {s : ByteArray} {i : Nat} {d : UInt8} {R : List UInt8} (h : Sfx s i (117 :: d :: R)) (h0 : 48 ≤ d.toNat) (h9 : d.toNat ≤ 57) : tok s i = ⟨2, i, i + 2, d.toNat - 48⟩ := by
  obtain ⟨hb, hs⟩ := h.cons
  obtain ⟨hb2, _⟩ := hs.cons
  have hb' : byt s i = 117 := hb
  have hd : ¬ isD s i = true := by rw [isD_iff]; omega
  have hd2 : isD s (i + 1) = true := by rw [isD_iff]; omega
  unfold tok
  rw [skip_here (by omega)]
  unfold tokAt
  rw [if_neg (by omega), if_neg hd, if_pos hb', if_pos hd2, hb2]
theorem tok_x1 {s : ByteArray} {i : Nat} {R : List UInt8} (h : Sfx s i (120 :: R)) (hn : nd R) : tok s i = ⟨3, i, i + 1, 1⟩ := by
  obtain ⟨hb, hs⟩ := h.cons
  have hb' : byt s i = 120 := hb
  have hd : ¬ isD s i = true := by rw [isD_iff]; omega
  unfold tok
  rw [skip_here (by omega)]
  unfold tokAt
  rw [if_neg (by omega), if_neg hd, if_neg (by omega), if_pos hb', hs.noD hn, if_neg (by simp)]
theorem tok_x2 {s : ByteArray} {i : Nat} {d : UInt8} {R : List UInt8} (h : Sfx s i (120 :: d :: R)) (h0 : 48 ≤ d.toNat) (h9 : d.toNat ≤ 57) : tok s i = ⟨3, i, i + 2, d.toNat - 48⟩ := by
  obtain ⟨hb, hs⟩ := h.cons
  obtain ⟨hb2, _⟩ := hs.cons
  have hb' : byt s i = 120 := hb
  have hd : ¬ isD s i = true := by rw [isD_iff]; omega
  have hd2 : isD s (i + 1) = true := by rw [isD_iff]; omega
  unfold tok
  rw [skip_here (by omega)]
  unfold tokAt
  rw [if_neg (by omega), if_neg hd, if_neg (by omega), if_pos hb', if_pos hd2, hb2]
theorem tok_plus {s : ByteArray} {i : Nat} {R : List UInt8} (h : Sfx s i (43 :: R)) : tok s i = ⟨47, i, i + 1, 0⟩ := by
  obtain ⟨hb, hs⟩ := h.cons
  have hb' : byt s i = 43 := hb
  have hd : ¬ isD s i = true := by rw [isD_iff]; omega
  unfold tok
  rw [skip_here (by omega)]
  unfold tokAt
  rw [if_neg (by omega), if_neg hd, if_neg (by omega), if_neg (by omega), hb']
theorem tok_end {s : ByteArray} {i : Nat} (h : Sfx s i []) : tok s i = ⟨0, i, i, 0⟩ := by
  have hb := h.nil
  unfold tok
  rw [skip_here (by omega)]
  unfold tokAt
  rw [if_pos hb]

/-- Token k begins at i, where the text is R. -/
def TAt (s : ByteArray) (k i : Nat) (R : List UInt8) : Prop := pos s 0 k = i ∧ k ≤ i ∧ Sfx s i R
theorem TAt.next {s : ByteArray} {k i j : Nat} {R R' : List UInt8} {c a v : Nat} (h : TAt s k i R) (ht : tok s i = ⟨c, a, j, v⟩) (hj : i < j) (hs : Sfx s j R') : TAt s (k + 1) j R' := by
  refine ⟨?_, by have := h.2.1; omega, hs⟩
  show (tok s (pos s 0 k)).to = j
  rw [h.1, ht]
theorem TAt.tk {s : ByteArray} {k i : Nat} {R : List UInt8} (h : TAt s k i R) : tk s 0 k = tok s i := by unfold Go.Proofs.YtaajdcaciofmaaaDoor.tk; rw [h.1]
theorem dgt_nat {n : Nat} (h : n < 10) : (dgt n).toNat = 48 + n := by have := dgt_int h; omega
end Go.Proofs.YtaajdcaciofmaaaDoor
/- PLAIN: what is written is read back: powers, terms, the whole text. -/
namespace Go.Proofs.YtaajdcaciofmaaaDoor

/-- A term ends here. -/
def stp : List UInt8 → Prop
  | [] => True
  | c :: _ => c = 43
theorem stp_nd {R : List UInt8} (h : stp R) : nd R := by
  cases R with
  | nil => trivial
  | cons c R => unfold stp at h; subst h; exact (by decide : ¬ (48 ≤ (43 : UInt8).toNat ∧ (43 : UInt8).toNat ≤ 57))
theorem TAt.stp {s : ByteArray} {k i : Nat} {R : List UInt8} (h : TAt s k i R) (hs : stp R) : (Go.Proofs.YtaajdcaciofmaaaDoor.tk s 0 k).c ≠ 2 ∧ (Go.Proofs.YtaajdcaciofmaaaDoor.tk s 0 k).c ≠ 3 ∧ (Go.Proofs.YtaajdcaciofmaaaDoor.tk s 0 k).c ≠ 1 ∧ ((Go.Proofs.YtaajdcaciofmaaaDoor.tk s 0 k).c = 47 ↔ R ≠ []) ∧ (Go.Proofs.YtaajdcaciofmaaaDoor.tk s 0 k).c ≠ 49 ∧ ((Go.Proofs.YtaajdcaciofmaaaDoor.tk s 0 k).c = 0 ↔ R = []) := by
  rw [h.tk]
  cases R with
  | nil => rw [tok_end h.2.2]; simp
  | cons c R => unfold Go.Proofs.YtaajdcaciofmaaaDoor.stp at hs; subst hs; rw [tok_plus h.2.2]; simp
theorem nd_ptx {c : UInt8} {n : Nat} {R : List UInt8} (hc : ¬ (48 ≤ c.toNat ∧ c.toNat ≤ 57)) (h : nd R) : nd (ptx c n ++ R) := by
  unfold ptx
  split
  · exact h
  · split <;> exact hc
theorem pwx {s : ByteArray} {k i x u m : Nat} {R : List UInt8} (h : TAt s k i (ptx 120 x ++ R)) (hs : stp R) (hx : x ≤ 4) (hm : (ptx 120 x).length ≤ m) :
    ∃ k', pw (tk s 0) false m k u 0 = ⟨0, 0, k', u, x⟩ ∧ TAt s k' (i + (ptx 120 x).length) R := by
  unfold ptx at *
  by_cases h0 : x = 0
  · subst h0
    simp only [if_true, List.nil_append, List.length_nil, Nat.add_zero] at *
    obtain ⟨a, b, _⟩ := h.stp hs
    exact ⟨k, pw_end a b, h⟩
  · rw [if_neg h0] at *
    by_cases h1 : x = 1
    · subst h1
      simp only [if_true, List.cons_append, List.nil_append, List.length_cons, List.length_nil, Nat.zero_add] at *
      have ht := tok_x1 h.2.2 (stp_nd hs)
      have hn := h.next ht (by omega) h.2.2.cons.2
      obtain ⟨a, b, _⟩ := hn.stp hs
      refine ⟨k + 1, ?_, hn⟩
      rw [pw_x (by omega) (by rw [h.tk, ht]) (by rw [h.tk, ht]; omega), h.tk, ht]
      exact pw_end a b
    · rw [if_neg h1] at *
      simp only [List.cons_append, List.nil_append, List.length_cons, List.length_nil] at *
      have hd := dgt_nat (n := x) (by omega)
      have ht := tok_x2 h.2.2 (by omega) (by omega)
      have hn := h.next ht (by omega) h.2.2.cons.2.cons.2
      obtain ⟨a, b, _⟩ := hn.stp hs
      refine ⟨k + 1, ?_, hn⟩
      have e : (dgt x).toNat - 48 = x := by omega
      rw [e] at ht
      rw [pw_x (by omega) (by rw [h.tk, ht]) (by rw [h.tk, ht]; show 0 + x ≤ 4; omega), h.tk, ht]
      show pw (tk s 0) false (m - 1) (k + 1) u (0 + x) = _
      rw [Nat.zero_add]
      exact pw_end a b
theorem pwu {s : ByteArray} {k i u x m : Nat} {R : List UInt8} (h : TAt s k i (pws u x ++ R)) (hs : stp R) (hu : u ≤ 6) (hx : x ≤ 4) (hm : (pws u x).length ≤ m) :
    ∃ k', pw (tk s 0) false m k 0 0 = ⟨0, 0, k', u, x⟩ ∧ TAt s k' (i + (pws u x).length) R := by
  have hnx : nd (ptx 120 x ++ R) := nd_ptx (by decide) (stp_nd hs)
  unfold pws at *
  rw [List.append_assoc] at h
  rw [List.length_append] at *
  generalize hpx : ptx 120 x = P at *
  unfold ptx at h hm ⊢
  by_cases h0 : u = 0
  · subst h0
    simp only [if_true, List.nil_append, List.length_nil, Nat.zero_add] at *
    subst hpx
    exact pwx h hs hx hm
  · rw [if_neg h0] at *
    by_cases h1 : u = 1
    · subst h1
      simp only [if_true, List.cons_append, List.nil_append, List.length_cons, List.length_nil, Nat.zero_add] at *
      have ht := tok_u1 h.2.2 hnx
      have hn := h.next ht (by omega) h.2.2.cons.2
      subst hpx
      obtain ⟨k', e, ha⟩ := pwx (u := 1) (m := m - 1) hn hs hx (by omega)
      refine ⟨k', ?_, by rw [← Nat.add_assoc]; exact ha⟩
      rw [pw_u (by omega) (by rw [h.tk, ht]) (by rw [h.tk, ht]; omega), h.tk, ht]
      exact e
    · rw [if_neg h1] at *
      simp only [List.cons_append, List.nil_append, List.length_cons, List.length_nil] at *
      have hd := dgt_nat (n := u) (by omega)
      have ht := tok_u2 h.2.2 (by omega) (by omega)
      have hn := h.next ht (by omega) h.2.2.cons.2.cons.2
      have e' : (dgt u).toNat - 48 = u := by omega
      rw [e'] at ht
      subst hpx
      obtain ⟨k', e, ha⟩ := pwx (u := u) (m := m - 1) hn hs hx (by omega)
      refine ⟨k', ?_, by rw [← Nat.add_assoc]; exact ha⟩
      rw [pw_u (by omega) (by rw [h.tk, ht]) (by rw [h.tk, ht]; show 0 + u ≤ 6; omega), h.tk, ht]
      show pw (tk s 0) false (m - 1) (k + 1) (0 + u) 0 = _
      rw [Nat.zero_add]
      exact e
end Go.Proofs.YtaajdcaciofmaaaDoor
/- PLAIN: what is written is read back: terms, the whole text. -/
namespace Go.Proofs.YtaajdcaciofmaaaDoor

/-- The first token of powers. -/
theorem pws_first {s : ByteArray} {k i u x : Nat} {R : List UInt8} (h : TAt s k i (pws u x ++ R)) (hs : stp R) (hne : u ≠ 0 ∨ x ≠ 0) (hu : u ≤ 6) (hx : x ≤ 4) : (tk s 0 k).c = 2 ∨ (tk s 0 k).c = 3 := by
  have hnx : nd (ptx 120 x ++ R) := nd_ptx (by decide) (stp_nd hs)
  rw [h.tk]
  unfold pws at h
  rw [List.append_assoc] at h
  by_cases h0 : u = 0
  · subst h0
    have e : ptx 117 0 = [] := rfl
    rw [e, List.nil_append] at h
    by_cases h1 : x = 1
    · subst h1
      right; rw [tok_x1 h.2.2 (stp_nd hs)]
    · have e : ptx 120 x = [120, dgt x] := by unfold ptx; rw [if_neg (by omega), if_neg h1]
      rw [e] at h
      have hd := dgt_nat (n := x) (by omega)
      right; rw [tok_x2 h.2.2 (by omega) (by omega)]
  · by_cases h1 : u = 1
    · subst h1
      left; rw [tok_u1 h.2.2 hnx]
    · have e : ptx 117 u = [117, dgt u] := by unfold ptx; rw [if_neg (by omega), if_neg h1]
      rw [e] at h
      have hd := dgt_nat (n := u) (by omega)
      left; rw [tok_u2 h.2.2 (by omega) (by omega)]
theorem tm_read {s : ByteArray} {k i n u x N : Nat} {R : List UInt8} (h : TAt s k i (tmx n u x ++ R)) (hs : stp R) (hn : n < 7) (hu : u ≤ 6) (hx : x ≤ 4) (hN : (tmx n u x).length ≤ N - k) :
    ∃ k', tm (tk s 0) false N k = ⟨0, 0, k', n, u, x⟩ ∧ TAt s k' (i + (tmx n u x).length) R := by
  by_cases hc : n = 1 ∧ (u ≠ 0 ∨ x ≠ 0)
  · have e : tmx n u x = pws u x := by unfold tmx; rw [if_pos hc]
    rw [e] at h hN ⊢
    obtain ⟨k', e1, ha⟩ := pwu (m := N - k) h hs hu hx hN
    have hf := pws_first h hs hc.2 hu hx
    refine ⟨k', ?_, ha⟩
    unfold tm
    rw [if_neg (by omega), if_pos hf, e1, hc.1]
  · have e : tmx n u x = dgt n :: pws u x := by unfold tmx; rw [if_neg hc]
    rw [e] at h hN ⊢
    rw [List.cons_append] at h
    rw [List.length_cons] at hN ⊢
    have hd := dgt_nat (n := n) (by omega)
    have hnd : nd (pws u x ++ R) := by
      unfold pws; rw [List.append_assoc]
      exact nd_ptx (by decide) (nd_ptx (by decide) (stp_nd hs))
    have ht := tok_num h.2.2 (by omega) (by omega) hnd
    have hnx := h.next ht (by omega) h.2.2.cons.2
    obtain ⟨k', e1, ha⟩ := pwu (m := N - (k + 1)) hnx hs hu hx (by omega)
    refine ⟨k', ?_, by rw [show i + ((pws u x).length + 1) = i + 1 + (pws u x).length by omega]; exact ha⟩
    unfold tm
    have hc1 : (tk s 0 k).c = 1 := by rw [h.tk, ht]
    have hv : (tk s 0 k).v = n := by rw [h.tk, ht]; show (dgt n).toNat - 48 = n; omega
    rw [if_pos hc1, e1, hv]

def tm3 (t : Nat × Nat × Nat) : List UInt8 := tmx t.1 t.2.1 t.2.2
def add3 (q : List Nat) (t : Nat × Nat × Nat) : List Nat := plus q t.2.1 t.2.2 (1 * t.1)
def ok3 (t : Nat × Nat × Nat) : Prop := t.1 < 7 ∧ t.2.1 ≤ 6 ∧ t.2.2 ≤ 4
theorem pl_read {s : ByteArray} : ∀ (ts : List (Nat × Nat × Nat)) (q : List Nat) (m k i : Nat), ts ≠ [] → (∀ t ∈ ts, ok3 t) → TAt s k i (Lib.join (ts.map tm3) [43]) → s.size + 1 ≤ m + i →
    ∃ k', pl (tk s 0) false s.size m k 1 q = ⟨0, 0, k', ts.foldl add3 q⟩ ∧ TAt s k' s.size [] := by
  intro ts
  induction ts with
  | nil => intro q m k i h; exact absurd rfl h
  | cons t r ih =>
    intro q m k i _ hok h hm
    obtain ⟨h1, h2, h3⟩ := hok t (by simp)
    have hlen := h.2.2.len
    have hk := h.2.1
    obtain ⟨m, rfl⟩ : ∃ m', m = m' + 1 := ⟨m - 1, by omega⟩
    cases r with
    | nil =>
      have e : Lib.join ([t].map tm3) [43] = tmx t.1 t.2.1 t.2.2 ++ [] := by
        rw [List.append_nil]; exact Lib.join_one _ _
      rw [e] at h hlen
      rw [List.length_append] at hlen
      obtain ⟨k', e1, ha⟩ := tm_read (N := s.size) h trivial h1 h2 h3 (by simp only [List.length_nil] at hlen; omega)
      have hz := ha.stp trivial
      refine ⟨k', ?_, by simp only [List.length_nil] at hlen; rw [← hlen]; exact ha⟩
      rw [pl, e1]
      simp only [if_true]
      rw [if_neg (fun q => hz.2.2.2.1.1 q rfl), if_neg hz.2.2.2.2.1]
      rfl
    | cons t2 r2 =>
      have e : Lib.join ((t :: t2 :: r2).map tm3) [43] = tmx t.1 t.2.1 t.2.2 ++ (43 :: Lib.join ((t2 :: r2).map tm3) [43]) := by
        rw [List.map_cons, Lib.join_cons, List.map_cons, Lib.join_cons]
        simp [Lib.joinTail, tm3]
      rw [e] at h hlen
      rw [List.length_append, List.length_cons] at hlen
      obtain ⟨k', e1, ha⟩ := tm_read (N := s.size) h rfl h1 h2 h3 (by omega)
      have hp := ha.tk
      rw [tok_plus ha.2.2] at hp
      have hnx := ha.next (tok_plus ha.2.2) (by omega) ha.2.2.cons.2
      obtain ⟨k2, e2, hb⟩ := ih (plus q t.2.1 t.2.2 (1 * t.1)) m (k' + 1) _ (by simp) (fun y hy => hok y (by simp [hy])) hnx (by
        have : 0 < (tmx t.1 t.2.1 t.2.2).length := List.length_pos_iff.2 (tmx_ne _ _ _)
        omega)
      refine ⟨k2, ?_, hb⟩
      rw [pl, e1]
      simp only [if_true]
      rw [if_pos (by rw [hp]), e2]
      rfl

/-- The terms of p, from the top. -/
def trips (p : List Nat) : Nat → List (Nat × Nat × Nat)
  | 0 => []
  | k + 1 => if p.getD (34 - k) 0 = 0 then trips p k else trips p k ++ [(p.getD (34 - k) 0, (34 - k) % 7, (34 - k) / 7)]
theorem trips_tms (p : List Nat) : ∀ k, tms p k = (trips p k).map tm3
  | 0 => rfl
  | k + 1 => by
    unfold tms trips
    split
    · exact trips_tms p k
    · rw [trips_tms p k, List.map_append]; rfl
theorem trips_ok {p : List Nat} (hp : Good p) : ∀ k, ∀ t ∈ trips p k, ok3 t
  | 0, t, h => by simp [trips] at h
  | k + 1, t, h => by
    unfold trips at h
    split at h
    · exact trips_ok hp k t h
    · rw [List.mem_append] at h
      rcases h with h | h
      · exact trips_ok hp k t h
      · rw [List.mem_singleton] at h; subst h
        refine ⟨hp.2 _, ?_, ?_⟩ <;> simp only <;> omega
theorem getD_set (q : List Nat) (i j v : Nat) (h : i < q.length) : (q.set i v).getD j 0 = if i = j then v else q.getD j 0 := by
  simp only [List.getD_eq_getElem?_getD, List.getElem?_set]
  split
  · rfl
  · rfl
theorem trips_fold {p : List Nat} (hp : Good p) : ∀ k, k ≤ 35 → ((trips p k).foldl add3 zeros).length = 35 ∧ ∀ c, c < 35 → ((trips p k).foldl add3 zeros).getD c 0 = if 34 < c + k then p.getD c 0 else 0
  | 0, _ => by
    refine ⟨rfl, fun c hc => ?_⟩
    rw [if_neg (by omega)]
    show zeros.getD c 0 = 0
    unfold zeros; rw [List.getD_eq_getElem?_getD, List.getElem?_replicate]; split <;> rfl
  | k + 1, hk => by
    obtain ⟨ih1, ih2⟩ := trips_fold hp k (by omega)
    unfold trips
    split
    · rename_i h
      refine ⟨ih1, fun c hc => ?_⟩
      rw [ih2 c hc]
      by_cases hcc : c = 34 - k
      · subst hcc; rw [if_neg (by omega), if_pos (by omega), h]
      · by_cases h' : 34 < c + k
        · rw [if_pos h', if_pos (by omega)]
        · rw [if_neg h', if_neg (by omega)]
    · rw [List.foldl_append]
      simp only [List.foldl_cons, List.foldl_nil, add3, plus]
      generalize (trips p k).foldl add3 zeros = Q at *
      have hidx : 7 * ((34 - k) / 7) + (34 - k) % 7 = 34 - k := by omega
      rw [hidx]
      have h0 : Q.getD (34 - k) 0 = 0 := by rw [ih2 _ (by omega), if_neg (by omega)]
      have hv := hp.2 (34 - k)
      refine ⟨by rw [List.length_set]; exact ih1, fun c hc => ?_⟩
      rw [getD_set _ _ _ _ (by omega), h0]
      by_cases hcc : 34 - k = c
      · rw [if_pos hcc, if_pos (by omega), ← hcc]; omega
      · rw [if_neg hcc, ih2 c hc]
        by_cases h' : 34 < c + k
        · rw [if_pos h', if_pos (by omega)]
        · rw [if_neg h', if_neg (by omega)]
theorem trips_all {p : List Nat} (hp : Good p) : (trips p 35).foldl add3 zeros = p := by
  obtain ⟨h1, h2⟩ := trips_fold hp 35 (Nat.le_refl _)
  apply List.ext_getElem
  · rw [h1, hp.1]
  · intro c g1 g2
    have := h2 c (by omega)
    rw [if_pos (by omega), List.getD_eq_getElem?_getD, List.getD_eq_getElem?_getD, List.getElem?_eq_getElem g1, List.getElem?_eq_getElem g2] at this
    simpa using this

/-- WHAT IS WRITTEN IS READ BACK. -/
theorem round_trip {p : List Nat} (hp : Good p) (hl : (txt p).length ≤ 90) : rd (bs (txt p)) = ⟨0, 0, p⟩ := by
  by_cases hz : tms p 35 = []
  · rw [txt_zero p hz, (good_zeros hp).1 hz]
    kernel_rfl
  · have hsz : (bs (txt p)).size = (txt p).length := by rw [ByteArray.size]; simp [bs]
    have hts : trips p 35 ≠ [] := fun q => hz (by rw [trips_tms, q]; rfl)
    have hat : TAt (bs (txt p)) 0 0 (Lib.join ((trips p 35).map tm3) [43]) := by
      refine ⟨rfl, Nat.le_refl _, ?_, Nat.zero_le _⟩
      rw [← trips_tms, ← txt_join p hz]; rfl
    obtain ⟨k', e, ha⟩ := pl_read (trips p 35) zeros ((bs (txt p)).size + 1) 0 0 hts (trips_ok hp 35) hat (by omega)
    rw [trips_all hp] at e
    have hend := ha.stp trivial
    have h49 : (tk (bs (txt p)) 0 0).c ≠ 49 := by
      intro q
      have e4 : (tm (tk (bs (txt p)) 0) false (bs (txt p)).size 0).e = 4 := by unfold tm; rw [if_neg (by omega), if_neg (by omega)]
      have e5 : (pl (tk (bs (txt p)) 0) false (bs (txt p)).size ((bs (txt p)).size + 1) 0 1 zeros).e = 4 := by rw [pl, if_neg (by omega)]; exact e4
      rw [e] at e5
      exact absurd e5 (by simp)
    have hpoly : poly (tk (bs (txt p)) 0) false (bs (txt p)).size 0 = ⟨0, 0, k', p⟩ := by
      unfold poly; rw [if_neg h49, e]
    unfold rd
    rw [if_neg (by omega), hpoly]
    simp only [if_true]
    rw [if_pos (hend.2.2.2.2.2.2 rfl)]
end Go.Proofs.YtaajdcaciofmaaaDoor
/- PLAIN: what a polynomial comes to: from the top (the program), by powers (the document). -/
namespace Go.Proofs.YtaajdcaciofmaaaDoor

/-- From the top, k of n numbers. -/
def horn (c : Nat → Nat) (n u : Nat) : Nat → Nat
  | 0 => 0
  | k + 1 => (horn c n u k * u + c (n - 1 - k)) % 7
/-- By powers, k numbers. -/
def pows (c : Nat → Nat) (u : Nat) : Nat → Nat
  | 0 => 0
  | k + 1 => (pows c u k + c k * pw7 u k) % 7
theorem horn_lt (c : Nat → Nat) (n u k : Nat) : horn c n u k < 7 := by cases k <;> simp [horn]; omega
theorem pows_lt (c : Nat → Nat) (u k : Nat) : pows c u k < 7 := by cases k <;> simp [pows]; omega

/-- The sum itself. -/
def sumI (c : Nat → Nat) (u : Nat) : Nat → Nat
  | 0 => 0
  | k + 1 => sumI c u k + c k * u ^ k
theorem sumI_front (u : Nat) : ∀ (k : Nat) (c : Nat → Nat), sumI c u (k + 1) = c 0 + u * sumI (fun j => c (j + 1)) u k
  | 0, c => by simp [sumI]
  | k + 1, c => by
    rw [sumI, sumI_front u k c, sumI, Nat.mul_add, ← Nat.add_assoc]
    congr 1
    rw [Nat.pow_succ, Nat.mul_comm (u ^ k) u, ← Nat.mul_assoc, ← Nat.mul_assoc, Nat.mul_comm (c (k + 1)) u]
theorem pw7_pow (u : Nat) : ∀ k, pw7 u k = u ^ k % 7
  | 0 => rfl
  | k + 1 => by rw [pw7, pw7_pow u k, Nat.pow_succ, Nat.mod_mul_mod]
theorem pows_sum (c : Nat → Nat) (u : Nat) : ∀ k, pows c u k = sumI c u k % 7
  | 0 => rfl
  | k + 1 => by
    rw [pows, pows_sum c u k, pw7_pow, sumI]
    rw [Nat.add_mod (sumI c u k % 7), Nat.mod_mod, Nat.mul_mod_mod, ← Nat.add_mod]
theorem horn_sum (c : Nat → Nat) (n u : Nat) : ∀ k, k ≤ n → horn c n u k = sumI (fun j => c (n - k + j)) u k % 7
  | 0, _ => rfl
  | k + 1, h => by
    rw [horn, horn_sum c n u k (by omega), sumI_front]
    have e : (fun j => c (n - (k + 1) + (j + 1))) = fun j => c (n - k + j) := by
      funext j; congr 1; omega
    rw [e, show n - (k + 1) + 0 = n - 1 - k by omega, Nat.add_mod, Nat.mod_mul_mod, ← Nat.add_mod, Nat.add_comm, Nat.mul_comm u]
theorem horn_pows (c : Nat → Nat) (n u : Nat) : horn c n u n = pows c u n := by
  rw [horn_sum c n u n (Nat.le_refl _), pows_sum]
  congr 1
  have e : (fun j => c (n - n + j)) = c := by funext j; congr 1; omega
  rw [e]

/-- What the polynomial p comes to. -/
def valP (p : List Nat) (u x : Nat) : Nat := horn (fun i => horn (fun j => p.getD (i * 7 + j) 0) 7 u 7) 5 x 5
def lineR (p : List Nat) (u : Nat) : List Nat := [pows (fun j => p.getD (0 * 7 + j) 0) u 7, pows (fun j => p.getD (1 * 7 + j) 0) u 7, pows (fun j => p.getD (2 * 7 + j) 0) u 7, pows (fun j => p.getD (3 * 7 + j) 0) u 7, pows (fun j => p.getD (4 * 7 + j) 0) u 7]
def valL (l : List Nat) (x : Nat) : Nat := pows (fun i => l.getD i 0) x 5
theorem pows_congr {c d : Nat → Nat} {u : Nat} : ∀ k, (∀ j, j < k → c j = d j) → pows c u k = pows d u k
  | 0, _ => rfl
  | k + 1, h => by rw [pows, pows, pows_congr k (fun j hj => h j (by omega)), h k (by omega)]
theorem lineR_get (p : List Nat) (u i : Nat) (h : i < 5) : (lineR p u).getD i 0 = pows (fun j => p.getD (i * 7 + j) 0) u 7 := by
  match i, h with
  | 0, _ => rfl
  | 1, _ => rfl
  | 2, _ => rfl
  | 3, _ => rfl
  | 4, _ => rfl
theorem val_same (p : List Nat) (u x : Nat) : valL (lineR p u) x = valP p u x := by
  unfold valP valL
  rw [horn_pows]
  exact pows_congr 5 (fun i hi => by rw [lineR_get p u i hi, horn_pows])
end Go.Proofs.YtaajdcaciofmaaaDoor
/- PLAIN, FOR SUMS: what a polynomial comes to is additive; terms with signs, added cell by cell. -/
namespace Go.Proofs.YtaajdcaciofmaaaDoor

theorem pows_add {a b c : Nat → Nat} (u : Nat) : ∀ k, (∀ j, j < k → c j % 7 = (a j + b j) % 7) → pows c u k = (pows a u k + pows b u k) % 7
  | 0, _ => rfl
  | k + 1, h => by
    have ih := pows_add u k (fun j hj => h j (by omega))
    have hk := h k (by omega)
    rw [pows, pows, pows, ih]
    generalize pw7 u k = P
    have h1 : c k * P % 7 = (a k * P + b k * P) % 7 := by rw [← Nat.add_mul, Nat.mul_mod, hk, ← Nat.mul_mod]
    generalize a k * P = A at *
    generalize b k * P = B at *
    generalize c k * P = C at *
    omega
theorem valP_add {p q r : List Nat} (h : ∀ c, c < 35 → r.getD c 0 = (p.getD c 0 + q.getD c 0) % 7) (u x : Nat) : valP r u x = (valP p u x + valP q u x) % 7 := by
  rw [← val_same, ← val_same, ← val_same]
  unfold valL
  apply pows_add
  intro i hi
  rw [lineR_get _ _ _ hi, lineR_get _ _ _ hi, lineR_get _ _ _ hi, pows_add (a := fun j => p.getD (i * 7 + j) 0) (b := fun j => q.getD (i * 7 + j) 0) u 7 (fun j hj => by rw [h _ (by omega), Nat.mod_mod]), Nat.mod_mod]

/-- A term with its sign (1 or 6), its number and powers. -/
structure T4 where
  sg : Nat
  n : Nat
  u : Nat
  x : Nat
def add4 (q : List Nat) (t : T4) : List Nat := plus q t.u t.x (t.sg * t.n)
def ok4 (t : T4) : Prop := t.u ≤ 6 ∧ t.x ≤ 4
/-- What the terms add to cell c. -/
def sm (c : Nat) : List T4 → Nat
  | [] => 0
  | t :: ts => (if 7 * t.x + t.u = c then t.sg * t.n else 0) + sm c ts
theorem sm_append (c : Nat) : ∀ a b : List T4, sm c (a ++ b) = sm c a + sm c b
  | [], b => by simp [sm]
  | t :: a, b => by
    show (if 7 * t.x + t.u = c then t.sg * t.n else 0) + sm c (a ++ b) = (if 7 * t.x + t.u = c then t.sg * t.n else 0) + sm c a + sm c b
    rw [sm_append c a b]; omega
theorem fold_good : ∀ (ts : List T4) (q : List Nat), Good q → Good (ts.foldl add4 q)
  | [], _, h => h
  | t :: ts, q, h => fold_good ts (add4 q t) (plus_good h _ _ _)
theorem fold_cell : ∀ (ts : List T4) (q : List Nat), Good q → (∀ t ∈ ts, ok4 t) → ∀ c, c < 35 → (ts.foldl add4 q).getD c 0 = (q.getD c 0 + sm c ts) % 7
  | [], q, h, _, c, _ => by
    have := h.2 c
    show q.getD c 0 = (q.getD c 0 + 0) % 7
    omega
  | t :: ts, q, h, hok, c, hc => by
    obtain ⟨h1, h2⟩ := hok t (by simp)
    have ih := fold_cell ts (add4 q t) (plus_good h _ _ _) (fun y hy => hok y (by simp [hy])) c hc
    show (ts.foldl add4 (add4 q t)).getD c 0 = _
    rw [ih]
    show ((add4 q t).getD c 0 + sm c ts) % 7 = (q.getD c 0 + ((if 7 * t.x + t.u = c then t.sg * t.n else 0) + sm c ts)) % 7
    unfold add4 plus
    rw [getD_set _ _ _ _ (by rw [h.1]; omega)]
    by_cases e : 7 * t.x + t.u = c
    · rw [if_pos e, if_pos e, e]
      generalize t.sg * t.n = A
      omega
    · rw [if_neg e, if_neg e]; omega
/-- The polynomial that the terms come to. -/
def sumP (ts : List T4) : List Nat := ts.foldl add4 zeros
theorem sumP_good (ts : List T4) : Good (sumP ts) := fold_good ts zeros zeros_good
theorem zeros_get (c : Nat) : zeros.getD c 0 = 0 := by
  unfold zeros; rw [List.getD_eq_getElem?_getD, List.getElem?_replicate]; split <;> rfl
theorem sumP_cell {ts : List T4} (hok : ∀ t ∈ ts, ok4 t) {c : Nat} (hc : c < 35) : (sumP ts).getD c 0 = sm c ts % 7 := by
  unfold sumP; rw [fold_cell ts zeros zeros_good hok c hc, zeros_get, Nat.zero_add]
theorem good_ext {p q : List Nat} (hp : Good p) (hq : Good q) (h : ∀ c, c < 35 → p.getD c 0 = q.getD c 0) : p = q := by
  apply List.ext_getElem
  · rw [hp.1, hq.1]
  · intro c g1 g2
    have := h c (by rw [hp.1] at g1; exact g1)
    rw [List.getD_eq_getElem?_getD, List.getD_eq_getElem?_getD, List.getElem?_eq_getElem g1, List.getElem?_eq_getElem g2] at this
    simpa using this
theorem ok_append {a b : List T4} (ha : ∀ t ∈ a, ok4 t) (hb : ∀ t ∈ b, ok4 t) : ∀ t ∈ a ++ b, ok4 t := fun t ht => by
  rw [List.mem_append] at ht
  rcases ht with h | h
  · exact ha t h
  · exact hb t h
/-- In whichever order. -/
theorem sumP_comm {a b : List T4} (ha : ∀ t ∈ a, ok4 t) (hb : ∀ t ∈ b, ok4 t) : sumP (a ++ b) = sumP (b ++ a) :=
  good_ext (sumP_good _) (sumP_good _) fun c hc => by
    rw [sumP_cell (ok_append ha hb) hc, sumP_cell (ok_append hb ha) hc, sm_append, sm_append, Nat.add_comm]
/-- The sum is worth the sum. -/
theorem sumP_val {a b : List T4} (ha : ∀ t ∈ a, ok4 t) (hb : ∀ t ∈ b, ok4 t) (u x : Nat) : valP (sumP (a ++ b)) u x = (valP (sumP a) u x + valP (sumP b) u x) % 7 :=
  valP_add (fun c hc => by rw [sumP_cell (ok_append ha hb) hc, sumP_cell ha hc, sumP_cell hb hc, sm_append]; omega) u x
/-- A term 0 adds nothing. -/
theorem sumP_none {a : List T4} (ha : ∀ t ∈ a, ok4 t) (sg : Nat) : sumP (a ++ [⟨sg, 0, 0, 0⟩]) = sumP a := by
  have h0 : ∀ t ∈ [(⟨sg, 0, 0, 0⟩ : T4)], ok4 t := fun t ht => by
    rw [List.mem_singleton] at ht; subst ht; exact ⟨by simp, by simp⟩
  refine good_ext (sumP_good _) (sumP_good _) fun c hc => ?_
  rw [sumP_cell (ok_append ha h0) hc, sumP_cell ha hc, sm_append]
  simp [sm]
end Go.Proofs.YtaajdcaciofmaaaDoor
/- PLAIN, FOR SUMS: a written sum, with spaces and signs, is read as its terms. -/
namespace Go.Proofs.YtaajdcaciofmaaaDoor

/-- Token k is the first one from byte i on, where the text is R. -/
def ZAt (s : ByteArray) (k i : Nat) (R : List UInt8) : Prop := skip s (pos s 0 k) = skip s i ∧ k ≤ i ∧ Sfx s i R
theorem ZAt.tk {s : ByteArray} {k i : Nat} {R : List UInt8} (h : ZAt s k i R) : tk s 0 k = tok s i := by
  unfold Go.Proofs.YtaajdcaciofmaaaDoor.tk tok; rw [h.1]
theorem ZAt.space {s : ByteArray} {k i : Nat} {R : List UInt8} (h : ZAt s k i (32 :: R)) : ZAt s k (i + 1) R := by
  obtain ⟨hb, hs⟩ := h.2.2.cons
  exact ⟨by rw [h.1]; exact skip_space hb, by have := h.2.1; omega, hs⟩
theorem ZAt.next {s : ByteArray} {k i j : Nat} {R R' : List UInt8} {c a v : Nat} (h : ZAt s k i R) (ht : tok s i = ⟨c, a, j, v⟩) (hj : i < j) (hs : Sfx s j R') : ZAt s (k + 1) j R' := by
  refine ⟨?_, by have := h.2.1; omega, hs⟩
  have e : pos s 0 (k + 1) = j := by
    show (tok s (pos s 0 k)).to = j
    have e2 : tok s (pos s 0 k) = tok s i := by unfold tok; rw [h.1]
    rw [e2, ht]
  rw [e]
theorem tok_num2 {s : ByteArray} {i : Nat} {d : UInt8} {R : List UInt8} (h : Sfx s i (49 :: d :: R)) (h0 : 48 ≤ d.toNat) (h9 : d.toNat ≤ 57) : tok s i = ⟨1, i, i + 2, 10 + (d.toNat - 48)⟩ := by
  obtain ⟨hb, hs⟩ := h.cons
  obtain ⟨hb2, _⟩ := hs.cons
  have hb' : byt s i = 49 := hb
  have hd : isD s i = true := by rw [isD_iff]; omega
  have hd2 : isD s (i + 1) = true := by rw [isD_iff]; omega
  unfold tok
  rw [skip_here (by omega)]
  unfold tokAt
  rw [if_neg (by omega), if_pos hd, if_pos hd2, hb', hb2]
theorem tok_minus {s : ByteArray} {i : Nat} {R : List UInt8} (h : Sfx s i (45 :: R)) : tok s i = ⟨49, i, i + 1, 0⟩ := by
  obtain ⟨hb, hs⟩ := h.cons
  have hb' : byt s i = 45 := hb
  have hd : ¬ isD s i = true := by rw [isD_iff]; omega
  unfold tok
  rw [skip_here (by omega)]
  unfold tokAt
  rw [if_neg (by omega), if_neg hd, if_neg (by omega), if_neg (by omega), hb']

/-- A term ends here: spaces, then the end or a sign. -/
def spp : List UInt8 → Prop
  | [] => True
  | c :: R => c = 43 ∨ c = 45 ∨ (c = 32 ∧ spp R)
theorem spp_nd {R : List UInt8} (h : spp R) : nd R := by
  cases R with
  | nil => trivial
  | cons c R =>
    rcases h with h | h | ⟨h, _⟩ <;> subst h
    · exact (by decide : ¬ (48 ≤ (43 : UInt8).toNat ∧ (43 : UInt8).toNat ≤ 57))
    · exact (by decide : ¬ (48 ≤ (45 : UInt8).toNat ∧ (45 : UInt8).toNat ≤ 57))
    · exact (by decide : ¬ (48 ≤ (32 : UInt8).toNat ∧ (32 : UInt8).toNat ≤ 57))
theorem spp_tok {s : ByteArray} : ∀ (R : List UInt8) (k i : Nat), ZAt s k i R → spp R → (tk s 0 k).c ≠ 2 ∧ (tk s 0 k).c ≠ 3
  | [], k, i, h, _ => by rw [h.tk, tok_end h.2.2]; simp
  | c :: R, k, i, h, hs => by
    rcases hs with e | e | ⟨e, hs⟩
    · subst e; rw [h.tk, tok_plus h.2.2]; simp
    · subst e; rw [h.tk, tok_minus h.2.2]; simp
    · subst e; exact spp_tok R k (i + 1) h.space hs

def pkx (x : Nat) : List UInt8 := if x = 0 then [] else [32, 120, dgt x]
def pku (u : Nat) : List UInt8 := if u = 0 then [] else [117, dgt u]
def knum (n : Nat) : List UInt8 := if 9 < n then [49, dgt (n - 10)] else [dgt n]
/-- A term as the statement writes it. -/
def ktx (n u x : Nat) : List UInt8 := knum n ++ (pku u ++ pkx x)
theorem read_pkx {s : ByteArray} {k i x u m : Nat} {R : List UInt8} (h : ZAt s k i (pkx x ++ R)) (hs : spp R) (hx : x ≤ 4) (hm : (pkx x).length ≤ m) :
    ∃ k', pw (tk s 0) false m k u 0 = ⟨0, 0, k', u, x⟩ ∧ ZAt s k' (i + (pkx x).length) R := by
  unfold pkx at *
  by_cases h0 : x = 0
  · subst h0
    simp only [if_true, List.nil_append, List.length_nil, Nat.add_zero] at *
    obtain ⟨a, b⟩ := spp_tok R k i h hs
    exact ⟨k, pw_end a b, h⟩
  · rw [if_neg h0] at *
    simp only [List.cons_append, List.nil_append, List.length_cons, List.length_nil] at *
    have h' := h.space
    have hd := dgt_nat (n := x) (by omega)
    have ht := tok_x2 h'.2.2 (by omega) (by omega)
    have hn := h'.next ht (by omega) h'.2.2.cons.2.cons.2
    obtain ⟨a, b⟩ := spp_tok R _ _ hn hs
    refine ⟨k + 1, ?_, hn⟩
    have e : (dgt x).toNat - 48 = x := by omega
    rw [e] at ht
    rw [pw_x (by omega) (by rw [h'.tk, ht]) (by rw [h'.tk, ht]; show 0 + x ≤ 4; omega), h'.tk, ht]
    show pw (tk s 0) false (m - 1) (k + 1) u (0 + x) = _
    rw [Nat.zero_add]
    exact pw_end a b
theorem read_pk {s : ByteArray} {k i u x m : Nat} {R : List UInt8} (h : ZAt s k i (pku u ++ (pkx x ++ R))) (hs : spp R) (hu : u ≤ 6) (hx : x ≤ 4) (hm : (pku u).length + (pkx x).length ≤ m) :
    ∃ k', pw (tk s 0) false m k 0 0 = ⟨0, 0, k', u, x⟩ ∧ ZAt s k' (i + ((pku u).length + (pkx x).length)) R := by
  by_cases h0 : u = 0
  · subst h0
    have e : pku 0 = [] := rfl
    rw [e] at h hm ⊢
    simp only [List.nil_append, List.length_nil, Nat.zero_add] at *
    exact read_pkx h hs hx hm
  · have e : pku u = [117, dgt u] := by unfold pku; rw [if_neg h0]
    rw [e] at h hm ⊢
    simp only [List.cons_append, List.nil_append, List.length_cons, List.length_nil, Nat.zero_add] at *
    have hd := dgt_nat (n := u) (by omega)
    have ht := tok_u2 h.2.2 (by omega) (by omega)
    have hn := h.next ht (by omega) h.2.2.cons.2.cons.2
    have e' : (dgt u).toNat - 48 = u := by omega
    rw [e'] at ht
    obtain ⟨k', e1, ha⟩ := read_pkx (u := u) (m := m - 1) hn hs hx (by omega)
    refine ⟨k', ?_, by rw [← Nat.add_assoc]; exact ha⟩
    rw [pw_u (by omega) (by rw [h.tk, ht]) (by rw [h.tk, ht]; show 0 + u ≤ 6; omega), h.tk, ht]
    show pw (tk s 0) false (m - 1) (k + 1) (0 + u) 0 = _
    rw [Nat.zero_add]
    exact e1
theorem nd_pk {u x : Nat} {R : List UInt8} (hs : spp R) : nd (pku u ++ (pkx x ++ R)) := by
  unfold pku
  split
  · unfold pkx
    split
    · exact spp_nd hs
    · exact (by decide : ¬ (48 ≤ (32 : UInt8).toNat ∧ (32 : UInt8).toNat ≤ 57))
  · exact (by decide : ¬ (48 ≤ (117 : UInt8).toNat ∧ (117 : UInt8).toNat ≤ 57))
theorem ktx_len (n u x : Nat) : (ktx n u x).length = (knum n).length + ((pku u).length + (pkx x).length) := by unfold ktx; rw [List.length_append, List.length_append]
theorem read_num {s : ByteArray} {k i n : Nat} {R : List UInt8} (h : ZAt s k i (knum n ++ R)) (hn : n ≤ 13) (hd : nd R) : tok s i = ⟨1, i, i + (knum n).length, n⟩ ∧ Sfx s (i + (knum n).length) R ∧ 0 < (knum n).length := by
  unfold knum at *
  by_cases h9 : 9 < n
  · rw [if_pos h9] at *
    have e := dgt_nat (n := n - 10) (by omega)
    have ht := tok_num2 h.2.2 (by omega) (by omega)
    rw [show 10 + ((dgt (n - 10)).toNat - 48) = n by omega] at ht
    exact ⟨ht, h.2.2.cons.2.cons.2, by simp⟩
  · rw [if_neg h9] at *
    have e := dgt_nat (n := n) (by omega)
    have ht := tok_num h.2.2 (by omega) (by omega) hd
    rw [show (dgt n).toNat - 48 = n by omega] at ht
    exact ⟨ht, h.2.2.cons.2, by simp⟩
theorem read_ktx {s : ByteArray} {k i n u x N : Nat} {R : List UInt8} (h : ZAt s k i (ktx n u x ++ R)) (hs : spp R) (hn : n ≤ 13) (hu : u ≤ 6) (hx : x ≤ 4) (hN : (ktx n u x).length ≤ N - k) :
    ∃ k', tm (tk s 0) false N k = ⟨0, 0, k', n, u, x⟩ ∧ ZAt s k' (i + (ktx n u x).length) R := by
  rw [ktx_len] at *
  unfold ktx at h
  rw [List.append_assoc, List.append_assoc] at h
  obtain ⟨ht, hs2, hp⟩ := read_num h hn (nd_pk hs)
  have hnx := h.next ht (by omega) hs2
  obtain ⟨k', e1, ha⟩ := read_pk (m := N - (k + 1)) hnx hs hu hx (by omega)
  refine ⟨k', ?_, by rw [← Nat.add_assoc]; exact ha⟩
  unfold tm
  have hc1 : (tk s 0 k).c = 1 := by rw [h.tk, ht]
  have hv : (tk s 0 k).v = n := by rw [h.tk, ht]
  rw [if_pos hc1, e1, hv]

/-- What stands between two terms, and the sign that it gives. -/
def okS (sep : List UInt8) (sg : Nat) : Prop := (sep = [43] ∧ sg = 1) ∨ (sep = [32, 43, 32] ∧ sg = 1) ∨ (sep = [32, 45, 32] ∧ sg = 6) ∨ (sep = [45] ∧ sg = 6)
theorem okS_spp {sep R : List UInt8} {sg : Nat} (h : okS sep sg) : spp (sep ++ R) := by
  rcases h with ⟨rfl, _⟩ | ⟨rfl, _⟩ | ⟨rfl, _⟩ | ⟨rfl, _⟩
  · exact Or.inl rfl
  · exact Or.inr (Or.inr ⟨rfl, Or.inl rfl⟩)
  · exact Or.inr (Or.inr ⟨rfl, Or.inr (Or.inl rfl)⟩)
  · exact Or.inr (Or.inl rfl)
theorem read_sep {s : ByteArray} {k i sg : Nat} {sep R : List UInt8} (h : ZAt s k i (sep ++ R)) (ho : okS sep sg) : (((tk s 0 k).c = 47 ∧ sg = 1) ∨ ((tk s 0 k).c = 49 ∧ sg = 6)) ∧ ZAt s (k + 1) (i + sep.length) R := by
  rcases ho with ⟨rfl, rfl⟩ | ⟨rfl, rfl⟩ | ⟨rfl, rfl⟩ | ⟨rfl, rfl⟩
  · have ht := tok_plus h.2.2
    exact ⟨Or.inl ⟨by rw [h.tk, ht], rfl⟩, h.next ht (by simp) h.2.2.cons.2⟩
  · have h1 := h.space
    have ht := tok_plus h1.2.2
    exact ⟨Or.inl ⟨by rw [h1.tk, ht], rfl⟩, (h1.next ht (by omega) h1.2.2.cons.2).space⟩
  · have h1 := h.space
    have ht := tok_minus h1.2.2
    exact ⟨Or.inr ⟨by rw [h1.tk, ht], rfl⟩, (h1.next ht (by omega) h1.2.2.cons.2).space⟩
  · have ht := tok_minus h.2.2
    exact ⟨Or.inr ⟨by rw [h.tk, ht], rfl⟩, h.next ht (by simp) h.2.2.cons.2⟩

/-- A sign with its spaces, and a term. -/
structure It where
  sep : List UInt8
  t : T4
def okT (t : T4) : Prop := t.n ≤ 13 ∧ t.u ≤ 6 ∧ t.x ≤ 4
def okI (a : It) : Prop := okS a.sep a.t.sg ∧ okT a.t
def its : List It → List UInt8
  | [] => []
  | a :: r => a.sep ++ (ktx a.t.n a.t.u a.t.x ++ its r)
theorem ktx_pos (n u x : Nat) : 0 < (ktx n u x).length := by
  rw [ktx_len]; unfold knum; split <;> simp <;> omega
theorem read_its {s : ByteArray} : ∀ (r : List It) (t : T4) (q : List Nat) (m k i : Nat), okT t → (∀ a ∈ r, okI a) → ZAt s k i (ktx t.n t.u t.x ++ its r) → s.size + 1 ≤ m + i →
    ∃ k', pl (tk s 0) false s.size m k t.sg q = ⟨0, 0, k', (t :: r.map It.t).foldl add4 q⟩ ∧ ZAt s k' s.size [] := by
  intro r
  induction r with
  | nil =>
    intro t q m k i ht _ h hm
    have hlen := h.2.2.len
    have hk := h.2.1
    have hp := ktx_pos t.n t.u t.x
    rw [List.length_append] at hlen
    obtain ⟨m, rfl⟩ : ∃ m', m = m' + 1 := ⟨m - 1, by omega⟩
    obtain ⟨k', e1, ha⟩ := read_ktx (N := s.size) h trivial ht.1 ht.2.1 ht.2.2 (by omega)
    have hz : (tk s 0 k').c = 0 := by rw [ha.tk, tok_end ha.2.2]
    refine ⟨k', ?_, by simp only [its, List.length_nil] at hlen; rw [← hlen]; exact ha⟩
    rw [pl, e1]
    simp only [if_true]
    rw [if_neg (by omega), if_neg (by omega)]
    rfl
  | cons a r ih =>
    intro t q m k i ht hok h hm
    have hlen := h.2.2.len
    have hk := h.2.1
    have hp := ktx_pos t.n t.u t.x
    obtain ⟨ho, hoT⟩ := hok a (by simp)
    rw [List.length_append] at hlen
    obtain ⟨m, rfl⟩ : ∃ m', m = m' + 1 := ⟨m - 1, by omega⟩
    obtain ⟨k', e1, ha⟩ := read_ktx (N := s.size) h (okS_spp ho) ht.1 ht.2.1 ht.2.2 (by omega)
    obtain ⟨hc, hb⟩ := read_sep ha ho
    obtain ⟨k2, e2, hd⟩ := ih a.t (add4 q t) m (k' + 1) _ hoT (fun y hy => hok y (by simp [hy])) hb (by omega)
    refine ⟨k2, ?_, hd⟩
    rw [pl, e1]
    simp only [if_true]
    rcases hc with ⟨hc, hsg⟩ | ⟨hc, hsg⟩
    · rw [if_pos hc]
      rw [hsg] at e2
      exact e2
    · rw [if_neg (by omega), if_pos hc]
      rw [hsg] at e2
      exact e2
/-- A WRITTEN SUM IS READ AS ITS TERMS. -/
theorem rd_sum (t : T4) (r : List It) (ht : okT t) (h1 : t.sg = 1) (hok : ∀ a ∈ r, okI a) (hl : (ktx t.n t.u t.x ++ its r).length ≤ 90) : rd (bs (ktx t.n t.u t.x ++ its r)) = ⟨0, 0, sumP (t :: r.map It.t)⟩ := by
  generalize hT : ktx t.n t.u t.x ++ its r = T at *
  have hsz : (bs T).size = T.length := by rw [ByteArray.size]; simp [bs]
  have hat : ZAt (bs T) 0 0 (ktx t.n t.u t.x ++ its r) := ⟨rfl, Nat.le_refl _, by rw [hT]; rfl, Nat.zero_le _⟩
  obtain ⟨k', e, ha⟩ := read_its r t zeros ((bs T).size + 1) 0 0 ht hok hat (by omega)
  rw [h1] at e
  have hend : (tk (bs T) 0 k').c = 0 := by rw [ha.tk, tok_end ha.2.2]
  have h49 : (tk (bs T) 0 0).c ≠ 49 := by
    intro q
    have e4 : (tm (tk (bs T) 0) false (bs T).size 0).e = 4 := by unfold tm; rw [if_neg (by omega), if_neg (by omega)]
    have e5 : (pl (tk (bs T) 0) false (bs T).size ((bs T).size + 1) 0 1 zeros).e = 4 := by rw [pl, if_neg (by omega)]; exact e4
    rw [e] at e5
    exact absurd e5 (by simp)
  have hpoly : poly (tk (bs T) 0) false (bs T).size 0 = ⟨0, 0, k', sumP (t :: r.map It.t)⟩ := by
    unfold poly; rw [if_neg h49, e]; rfl
  unfold rd
  rw [if_neg (by omega), hpoly]
  simp only [if_true]
  rw [if_pos hend]
end Go.Proofs.YtaajdcaciofmaaaDoor
