/- PLAIN: texts, tokens, the reading of a polynomial, as functions on numbers and lists. Nothing of the program. -/
namespace Go.Proofs.YtaajdcaciofmaaaDoor

/-- The byte at i; 256 where there is none. -/
def byt (s : ByteArray) (i : Nat) : Nat := if h : i < s.size then (s[i]'h).toNat else 256
theorem byt_lt {s : ByteArray} {i : Nat} (h : i < s.size) : byt s i = (s[i]'h).toNat := by simp [byt, h]
theorem byt_ge {s : ByteArray} {i : Nat} (h : ¬ i < s.size) : byt s i = 256 := by simp [byt, h]
theorem byt_le (s : ByteArray) (i : Nat) : byt s i ≤ 256 := by
  unfold byt; split
  · rename_i h; have := (s[i]'h).toNat_lt; omega
  · omega
theorem byt_in {s : ByteArray} {i : Nat} (h : byt s i ≠ 256) : i < s.size := by
  by_cases g : i < s.size
  · exact g
  · exact absurd (byt_ge g) h
theorem byt_small {s : ByteArray} {i : Nat} (h : i < s.size) : byt s i ≤ 255 := by
  rw [byt_lt h]; have := (s[i]'h).toNat_lt; omega

def isD (s : ByteArray) (i : Nat) : Bool := decide (48 ≤ byt s i) && decide (byt s i ≤ 57)
theorem isD_iff (s : ByteArray) (i : Nat) : isD s i = true ↔ 48 ≤ byt s i ∧ byt s i ≤ 57 := by simp [isD]
theorem isD_in {s : ByteArray} {i : Nat} (h : isD s i = true) : i < s.size := by
  rw [isD_iff] at h; exact byt_in (by omega)

/-- Behind the spaces from i on. -/
def skipF (s : ByteArray) : Nat → Nat → Nat
  | 0, i => i
  | m + 1, i => if byt s i = 32 then skipF s m (i + 1) else i
def skip (s : ByteArray) (i : Nat) : Nat := skipF s (s.size - i) i
theorem skip_space {s : ByteArray} {i : Nat} (h : byt s i = 32) : skip s i = skip s (i + 1) := by
  have hi := byt_in (s := s) (i := i) (by omega)
  unfold skip
  rw [show s.size - i = (s.size - (i + 1)) + 1 from by omega]
  simp [skipF, h]
theorem skip_here {s : ByteArray} {i : Nat} (h : byt s i ≠ 32) : skip s i = i := by
  unfold skip
  cases hm : s.size - i with
  | zero => rfl
  | succ m => simp [skipF, h]
theorem skipF_facts (s : ByteArray) : ∀ (m i : Nat), s.size - i = m → i ≤ s.size → i ≤ skipF s m i ∧ skipF s m i ≤ s.size ∧ byt s (skipF s m i) ≠ 32 := by
  intro m
  induction m with
  | zero => intro i h1 h2; refine ⟨Nat.le_refl _, h2, ?_⟩; show byt s i ≠ 32; rw [byt_ge (by omega)]; omega
  | succ m ih =>
    intro i h1 h2
    by_cases h : byt s i = 32
    · simp only [skipF, h, if_true]
      have := ih (i + 1) (by omega) (by omega)
      exact ⟨by omega, this.2.1, this.2.2⟩
    · simp only [skipF, h, if_false]
      exact ⟨Nat.le_refl _, h2, h⟩
theorem skip_facts {s : ByteArray} {i : Nat} (h : i ≤ s.size) : i ≤ skip s i ∧ skip s i ≤ s.size ∧ byt s (skip s i) ≠ 32 := skipF_facts s _ i rfl h

/-- A token: what it is (0: the end; 1: a number; 2: a power of u; 3: a power of x; else its byte and 4), where it begins, where it ends, its number. -/
structure Tok where
  c : Nat
  at' : Nat
  to : Nat
  v : Nat

def tokAt (s : ByteArray) (j : Nat) : Tok :=
  if byt s j = 256 then ⟨0, j, j, 0⟩
  else if isD s j = true then (if isD s (j + 1) = true then ⟨1, j, j + 2, 10 * (byt s j - 48) + (byt s (j + 1) - 48)⟩ else ⟨1, j, j + 1, byt s j - 48⟩)
  else if byt s j = 117 then (if isD s (j + 1) = true then ⟨2, j, j + 2, byt s (j + 1) - 48⟩ else ⟨2, j, j + 1, 1⟩)
  else if byt s j = 120 then (if isD s (j + 1) = true then ⟨3, j, j + 2, byt s (j + 1) - 48⟩ else ⟨3, j, j + 1, 1⟩)
  else ⟨byt s j + 4, j, j + 1, 0⟩
def tok (s : ByteArray) (i : Nat) : Tok := tokAt s (skip s i)

/-- What a token of the text at j ≤ its size is good for. -/
theorem tokAt_facts {s : ByteArray} {j : Nat} (h : j ≤ s.size) : (tokAt s j).at' = j ∧ j ≤ (tokAt s j).to ∧ (tokAt s j).to ≤ s.size ∧ (tokAt s j).v ≤ 99 ∧ (tokAt s j).c ≤ 260 ∧ ((tokAt s j).c = 0 ↔ j = s.size) ∧ ((tokAt s j).c ≠ 0 → j < (tokAt s j).to) := by
  have hb := byt_le s j
  unfold tokAt
  by_cases h0 : byt s j = 256
  · have : ¬ j < s.size := fun g => by have := byt_small g; omega
    rw [if_pos h0]; refine ⟨rfl, ?_, ?_, ?_, ?_, ?_, ?_⟩ <;> simp <;> omega
  · have hj := byt_in h0
    rw [if_neg h0]
    by_cases h1 : isD s j = true
    · have h1' := (isD_iff s j).1 h1
      rw [if_pos h1]
      by_cases h2 : isD s (j + 1) = true
      · have h2' := (isD_iff s (j + 1)).1 h2
        have := isD_in h2
        rw [if_pos h2]; refine ⟨rfl, ?_, ?_, ?_, ?_, ?_, ?_⟩ <;> simp <;> omega
      · rw [if_neg h2]; refine ⟨rfl, ?_, ?_, ?_, ?_, ?_, ?_⟩ <;> simp <;> omega
    · rw [if_neg h1]
      by_cases h3 : byt s j = 117
      · rw [if_pos h3]
        by_cases h2 : isD s (j + 1) = true
        · have h2' := (isD_iff s (j + 1)).1 h2
          have := isD_in h2
          rw [if_pos h2]; refine ⟨rfl, ?_, ?_, ?_, ?_, ?_, ?_⟩ <;> simp <;> omega
        · rw [if_neg h2]; refine ⟨rfl, ?_, ?_, ?_, ?_, ?_, ?_⟩ <;> simp <;> omega
      · rw [if_neg h3]
        by_cases h4 : byt s j = 120
        · rw [if_pos h4]
          by_cases h2 : isD s (j + 1) = true
          · have h2' := (isD_iff s (j + 1)).1 h2
            have := isD_in h2
            rw [if_pos h2]; refine ⟨rfl, ?_, ?_, ?_, ?_, ?_, ?_⟩ <;> simp <;> omega
          · rw [if_neg h2]; refine ⟨rfl, ?_, ?_, ?_, ?_, ?_, ?_⟩ <;> simp <;> omega
        · rw [if_neg h4]; refine ⟨rfl, ?_, ?_, ?_, ?_, ?_, ?_⟩ <;> simp <;> omega

/-- Where the k-th token is looked for, beginning at a; and that token. -/
def pos (s : ByteArray) (a : Nat) : Nat → Nat
  | 0 => a
  | k + 1 => (tok s (pos s a k)).to
def tk (s : ByteArray) (a k : Nat) : Tok := tok s (pos s a k)

theorem tok_facts {s : ByteArray} {i : Nat} (h : i ≤ s.size) : i ≤ (tok s i).at' ∧ (tok s i).at' ≤ (tok s i).to ∧ (tok s i).to ≤ s.size ∧ (tok s i).v ≤ 99 ∧ (tok s i).c ≤ 260 ∧ ((tok s i).c = 0 ↔ (tok s i).at' = s.size) ∧ ((tok s i).c ≠ 0 → i < (tok s i).to) := by
  obtain ⟨a, b, _⟩ := skip_facts h
  obtain ⟨c, d, e, f, g, k, l⟩ := tokAt_facts b
  unfold tok
  rw [c]
  exact ⟨a, d, e, f, g, k, fun q => by have := l q; omega⟩
theorem pos_le {s : ByteArray} {a : Nat} (h : a ≤ s.size) : ∀ k, pos s a k ≤ s.size
  | 0 => h
  | k + 1 => (tok_facts (pos_le h k)).2.2.1
theorem tk_facts {s : ByteArray} {a : Nat} (h : a ≤ s.size) (k : Nat) : (tk s a k).at' ≤ s.size ∧ (tk s a k).to ≤ s.size ∧ (tk s a k).v ≤ 99 ∧ (tk s a k).c ≤ 260 := by
  obtain ⟨_, b, c, d, e, _, _⟩ := tok_facts (pos_le h k)
  unfold tk
  exact ⟨by omega, c, d, e⟩
theorem pos_grows {s : ByteArray} {a : Nat} (h : a ≤ s.size) : ∀ k, (tk s a k).c ≠ 0 → k < pos s a (k + 1)
  | 0, q => by have := (tok_facts (pos_le h 0)).2.2.2.2.2.2 q; show 0 < (tok s (pos s a 0)).to; omega
  | k + 1, q => by
    have := (tok_facts (pos_le h (k + 1))).2.2.2.2.2.2 q
    show k + 1 < (tok s (pos s a (k + 1))).to
    by_cases g : (tk s a k).c = 0
    · have z := (tok_facts (pos_le h k)).2.2.2.2.2.1.1 g
      have y := (tok_facts (pos_le h k)).2.1
      have x := (tok_facts (pos_le h k)).2.2.1
      have w : pos s a (k + 1) = s.size := by show (tok s (pos s a k)).to = s.size; omega
      have v := (tok_facts (pos_le h (k + 1))).2.2.1
      omega
    · have := pos_grows h k g; omega
/-- The token of the text's size in number is the end. -/
theorem tk_end {s : ByteArray} {a : Nat} (h : a ≤ s.size) {k : Nat} (hk : s.size ≤ k) : (tk s a k).c = 0 := by
  by_cases q : (tk s a k).c = 0
  · exact q
  · have := pos_grows h k q
    have := pos_le h (k + 1)
    omega
theorem tk_lt {s : ByteArray} {a : Nat} (h : a ≤ s.size) {k : Nat} (hk : (tk s a k).c ≠ 0) : k < s.size := by
  by_cases q : k < s.size
  · exact q
  · exact absurd (tk_end h (by omega)) hk

end Go.Proofs.YtaajdcaciofmaaaDoor
