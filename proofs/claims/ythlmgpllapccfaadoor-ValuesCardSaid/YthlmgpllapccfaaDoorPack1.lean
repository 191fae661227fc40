import Derived.Test.YthlmgpllapccfaaDoorProg
import Derived.WalkKit
import Derived.WalkSpells
import Derived.WalkLawsBesides
import Derived.Handy
import Derived.Deep.RegionHeld3
import Derived.StillTail
import Derived.BigQuiet
import Derived.Deep.MidRow
import Derived.Deep.LoopGhost
import Derived.Lib.Join
import Derived.Lib.ItoaNum
import Derived.ChangeKeysEq
/- PLAIN: texts, tokens, the reading of a polynomial, as functions on numbers and lists. Nothing of the program. -/
namespace Go.Proofs.YthlmgpllapccfaaDoor

/-- The byte at i; 256 where there is none. -/
def byt (s : ByteArray) (i : Nat) : Nat := if h : i < s.size then (s[i]'h).toNat else 256
theorem byt_lt {s : ByteArray} {i : Nat} (h : i < s.size) : byt s i = (s[i]'h).toNat := by simp [byt, h]
theorem byt_ge {s : ByteArray} {i : Nat} (h : ¬ i < s.size) : byt s i = 256 := by simp [byt, h]
theorem byt_le (s : ByteArray) (i : Nat) : byt s i ≤ 256 := by
  unfold byt; split
  · rename_i h; have := (s[i]'h).toNat_lt; omega
  · omega
theorem byt_in {s : ByteArray} {i : Nat} (h : byt s i ≠ 256) : i < s.size := by
  by_cases g : i < s.size
  · exact g
  · exact absurd (byt_ge g) h
theorem byt_small {s : ByteArray} {i : Nat} (h : i < s.size) : byt s i ≤ 255 := by
  rw [byt_lt h]; have := (s[i]'h).toNat_lt; omega

def isD (s : ByteArray) (i : Nat) : Bool := decide (48 ≤ byt s i) && decide (byt s i ≤ 57)
theorem isD_iff (s : ByteArray) (i : Nat) : isD s i = true ↔ 48 ≤ byt s i ∧ byt s i ≤ 57 := by simp [isD]
theorem isD_in {s : ByteArray} {i : Nat} (h : isD s i = true) : i < s.size := by
  rw [isD_iff] at h; exact byt_in (by omega)

/-- Behind the spaces from i on. -/
def skipF (s : ByteArray) : Nat → Nat → Nat
  | 0, i => i
  | m + 1, i => if byt s i = 32 then skipF s m (i + 1) else i
def skip (s : ByteArray) (i : Nat) : Nat := skipF s (s.size - i) i
theorem skip_space {s : ByteArray} {i : Nat} (h : byt s i = 32) : skip s i = skip s (i + 1) := by
  have hi := byt_in (s := s) (i := i) (by omega)
  unfold skip
  rw [show s.size - i = (s.size - (i + 1)) + 1 from by omega]
  simp [skipF, h]
theorem skip_here {s : ByteArray} {i : Nat} (h : byt s i ≠ 32) : skip s i = i := by
  unfold skip
  cases hm : s.size - i with
  | zero => rfl
  | succ m => simp [skipF, h]
theorem skipF_facts (s : ByteArray) : ∀ (m i : Nat), s.size - i = m → i ≤ s.size → i ≤ skipF s m i ∧ skipF s m i ≤ s.size ∧ byt s (skipF s m i) ≠ 32 := by
  intro m
  induction m with
  | zero => intro i h1 h2; refine ⟨Nat.le_refl _, h2, ?_⟩; show byt s i ≠ 32; rw [byt_ge (by omega)]; omega
  | succ m ih =>
    intro i h1 h2
    by_cases h : byt s i = 32
    · simp only [skipF, h, if_true]
      have := ih (i + 1) (by omega) (by omega)
      exact ⟨by omega, this.2.1, this.2.2⟩
    · simp only [skipF, h, if_false]
      exact ⟨Nat.le_refl _, h2, h⟩
theorem skip_facts {s : ByteArray} {i : Nat} (h : i ≤ s.size) : i ≤ skip s i ∧ skip s i ≤ s.size ∧ byt s (skip s i) ≠ 32 := skipF_facts s _ i rfl h

/-- A token: what it is (0: the end; 1: a number; 2: a power of u; 3: a power of x; else its byte and 4), where it begins, where it ends, its number. -/
structure Tok where
  c : Nat
  at' : Nat
  to : Nat
  v : Nat

def tokAt (s : ByteArray) (j : Nat) : Tok :=
  if byt s j = 256 then ⟨0, j, j, 0⟩
  else if isD s j = true then (if isD s (j + 1) = true then ⟨1, j, j + 2, 10 * (byt s j - 48) + (byt s (j + 1) - 48)⟩ else ⟨1, j, j + 1, byt s j - 48⟩)
  else if byt s j = 117 then (if isD s (j + 1) = true then ⟨2, j, j + 2, byt s (j + 1) - 48⟩ else ⟨2, j, j + 1, 1⟩)
  else if byt s j = 120 then (if isD s (j + 1) = true then ⟨3, j, j + 2, byt s (j + 1) - 48⟩ else ⟨3, j, j + 1, 1⟩)
  else ⟨byt s j + 4, j, j + 1, 0⟩
def tok (s : ByteArray) (i : Nat) : Tok := tokAt s (skip s i)

/-- What a token of the text at j ≤ its size is good for. -/
theorem tokAt_facts {s : ByteArray} {j : Nat} (h : j ≤ s.size) : (tokAt s j).at' = j ∧ j ≤ (tokAt s j).to ∧ (tokAt s j).to ≤ s.size ∧ (tokAt s j).v ≤ 99 ∧ (tokAt s j).c ≤ 260 ∧ ((tokAt s j).c = 0 ↔ j = s.size) ∧ ((tokAt s j).c ≠ 0 → j < (tokAt s j).to) := by
  have hb := byt_le s j
  unfold tokAt
  by_cases h0 : byt s j = 256
  · have : ¬ j < s.size := fun g => by have := byt_small g; omega
    rw [if_pos h0]; refine ⟨rfl, ?_, ?_, ?_, ?_, ?_, ?_⟩ <;> simp <;> omega
  · have hj := byt_in h0
    rw [if_neg h0]
    by_cases h1 : isD s j = true
    · have h1' := (isD_iff s j).1 h1
      rw [if_pos h1]
      by_cases h2 : isD s (j + 1) = true
      · have h2' := (isD_iff s (j + 1)).1 h2
        have := isD_in h2
        rw [if_pos h2]; refine ⟨rfl, ?_, ?_, ?_, ?_, ?_, ?_⟩ <;> simp <;> omega
      · rw [if_neg h2]; refine ⟨rfl, ?_, ?_, ?_, ?_, ?_, ?_⟩ <;> simp <;> omega
    · rw [if_neg h1]
      by_cases h3 : byt s j = 117
      · rw [if_pos h3]
        by_cases h2 : isD s (j + 1) = true
        · have h2' := (isD_iff s (j + 1)).1 h2
          have := isD_in h2
          rw [if_pos h2]; refine ⟨rfl, ?_, ?_, ?_, ?_, ?_, ?_⟩ <;> simp <;> omega
        · rw [if_neg h2]; refine ⟨rfl, ?_, ?_, ?_, ?_, ?_, ?_⟩ <;> simp <;> omega
      · rw [if_neg h3]
        by_cases h4 : byt s j = 120
        · rw [if_pos h4]
          by_cases h2 : isD s (j + 1) = true
          · have h2' := (isD_iff s (j + 1)).1 h2
            have := isD_in h2
            rw [if_pos h2]; refine ⟨rfl, ?_, ?_, ?_, ?_, ?_, ?_⟩ <;> simp <;> omega
          · rw [if_neg h2]; refine ⟨rfl, ?_, ?_, ?_, ?_, ?_, ?_⟩ <;> simp <;> omega
        · rw [if_neg h4]; refine ⟨rfl, ?_, ?_, ?_, ?_, ?_, ?_⟩ <;> simp <;> omega

/-- Where the k-th token is looked for, beginning at a; and that token. -/
def pos (s : ByteArray) (a : Nat) : Nat → Nat
  | 0 => a
  | k + 1 => (tok s (pos s a k)).to
def tk (s : ByteArray) (a k : Nat) : Tok := tok s (pos s a k)

theorem tok_facts {s : ByteArray} {i : Nat} (h : i ≤ s.size) : i ≤ (tok s i).at' ∧ (tok s i).at' ≤ (tok s i).to ∧ (tok s i).to ≤ s.size ∧ (tok s i).v ≤ 99 ∧ (tok s i).c ≤ 260 ∧ ((tok s i).c = 0 ↔ (tok s i).at' = s.size) ∧ ((tok s i).c ≠ 0 → i < (tok s i).to) := by
  obtain ⟨a, b, _⟩ := skip_facts h
  obtain ⟨c, d, e, f, g, k, l⟩ := tokAt_facts b
  unfold tok
  rw [c]
  exact ⟨a, d, e, f, g, k, fun q => by have := l q; omega⟩
theorem pos_le {s : ByteArray} {a : Nat} (h : a ≤ s.size) : ∀ k, pos s a k ≤ s.size
  | 0 => h
  | k + 1 => (tok_facts (pos_le h k)).2.2.1
theorem tk_facts {s : ByteArray} {a : Nat} (h : a ≤ s.size) (k : Nat) : (tk s a k).at' ≤ s.size ∧ (tk s a k).to ≤ s.size ∧ (tk s a k).v ≤ 99 ∧ (tk s a k).c ≤ 260 := by
  obtain ⟨_, b, c, d, e, _, _⟩ := tok_facts (pos_le h k)
  unfold tk
  exact ⟨by omega, c, d, e⟩
theorem pos_grows {s : ByteArray} {a : Nat} (h : a ≤ s.size) : ∀ k, (tk s a k).c ≠ 0 → k < pos s a (k + 1)
  | 0, q => by have := (tok_facts (pos_le h 0)).2.2.2.2.2.2 q; show 0 < (tok s (pos s a 0)).to; omega
  | k + 1, q => by
    have := (tok_facts (pos_le h (k + 1))).2.2.2.2.2.2 q
    show k + 1 < (tok s (pos s a (k + 1))).to
    by_cases g : (tk s a k).c = 0
    · have z := (tok_facts (pos_le h k)).2.2.2.2.2.1.1 g
      have y := (tok_facts (pos_le h k)).2.1
      have x := (tok_facts (pos_le h k)).2.2.1
      have w : pos s a (k + 1) = s.size := by show (tok s (pos s a k)).to = s.size; omega
      have v := (tok_facts (pos_le h (k + 1))).2.2.1
      omega
    · have := pos_grows h k g; omega
/-- The token of the text's size in number is the end. -/
theorem tk_end {s : ByteArray} {a : Nat} (h : a ≤ s.size) {k : Nat} (hk : s.size ≤ k) : (tk s a k).c = 0 := by
  by_cases q : (tk s a k).c = 0
  · exact q
  · have := pos_grows h k q
    have := pos_le h (k + 1)
    omega
theorem tk_lt {s : ByteArray} {a : Nat} (h : a ≤ s.size) {k : Nat} (hk : (tk s a k).c ≠ 0) : k < s.size := by
  by_cases q : k < s.size
  · exact q
  · exact absurd (tk_end h (by omega)) hk

end Go.Proofs.YthlmgpllapccfaaDoor
/- WHAT ALL WALKS USE. -/
namespace Go.Proofs.YthlmgpllapccfaaDoor
open Go.RowKit

theorem ret4 {a b c d a' b' c' d' : Int} (h1 : a = a') (h2 : b = b') (h3 : c = c') (h4 : d = d') : Ending.returned (.agg #[.int .i64 a, .int .i64 b, .int .i64 c, .int .i64 d]) = Ending.returned (.agg #[.int .i64 a', .int .i64 b', .int .i64 c', .int .i64 d']) := by subst h1 h2 h3 h4; rfl
theorem bcell {W w1 : World} (hb : Below W.heap.size W w1) : (∀ b o, b < W.heap.size → w1.cell? ⟨b, o, none⟩ = W.cell? ⟨b, o, none⟩) ∧ (∀ b o, b < W.heap.size → w1.frozen? ⟨b, o, none⟩ = W.frozen? ⟨b, o, none⟩) :=
  ⟨fun b o h => hb.cell (p := ⟨b, o, none⟩) h, fun b o h => hb.frozen (p := ⟨b, o, none⟩) h⟩
theorem byt_cast {s : ByteArray} {i : Nat} (h : i < s.size) : ((s[i]'h).toNat : Int) = (byt s i : Int) := by rw [byt_lt h]

theorem below_alloc {w w1 : World} {o : Obj} (h : Below (w.alloc o).heap.size (w.alloc o) w1) : Below w.heap.size w w1 :=
  ((Below.refl _ _).alloc (Nat.le_refl _) _).trans (h.mono (by simp))

theorem ret4v {a b c d a' b' c' d' : Int} (h1 : a = a') (h2 : b = b') (h3 : c = c') (h4 : d = d') : Value.agg #[.int .i64 a, .int .i64 b, .int .i64 c, .int .i64 d] = Value.agg #[.int .i64 a', .int .i64 b', .int .i64 c', .int .i64 d'] := by subst h1 h2 h3 h4; rfl

end Go.Proofs.YthlmgpllapccfaaDoor
/- THE FRAME: what a call leaves as it was: every old block but those that are named. -/
namespace Go.Proofs.YthlmgpllapccfaaDoor
open Go.RowKit

/-- Every block of w but those of bs is in w' as it was. -/
structure Fr (bs : List Nat) (w w' : World) : Prop where
  os : w'.os = w.os
  tape : w'.tape = w.tape
  output : w'.output = w.output
  size : w.heap.size ≤ w'.heap.size
  block : ∀ k, k < w.heap.size → k ∉ bs → w'.heap[k]? = w.heap[k]?

theorem Fr.refl (bs : List Nat) (w : World) : Fr bs w w := ⟨rfl, rfl, rfl, Nat.le_refl _, fun _ _ _ => rfl⟩
theorem Fr.trans {bs cs : List Nat} {a b c : World} (h : Fr bs a b) (k : Fr cs b c) (hs : ∀ x ∈ cs, x ∈ bs ∨ a.heap.size ≤ x) : Fr bs a c :=
  ⟨k.os.trans h.os, k.tape.trans h.tape, k.output.trans h.output, Nat.le_trans h.size k.size, fun i hi hn => (k.block i (Nat.lt_of_lt_of_le hi h.size) (fun hc => by rcases hs i hc with g | g; exact hn g; omega)).trans (h.block i hi hn)⟩
theorem Fr.of_below {bs : List Nat} {w w' : World} (h : Below w.heap.size w w') : Fr bs w w' := ⟨h.os, h.tape, h.output, h.size, fun k hk _ => h.block k hk⟩
theorem Fr.below {bs : List Nat} {w w' : World} {B : Nat} (h : Fr bs w w') (hB : B ≤ w.heap.size) (hbs : ∀ x ∈ bs, B ≤ x) : Below B w w' :=
  ⟨h.os, h.tape, h.output, h.size, fun k hk => h.block k (by omega) (fun hc => by have := hbs k hc; omega)⟩
theorem Fr.drew {bs : List Nat} {a w : World} (h : Fr bs a w) : Fr bs a w.drew := ⟨h.os, h.tape, h.output, h.size, h.block⟩
theorem Fr.alloc {bs : List Nat} {a w : World} (h : Fr bs a w) (o : Obj) : Fr bs a (w.alloc o) :=
  ⟨h.os, h.tape, h.output, by have := h.size; simp; omega, fun k hk hn => (Below.heap_alloc _ _ _ (Nat.lt_of_lt_of_le hk h.size)).trans (h.block k hk hn)⟩
theorem Fr.setCell {bs : List Nat} {a w : World} (h : Fr bs a w) (p : Addr) (v : Value) (hp : p.block ∈ bs ∨ a.heap.size ≤ p.block) : Fr bs a (w.setCell p v) :=
  ⟨h.os, h.tape, h.output, by have := h.size; simp [World.setCell]; omega, fun k hk hn => (Below.heap_setCell _ _ _ _ (fun e => by subst e; rcases hp with g | g; exact hn g; omega)).trans (h.block k hk hn)⟩
theorem Fr.cell {bs : List Nat} {w w' : World} (h : Fr bs w w') {b : Nat} (o : Nat) (hb : b < w.heap.size) (hn : b ∉ bs) : w'.cell? ⟨b, o, none⟩ = w.cell? ⟨b, o, none⟩ := by
  simp only [World.cell?, h.block b hb hn]
theorem Fr.frozen {bs : List Nat} {w w' : World} (h : Fr bs w w') {b : Nat} (o : Nat) (hb : b < w.heap.size) (hn : b ∉ bs) : w'.frozen? ⟨b, o, none⟩ = w.frozen? ⟨b, o, none⟩ := by
  simp only [World.frozen?, h.block b hb hn]
theorem Fr.mono {bs cs : List Nat} {w w' : World} (h : Fr bs w w') (hs : ∀ x ∈ bs, x ∈ cs ∨ w.heap.size ≤ x) : Fr cs w w' :=
  ⟨h.os, h.tape, h.output, h.size, fun k hk hn => h.block k hk (fun hc => by rcases hs k hc with g | g; exact hn g; omega)⟩

theorem cell_set_off (w : World) (b o o' : Nat) (v : Value) (h : o ≠ o') : (w.setCell ⟨b, o, none⟩ v).cell? ⟨b, o', none⟩ = w.cell? ⟨b, o', none⟩ :=
  World.cell?_setCell_other w _ _ v (by intro e; exact h (by injection e))
/-- A whole block. -/
def Blk (w : World) (b : Nat) (cs : Array Value) (t : TypeId) : Prop := w.heap[b]? = some (.cells cs t (0, 0))
theorem Blk.lt {w : World} {b : Nat} {cs : Array Value} {t : TypeId} (h : Blk w b cs t) : b < w.heap.size := by
  rcases Nat.lt_or_ge b w.heap.size with g | g
  · exact g
  · unfold Blk at h; rw [Array.getElem?_eq_none g] at h; simp at h
theorem Blk.cell {w : World} {b : Nat} {cs : Array Value} {t : TypeId} (h : Blk w b cs t) (o : Nat) : w.cell? ⟨b, o, none⟩ = cs[o]? := by
  unfold Blk at h; simp [World.cell?, h]
theorem Blk.frozen {w : World} {b : Nat} {cs : Array Value} {t : TypeId} (h : Blk w b cs t) (o : Nat) : w.frozen? ⟨b, o, none⟩ = false := by
  unfold Blk at h; simp [World.frozen?, h]
theorem Blk.fr {bs : List Nat} {w w' : World} {b : Nat} {cs : Array Value} {t : TypeId} (h : Blk w b cs t) (f : Fr bs w w') (hn : b ∉ bs) : Blk w' b cs t := by
  have := h.lt
  unfold Blk at *; rw [f.block b this hn]; exact h
theorem Blk.drew {w : World} {b : Nat} {cs : Array Value} {t : TypeId} (h : Blk w b cs t) : Blk w.drew b cs t := h
theorem Blk.alloc {w : World} {b : Nat} {cs : Array Value} {t : TypeId} (h : Blk w b cs t) (o : Obj) : Blk (w.alloc o) b cs t := h.fr ((Fr.refl [] w).alloc o) (by simp)
theorem Blk.new (w : World) (cs : Array Value) (t : TypeId) : Blk (w.alloc (.cells cs t)) w.heap.size cs t := by
  show (w.heap.push _)[w.heap.size]? = _
  simp
theorem Blk.newAt (w : World) (cs : Array Value) (t : TypeId) {n : Nat} (h : w.heap.size = n) : Blk (w.alloc (.cells cs t)) n cs t := by subst h; exact Blk.new w cs t
theorem Blk.set {w : World} {b : Nat} {cs : Array Value} {t : TypeId} (h : Blk w b cs t) (o : Nat) (v : Value) : Blk (w.setCell ⟨b, o, none⟩ v) b (cs.setIfInBounds o v) t := by
  unfold Blk at *
  simp [World.setCell, Array.getElem?_modify, h]
theorem Blk.setOther {w : World} {b : Nat} {cs : Array Value} {t : TypeId} (h : Blk w b cs t) (p : Addr) (v : Value) (hn : b ≠ p.block) : Blk (w.setCell p v) b cs t := by
  unfold Blk at *; rw [Below.heap_setCell _ _ _ _ hn]; exact h
theorem Blk.store3 {w : World} {n : Nat} {x0 x1 x2 : Value} {t : TypeId} (h : Blk w n #[x0, x1, x2] t) (a b c : Value) : Blk (((w.setCell ⟨n, 0, none⟩ a).setCell ⟨n, 1, none⟩ b).setCell ⟨n, 2, none⟩ c) n #[a, b, c] t :=
  Blk.set (Blk.set (Blk.set h 0 _) 1 _) 2 _
theorem Blk.store4 {w : World} {n : Nat} {x0 x1 x2 x3 : Value} {t : TypeId} (h : Blk w n #[x0, x1, x2, x3] t) (a b c d : Value) : Blk ((((w.setCell ⟨n, 0, none⟩ a).setCell ⟨n, 1, none⟩ b).setCell ⟨n, 2, none⟩ c).setCell ⟨n, 3, none⟩ d) n #[a, b, c, d] t :=
  Blk.set (Blk.set (Blk.set (Blk.set h 0 _) 1 _) 2 _) 3 _
theorem Blk.cells3 {w : World} {n : Nat} {x0 x1 x2 : Value} {t : TypeId} (h : Blk w n #[x0, x1, x2] t) : w.cell? ⟨n, 0, none⟩ = some x0 ∧ w.cell? ⟨n, 1, none⟩ = some x1 ∧ w.cell? ⟨n, 2, none⟩ = some x2 := ⟨h.cell 0, h.cell 1, h.cell 2⟩
theorem Blk.free3 {w : World} {n : Nat} {cs : Array Value} {t : TypeId} (h : Blk w n cs t) : w.frozen? ⟨n, 0, none⟩ = false ∧ w.frozen? ⟨n, 1, none⟩ = false ∧ w.frozen? ⟨n, 2, none⟩ = false := ⟨h.frozen 0, h.frozen 1, h.frozen 2⟩
theorem ret3 {a b c a' b' c' : Int} (h1 : a = a') (h2 : b = b') (h3 : c = c') : Ending.returned (.agg #[.int .i64 a, .int .i64 b, .int .i64 c]) = Ending.returned (.agg #[.int .i64 a', .int .i64 b', .int .i64 c']) := by subst h1 h2 h3; rfl
end Go.Proofs.YthlmgpllapccfaaDoor
/- THE PROGRAM's ARITHMETIC: Mod; the document's: modulo, raised. -/
namespace Go.Proofs.YthlmgpllapccfaaDoor
open Go.RowKit

theorem tmod7 (n : Int) : (n.tmod 7 + 7).tmod 7 = n % 7 := by
  rcases Int.lt_or_le n 0 with h | h
  · have := Int.tmod_def n 7
    rw [Int.tmod_eq_emod_of_nonneg (by have := Int.lt_tmod_of_pos n (b := 7) (by omega); omega)]
    have e : n.tmod 7 = -((-n) % 7) := by
      have h1 : n = -(-n) := by omega
      rw [h1, Int.neg_tmod, Int.tmod_eq_emod_of_nonneg (by omega)]; simp
    rw [e]; omega
  · rw [Int.tmod_eq_emod_of_nonneg h, Int.tmod_eq_emod_of_nonneg (by omega)]; omega

theorem tmod7_bd (n : Int) : -7 < n.tmod 7 ∧ n.tmod 7 < 7 := ⟨by have := Int.lt_tmod_of_pos n (b := 7) (by omega); omega, Int.tmod_lt_of_pos n (by omega)⟩
theorem ret1 {k : IntKind} {a b : Int} (h : a = b) : Ending.returned (.int k a) = Ending.returned (.int k b) := by rw [h]

set_option maxHeartbeats 400000 in
theorem Mod_any (n : Int) (w : World) :
    Calls Tryd.prog 33 #[.int .i64 n] w fun e w' => e = .returned (.int .i64 (n % 7)) ∧ w' = w := by
  have hb := tmod7_bd n
  have ht := tmod7 n
  have HT : Hid ((n.tmod 7 + 7).tmod 7 = n % 7) := ht
  clear ht
  go_enter Tryd.func33, Tryd.ntmps33
  go_wp2
  go_ret
  exact ⟨ret1 (by rw [← HT.out]; exact (Int.tmod_eq_emod_of_nonneg (by omega)).symm), rfl⟩

set_option maxHeartbeats 400000 in
theorem modulo_any (n : Int) (w : World) :
    Calls Tryd.prog 22 #[.int .i64 n] w fun e w' => e = .returned (.int .i64 (n % 7)) ∧ w' = w := by
  have hb := tmod7_bd n
  have ht := tmod7 n
  have HT : Hid ((n.tmod 7 + 7).tmod 7 = n % 7) := ht
  clear ht
  go_enter Tryd.func22, Tryd.ntmps22
  go_wp2
  go_ret
  exact ⟨ret1 (by rw [← HT.out]; exact (Int.tmod_eq_emod_of_nonneg (by omega)).symm), rfl⟩

/-- a to the n-th, modulo 7. -/
def pw7 (a : Nat) : Nat → Nat
  | 0 => 1
  | n + 1 => pw7 a n * a % 7
theorem pw7_lt (a n : Nat) : pw7 a n < 7 := by cases n <;> simp [pw7]; omega

set_option maxHeartbeats 400000 in
theorem raised_any (a n : Nat) (A N : Int) (w : World) (hA : A = a) (hN : N = n) (ha : a < 7) (hn : n ≤ 6) :
    Calls Tryd.prog 34 #[.int .i64 A, .int .i64 N] w fun e w' => e = .returned (.int .i64 (pw7 a n)) ∧ w' = w := by
  subst hA hN
  go_enter Tryd.func34, Tryd.ntmps34
  go_wp2
  go_loop [5, 6] (fun v i => ∃ k : Nat, k ≤ n ∧ i = .int .i64 k ∧ v = .int .i64 (pw7 a k)) (fun _ i => n - (intOf i).toNat)
  case atStart => exact ⟨0, Nat.zero_le _, rfl, rfl⟩
  case round =>
    obtain ⟨k, hk, rfl, rfl⟩ := hrel
    have hp := pw7_lt a k
    have hm : (pw7 a k : Int) * a ≤ 36 := by
      have h := Nat.mul_le_mul (show pw7 a k ≤ 6 by omega) (show a ≤ 6 by omega)
      have : ((pw7 a k * a : Nat) : Int) ≤ ((6 * 6 : Nat) : Int) := by exact_mod_cast h
      rw [Int.natCast_mul] at this; omega
    have hm0 : 0 ≤ (pw7 a k : Int) * a := by
      have : (0 : Int) ≤ ((pw7 a k * a : Nat) : Int) := by omega
      rw [Int.natCast_mul] at this; omega
    have HS : Hid (((pw7 a k : Int) * a) % 7 = (pw7 a (k + 1) : Nat)) := by unfold Hid; simp [pw7]
    by_cases hlt : k < n
    · go_wp2
      go_round
      case rel => exact ⟨k + 1, by omega, by go_num, by rw [← HS.out]⟩
      case measure => simp [intOf]; omega
    · have e : k = n := by omega
      subst e
      go_wp2
      go_ret
      exact ⟨rfl, rfl⟩
theorem prod_bd {a b : Nat} (ha : a < 7) (hb : b < 7) : 0 ≤ (a : Int) * (b : Int) ∧ (a : Int) * (b : Int) ≤ 36 := by
  have h := Nat.mul_le_mul (show a ≤ 6 by omega) (show b ≤ 6 by omega)
  have h1 : ((a * b : Nat) : Int) ≤ ((6 * 6 : Nat) : Int) := by exact_mod_cast h
  have h2 : (0 : Int) ≤ ((a * b : Nat) : Int) := by omega
  rw [Int.natCast_mul] at h1 h2
  exact ⟨h2, by omega⟩
theorem hidV {p : Prop} (h : p) : Hid p := h
theorem hidT {p : Prop} (h : p) : Hid p := h
end Go.Proofs.YthlmgpllapccfaaDoor
/- PLAIN: the reading of powers, terms, polynomials, over a stream of tokens f. Nothing of the program. -/
namespace Go.Proofs.YthlmgpllapccfaaDoor

/-- What the reading of powers comes to: the error (0: none), its place; the next token's number; the powers of u and x. -/
structure PwR where
  e : Nat
  bad : Nat
  k : Nat
  u : Nat
  x : Nat

def pw (f : Nat → Tok) (bare : Bool) : Nat → Nat → Nat → Nat → PwR
  | 0, k, u, x => ⟨0, 0, k, u, x⟩
  | m + 1, k, u, x =>
    if (f k).c = 2 then (if u + (f k).v ≤ 6 then pw f bare m (k + 1) (u + (f k).v) x else ⟨5, (f k).at', k, u, x⟩)
    else if (f k).c = 3 then (if bare = true then ⟨7, (f k).at', k, u, x⟩ else if x + (f k).v ≤ 4 then pw f bare m (k + 1) u (x + (f k).v) else ⟨5, (f k).at', k, u, x⟩)
    else ⟨0, 0, k, u, x⟩

theorem pw_u {f : Nat → Tok} {bare : Bool} {m k u x : Nat} (hm : 0 < m) (hc : (f k).c = 2) (h : u + (f k).v ≤ 6) : pw f bare m k u x = pw f bare (m - 1) (k + 1) (u + (f k).v) x := by
  obtain ⟨m, rfl⟩ : ∃ n, m = n + 1 := ⟨m - 1, by omega⟩
  simp [pw, hc, h]
theorem pw_u_bad {f : Nat → Tok} {bare : Bool} {m k u x : Nat} (hm : 0 < m) (hc : (f k).c = 2) (h : ¬ u + (f k).v ≤ 6) : pw f bare m k u x = ⟨5, (f k).at', k, u, x⟩ := by
  obtain ⟨m, rfl⟩ : ∃ n, m = n + 1 := ⟨m - 1, by omega⟩
  simp [pw, hc, h]
theorem pw_x {f : Nat → Tok} {m k u x : Nat} (hm : 0 < m) (hc : (f k).c = 3) (h : x + (f k).v ≤ 4) : pw f false m k u x = pw f false (m - 1) (k + 1) u (x + (f k).v) := by
  obtain ⟨m, rfl⟩ : ∃ n, m = n + 1 := ⟨m - 1, by omega⟩
  simp [pw, hc, h]
theorem pw_x_bad {f : Nat → Tok} {m k u x : Nat} (hm : 0 < m) (hc : (f k).c = 3) (h : ¬ x + (f k).v ≤ 4) : pw f false m k u x = ⟨5, (f k).at', k, u, x⟩ := by
  obtain ⟨m, rfl⟩ : ∃ n, m = n + 1 := ⟨m - 1, by omega⟩
  simp [pw, hc, h]
theorem pw_x_bare {f : Nat → Tok} {m k u x : Nat} (hm : 0 < m) (hc : (f k).c = 3) : pw f true m k u x = ⟨7, (f k).at', k, u, x⟩ := by
  obtain ⟨m, rfl⟩ : ∃ n, m = n + 1 := ⟨m - 1, by omega⟩
  simp [pw, hc]
theorem pw_end {f : Nat → Tok} {bare : Bool} {m k u x : Nat} (h2 : (f k).c ≠ 2) (h3 : (f k).c ≠ 3) : pw f bare m k u x = ⟨0, 0, k, u, x⟩ := by
  cases m <;> simp [pw, h2, h3]
/-- What is read stays within the bounds; the tokens go on. -/
theorem pw_facts (f : Nat → Tok) (bare : Bool) : ∀ (m k u x : Nat), u ≤ 6 → x ≤ 4 → (pw f bare m k u x).u ≤ 6 ∧ (pw f bare m k u x).x ≤ 4 ∧ k ≤ (pw f bare m k u x).k ∧ (pw f bare m k u x).k ≤ k + m := by
  intro m
  induction m with
  | zero => intro k u x hu hx; simp [pw, hu, hx]
  | succ m ih =>
    intro k u x hu hx
    simp only [pw]
    split
    · split
      · have := ih (k + 1) (u + (f k).v) x (by omega) hx; omega
      · simp [hu, hx]
    · split
      · split
        · simp [hu, hx]
        · split
          · have := ih (k + 1) u (x + (f k).v) hu (by omega); omega
          · simp [hu, hx]
      · simp [hu, hx]

structure TmR where
  e : Nat
  bad : Nat
  k : Nat
  n : Nat
  u : Nat
  x : Nat

/-- A term from token k on; there are at most N tokens ahead of the end. -/
def tm (f : Nat → Tok) (bare : Bool) (N k : Nat) : TmR :=
  if (f k).c = 1 then ⟨(pw f bare (N - (k + 1)) (k + 1) 0 0).e, (pw f bare (N - (k + 1)) (k + 1) 0 0).bad, (pw f bare (N - (k + 1)) (k + 1) 0 0).k, (f k).v, (pw f bare (N - (k + 1)) (k + 1) 0 0).u, (pw f bare (N - (k + 1)) (k + 1) 0 0).x⟩
  else if (f k).c = 2 ∨ (f k).c = 3 then ⟨(pw f bare (N - k) k 0 0).e, (pw f bare (N - k) k 0 0).bad, (pw f bare (N - k) k 0 0).k, 1, (pw f bare (N - k) k 0 0).u, (pw f bare (N - k) k 0 0).x⟩
  else ⟨4, (f k).at', k, 0, 0, 0⟩

/-- A number n added, sg times, at the powers u and x. -/
def plus (p : List Nat) (u x a : Nat) : List Nat := p.set (7 * x + u) ((p.getD (7 * x + u) 0 + a) % 7)

structure PlR where
  e : Nat
  bad : Nat
  k : Nat
  p : List Nat

def pl (f : Nat → Tok) (bare : Bool) (N : Nat) : Nat → Nat → Nat → List Nat → PlR
  | 0, k, _, p => ⟨4, 0, k, p⟩
  | m + 1, k, sg, p =>
    if (tm f bare N k).e = 0 then
      (if (f (tm f bare N k).k).c = 47 then pl f bare N m ((tm f bare N k).k + 1) 1 (plus p (tm f bare N k).u (tm f bare N k).x (sg * (tm f bare N k).n))
      else if (f (tm f bare N k).k).c = 49 then pl f bare N m ((tm f bare N k).k + 1) 6 (plus p (tm f bare N k).u (tm f bare N k).x (sg * (tm f bare N k).n))
      else ⟨0, 0, (tm f bare N k).k, plus p (tm f bare N k).u (tm f bare N k).x (sg * (tm f bare N k).n)⟩)
    else ⟨(tm f bare N k).e, (tm f bare N k).bad, k, p⟩

def zeros : List Nat := List.replicate 35 0

/-- A polynomial from token k on. -/
def poly (f : Nat → Tok) (bare : Bool) (N k : Nat) : PlR :=
  if (f k).c = 49 then pl f bare N (N + 1) (k + 1) 6 zeros else pl f bare N (N + 1) k 1 zeros

/-- A text read as a polynomial: the error, its place, the numbers. -/
structure RdR where
  e : Nat
  bad : Nat
  p : List Nat

def rd (s : ByteArray) : RdR :=
  if 90 < s.size then ⟨2, 0, zeros⟩
  else if (poly (tk s 0) false s.size 0).e = 0 then
    (if (tk s 0 (poly (tk s 0) false s.size 0).k).c = 0 then ⟨0, 0, (poly (tk s 0) false s.size 0).p⟩ else ⟨4, (tk s 0 (poly (tk s 0) false s.size 0).k).at', zeros⟩)
  else ⟨(poly (tk s 0) false s.size 0).e, (poly (tk s 0) false s.size 0).bad, zeros⟩

/-- 35 numbers, 0 to 6. -/
def Good (p : List Nat) : Prop := p.length = 35 ∧ ∀ i, p.getD i 0 < 7
theorem zeros_good : Good zeros := ⟨rfl, fun i => by
  unfold zeros
  rw [List.getD_eq_getElem?_getD, List.getElem?_replicate]
  split <;> simp⟩
theorem plus_good {p : List Nat} (h : Good p) (u x a : Nat) : Good (plus p u x a) := by
  refine ⟨by simp [plus, h.1], fun i => ?_⟩
  unfold plus
  simp only [List.getD_eq_getElem?_getD, List.getElem?_set]
  split
  · split
    · simp; omega
    · simp
  · have := h.2 i; simpa [List.getD_eq_getElem?_getD] using this

theorem tm_facts (f : Nat → Tok) (bare : Bool) (N k : Nat) : (tm f bare N k).u ≤ 6 ∧ (tm f bare N k).x ≤ 4 ∧ k ≤ (tm f bare N k).k ∧ (k < N → (tm f bare N k).k ≤ N) := by
  unfold tm
  split
  · have := pw_facts f bare (N - (k + 1)) (k + 1) 0 0 (by omega) (by omega)
    refine ⟨this.1, this.2.1, ?_, ?_⟩ <;> simp <;> omega
  · split
    · have := pw_facts f bare (N - k) k 0 0 (by omega) (by omega)
      refine ⟨this.1, this.2.1, ?_, ?_⟩ <;> simp <;> omega
    · refine ⟨?_, ?_, ?_, ?_⟩ <;> simp; omega
theorem tm_num {f : Nat → Tok} (bare : Bool) (N k : Nat) (h : ∀ k, (f k).v ≤ 99) : (tm f bare N k).n ≤ 99 := by
  unfold tm
  split
  · exact h k
  · split <;> simp
theorem pl_bad {f : Nat → Tok} {bare : Bool} {N m k sg : Nat} {p : List Nat} (hm : 0 < m) (h : (tm f bare N k).e ≠ 0) : pl f bare N m k sg p = ⟨(tm f bare N k).e, (tm f bare N k).bad, k, p⟩ := by
  obtain ⟨m, rfl⟩ : ∃ n, m = n + 1 := ⟨m - 1, by omega⟩
  simp only [pl, h, if_false]
theorem pl_plus {f : Nat → Tok} {bare : Bool} {N m k sg : Nat} {p : List Nat} (hm : 0 < m) (h : (tm f bare N k).e = 0) (hc : (f (tm f bare N k).k).c = 47) :
    pl f bare N m k sg p = pl f bare N (m - 1) ((tm f bare N k).k + 1) 1 (plus p (tm f bare N k).u (tm f bare N k).x (sg * (tm f bare N k).n)) := by
  obtain ⟨m, rfl⟩ : ∃ n, m = n + 1 := ⟨m - 1, by omega⟩
  simp only [pl, h, hc, if_true, Nat.add_sub_cancel]
theorem pl_minus {f : Nat → Tok} {bare : Bool} {N m k sg : Nat} {p : List Nat} (hm : 0 < m) (h : (tm f bare N k).e = 0) (hc : (f (tm f bare N k).k).c = 49) :
    pl f bare N m k sg p = pl f bare N (m - 1) ((tm f bare N k).k + 1) 6 (plus p (tm f bare N k).u (tm f bare N k).x (sg * (tm f bare N k).n)) := by
  obtain ⟨m, rfl⟩ : ∃ n, m = n + 1 := ⟨m - 1, by omega⟩
  simp [pl, h, hc]
theorem pl_done {f : Nat → Tok} {bare : Bool} {N m k sg : Nat} {p : List Nat} (hm : 0 < m) (h : (tm f bare N k).e = 0) (h4 : (f (tm f bare N k).k).c ≠ 47) (h5 : (f (tm f bare N k).k).c ≠ 49) :
    pl f bare N m k sg p = ⟨0, 0, (tm f bare N k).k, plus p (tm f bare N k).u (tm f bare N k).x (sg * (tm f bare N k).n)⟩ := by
  obtain ⟨m, rfl⟩ : ∃ n, m = n + 1 := ⟨m - 1, by omega⟩
  simp only [pl, h, h4, h5, if_true, if_false]

def sgOf (neg : Bool) : Nat := if neg then 6 else 1
end Go.Proofs.YthlmgpllapccfaaDoor
/- A REGION THAT DRAWS ITS ORDER, WHOSE FIRST n OPERATIONS ONLY READ (AND CALL WHAT ONLY READS), THE REST FORCED BEHIND THEM (a store at the end): one walk in the text's order serves every order. Over the library's notions of quiet operations (Derived.Deep.Quiet) and of a forced tail (Derived.StillTail). -/
namespace Go.Proofs.YthlmgpllapccfaaDoor
open Go
section
variable {P : Program} {ops : Array Oper} {md : Region.Mode} {C : World → Prop}

/-- f operations more come up, each of the first n and quiet; then L. -/
def headQ (P : Program) (md : Region.Mode) (ops : Array Oper) (C : World → Prop) (n : Nat) (L : Array Bool → Act → Prop) : Nat → Array Bool → Act → Prop
  | 0, listed, a => L listed a
  | f + 1, listed, a => Region.ready md ops listed ≠ [] ∧ ∀ i ∈ Region.ready md ops listed, i < n ∧ qOp P ops C i (headQ P md ops C n L f (listed.setIfInBounds i true)) a

theorem any_of_headQ {n g : Nat} {L : Array Bool → Act → Prop} {Q : Exit → Act → World → Prop} (hL : ∀ listed a w, C w → L listed a → wpAny P md ops Q g listed a w) :
    ∀ (f : Nat) (listed : Array Bool) (a : Act) (w : World), C w → headQ P md ops C n L f listed a → wpAny P md ops Q (f + g) listed a w := by
  intro f
  induction f with
  | zero => intro listed a w hw h; rw [Nat.zero_add]; exact hL listed a w hw h
  | succ f ih =>
    intro listed a w hw h
    rw [Nat.add_right_comm]
    exact ⟨fun e => absurd e h.1, fun i hi => wpOp_of_qOp hw (fun a' w' hw' h' => ih _ a' w' hw' h') (h.2 i hi).2⟩

theorem headQ_ready {n : Nat} {L : Array Bool → Act → Prop} (hdone : ∀ listed a, L listed a → ∀ j ∈ Region.ready md ops listed, n ≤ j) {f : Nat} {listed : Array Bool} {a : Act}
    (h : headQ P md ops C n L f listed a) {j : Nat} (hj : j ∈ Region.ready md ops listed) (hn : j < n) : ∃ f', f = f' + 1 ∧ qOp P ops C j (headQ P md ops C n L f' (listed.setIfInBounds j true)) a := by
  cases f with
  | zero => have := hdone listed a h j hj; omega
  | succ f => exact ⟨f, rfl, (h.2 j hj).2⟩

theorem headQ_first {n i : Nat} {oi : Oper} {v : Value} {L : Array Bool → Act → Prop} (hi : ops[i]? = some oi) (hsel : ∀ (j : Nat) (o : Oper) cs b, ops[j]? = some o → o.op ≠ .select cs b)
    (hs : Region.sinkB md ops n = true) (hc : Region.chainB md ops n = true) (hn : n < ops.size) (hin : i < n) (hdone : ∀ listed a, L listed a → ∀ j ∈ Region.ready md ops listed, n ≤ j) :
    ∀ (f : Nat) (listed : Array Bool) (a : Act), HeadInv md ops n listed →
      (∀ j oj, ops[j]? = some oj → j ≠ i → listed.getD j true = false → (∀ e ∈ oj.after, Region.binds md e = true → e.on ≠ i) → oi.apart ops oj = true) →
      i ∈ Region.ready md ops listed → YieldsIn P ops C oi v a → headQ P md ops C n L f (listed.setIfInBounds i true) (a.put oi.dst v) → headQ P md ops C n L (f + 1) listed a := by
  intro f
  induction f with
  | zero =>
    intro listed a inv hfree hr hy H
    have hun := (mem_ready.1 hr).1
    refine ⟨List.ne_nil_of_mem hr, fun j hj => ?_⟩
    have hjn : j < n := Nat.lt_of_not_le fun h => tail_waits hs hc hn inv _ i rfl hin hun j h hj
    refine ⟨hjn, ?_⟩
    by_cases hji : j = i
    · rw [hji]; exact hy.qOp hi H
    · obtain ⟨f', e, _⟩ := headQ_ready hdone H (ready_mono hj hji) hjn
      omega
  | succ f ih =>
    intro listed a inv hfree hr hy H
    have hun := (mem_ready.1 hr).1
    refine ⟨List.ne_nil_of_mem hr, fun j hj => ?_⟩
    have hjn : j < n := Nat.lt_of_not_le fun h => tail_waits hs hc hn inv _ i rfl hin hun j h hj
    refine ⟨hjn, ?_⟩
    by_cases hji : j = i
    · rw [hji]; exact hy.qOp hi H
    · obtain ⟨f', e, h1⟩ := headQ_ready hdone H (ready_mono hj hji) hjn
      have e' : f' = f := by omega
      subst e'
      obtain ⟨hjun, oj, hoj, hall⟩ := mem_ready.1 hj
      have hno : ∀ e ∈ oj.after, Region.binds md e = true → e.on ≠ i := fun e he hb heq => by
        have := hall e he hb
        rw [heq, getD_both hun] at this
        exact Bool.false_ne_true this
      have h2 := qOp_put hoj (hfree j oj hoj hji hjun hno) (fun cs b => hsel i oi cs b hi) (fun cs b => hsel j oj cs b hoj) hy h1
      refine qOp_mono (fun a' h3 => ih (listed.setIfInBounds j true) a' (inv.set hj hjn) (fun k ok hk hki hunk hnk => hfree k ok hk hki ?_ hnk) (ready_mono hr (Ne.symm hji)) h3.1 ?_) h2
      · by_cases hjk : j = k
        · rw [← hjk]; exact hjun
        · rw [getD_set_ne true hjk] at hunk; exact hunk
      · rw [Array.setIfInBounds_comm _ _ hji]; exact h3.2

theorem headQ_lex {n g : Nat} {Lq : Act → Prop} (hsel : Region.noSelect ops = true) (hs : Region.sinkB md ops n = true) (hc : Region.chainB md ops n = true) (hn : n < ops.size) :
    ∀ (l : List Oper) (k : Nat) (listed : Array Bool) (a : Act), (∀ j, j < l.length → l[j]? = ops[k + j]?) → k + l.length = n → HeadInv md ops n listed →
    Region.lexHead md ops g l.length k listed = true → wpQuiet P ops C Lq l a →
    headQ P md ops C n (fun listed' a' => Region.seqB md ops g n listed' = true ∧ Lq a') l.length listed a := by
  intro l
  induction l with
  | nil =>
    intro k listed a _ hk _ hB h
    have e : k = n := by simpa using hk
    subst e
    exact ⟨by simpa [Region.lexHead] using hB, h⟩
  | cons o l ih =>
    intro k listed a hl hk inv hB h
    have h0 : ops[k]? = some o := by simpa using (hl 0 (by simp)).symm
    simp only [List.length_cons, Region.lexHead, Bool.and_eq_true] at hB
    simp only [List.length_cons] at hk
    have hr : k ∈ Region.ready md ops listed := by simpa using hB.1.1
    have hq : qOp P ops C k (wpQuiet P ops C Lq l) a := by unfold qOp; simp only [h0]; exact h
    obtain ⟨v, hy, hK⟩ := yieldsIn_of_qOp h0 hq
    refine headQ_first h0 (Region.noSelect_spec hsel) hs hc hn (by omega) (fun listed' a' hL => seqB_ready hL.1) l.length listed a inv (Region.free_spec h0 hB.1.2) hr hy ?_
    refine ih (k + 1) _ _ (fun j hj => ?_) (by omega) (inv.set hr (by omega)) hB.2 hK
    have := hl (j + 1) (by simp; omega)
    rw [show k + 1 + j = k + (j + 1) by omega, ← this]; simp

/-- THE LAW. -/
theorem region_quiet_tail {id : Nat} {Q : Exit → Act → World → Prop} {a : Act} {w : World} {l : List Oper} (n : Nat) (hm : P.follows .mixedOrders = true) (hB : Region.lexTailB .any l.toArray n = true)
    (h : wpQuiet P l.toArray (fun w' => ∃ m, w' = w.drewN m) (fun a' => ∀ w', (∃ m, w' = w.drewN m) → wpList P l.toArray Q (l.drop n) a' w') (l.take n) a) : (Code.region id l.toArray true).wp P Q a w := by
  simp only [Region.lexTailB, Bool.and_eq_true, decide_eq_true_eq] at hB
  obtain ⟨⟨⟨⟨hsel, hn⟩, hs⟩, hc⟩, hlex⟩ := hB
  have htl : (l.take n).length = n := by simp only [List.size_toArray] at hn; simp; omega
  have hdl : (l.drop n).length = l.toArray.size - n := by simp
  have H := headQ_lex (md := .any) (g := l.toArray.size - n) hsel hs hc hn (l.take n) 0 (Array.replicate l.toArray.size false) a (fun j hj => by
      rw [htl] at hj
      simp [hj]) (by omega)
    ⟨by simp, fun j oj _ hl => by rw [getD_replicate_false] at hl; exact absurd hl Bool.false_ne_true, fun t _ ht => getD_in (by simpa using ht) (getD_replicate_false _ _)⟩
    (by rw [htl]; exact hlex) h
  refine wp_region_any hm ?_
  have K := any_of_headQ (Q := Q) (g := l.toArray.size - n) (fun listed a' w' hw' hL => by
    have := wpAny_of_seq (md := .any) (Q' := Q) (l.drop n) n listed a' w' (fun j => by simp [List.getElem?_drop]) (by rw [hdl]; exact hL.1) (hL.2 w' hw')
    rwa [hdl] at this) _ _ _ { w with drawn := w.drawn + 1 } ⟨1, rfl⟩ H
  rw [htl, show n + (l.toArray.size - n) = l.toArray.size by omega] at K
  exact K
end
end Go.Proofs.YthlmgpllapccfaaDoor
/- WHOLE ARRAYS IN BLOCKS OF THEIR OWN: loads and stores of 35 cells. -/
namespace Go.Proofs.YthlmgpllapccfaaDoor
open Go.RowKit

/-- A polynomial as cells. -/
def pv (p : List Nat) : Array Value := (p.map fun n : Nat => Value.int .i64 (n : Int)).toArray
theorem pv_size (p : List Nat) : (pv p).size = p.length := by simp [pv]
theorem pv_get {p : List Nat} {j : Nat} (h : j < p.length) : (pv p)[j]? = some (.int .i64 (p.getD j 0)) := by simp [pv, List.getElem?_eq_getElem h]
theorem pv_set (p : List Nat) (j v : Nat) : (pv p).setIfInBounds j (.int .i64 v) = pv (p.set j v) := by simp [pv, List.map_set]
theorem pv_one (p : List Nat) : (pv p).all (·.oneCell') = true := by
  rw [Array.all_eq_true_iff_forall_mem]
  intro v hv
  simp only [pv, List.mem_toArray, List.mem_map] at hv
  obtain ⟨n, _, rfl⟩ := hv
  rfl

/-- What is known of the world alone. -/
theorem wp_forget {P : Program} {c : Code} {Q : Exit → Act → World → Prop} {a : Act} {w : World} (I : World → Prop) (hI : I w) (h : ∀ W, I W → Code.wp P c Q a W) : Code.wp P c Q a w := h w hI

theorem Blk.putN {w : World} {b : Nat} {p : List Nat} {t : TypeId} (h : Blk w b (pv p) t) (j k : Nat) (n : Int) (hn : n = k) : Blk (w.setCell ⟨b, j, none⟩ (.int .i64 n)) b (pv (p.set j k)) t := by
  subst hn
  have := h.set j (.int .i64 k)
  rwa [pv_set] at this
theorem Blk.there {w : World} {b : Nat} {cs : Array Value} {t : TypeId} (h : Blk w b cs t) {n : Nat} (hn : n ≤ cs.size) : w.there b 0 n := fun j hj => by
  rw [Nat.zero_add, h.cell, h.frozen]
  exact ⟨by simp; omega, rfl⟩
theorem heap_setCells (b : Nat) : ∀ (vs : List Value) (o : Nat) (w : World) (k : Nat), k ≠ b → (w.setCells b o vs).heap[k]? = w.heap[k]?
  | [], _, _, _, _ => rfl
  | v :: r, o, w, k, h => by
    rw [World.setCells, heap_setCells b r (o + 1) _ k h]
    exact Below.heap_setCell _ _ _ _ h
theorem rest_setCells (b : Nat) : ∀ (vs : List Value) (o : Nat) (w : World), (w.setCells b o vs).os = w.os ∧ (w.setCells b o vs).tape = w.tape ∧ (w.setCells b o vs).output = w.output ∧ (w.setCells b o vs).heap.size = w.heap.size
  | [], _, _ => ⟨rfl, rfl, rfl, rfl⟩
  | v :: r, o, w => by
    rw [World.setCells]
    have := rest_setCells b r (o + 1) (w.setCell ⟨b, o, none⟩ v)
    refine ⟨this.1, this.2.1, this.2.2.1, this.2.2.2.trans (by simp [World.setCell])⟩
theorem Fr.setCells {bs : List Nat} {a w : World} (h : Fr bs a w) (b o : Nat) (vs : List Value) (hp : b ∈ bs ∨ a.heap.size ≤ b) : Fr bs a (w.setCells b o vs) := by
  obtain ⟨h1, h2, h3, h4⟩ := rest_setCells b vs o w
  exact ⟨h1.trans h.os, h2.trans h.tape, h3.trans h.output, by rw [h4]; exact h.size, fun k hk hn => (heap_setCells b vs o w k (fun e => by subst e; rcases hp with g | g; exact hn g; omega)).trans (h.block k hk hn)⟩
theorem Below.setCells {B : Nat} {a w : World} (h : Below B a w) (b o : Nat) (vs : List Value) (hp : B ≤ b) : Below B a (w.setCells b o vs) := by
  obtain ⟨h1, h2, h3, h4⟩ := rest_setCells b vs o w
  exact ⟨h1.trans h.os, h2.trans h.tape, h3.trans h.output, by rw [h4]; exact h.size, fun k hk => (heap_setCells b vs o w k (by omega)).trans (h.block k hk)⟩
theorem Blk.setCellsOther {w : World} {b : Nat} {cs : Array Value} {t : TypeId} (h : Blk w b cs t) (c o : Nat) (vs : List Value) (hn : b ≠ c) : Blk (w.setCells c o vs) b cs t := by
  unfold Blk at *; rw [heap_setCells _ _ _ _ _ hn]; exact h
theorem Blk.over (b : Nat) (t : TypeId) : ∀ (vs : List Value) (o : Nat) (w : World) (cs : Array Value), Blk w b cs t → ∃ ds : Array Value, Blk (w.setCells b o vs) b ds t ∧ ds.size = cs.size ∧ ∀ j, j < cs.size → ds[j]? = if o ≤ j ∧ j < o + vs.length then vs[j - o]? else cs[j]?
  | [], o, w, cs, h => ⟨cs, h, rfl, fun j _ => by rw [if_neg (by simp)]⟩
  | v :: r, o, w, cs, h => by
    obtain ⟨ds, h1, h2, h3⟩ := Blk.over b t r (o + 1) (w.setCell ⟨b, o, none⟩ v) _ (h.set o v)
    refine ⟨ds, h1, by simpa using h2, fun j hj => ?_⟩
    rw [h3 j (by simpa using hj)]
    by_cases hjo : j = o
    · subst hjo
      rw [if_neg (by omega), if_pos (by simp)]
      simp [hj]
    · by_cases hin : o + 1 ≤ j ∧ j < o + 1 + r.length
      · rw [if_pos hin, if_pos (by simp; omega), show j - o = (j - (o + 1)) + 1 by omega]; simp
      · rw [if_neg hin, if_neg (by simp; omega)]
        simp [Ne.symm hjo]
theorem Blk.setAll {w : World} {b : Nat} {cs : Array Value} {t : TypeId} (h : Blk w b cs t) (vs : Array Value) (hs : vs.size = cs.size) : Blk (w.setCells b 0 vs.toList) b vs t := by
  obtain ⟨ds, h1, h2, h3⟩ := Blk.over b t vs.toList 0 w cs h
  have e : ds = vs := by
    apply Array.ext_getElem?
    intro j
    by_cases hj : j < cs.size
    · rw [h3 j hj, if_pos (by simp; omega)]; simp
    · rw [Array.getElem?_eq_none (by omega), Array.getElem?_eq_none (by omega)]
  rw [← e]; rw [← e] at h1; exact h1
theorem size_poly {p : List Nat} (hp : Good p) : (Tryd.prog.info? 37).map (·.size) = some (pv p).size := by rw [pv_size, hp.1]; kernel_rfl
theorem size_rPoly {p : List Nat} (hp : Good p) : (Tryd.prog.info? 41).map (·.size) = some (pv p).size := by rw [pv_size, hp.1]; kernel_rfl
theorem lit_zeros : (#[.int .i64 0, .int .i64 0, .int .i64 0, .int .i64 0, .int .i64 0, .int .i64 0, .int .i64 0, .int .i64 0, .int .i64 0, .int .i64 0, .int .i64 0, .int .i64 0, .int .i64 0, .int .i64 0, .int .i64 0, .int .i64 0, .int .i64 0, .int .i64 0, .int .i64 0, .int .i64 0, .int .i64 0, .int .i64 0, .int .i64 0, .int .i64 0, .int .i64 0, .int .i64 0, .int .i64 0, .int .i64 0, .int .i64 0, .int .i64 0, .int .i64 0, .int .i64 0, .int .i64 0, .int .i64 0, .int .i64 0] : Array Value).toList = (pv zeros).toList := by kernel_rfl
end Go.Proofs.YthlmgpllapccfaaDoor
/- PLAIN: what a polynomial comes to: from the top (the program), by powers (the document). -/
namespace Go.Proofs.YthlmgpllapccfaaDoor

/-- From the top, k of n numbers. -/
def horn (c : Nat → Nat) (n u : Nat) : Nat → Nat
  | 0 => 0
  | k + 1 => (horn c n u k * u + c (n - 1 - k)) % 7
/-- By powers, k numbers. -/
def pows (c : Nat → Nat) (u : Nat) : Nat → Nat
  | 0 => 0
  | k + 1 => (pows c u k + c k * pw7 u k) % 7
theorem horn_lt (c : Nat → Nat) (n u k : Nat) : horn c n u k < 7 := by cases k <;> simp [horn]; omega
theorem pows_lt (c : Nat → Nat) (u k : Nat) : pows c u k < 7 := by cases k <;> simp [pows]; omega

/-- The sum itself. -/
def sumI (c : Nat → Nat) (u : Nat) : Nat → Nat
  | 0 => 0
  | k + 1 => sumI c u k + c k * u ^ k
theorem sumI_front (u : Nat) : ∀ (k : Nat) (c : Nat → Nat), sumI c u (k + 1) = c 0 + u * sumI (fun j => c (j + 1)) u k
  | 0, c => by simp [sumI]
  | k + 1, c => by
    rw [sumI, sumI_front u k c, sumI, Nat.mul_add, ← Nat.add_assoc]
    congr 1
    rw [Nat.pow_succ, Nat.mul_comm (u ^ k) u, ← Nat.mul_assoc, ← Nat.mul_assoc, Nat.mul_comm (c (k + 1)) u]
theorem pw7_pow (u : Nat) : ∀ k, pw7 u k = u ^ k % 7
  | 0 => rfl
  | k + 1 => by rw [pw7, pw7_pow u k, Nat.pow_succ, Nat.mod_mul_mod]
theorem pows_sum (c : Nat → Nat) (u : Nat) : ∀ k, pows c u k = sumI c u k % 7
  | 0 => rfl
  | k + 1 => by
    rw [pows, pows_sum c u k, pw7_pow, sumI]
    rw [Nat.add_mod (sumI c u k % 7), Nat.mod_mod, Nat.mul_mod_mod, ← Nat.add_mod]
theorem horn_sum (c : Nat → Nat) (n u : Nat) : ∀ k, k ≤ n → horn c n u k = sumI (fun j => c (n - k + j)) u k % 7
  | 0, _ => rfl
  | k + 1, h => by
    rw [horn, horn_sum c n u k (by omega), sumI_front]
    have e : (fun j => c (n - (k + 1) + (j + 1))) = fun j => c (n - k + j) := by
      funext j; congr 1; omega
    rw [e, show n - (k + 1) + 0 = n - 1 - k by omega, Nat.add_mod, Nat.mod_mul_mod, ← Nat.add_mod, Nat.add_comm, Nat.mul_comm u]
theorem horn_pows (c : Nat → Nat) (n u : Nat) : horn c n u n = pows c u n := by
  rw [horn_sum c n u n (Nat.le_refl _), pows_sum]
  congr 1
  have e : (fun j => c (n - n + j)) = c := by funext j; congr 1; omega
  rw [e]

/-- What the polynomial p comes to. -/
def valP (p : List Nat) (u x : Nat) : Nat := horn (fun i => horn (fun j => p.getD (i * 7 + j) 0) 7 u 7) 5 x 5
def lineR (p : List Nat) (u : Nat) : List Nat := [pows (fun j => p.getD (0 * 7 + j) 0) u 7, pows (fun j => p.getD (1 * 7 + j) 0) u 7, pows (fun j => p.getD (2 * 7 + j) 0) u 7, pows (fun j => p.getD (3 * 7 + j) 0) u 7, pows (fun j => p.getD (4 * 7 + j) 0) u 7]
def valL (l : List Nat) (x : Nat) : Nat := pows (fun i => l.getD i 0) x 5
theorem pows_congr {c d : Nat → Nat} {u : Nat} : ∀ k, (∀ j, j < k → c j = d j) → pows c u k = pows d u k
  | 0, _ => rfl
  | k + 1, h => by rw [pows, pows, pows_congr k (fun j hj => h j (by omega)), h k (by omega)]
theorem lineR_get (p : List Nat) (u i : Nat) (h : i < 5) : (lineR p u).getD i 0 = pows (fun j => p.getD (i * 7 + j) 0) u 7 := by
  match i, h with
  | 0, _ => rfl
  | 1, _ => rfl
  | 2, _ => rfl
  | 3, _ => rfl
  | 4, _ => rfl
theorem val_same (p : List Nat) (u x : Nat) : valL (lineR p u) x = valP p u x := by
  unfold valP valL
  rw [horn_pows]
  exact pows_congr 5 (fun i hi => by rw [lineR_get p u i hi, horn_pows])
end Go.Proofs.YthlmgpllapccfaaDoor
/- THE DOCUMENT's worth and at. -/
namespace Go.Proofs.YthlmgpllapccfaaDoor
open Go.RowKit

def lst (g : Nat → Nat) : List Nat := [g 0, g 1, g 2, g 3, g 4]
theorem lst_get (g : Nat → Nat) {i : Nat} (h : i < 5) : (lst g).getD i 0 = g i := by
  match i, h with
  | 0, _ => rfl
  | 1, _ => rfl
  | 2, _ => rfl
  | 3, _ => rfl
  | 4, _ => rfl
theorem lst_set (g d : Nat → Nat) {k v : Nat} (hk : k < 5) (hv : d k = v) (ho : ∀ i, i ≠ k → d i = g i) : (lst g).set k v = lst d := by
  subst hv
  unfold lst
  match k, hk with
  | 0, _ => simp [ho 1, ho 2, ho 3, ho 4]
  | 1, _ => simp [ho 0, ho 2, ho 3, ho 4]
  | 2, _ => simp [ho 0, ho 1, ho 3, ho 4]
  | 3, _ => simp [ho 0, ho 1, ho 2, ho 4]
  | 4, _ => simp [ho 0, ho 1, ho 2, ho 3]
theorem lst_congr {g d : Nat → Nat} (h : ∀ i, i < 5 → g i = d i) : lst g = lst d := by
  unfold lst; rw [h 0 (by omega), h 1 (by omega), h 2 (by omega), h 3 (by omega), h 4 (by omega)]
theorem size_line {l : List Nat} (hl : l.length = 5) : (Tryd.prog.info? 47).map (·.size) = some (pv l).size := by rw [pv_size, hl]; kernel_rfl

set_option maxRecDepth 100000 in
set_option maxHeartbeats 2000000 in
theorem worth_any (l : List Nat) (b : Nat) (B : Int) (w : World) (hl : l.length = 5) (hl7 : ∀ i, l.getD i 0 < 7) (hB : B = b) (hb : b < 7) :
    Calls Tryd.prog 20 #[.agg (pv l), .int .i64 B] w fun e w' => e = .returned (.int .i64 (valL l b)) ∧ Below w.heap.size w w' := by
  subst hB
  unfold valL
  go_enter Tryd.func20, Tryd.ntmps20
  go_wp2
  refine wp_forget (fun W => Blk W w.heap.size (pv l) 47 ∧ Below w.heap.size w W) ⟨Blk.new w _ _, by go_grown⟩ ?_
  rintro W ⟨b1, hbel⟩
  have B1 := hidV b1
  have BB := hidV hbel
  clear b1 hbel
  go_loopg [5, 6] 5 (fun gm v5 v6 wr => ∃ k : Nat, gm = 5 - k ∧ k ≤ 5 ∧ v6 = .int .i64 k ∧ v5 = .int .i64 (pows (fun i => l.getD i 0) b k) ∧ Hid (Blk wr w.heap.size (pv l) 47 ∧ Below w.heap.size w wr))
  case atStart => exact ⟨0, rfl, by omega, rfl, rfl, ⟨B1.out, BB.out⟩⟩
  case round =>
    obtain ⟨k, hgm, hk, rfl, rfl, HD⟩ := hrel
    have B2 := hidV HD.out.1
    have BB2 := hidV HD.out.2
    clear HD B1 BB
    clear W
    have hlt := pows_lt (fun i => l.getD i 0) b k
    by_cases h5 : k < 5
    · have HS : Hid (pows (fun i => l.getD i 0) b (k + 1) = (pows (fun i => l.getD i 0) b k + l.getD k 0 * pw7 b k) % 7) := rfl
      generalize pows (fun i => l.getD i 0) b k = G at *
      have hq : k < l.length := by omega
      have hcell := pv_get hq
      have hv7 := hl7 k
      generalize l.getD k 0 = v at *
      have hpw := pw7_lt b k
      have hpb := prod_bd hv7 hpw
      have i0 : (0 : Int) ≤ (k : Int) := by omega
      have i1 : (k : Int) < 5 := by omega
      have hc : wr.cell? ⟨w.heap.size, k, none⟩ = some (.int .i64 v) := by rw [B2.out.cell]; exact hcell
      clear hcell
      go_wp2
      go_quiet ((go_at_call 34; exact Calls.quiet_of_same (raised_any b k _ _ _ rfl rfl hb (by omega))))
      go_wp2
      go_roundg (5 - (k + 1))
      case measure => omega
      case rel => exact ⟨k + 1, rfl, by omega, by go_num, by rw [HS.out]; simp, ⟨B2.out, below_drewN BB2.out _⟩⟩
    · have e5 : k = 5 := by omega
      subst e5
      go_wp2
      go_ret
      exact ⟨rfl, BB2.out⟩
end Go.Proofs.YthlmgpllapccfaaDoor
/- THE DOCUMENT's at. -/
namespace Go.Proofs.YthlmgpllapccfaaDoor
open Go.RowKit

def rowN (p : List Nat) (i : Nat) : Nat → Nat := fun j => p.getD (i * 7 + j) 0
def atG (p : List Nat) (a k m i : Nat) : Nat := if i < k then pows (rowN p i) a 7 else if i = k then pows (rowN p i) a m else 0
theorem atG_lt (p : List Nat) (a k m i : Nat) : atG p a k m i < 7 := by
  unfold atG; split
  · exact pows_lt _ _ _
  · split
    · exact pows_lt _ _ _
    · omega
theorem atG_roll (p : List Nat) (a k : Nat) : lst (atG p a k 7) = lst (atG p a (k + 1) 0) := by
  apply lst_congr
  intro i _
  unfold atG
  by_cases h1 : i < k
  · rw [if_pos h1, if_pos (by omega)]
  · rw [if_neg h1]
    by_cases h2 : i = k
    · rw [if_pos h2, if_pos (by omega)]
    · rw [if_neg h2, if_neg (by omega)]
      split <;> simp [pows]
theorem atG_step (p : List Nat) (a k m : Nat) (hk : k < 5) : (lst (atG p a k m)).set k (pows (rowN p k) a (m + 1)) = lst (atG p a k (m + 1)) := by
  apply lst_set _ _ hk
  · unfold atG; rw [if_neg (by omega), if_pos rfl]
  · intro i hi; unfold atG; simp [hi]
theorem atG_end (p : List Nat) (a : Nat) : lst (atG p a 5 0) = lineR p a := rfl
theorem atG_zero (p : List Nat) (a : Nat) : lst (atG p a 0 0) = [0, 0, 0, 0, 0] := rfl
theorem atG_at (p : List Nat) (a k m : Nat) (hk : k < 5) : (lst (atG p a k m)).getD k 0 = pows (rowN p k) a m := by
  rw [lst_get _ hk]; unfold atG; rw [if_neg (by omega), if_pos rfl]
theorem lst_len (g : Nat → Nat) : (lst g).length = 5 := rfl

set_option maxRecDepth 100000 in
set_option maxHeartbeats 2000000 in
theorem at_any (p : List Nat) (a : Nat) (A : Int) (w : World) (hp : Good p) (hA : A = a) (ha : a < 7) :
    Calls Tryd.prog 21 #[.agg (pv p), .int .i64 A] w fun e w' => e = .returned (.agg (pv (lineR p a))) ∧ Below w.heap.size w w' := by
  subst hA
  rw [← atG_end]
  go_enter Tryd.func21, Tryd.ntmps21
  go_wp2
  refine wp_forget (fun W => Blk W w.heap.size (pv p) 41 ∧ Blk W (w.heap.size + 1) (pv [0, 0, 0, 0, 0]) 47 ∧ Blk W (w.heap.size + 1 + 1) (pv [0, 0, 0, 0, 0]) 47 ∧ Below w.heap.size w W) ⟨Blk.alloc (Blk.alloc (Blk.new w _ _) _) _, Blk.alloc (Blk.newAt _ _ _ (by simp)) _, Blk.newAt _ _ _ (by simp), by go_grown⟩ ?_
  rintro W ⟨b1, b2, b3, hbel⟩
  have HH := hidV (And.intro b1 (And.intro b2 (And.intro b3 hbel)))
  clear b1 b2 b3 hbel
  go_loopg [6] 5 (fun gm v6 wr => ∃ k : Nat, gm = 5 - k ∧ k ≤ 5 ∧ v6 = .int .i64 k ∧ Hid (Blk wr w.heap.size (pv p) 41 ∧ Blk wr (w.heap.size + 1) (pv [0, 0, 0, 0, 0]) 47 ∧ Blk wr (w.heap.size + 1 + 1) (pv (lst (atG p a k 0))) 47 ∧ Below w.heap.size w wr))
  case atStart => exact ⟨0, rfl, by omega, rfl, HH⟩
  case round =>
    obtain ⟨k, hgm, hk, rfl, HD⟩ := hrel
    clear HH W
    by_cases h5 : k < 5
    · have i0 : (0 : Int) ≤ (k : Int) := by omega
      have i1 : (k : Int) < 5 := by omega
      go_wp2
      go_loopg [7] 7 (fun gm v7 ws => ∃ m : Nat, gm = 7 - m ∧ m ≤ 7 ∧ v7 = .int .i64 m ∧ Hid (Blk ws w.heap.size (pv p) 41 ∧ Blk ws (w.heap.size + 1) (pv [0, 0, 0, 0, 0]) 47 ∧ Blk ws (w.heap.size + 1 + 1) (pv (lst (atG p a k m))) 47 ∧ Below w.heap.size w ws))
      case atStart => exact ⟨0, rfl, by omega, rfl, HD⟩
      case round =>
        obtain ⟨m, hgm2, hm, rfl, HE⟩ := hrel
        clear HD
        by_cases h7 : m < 7
        · have HS : Hid (pows (rowN p k) a (m + 1) = (pows (rowN p k) a m + rowN p k m * pw7 a m) % 7) := rfl
          have HST := hidV (atG_step p a k m h5)
          have hlt := pows_lt (rowN p k) a m
          have hg5 := atG_at p a k m h5
          have hq1 : k < (lst (atG p a k m)).length := by rw [lst_len]; exact h5
          have hcell1 := pv_get hq1
          rw [hg5] at hcell1
          have hq : k * 7 + m < p.length := by rw [hp.1]; omega
          have hcell := pv_get hq
          have hv7 : rowN p k m < 7 := hp.2 (k * 7 + m)
          have hc : wr.cell? ⟨w.heap.size, k * 7 + m, none⟩ = some (.int .i64 (rowN p k m)) := by rw [HE.out.1.cell]; exact hcell
          have hc1 : wr.cell? ⟨w.heap.size + 1 + 1, k, none⟩ = some (.int .i64 (pows (rowN p k) a m)) := by rw [HE.out.2.2.1.cell]; exact hcell1
          have hc2 : wr.frozen? ⟨w.heap.size + 1 + 1, k, none⟩ = false := HE.out.2.2.1.frozen _
          have hpw := pw7_lt a m
          have hpb := prod_bd hv7 hpw
          have j0 : (0 : Int) ≤ (m : Int) := by omega
          have j1 : (m : Int) < 7 := by omega
          clear hcell hcell1 hg5 hq1
          generalize rowN p k m = v at *
          generalize pows (rowN p k) a m = G at *
          go_wp2
          refine region_quiet_tail 16 (by kernel_rfl) (by kernel_rfl) ?_
          simp only [List.take_succ_cons, List.take_zero, List.drop_succ_cons, List.drop_zero]
          repeat (first | go_big_quiet_step ((go_at_call 34; exact Calls.quiet_of_same (raised_any a m _ _ _ rfl rfl ha (by omega)))) | quiet_step ((go_at_call 34; exact Calls.quiet_of_same (raised_any a m _ _ _ rfl rfl ha (by omega)))))
          refine wpQuiet_nil ?_
          rintro _ ⟨nq, rfl⟩
          go_wp2
          go_roundg (7 - (m + 1))
          case measure => omega
          case rel =>
            refine ⟨m + 1, rfl, by omega, by go_num, ⟨?_, ?_, ?_, ?_⟩⟩
            · exact Blk.setOther (by exact HE.out.1) _ _ (by show ¬ w.heap.size = w.heap.size + 1 + 1; omega)
            · exact Blk.setOther (by exact HE.out.2.1) _ _ (by show ¬ w.heap.size + 1 = w.heap.size + 1 + 1; omega)
            · rw [← HST.out, HS.out]
              exact Blk.putN (by exact HE.out.2.2.1) _ _ _ (by simp)
            · exact Below.setCell (below_drewN HE.out.2.2.2 nq) (by show w.heap.size ≤ w.heap.size + 1 + 1; omega) _
        · have e7 : m = 7 := by omega
          subst e7
          go_wp2
          go_roundg (5 - (k + 1))
          case measure => omega
          case rel => exact ⟨k + 1, rfl, by omega, by go_num, by rw [← atG_roll]; exact HE⟩
    · have e5 : k = 5 := by omega
      subst e5
      have hsz := size_line (lst_len (atG p a 5 0))
      go_wp2_with (first | (refine wpList_load_row (by rfl) 47 _ (by rfl) (w.heap.size + 1 + 1) (by rfl) 47 (pv (lst (atG p a 5 0))) (0, 0) _ (by exact HD.out.2.2.1) Tryd.underlying47 (by rfl) hsz ?_) | (refine wpList_store_mid (by rfl) 47 _ _ (by rfl) (w.heap.size + 1) 0 (pv (lst (atG p a 5 0))) (by rfl) (by rfl) (by exact Blk.there HD.out.2.1 (by rw [pv_size, pv_size, lst_len]; exact Nat.le_refl _)) hsz (pv_one _) ?_))
      refine bodyPost_ret (results_cell_row Tryd.results21 _ _ (w.heap.size + 1) 47 (pv (lst (atG p a 5 0))) (0, 0) _ (by rfl) (Blk.setAll (by exact HD.out.2.1) _ (by rw [pv_size, pv_size, lst_len]; rfl)) Tryd.underlying47 rfl hsz) rfl ⟨rfl, ?_⟩
      exact Below.setCells (by exact HD.out.2.2.2) _ _ _ (by omega)
end Go.Proofs.YthlmgpllapccfaaDoor
/- THE PROGRAM's POLYNOMIALS: Plus. -/
namespace Go.Proofs.YthlmgpllapccfaaDoor
open Go.RowKit

set_option maxRecDepth 100000 in
set_option maxHeartbeats 1000000 in
theorem Plus_any (p : List Nat) (u x a : Nat) (N : Int) (w : World) (hp : Good p) (hu : u ≤ 6) (hx : x ≤ 4) (hN : N % 7 = ((a % 7 : Nat) : Int)) :
    Calls Tryd.prog 41 #[.agg (pv p), .agg #[.int .i64 N, .int .i64 u, .int .i64 x]] w fun e w' => e = .returned (.agg (pv (plus p u x a))) ∧ Below w.heap.size w w' := by
  have hx0 : (0 : Int) ≤ (x : Int) := by omega
  have hx1 : (x : Int) < 5 := by omega
  have hu0 : (0 : Int) ≤ (u : Int) := by omega
  have hu1 : (u : Int) < 7 := by omega
  have hq : x * 7 + u < p.length := by rw [hp.1]; omega
  have hcell := pv_get hq
  have hv7 := hp.2 (x * 7 + u)
  have HV : Hid (plus p u x a = p.set (x * 7 + u) ((p.getD (x * 7 + u) 0 + a) % 7)) := by unfold Hid plus; rw [Nat.mul_comm 7 x]
  generalize p.getD (x * 7 + u) 0 = v at *
  go_enter Tryd.func41, Tryd.ntmps41
  go_wp2
  refine wp_forget (fun W => Blk W w.heap.size (pv p) 37 ∧ Blk W (w.heap.size + 1) #[.int .i64 N, .int .i64 u, .int .i64 x] 65 ∧ Blk W (w.heap.size + 1 + 1) (pv zeros) 37 ∧ Below w.heap.size w W) ⟨Blk.alloc (Blk.alloc (Blk.new w _ _) _) _, Blk.alloc (Blk.newAt _ _ _ (by simp)) _, Blk.newAt _ _ _ (by simp), by go_grown⟩ ?_
  rintro W ⟨b1, b2, b3, hbel⟩
  have B1 : Hid (Blk W w.heap.size (pv p) 37) := b1
  have B3 : Hid (Blk W (w.heap.size + 1 + 1) (pv zeros) 37) := b3
  obtain ⟨e0, e1, e2⟩ := b2.cells3
  have e3 : W.cell? ⟨w.heap.size, x * 7 + u, none⟩ = some (.int .i64 v) := by rw [b1.cell]; exact hcell
  have e4 : W.frozen? ⟨w.heap.size, x * 7 + u, none⟩ = false := b1.frozen _
  clear b1 b2 b3 hcell
  refine region_quiet_tail 18 (by kernel_rfl) (by kernel_rfl) ?_
  simp only [List.take_succ_cons, List.take_zero, List.drop_succ_cons, List.drop_zero]
  repeat (first | go_big_quiet_step ((go_at_call 33; exact Calls.quiet_of_same (Mod_any _ _))) | quiet_step ((go_at_call 33; exact Calls.quiet_of_same (Mod_any _ _))))
  refine wpQuiet_nil ?_
  rintro _ ⟨nq, rfl⟩
  have hg : Good (plus p u x a) := plus_good hp u x a
  go_wp2_with (first | (refine wpList_load_row (by rfl) 37 _ (by rfl) w.heap.size (by rfl) 37 (pv (plus p u x a)) (0, 0) _ (by rw [HV.out]; exact Blk.putN B1.out _ _ _ (by omega)) Tryd.underlying37 (by rfl) (size_poly hg) ?_) | (refine wpList_store_mid (by rfl) 37 _ _ (by rfl) (w.heap.size + 1 + 1) 0 (pv (plus p u x a)) (by rfl) (by rfl) (by exact Blk.there (Blk.setOther B3.out _ _ (by show ¬ w.heap.size + 1 + 1 = w.heap.size; omega)) (by rw [pv_size, pv_size, hg.1]; simp [zeros])) (size_poly hg) (pv_one _) ?_))
  refine bodyPost_ret (results_cell_row Tryd.results41 _ _ (w.heap.size + 1 + 1) 37 (pv (plus p u x a)) (0, 0) _ (by rfl) (Blk.setAll (Blk.setOther (by exact B3.out) _ _ (by show ¬ w.heap.size + 1 + 1 = w.heap.size; omega)) _ (by rw [pv_size, pv_size, hg.1]; rfl)) Tryd.underlying37 rfl (size_poly hg)) rfl ⟨rfl, ?_⟩
  exact Below.setCells (Below.setCell (below_drewN hbel nq) (Nat.le_refl _) _) _ _ _ (by omega)
end Go.Proofs.YthlmgpllapccfaaDoor
/- PLAIN: a polynomial's text. -/
namespace Go.Proofs.YthlmgpllapccfaaDoor

def bs (l : List UInt8) : ByteArray := ⟨l.toArray⟩
theorem bs_append (a b : List UInt8) : bs a ++ bs b = bs (a ++ b) := by
  apply ByteArray.ext
  simp [bs]
theorem bs_inj {a b : List UInt8} (h : bs a = bs b) : a = b := by
  have := congrArg (fun x : ByteArray => x.data.toList) h
  simpa [bs] using this
theorem bs_list (a : List UInt8) : (bs a).data.toList = a := rfl
def dgt (n : Nat) : UInt8 := UInt8.ofNat (48 + n)
def ptx (c : UInt8) (n : Nat) : List UInt8 := if n = 0 then [] else if n = 1 then [c] else [c, dgt n]
def pws (u x : Nat) : List UInt8 := ptx 117 u ++ ptx 120 x
def tmx (n u x : Nat) : List UInt8 := if n = 1 ∧ (u ≠ 0 ∨ x ≠ 0) then pws u x else dgt n :: pws u x
/-- The first k terms, from the top. -/
def tms (p : List Nat) : Nat → List (List UInt8)
  | 0 => []
  | k + 1 => if p.getD (34 - k) 0 = 0 then tms p k else tms p k ++ [tmx (p.getD (34 - k) 0) ((34 - k) % 7) ((34 - k) / 7)]
/-- The text so far, as the document writes it. -/
def wrt (p : List Nat) : Nat → List UInt8
  | 0 => []
  | k + 1 => if p.getD (34 - k) 0 = 0 then wrt p k else (if wrt p k = [] then [] else wrt p k ++ [43]) ++ tmx (p.getD (34 - k) 0) ((34 - k) % 7) ((34 - k) / 7)
def txt (p : List Nat) : List UInt8 := if wrt p 35 = [] then [48] else wrt p 35

theorem ptx_nil {c : UInt8} {n : Nat} : ptx c n = [] ↔ n = 0 := by
  unfold ptx; split
  · simp [*]
  · split <;> simp [*]
theorem pws_nil {u x : Nat} : pws u x = [] ↔ u = 0 ∧ x = 0 := by
  unfold pws; rw [List.append_eq_nil_iff, ptx_nil, ptx_nil]
theorem tmx_ne (n u x : Nat) : tmx n u x ≠ [] := by
  unfold tmx; split
  · rename_i h; intro q; rw [pws_nil] at q; omega
  · simp
theorem tms_ne (p : List Nat) : ∀ k, ∀ t ∈ tms p k, t ≠ []
  | 0, t, h => by simp [tms] at h
  | k + 1, t, h => by
    unfold tms at h
    split at h
    · exact tms_ne p k t h
    · rw [List.mem_append] at h
      rcases h with h | h
      · exact tms_ne p k t h
      · rw [List.mem_singleton] at h; subst h; exact tmx_ne _ _ _
theorem join_snoc (xs : List (List UInt8)) (x sep : List UInt8) (h : xs ≠ []) : Lib.join (xs ++ [x]) sep = Lib.join xs sep ++ sep ++ x := by
  cases xs with
  | nil => exact absurd rfl h
  | cons y r =>
    rw [List.cons_append, Lib.join_cons, Lib.join_cons]
    unfold Lib.joinTail
    simp [List.append_assoc]
theorem join_ne {xs : List (List UInt8)} {sep : List UInt8} (h : ∀ t ∈ xs, t ≠ []) : Lib.join xs sep = [] ↔ xs = [] := by
  cases xs with
  | nil => simp [Lib.join_nil]
  | cons y r =>
    rw [Lib.join_cons]
    have := h y (by simp)
    simp [this]
theorem wrt_join (p : List Nat) : ∀ k, wrt p k = Lib.join (tms p k) [43]
  | 0 => rfl
  | k + 1 => by
    unfold wrt tms
    split
    · exact wrt_join p k
    · rw [wrt_join p k]
      by_cases h : tms p k = []
      · rw [h]
        simp [Lib.join_nil, Lib.join_one]
      · rw [if_neg (fun q => h ((join_ne (tms_ne p k)).1 q)), join_snoc _ _ _ h]
theorem txt_join (p : List Nat) (h : tms p 35 ≠ []) : txt p = Lib.join (tms p 35) [43] := by
  unfold txt; rw [if_neg (by rw [wrt_join]; exact fun q => h ((join_ne (tms_ne p 35)).1 q)), wrt_join]
theorem tms_nil (p : List Nat) : ∀ k, k ≤ 35 → (tms p k = [] ↔ ∀ j, j < k → p.getD (34 - j) 0 = 0)
  | 0, _ => by simp [tms]
  | k + 1, hk => by
    unfold tms
    have ih := tms_nil p k (by omega)
    split
    · rename_i h
      rw [ih]
      constructor
      · intro q j hj
        by_cases e : j = k
        · subst e; exact h
        · exact q j (by omega)
      · intro q j hj; exact q j (by omega)
    · rename_i h
      constructor
      · intro q; simp at q
      · intro q; exact absurd (q k (by omega)) h
theorem txt_zero (p : List Nat) (h : tms p 35 = []) : txt p = [48] := by
  unfold txt; rw [wrt_join, h]; rfl
theorem good_zeros {p : List Nat} (hp : Good p) : tms p 35 = [] ↔ p = zeros := by
  rw [tms_nil p 35 (Nat.le_refl _)]
  constructor
  · intro q
    apply List.ext_getElem
    · rw [hp.1]; rfl
    · intro i h1 h2
      have e := q (34 - i) (by rw [hp.1] at h1; omega)
      rw [show 34 - (34 - i) = i by rw [hp.1] at h1; omega] at e
      rw [List.getD_eq_getElem?_getD, List.getElem?_eq_getElem h1] at e
      simp only [Option.getD_some] at e
      rw [e]
      unfold zeros at h2 ⊢
      rw [List.getElem_replicate]
  · intro q j hj
    subst q
    unfold zeros
    rw [List.getD_eq_getElem?_getD, List.getElem?_replicate]
    split <;> rfl
theorem tmx_len (n u x : Nat) : (tmx n u x).length ≤ 5 := by
  have h : ∀ c m, (ptx c m).length ≤ 2 := by
    intro c m; unfold ptx; split
    · simp
    · split <;> simp
  have h1 := h 117 u
  have h2 := h 120 x
  unfold tmx pws
  split <;> simp <;> omega
theorem tms_len (p : List Nat) : ∀ k, (tms p k).length ≤ k
  | 0 => by simp [tms]
  | k + 1 => by
    have := tms_len p k
    unfold tms; split
    · omega
    · simp; omega
theorem wrt_len (p : List Nat) : ∀ k, (wrt p k).length ≤ 6 * k
  | 0 => by simp [wrt]
  | k + 1 => by
    have := wrt_len p k
    have := tmx_len (p.getD (34 - k) 0) ((34 - k) % 7) ((34 - k) / 7)
    unfold wrt; split
    · omega
    · split <;> simp only [List.length_append, List.length_cons, List.length_nil] <;> omega
theorem dec_small {n : Nat} (h : n < 10) : Lib.decDigits n = [dgt n] := by
  match n, h with
  | 0, _ => decide +kernel
  | 1, _ => decide +kernel
  | 2, _ => decide +kernel
  | 3, _ => decide +kernel
  | 4, _ => decide +kernel
  | 5, _ => decide +kernel
  | 6, _ => decide +kernel
  | 7, _ => decide +kernel
  | 8, _ => decide +kernel
  | 9, _ => decide +kernel
theorem dgt_int {n : Nat} (h : n < 10) : ((dgt n).toNat : Int) = 48 + (n : Int) := by
  unfold dgt
  rw [UInt8.toNat_ofNat']
  omega
theorem bs_size (l : List UInt8) : (bs l).size = l.length := by simp [bs, ByteArray.size]
theorem ptx_len (c : UInt8) (n : Nat) : (ptx c n).length ≤ 2 := by
  unfold ptx; split
  · simp
  · split <;> simp
theorem pws_len (u x : Nat) : (pws u x).length ≤ 4 := by
  have := ptx_len 117 u; have := ptx_len 120 x
  unfold pws; simp; omega
theorem pws_eq (u x : Nat) : bs (ptx 117 u) ++ bs (ptx 120 x) = bs (pws u x) := bs_append _ _
theorem bs_empty (l : List UInt8) : (bs l).toList.isEmpty = l.isEmpty := by rw [ByteArray.toList_eq]; rfl
end Go.Proofs.YthlmgpllapccfaaDoor
/- TWO POLYNOMIALS COMPARED: '==' on arrays of arrays. -/
namespace Go.Proofs.YthlmgpllapccfaaDoor
open Go.RowKit

theorem eqItems_all {P : Program} (w : World) (d : Nat) (e : TypeId) (c : Nat) (xs ys : Array Value) (g : Nat → Bool) : ∀ is : List Nat,
    (∀ i ∈ is, ∃ a b, (part e xs (i * c)).run P w = .ok a w ∧ (part e ys (i * c)).run P w = .ok b w ∧ (Op.equalIn d e a b).run P w = .ok (g i) w) →
    (Op.eqItems d e c xs ys is).run P w = .ok (is.all g) w
  | [], _ => by simp [Op.eqItems]
  | i :: is, h => by
    obtain ⟨a, b, h1, h2, h3⟩ := h i (by simp)
    have ih := eqItems_all w d e c xs ys g is (fun j hj => h j (by simp [hj]))
    simp only [Op.eqItems, Sem.run_bind, h1, h2, h3, Result.andThen_ok]
    cases hg : g i
    · simp [hg]
    · simp [hg, ih]
theorem info_some {P : Program} {t : TypeId} (h : (P.info? t).isSome = true) : ∃ i, P.info? t = some i := by
  cases q : P.info? t with
  | none => rw [q] at h; cases h
  | some i => exact ⟨i, rfl⟩
theorem part_row (xs : Array Value) (off : Nat) (w : World) : (part 35 xs off).run Tryd.prog w = .ok (.agg (xs.extract off (off + 7))) w := by
  simp [part, isAgg, run_underlying Tryd.underlying35]
theorem row_eq (d : Nat) (xs ys : Array Value) (f g : Nat → Int) (w : World) (hx : ∀ j, j < 7 → xs[j]? = some (.int .i64 (f j))) (hy : ∀ j, j < 7 → ys[j]? = some (.int .i64 (g j))) :
    (Op.equalIn (d + 1 + 1) 35 (.agg xs) (.agg ys)).run Tryd.prog w = .ok ((List.range 7).all fun j => f j == g j) w := by
  obtain ⟨i, hi⟩ := info_some (P := Tryd.prog) (t := 3) (by kernel_rfl)
  have hc : Tryd.prog.cellsOf 3 = 1 := by kernel_rfl
  have hk : Tryd.prog.plainKey 3 = true := by kernel_rfl
  rw [run_equalIn_array w (d + 1) xs ys Tryd.underlying35 hi, hc]
  refine eqItems_all w (d + 1) 3 1 xs ys _ _ ?_
  intro j hj
  rw [List.mem_range] at hj
  refine ⟨_, _, run_part_plain w hk (by rw [Nat.mul_one]; exact hx j hj), run_part_plain w hk (by rw [Nat.mul_one]; exact hy j hj), ?_⟩
  exact run_equalIn_int w d 3 .i64 .i64 _ _ Tryd.underlying3
theorem ext_get (xs : Array Value) (i j : Nat) (hs : xs.size = 35) (hi : i < 5) (hj : j < 7) : (xs.extract (i * 7) (i * 7 + 7))[j]? = xs[i * 7 + j]? := by
  rw [Array.getElem?_extract]
  rw [if_pos (by omega)]
/-- Compared cell by cell. -/
theorem poly_eq (d : Nat) (p q : List Nat) (w : World) (hp : Good p) (hq : Good q) :
    (Op.equalIn (d + 1 + 1 + 1) 37 (.agg (pv p)) (.agg (pv q))).run Tryd.prog w = .ok (decide (p = q)) w := by
  obtain ⟨i, hi⟩ := info_some (P := Tryd.prog) (t := 35) (by kernel_rfl)
  have hc : Tryd.prog.cellsOf 35 = 7 := by kernel_rfl
  rw [run_equalIn_array w (d + 1 + 1) (pv p) (pv q) Tryd.underlying37 hi, hc]
  have key := eqItems_all (P := Tryd.prog) w (d + 1 + 1) 35 7 (pv p) (pv q) (fun i => (List.range 7).all fun j => (p.getD (i * 7 + j) 0 : Int) == (q.getD (i * 7 + j) 0 : Int)) (List.range 5) ?_
  · refine key.trans (congrArg (fun b => Result.ok b w) ?_)
    rw [Bool.eq_iff_iff]
    simp only [List.all_eq_true, List.mem_range, beq_iff_eq, decide_eq_true_eq]
    constructor
    · intro h
      apply List.ext_getElem
      · rw [hp.1, hq.1]
      · intro n h1 h2
        have h3 := h (n / 7) (by rw [hp.1] at h1; omega) (n % 7) (by omega)
        rw [show n / 7 * 7 + n % 7 = n by omega, List.getD_eq_getElem?_getD, List.getD_eq_getElem?_getD, List.getElem?_eq_getElem h1, List.getElem?_eq_getElem h2] at h3
        simp only [Option.getD_some] at h3
        exact Int.ofNat.inj h3
    · intro h i hi j hj; rw [h]
  · intro i hi'
    rw [List.mem_range] at hi'
    refine ⟨_, _, part_row _ _ w, part_row _ _ w, row_eq d _ _ _ _ w ?_ ?_⟩
    · intro j hj
      rw [ext_get _ i j (by rw [pv_size, hp.1]) hi' hj]
      exact pv_get (by rw [hp.1]; omega)
    · intro j hj
      rw [ext_get _ i j (by rw [pv_size, hq.1]) hi' hj]
      exact pv_get (by rw [hq.1]; omega)
theorem poly_eq_zero (p : List Nat) (w : World) (hp : Good p) :
    (Op.equalIn 10000 37 (.agg (pv p)) (.agg #[.int .i64 0, .int .i64 0, .int .i64 0, .int .i64 0, .int .i64 0, .int .i64 0, .int .i64 0, .int .i64 0, .int .i64 0, .int .i64 0, .int .i64 0, .int .i64 0, .int .i64 0, .int .i64 0, .int .i64 0, .int .i64 0, .int .i64 0, .int .i64 0, .int .i64 0, .int .i64 0, .int .i64 0, .int .i64 0, .int .i64 0, .int .i64 0, .int .i64 0, .int .i64 0, .int .i64 0, .int .i64 0, .int .i64 0, .int .i64 0, .int .i64 0, .int .i64 0, .int .i64 0, .int .i64 0, .int .i64 0])).run Tryd.prog w = .ok (decide (p = zeros)) w := by
  have e := Array.ext' lit_zeros
  rw [e]
  exact poly_eq 9997 p zeros w hp zeros_good
end Go.Proofs.YthlmgpllapccfaaDoor
/- PLAIN: polynomials modulo 7, ideals, division. Nothing of the program. -/
namespace Go.Proofs.YthlmgpllapccfaaDoor

/-- The same, modulo 7. -/
def Eqv (p q : Nat → Int) : Prop := ∀ n, (p n - q n) % 7 = 0
theorem Eqv.refl (p : Nat → Int) : Eqv p p := fun n => by simp
theorem Eqv.symm {p q : Nat → Int} (h : Eqv p q) : Eqv q p := fun n => by have := h n; omega
theorem Eqv.trans {p q r : Nat → Int} (h : Eqv p q) (k : Eqv q r) : Eqv p r := fun n => by have := h n; have := k n; omega

/-- What is closed under sums and multiples. -/
structure Idl (I : (Nat → Int) → Prop) : Prop where
  same : ∀ p q, Eqv p q → I p → I q
  zero : I (fun _ => 0)
  add : ∀ p q, I p → I q → I (fun n => p n + q n)
  smul : ∀ (c : Int) p, I p → I (fun n => c * p n)
  shift : ∀ p, I p → I (fun n => if n = 0 then 0 else p (n - 1))
/-- Times x to the s. -/
def shK (s : Nat) (p : Nat → Int) : Nat → Int := fun n => if n < s then 0 else p (n - s)
theorem Idl.shK {I : (Nat → Int) → Prop} (h : Idl I) {p : Nat → Int} (hp : I p) : ∀ s, I (shK s p)
  | 0 => h.same _ _ (fun n => by simp [Go.Proofs.YthlmgpllapccfaaDoor.shK]) hp
  | s + 1 => by
    refine h.same _ _ (fun n => ?_) (h.shift _ (h.shK hp s))
    unfold Go.Proofs.YthlmgpllapccfaaDoor.shK
    by_cases h0 : n = 0
    · subst h0; simp
    · rw [if_neg h0]
      by_cases h1 : n - 1 < s
      · rw [if_pos h1, if_pos (by omega)]; rfl
      · rw [if_neg h1, if_neg (by omega), show n - 1 - s = n - (s + 1) by omega]; simp
/-- One less a multiple of the other. -/
theorem Idl.less {I : (Nat → Int) → Prop} (h : Idl I) {p q r : Nat → Int} (f : Int) (s : Nat) (hr : Eqv r (fun n => q n - f * Go.Proofs.YthlmgpllapccfaaDoor.shK s p n)) (hp : I p) : I q ↔ I r := by
  have hm := h.shK hp s
  constructor
  · intro hq
    exact h.same _ _ (fun n => by have := hr n; dsimp only at this ⊢; rw [Int.neg_mul]; omega) (h.add _ _ hq (h.smul (-f) _ hm))
  · intro hq
    exact h.same _ _ (fun n => by have := hr n; dsimp only at this ⊢; omega) (h.add _ _ hq (h.smul f _ hm))

def sg (f : Nat → Int) : Nat → Int
  | 0 => 0
  | m + 1 => sg f m + f m
theorem sg_add (f g : Nat → Int) : ∀ m, sg (fun k => f k + g k) m = sg f m + sg g m
  | 0 => rfl
  | m + 1 => by simp only [sg]; rw [sg_add f g m]; omega
theorem sg_mul (c : Int) (f : Nat → Int) : ∀ m, sg (fun k => c * f k) m = c * sg f m
  | 0 => by simp [sg]
  | m + 1 => by simp only [sg]; rw [sg_mul c f m, Int.mul_add]
theorem sg_congr {f g : Nat → Int} : ∀ m, (∀ k, k < m → f k = g k) → sg f m = sg g m
  | 0, _ => rfl
  | m + 1, h => by simp only [sg]; rw [sg_congr m (fun k hk => h k (by omega)), h m (by omega)]
theorem sg_zero {f : Nat → Int} : ∀ m, (∀ k, k < m → f k = 0) → sg f m = 0
  | 0, _ => rfl
  | m + 1, h => by simp only [sg]; rw [sg_zero m (fun k hk => h k (by omega)), h m (by omega)]; rfl
theorem sg_front (f : Nat → Int) : ∀ m, sg f (m + 1) = f 0 + sg (fun k => f (k + 1)) m
  | 0 => by simp [sg]
  | m + 1 => by rw [sg, sg_front f m]; simp only [sg]; omega
theorem sg_mod {f g : Nat → Int} : ∀ m, (∀ k, k < m → (f k - g k) % 7 = 0) → (sg f m - sg g m) % 7 = 0
  | 0, _ => by simp [sg]
  | m + 1, h => by
    have h1 := sg_mod m (fun k hk => h k (by omega))
    have h2 := h m (by omega)
    simp only [sg]; omega

/-- The product. -/
def cnv (c p : Nat → Int) (n : Nat) : Int := sg (fun k => c k * p (n - k)) (n + 1)
/-- p divides q. -/
def Dvd (p q : Nat → Int) : Prop := ∃ (c : Nat → Int) (N : Nat), (∀ k, N ≤ k → c k = 0) ∧ Eqv q (cnv c p)

theorem Dvd.refl (p : Nat → Int) : Dvd p p := by
  refine ⟨fun k => if k = 0 then 1 else 0, 1, fun k hk => by dsimp only; rw [if_neg (by omega)], fun n => ?_⟩
  unfold cnv
  rw [sg_front, sg_zero n (fun k _ => by simp)]
  simp
theorem Dvd.idl (p : Nat → Int) : Idl (Dvd p) where
  same := fun a b h ⟨c, N, h1, h2⟩ => ⟨c, N, h1, h.symm.trans h2⟩
  zero := ⟨fun _ => 0, 0, fun _ _ => rfl, fun n => by unfold cnv; rw [sg_zero _ (fun k _ => by simp)]; rfl⟩
  add := fun a b ⟨c, N, h1, h2⟩ ⟨d, M, k1, k2⟩ => ⟨fun k => c k + d k, N + M, fun k hk => by dsimp only; rw [h1 k (by omega), k1 k (by omega)]; rfl, fun n => by
    have e : cnv (fun k => c k + d k) p n = cnv c p n + cnv d p n := by
      unfold cnv
      rw [← sg_add]
      exact sg_congr _ (fun k _ => by rw [Int.add_mul])
    dsimp only
    rw [e]
    have := h2 n
    have := k2 n
    omega⟩
  smul := fun f a ⟨c, N, h1, h2⟩ => ⟨fun k => f * c k, N, fun k hk => by dsimp only; rw [h1 k hk]; simp, fun n => by
    have e : cnv (fun k => f * c k) p n = f * cnv c p n := by
      unfold cnv
      rw [← sg_mul]
      exact sg_congr _ (fun k _ => by rw [Int.mul_assoc])
    dsimp only
    rw [e, ← Int.mul_sub, Int.mul_emod, h2 n]
    simp⟩
  shift := fun a ⟨c, N, h1, h2⟩ => ⟨fun k => if k = 0 then 0 else c (k - 1), N + 1, fun k hk => by dsimp only; rw [if_neg (by omega)]; exact h1 _ (by omega), fun n => by
    have e : cnv (fun k => if k = 0 then 0 else c (k - 1)) p n = if n = 0 then 0 else cnv c p (n - 1) := by
      unfold cnv
      rw [sg_front]
      by_cases h0 : n = 0
      · subst h0; simp [sg]
      · rw [if_neg h0, show n - 1 + 1 = n by omega]
        have : sg (fun k => (if k + 1 = 0 then 0 else c (k + 1 - 1)) * p (n - (k + 1))) n = sg (fun k => c k * p (n - 1 - k)) n := sg_congr _ (fun k hk => by
          rw [if_neg (by omega), show k + 1 - 1 = k by omega, show n - (k + 1) = n - 1 - k by omega])
        simp only [Nat.add_eq_zero_iff, Nat.succ_ne_self, and_false, if_false, if_true, Int.zero_mul, Int.zero_add] at this ⊢
        exact this
    dsimp only
    rw [e]
    split
    · rfl
    · exact h2 _⟩

/-- What a monic polynomial of the degree d divides, and is of a lesser degree, is 0. -/
theorem Dvd.small {p q : Nat → Int} {d : Nat} (h : Dvd p q) (h1 : p d = 1) (h2 : ∀ n, d < n → p n = 0) (h3 : ∀ n, d ≤ n → q n % 7 = 0) : ∀ n, q n % 7 = 0 := by
  obtain ⟨c, N, hN, hq⟩ := h
  have key : ∀ m k, N ≤ k + m → c k % 7 = 0 := by
    intro m
    induction m with
    | zero => intro k hk; rw [hN k (by omega)]; rfl
    | succ m ih =>
      intro k hk
      have e := hq (k + d)
      have e3 := h3 (k + d) (by omega)
      have s : (cnv c p (k + d) - sg (fun j => if j = k then c k else 0) (k + d + 1)) % 7 = 0 := by
        refine sg_mod _ (fun j hj => ?_)
        by_cases hjk : j = k
        · subst hjk
          rw [if_pos rfl, show j + d - j = d by omega, h1]; simp
        · rw [if_neg hjk]
          by_cases hlt : j < k
          · rw [h2 _ (by omega)]; simp
          · have := ih j (by omega)
            rw [Int.sub_zero, Int.mul_emod, this]; simp
      have t : sg (fun j => if j = k then c k else 0) (k + d + 1) = c k := by
        have : ∀ m, sg (fun j => if j = k then c k else 0) m = if k < m then c k else 0 := by
          intro m
          induction m with
          | zero => simp [sg]
          | succ m ih2 =>
            rw [sg, ih2]
            by_cases h : k < m
            · rw [if_pos h, if_neg (by omega), if_pos (by omega)]; omega
            · rw [if_neg h]
              by_cases h4 : m = k
              · rw [if_pos h4, if_pos (by omega)]; omega
              · rw [if_neg h4, if_neg (by omega)]; rfl
        rw [this, if_pos (by omega)]
      rw [t] at s
      omega
  intro n
  have e := hq n
  have s : (cnv c p n - sg (fun _ => 0) (n + 1)) % 7 = 0 := by
    refine sg_mod _ (fun j _ => ?_)
    have := key N j (by omega)
    rw [Int.sub_zero, Int.mul_emod, this]; simp
  rw [sg_zero _ (fun _ _ => rfl)] at s
  omega
end Go.Proofs.YthlmgpllapccfaaDoor
