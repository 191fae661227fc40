import Derived.Test.YthlmgpllapccfaaGreatDoorProg
import Derived.WalkKit
import Derived.WalkSpells
import Derived.WalkLawsBesides
import Derived.Handy
import Derived.Deep.RegionHeld3
import Derived.Deep.LoopGhost
import Derived.StillTail
import Derived.BigQuiet
/- PLAIN: texts, tokens, the reading of a polynomial, as functions on numbers and lists. Nothing of the program. -/
namespace Go.Proofs.YthlmgpllapccfaaGreatDoor

/-- The byte at i; 256 where there is none. -/
def byt (s : ByteArray) (i : Nat) : Nat := if h : i < s.size then (s[i]'h).toNat else 256
theorem byt_lt {s : ByteArray} {i : Nat} (h : i < s.size) : byt s i = (s[i]'h).toNat := by simp [byt, h]
theorem byt_ge {s : ByteArray} {i : Nat} (h : ¬ i < s.size) : byt s i = 256 := by simp [byt, h]
theorem byt_le (s : ByteArray) (i : Nat) : byt s i ≤ 256 := by
  unfold byt; split
  · rename_i h; have := (s[i]'h).toNat_lt; omega
  · omega
theorem byt_in {s : ByteArray} {i : Nat} (h : byt s i ≠ 256) : i < s.size := by
  by_cases g : i < s.size
  · exact g
  · exact absurd (byt_ge g) h
theorem byt_small {s : ByteArray} {i : Nat} (h : i < s.size) : byt s i ≤ 255 := by
  rw [byt_lt h]; have := (s[i]'h).toNat_lt; omega

def isD (s : ByteArray) (i : Nat) : Bool := decide (48 ≤ byt s i) && decide (byt s i ≤ 57)
theorem isD_iff (s : ByteArray) (i : Nat) : isD s i = true ↔ 48 ≤ byt s i ∧ byt s i ≤ 57 := by simp [isD]
theorem isD_in {s : ByteArray} {i : Nat} (h : isD s i = true) : i < s.size := by
  rw [isD_iff] at h; exact byt_in (by omega)

/-- Behind the spaces from i on. -/
def skipF (s : ByteArray) : Nat → Nat → Nat
  | 0, i => i
  | m + 1, i => if byt s i = 32 then skipF s m (i + 1) else i
def skip (s : ByteArray) (i : Nat) : Nat := skipF s (s.size - i) i
theorem skip_space {s : ByteArray} {i : Nat} (h : byt s i = 32) : skip s i = skip s (i + 1) := by
  have hi := byt_in (s := s) (i := i) (by omega)
  unfold skip
  rw [show s.size - i = (s.size - (i + 1)) + 1 from by omega]
  simp [skipF, h]
theorem skip_here {s : ByteArray} {i : Nat} (h : byt s i ≠ 32) : skip s i = i := by
  unfold skip
  cases hm : s.size - i with
  | zero => rfl
  | succ m => simp [skipF, h]
theorem skipF_facts (s : ByteArray) : ∀ (m i : Nat), s.size - i = m → i ≤ s.size → i ≤ skipF s m i ∧ skipF s m i ≤ s.size ∧ byt s (skipF s m i) ≠ 32 := by
  intro m
  induction m with
  | zero => intro i h1 h2; refine ⟨Nat.le_refl _, h2, ?_⟩; show byt s i ≠ 32; rw [byt_ge (by omega)]; omega
  | succ m ih =>
    intro i h1 h2
    by_cases h : byt s i = 32
    · simp only [skipF, h, if_true]
      have := ih (i + 1) (by omega) (by omega)
      exact ⟨by omega, this.2.1, this.2.2⟩
    · simp only [skipF, h, if_false]
      exact ⟨Nat.le_refl _, h2, h⟩
theorem skip_facts {s : ByteArray} {i : Nat} (h : i ≤ s.size) : i ≤ skip s i ∧ skip s i ≤ s.size ∧ byt s (skip s i) ≠ 32 := skipF_facts s _ i rfl h

/-- A token: what it is (0: the end; 1: a number; 2: a power of u; 3: a power of x; else its byte and 4), where it begins, where it ends, its number. -/
structure Tok where
  c : Nat
  at' : Nat
  to : Nat
  v : Nat

def tokAt (s : ByteArray) (j : Nat) : Tok :=
  if byt s j = 256 then ⟨0, j, j, 0⟩
  else if isD s j = true then (if isD s (j + 1) = true then ⟨1, j, j + 2, 10 * (byt s j - 48) + (byt s (j + 1) - 48)⟩ else ⟨1, j, j + 1, byt s j - 48⟩)
  else if byt s j = 117 then (if isD s (j + 1) = true then ⟨2, j, j + 2, byt s (j + 1) - 48⟩ else ⟨2, j, j + 1, 1⟩)
  else if byt s j = 120 then (if isD s (j + 1) = true then ⟨3, j, j + 2, byt s (j + 1) - 48⟩ else ⟨3, j, j + 1, 1⟩)
  else ⟨byt s j + 4, j, j + 1, 0⟩
def tok (s : ByteArray) (i : Nat) : Tok := tokAt s (skip s i)

/-- What a token of the text at j ≤ its size is good for. -/
theorem tokAt_facts {s : ByteArray} {j : Nat} (h : j ≤ s.size) : (tokAt s j).at' = j ∧ j ≤ (tokAt s j).to ∧ (tokAt s j).to ≤ s.size ∧ (tokAt s j).v ≤ 99 ∧ (tokAt s j).c ≤ 260 ∧ ((tokAt s j).c = 0 ↔ j = s.size) ∧ ((tokAt s j).c ≠ 0 → j < (tokAt s j).to) := by
  have hb := byt_le s j
  unfold tokAt
  by_cases h0 : byt s j = 256
  · have : ¬ j < s.size := fun g => by have := byt_small g; omega
    rw [if_pos h0]; refine ⟨rfl, ?_, ?_, ?_, ?_, ?_, ?_⟩ <;> simp <;> omega
  · have hj := byt_in h0
    rw [if_neg h0]
    by_cases h1 : isD s j = true
    · have h1' := (isD_iff s j).1 h1
      rw [if_pos h1]
      by_cases h2 : isD s (j + 1) = true
      · have h2' := (isD_iff s (j + 1)).1 h2
        have := isD_in h2
        rw [if_pos h2]; refine ⟨rfl, ?_, ?_, ?_, ?_, ?_, ?_⟩ <;> simp <;> omega
      · rw [if_neg h2]; refine ⟨rfl, ?_, ?_, ?_, ?_, ?_, ?_⟩ <;> simp <;> omega
    · rw [if_neg h1]
      by_cases h3 : byt s j = 117
      · rw [if_pos h3]
        by_cases h2 : isD s (j + 1) = true
        · have h2' := (isD_iff s (j + 1)).1 h2
          have := isD_in h2
          rw [if_pos h2]; refine ⟨rfl, ?_, ?_, ?_, ?_, ?_, ?_⟩ <;> simp <;> omega
        · rw [if_neg h2]; refine ⟨rfl, ?_, ?_, ?_, ?_, ?_, ?_⟩ <;> simp <;> omega
      · rw [if_neg h3]
        by_cases h4 : byt s j = 120
        · rw [if_pos h4]
          by_cases h2 : isD s (j + 1) = true
          · have h2' := (isD_iff s (j + 1)).1 h2
            have := isD_in h2
            rw [if_pos h2]; refine ⟨rfl, ?_, ?_, ?_, ?_, ?_, ?_⟩ <;> simp <;> omega
          · rw [if_neg h2]; refine ⟨rfl, ?_, ?_, ?_, ?_, ?_, ?_⟩ <;> simp <;> omega
        · rw [if_neg h4]; refine ⟨rfl, ?_, ?_, ?_, ?_, ?_, ?_⟩ <;> simp <;> omega

/-- Where the k-th token is looked for, beginning at a; and that token. -/
def pos (s : ByteArray) (a : Nat) : Nat → Nat
  | 0 => a
  | k + 1 => (tok s (pos s a k)).to
def tk (s : ByteArray) (a k : Nat) : Tok := tok s (pos s a k)

theorem tok_facts {s : ByteArray} {i : Nat} (h : i ≤ s.size) : i ≤ (tok s i).at' ∧ (tok s i).at' ≤ (tok s i).to ∧ (tok s i).to ≤ s.size ∧ (tok s i).v ≤ 99 ∧ (tok s i).c ≤ 260 ∧ ((tok s i).c = 0 ↔ (tok s i).at' = s.size) ∧ ((tok s i).c ≠ 0 → i < (tok s i).to) := by
  obtain ⟨a, b, _⟩ := skip_facts h
  obtain ⟨c, d, e, f, g, k, l⟩ := tokAt_facts b
  unfold tok
  rw [c]
  exact ⟨a, d, e, f, g, k, fun q => by have := l q; omega⟩
theorem pos_le {s : ByteArray} {a : Nat} (h : a ≤ s.size) : ∀ k, pos s a k ≤ s.size
  | 0 => h
  | k + 1 => (tok_facts (pos_le h k)).2.2.1
theorem tk_facts {s : ByteArray} {a : Nat} (h : a ≤ s.size) (k : Nat) : (tk s a k).at' ≤ s.size ∧ (tk s a k).to ≤ s.size ∧ (tk s a k).v ≤ 99 ∧ (tk s a k).c ≤ 260 := by
  obtain ⟨_, b, c, d, e, _, _⟩ := tok_facts (pos_le h k)
  unfold tk
  exact ⟨by omega, c, d, e⟩
theorem pos_grows {s : ByteArray} {a : Nat} (h : a ≤ s.size) : ∀ k, (tk s a k).c ≠ 0 → k < pos s a (k + 1)
  | 0, q => by have := (tok_facts (pos_le h 0)).2.2.2.2.2.2 q; show 0 < (tok s (pos s a 0)).to; omega
  | k + 1, q => by
    have := (tok_facts (pos_le h (k + 1))).2.2.2.2.2.2 q
    show k + 1 < (tok s (pos s a (k + 1))).to
    by_cases g : (tk s a k).c = 0
    · have z := (tok_facts (pos_le h k)).2.2.2.2.2.1.1 g
      have y := (tok_facts (pos_le h k)).2.1
      have x := (tok_facts (pos_le h k)).2.2.1
      have w : pos s a (k + 1) = s.size := by show (tok s (pos s a k)).to = s.size; omega
      have v := (tok_facts (pos_le h (k + 1))).2.2.1
      omega
    · have := pos_grows h k g; omega
/-- The token of the text's size in number is the end. -/
theorem tk_end {s : ByteArray} {a : Nat} (h : a ≤ s.size) {k : Nat} (hk : s.size ≤ k) : (tk s a k).c = 0 := by
  by_cases q : (tk s a k).c = 0
  · exact q
  · have := pos_grows h k q
    have := pos_le h (k + 1)
    omega
theorem tk_lt {s : ByteArray} {a : Nat} (h : a ≤ s.size) {k : Nat} (hk : (tk s a k).c ≠ 0) : k < s.size := by
  by_cases q : k < s.size
  · exact q
  · exact absurd (tk_end h (by omega)) hk

end Go.Proofs.YthlmgpllapccfaaGreatDoor
/- WHAT ALL WALKS USE. -/
namespace Go.Proofs.YthlmgpllapccfaaGreatDoor
open Go.RowKit

theorem ret4 {a b c d a' b' c' d' : Int} (h1 : a = a') (h2 : b = b') (h3 : c = c') (h4 : d = d') : Ending.returned (.agg #[.int .i64 a, .int .i64 b, .int .i64 c, .int .i64 d]) = Ending.returned (.agg #[.int .i64 a', .int .i64 b', .int .i64 c', .int .i64 d']) := by subst h1 h2 h3 h4; rfl
theorem bcell {W w1 : World} (hb : Below W.heap.size W w1) : (∀ b o, b < W.heap.size → w1.cell? ⟨b, o, none⟩ = W.cell? ⟨b, o, none⟩) ∧ (∀ b o, b < W.heap.size → w1.frozen? ⟨b, o, none⟩ = W.frozen? ⟨b, o, none⟩) :=
  ⟨fun b o h => hb.cell (p := ⟨b, o, none⟩) h, fun b o h => hb.frozen (p := ⟨b, o, none⟩) h⟩
theorem byt_cast {s : ByteArray} {i : Nat} (h : i < s.size) : ((s[i]'h).toNat : Int) = (byt s i : Int) := by rw [byt_lt h]

theorem below_alloc {w w1 : World} {o : Obj} (h : Below (w.alloc o).heap.size (w.alloc o) w1) : Below w.heap.size w w1 :=
  ((Below.refl _ _).alloc (Nat.le_refl _) _).trans (h.mono (by simp))

theorem ret4v {a b c d a' b' c' d' : Int} (h1 : a = a') (h2 : b = b') (h3 : c = c') (h4 : d = d') : Value.agg #[.int .i64 a, .int .i64 b, .int .i64 c, .int .i64 d] = Value.agg #[.int .i64 a', .int .i64 b', .int .i64 c', .int .i64 d'] := by subst h1 h2 h3 h4; rfl

end Go.Proofs.YthlmgpllapccfaaGreatDoor
/- THE FRAME: what a call leaves as it was: every old block but those that are named. -/
namespace Go.Proofs.YthlmgpllapccfaaGreatDoor
open Go.RowKit

/-- Every block of w but those of bs is in w' as it was. -/
structure Fr (bs : List Nat) (w w' : World) : Prop where
  os : w'.os = w.os
  tape : w'.tape = w.tape
  output : w'.output = w.output
  size : w.heap.size ≤ w'.heap.size
  block : ∀ k, k < w.heap.size → k ∉ bs → w'.heap[k]? = w.heap[k]?

theorem Fr.refl (bs : List Nat) (w : World) : Fr bs w w := ⟨rfl, rfl, rfl, Nat.le_refl _, fun _ _ _ => rfl⟩
theorem Fr.trans {bs cs : List Nat} {a b c : World} (h : Fr bs a b) (k : Fr cs b c) (hs : ∀ x ∈ cs, x ∈ bs ∨ a.heap.size ≤ x) : Fr bs a c :=
  ⟨k.os.trans h.os, k.tape.trans h.tape, k.output.trans h.output, Nat.le_trans h.size k.size, fun i hi hn => (k.block i (Nat.lt_of_lt_of_le hi h.size) (fun hc => by rcases hs i hc with g | g; exact hn g; omega)).trans (h.block i hi hn)⟩
theorem Fr.of_below {bs : List Nat} {w w' : World} (h : Below w.heap.size w w') : Fr bs w w' := ⟨h.os, h.tape, h.output, h.size, fun k hk _ => h.block k hk⟩
theorem Fr.below {bs : List Nat} {w w' : World} {B : Nat} (h : Fr bs w w') (hB : B ≤ w.heap.size) (hbs : ∀ x ∈ bs, B ≤ x) : Below B w w' :=
  ⟨h.os, h.tape, h.output, h.size, fun k hk => h.block k (by omega) (fun hc => by have := hbs k hc; omega)⟩
theorem Fr.drew {bs : List Nat} {a w : World} (h : Fr bs a w) : Fr bs a w.drew := ⟨h.os, h.tape, h.output, h.size, h.block⟩
theorem Fr.alloc {bs : List Nat} {a w : World} (h : Fr bs a w) (o : Obj) : Fr bs a (w.alloc o) :=
  ⟨h.os, h.tape, h.output, by have := h.size; simp; omega, fun k hk hn => (Below.heap_alloc _ _ _ (Nat.lt_of_lt_of_le hk h.size)).trans (h.block k hk hn)⟩
theorem Fr.setCell {bs : List Nat} {a w : World} (h : Fr bs a w) (p : Addr) (v : Value) (hp : p.block ∈ bs ∨ a.heap.size ≤ p.block) : Fr bs a (w.setCell p v) :=
  ⟨h.os, h.tape, h.output, by have := h.size; simp [World.setCell]; omega, fun k hk hn => (Below.heap_setCell _ _ _ _ (fun e => by subst e; rcases hp with g | g; exact hn g; omega)).trans (h.block k hk hn)⟩
theorem Fr.cell {bs : List Nat} {w w' : World} (h : Fr bs w w') {b : Nat} (o : Nat) (hb : b < w.heap.size) (hn : b ∉ bs) : w'.cell? ⟨b, o, none⟩ = w.cell? ⟨b, o, none⟩ := by
  simp only [World.cell?, h.block b hb hn]
theorem Fr.frozen {bs : List Nat} {w w' : World} (h : Fr bs w w') {b : Nat} (o : Nat) (hb : b < w.heap.size) (hn : b ∉ bs) : w'.frozen? ⟨b, o, none⟩ = w.frozen? ⟨b, o, none⟩ := by
  simp only [World.frozen?, h.block b hb hn]
theorem Fr.mono {bs cs : List Nat} {w w' : World} (h : Fr bs w w') (hs : ∀ x ∈ bs, x ∈ cs ∨ w.heap.size ≤ x) : Fr cs w w' :=
  ⟨h.os, h.tape, h.output, h.size, fun k hk hn => h.block k hk (fun hc => by rcases hs k hc with g | g; exact hn g; omega)⟩

theorem cell_set_off (w : World) (b o o' : Nat) (v : Value) (h : o ≠ o') : (w.setCell ⟨b, o, none⟩ v).cell? ⟨b, o', none⟩ = w.cell? ⟨b, o', none⟩ :=
  World.cell?_setCell_other w _ _ v (by intro e; exact h (by injection e))
/-- A whole block. -/
def Blk (w : World) (b : Nat) (cs : Array Value) (t : TypeId) : Prop := w.heap[b]? = some (.cells cs t (0, 0))
theorem Blk.lt {w : World} {b : Nat} {cs : Array Value} {t : TypeId} (h : Blk w b cs t) : b < w.heap.size := by
  rcases Nat.lt_or_ge b w.heap.size with g | g
  · exact g
  · unfold Blk at h; rw [Array.getElem?_eq_none g] at h; simp at h
theorem Blk.cell {w : World} {b : Nat} {cs : Array Value} {t : TypeId} (h : Blk w b cs t) (o : Nat) : w.cell? ⟨b, o, none⟩ = cs[o]? := by
  unfold Blk at h; simp [World.cell?, h]
theorem Blk.frozen {w : World} {b : Nat} {cs : Array Value} {t : TypeId} (h : Blk w b cs t) (o : Nat) : w.frozen? ⟨b, o, none⟩ = false := by
  unfold Blk at h; simp [World.frozen?, h]
theorem Blk.fr {bs : List Nat} {w w' : World} {b : Nat} {cs : Array Value} {t : TypeId} (h : Blk w b cs t) (f : Fr bs w w') (hn : b ∉ bs) : Blk w' b cs t := by
  have := h.lt
  unfold Blk at *; rw [f.block b this hn]; exact h
theorem Blk.drew {w : World} {b : Nat} {cs : Array Value} {t : TypeId} (h : Blk w b cs t) : Blk w.drew b cs t := h
theorem Blk.alloc {w : World} {b : Nat} {cs : Array Value} {t : TypeId} (h : Blk w b cs t) (o : Obj) : Blk (w.alloc o) b cs t := h.fr ((Fr.refl [] w).alloc o) (by simp)
theorem Blk.new (w : World) (cs : Array Value) (t : TypeId) : Blk (w.alloc (.cells cs t)) w.heap.size cs t := by
  show (w.heap.push _)[w.heap.size]? = _
  simp
theorem Blk.newAt (w : World) (cs : Array Value) (t : TypeId) {n : Nat} (h : w.heap.size = n) : Blk (w.alloc (.cells cs t)) n cs t := by subst h; exact Blk.new w cs t
theorem Blk.set {w : World} {b : Nat} {cs : Array Value} {t : TypeId} (h : Blk w b cs t) (o : Nat) (v : Value) : Blk (w.setCell ⟨b, o, none⟩ v) b (cs.setIfInBounds o v) t := by
  unfold Blk at *
  simp [World.setCell, Array.getElem?_modify, h]
theorem Blk.setOther {w : World} {b : Nat} {cs : Array Value} {t : TypeId} (h : Blk w b cs t) (p : Addr) (v : Value) (hn : b ≠ p.block) : Blk (w.setCell p v) b cs t := by
  unfold Blk at *; rw [Below.heap_setCell _ _ _ _ hn]; exact h
theorem Blk.store3 {w : World} {n : Nat} {x0 x1 x2 : Value} {t : TypeId} (h : Blk w n #[x0, x1, x2] t) (a b c : Value) : Blk (((w.setCell ⟨n, 0, none⟩ a).setCell ⟨n, 1, none⟩ b).setCell ⟨n, 2, none⟩ c) n #[a, b, c] t :=
  Blk.set (Blk.set (Blk.set h 0 _) 1 _) 2 _
theorem Blk.store4 {w : World} {n : Nat} {x0 x1 x2 x3 : Value} {t : TypeId} (h : Blk w n #[x0, x1, x2, x3] t) (a b c d : Value) : Blk ((((w.setCell ⟨n, 0, none⟩ a).setCell ⟨n, 1, none⟩ b).setCell ⟨n, 2, none⟩ c).setCell ⟨n, 3, none⟩ d) n #[a, b, c, d] t :=
  Blk.set (Blk.set (Blk.set (Blk.set h 0 _) 1 _) 2 _) 3 _
theorem Blk.cells3 {w : World} {n : Nat} {x0 x1 x2 : Value} {t : TypeId} (h : Blk w n #[x0, x1, x2] t) : w.cell? ⟨n, 0, none⟩ = some x0 ∧ w.cell? ⟨n, 1, none⟩ = some x1 ∧ w.cell? ⟨n, 2, none⟩ = some x2 := ⟨h.cell 0, h.cell 1, h.cell 2⟩
theorem Blk.free3 {w : World} {n : Nat} {cs : Array Value} {t : TypeId} (h : Blk w n cs t) : w.frozen? ⟨n, 0, none⟩ = false ∧ w.frozen? ⟨n, 1, none⟩ = false ∧ w.frozen? ⟨n, 2, none⟩ = false := ⟨h.frozen 0, h.frozen 1, h.frozen 2⟩
theorem ret3 {a b c a' b' c' : Int} (h1 : a = a') (h2 : b = b') (h3 : c = c') : Ending.returned (.agg #[.int .i64 a, .int .i64 b, .int .i64 c]) = Ending.returned (.agg #[.int .i64 a', .int .i64 b', .int .i64 c']) := by subst h1 h2 h3; rfl
end Go.Proofs.YthlmgpllapccfaaGreatDoor
/- PLAIN: a stream of tokens, each of which begins where the one ahead of it ends. -/
namespace Go.Proofs.YthlmgpllapccfaaGreatDoor

structure Str (s : ByteArray) (f : Nat → Tok) : Prop where
  step : ∀ k, tok s (f k).to = f (k + 1)
  facts : ∀ k, (f k).at' ≤ s.size ∧ (f k).to ≤ s.size ∧ (f k).v ≤ 99
  lt : ∀ {k}, (f k).c ≠ 0 → k < s.size

theorem Str.tk {s : ByteArray} {a : Nat} (h : a ≤ s.size) : Str s (tk s a) :=
  ⟨fun _ => rfl, fun k => by have := tk_facts h k; exact ⟨this.1, this.2.1, this.2.2.1⟩, fun hk => tk_lt h hk⟩
end Go.Proofs.YthlmgpllapccfaaGreatDoor
/- THE PROGRAM's TOKENS: isDigit, digit, numberAt, powerAt, tokenAt. -/
namespace Go.Proofs.YthlmgpllapccfaaGreatDoor
open Go.RowKit

set_option maxHeartbeats 400000 in
theorem isDigit_any (s : ByteArray) (i : Nat) (a : Int) (w : World) (ha : a = i) (_hs : s.size ≤ 1000) (_hi : i ≤ 1000) :
    Calls Tryz.prog 105 #[.string s, .int .i64 a] w fun e w' => e = .returned (.bool (isD s i)) ∧ w' = w := by
  subst ha
  by_cases h : i < s.size
  · have hb := byt_cast h
    by_cases h1 : 48 ≤ byt s i
    · by_cases h2 : byt s i ≤ 57
      · go_enter Tryz.func105, Tryz.ntmps105
        go_wp2
        go_ret
        exact ⟨by simp [isD, h1, h2]; omega, rfl⟩
      · go_enter Tryz.func105, Tryz.ntmps105
        go_wp2
        go_ret
        exact ⟨by simp [isD, h1, h2]; omega, rfl⟩
    · go_enter Tryz.func105, Tryz.ntmps105
      go_wp2
      go_ret
      exact ⟨by simp [isD, h1], rfl⟩
  · have hb := byt_ge h
    go_enter Tryz.func105, Tryz.ntmps105
    go_wp2
    go_ret
    exact ⟨by simp [isD, hb], rfl⟩

set_option maxHeartbeats 400000 in
theorem digit_any (s : ByteArray) (i : Nat) (a : Int) (w : World) (ha : a = i) (_hs : s.size ≤ 1000) (hd : isD s i = true) :
    Calls Tryz.prog 110 #[.string s, .int .i64 a] w fun e w' => e = .returned (.int .i64 ((byt s i : Int) - 48)) ∧ w' = w := by
  subst ha
  have hi := isD_in hd
  have hb := byt_cast hi
  rw [isD_iff] at hd
  obtain ⟨h1, h2⟩ := hd
  go_enter Tryz.func110, Tryz.ntmps110
  go_wp2
  go_ret
  exact ⟨by simp, rfl⟩

set_option maxHeartbeats 400000 in
theorem numberAt_any (s : ByteArray) (i : Nat) (a : Int) (w : World) (ha : a = i) (hs : s.size ≤ 1000) (hd : isD s i = true) :
    Calls Tryz.prog 106 #[.string s, .int .i64 a] w fun e w' => e = .returned (.agg #[.int .i64 1, .int .i64 (tokAt s i).at', .int .i64 (tokAt s i).to, .int .i64 (tokAt s i).v]) ∧ Below w.heap.size w w' := by
  subst ha
  have hi := isD_in hd
  have hD := (isD_iff s i).1 hd
  have ht : byt s i ≠ 256 := by omega
  by_cases h2 : isD s (i + 1) = true
  · have hi2 := isD_in h2
    have hD2 := (isD_iff s (i + 1)).1 h2
    have HT : Hid (tokAt s i = ⟨1, i, i + 2, 10 * (byt s i - 48) + (byt s (i + 1) - 48)⟩) := by unfold Hid tokAt; rw [if_neg ht, if_pos hd, if_pos h2]
    have H2 : Hid (isD s (i + 1) = true) := h2
    have H1 : Hid (isD s i = true) := hd
    clear hd ht
    go_enter Tryz.func106, Tryz.ntmps106
    go_wp2_with (first | (go_at_call 110; refine (digit_any s i _ _ (by rfl) (by omega) H1.out).mono ?_; rintro e w' ⟨rfl, rfl⟩) | (go_at_call 105; refine (isDigit_any s (i+1) _ _ (by omega) (by omega) (by omega)).mono ?_; rintro e w' ⟨rfl, rfl⟩))
    go_region_with (first | (go_at_call 110; refine (digit_any s (i+1) _ _ (by omega) (by omega) H2.out).mono ?_; rintro e w' ⟨rfl, rfl⟩))
    all_goals
      go_wp2
      go_returns
      exact ⟨by rw [HT.out]; dsimp only; exact ret4 (by omega) (by omega) (by omega) (by omega), by go_grown⟩
  · have HT : Hid (tokAt s i = ⟨1, i, i + 1, byt s i - 48⟩) := by unfold Hid tokAt; rw [if_neg ht, if_pos hd, if_neg h2]
    have H1 : Hid (isD s i = true) := hd
    have h2' : isD s (i + 1) = false := by simpa using h2
    clear hd ht h2
    go_enter Tryz.func106, Tryz.ntmps106
    go_wp2_with (first | (go_at_call 110; refine (digit_any s i _ _ (by rfl) (by omega) H1.out).mono ?_; rintro e w' ⟨rfl, rfl⟩) | (go_at_call 105; refine (isDigit_any s (i+1) _ _ (by omega) (by omega) (by omega)).mono ?_; rintro e w' ⟨rfl, rfl⟩))
    go_returns
    exact ⟨by rw [HT.out]; dsimp only; exact ret4 (by omega) (by omega) (by omega) (by omega), by go_grown⟩
end Go.Proofs.YthlmgpllapccfaaGreatDoor
/- THE PROGRAM's TOKENS: powerAt. -/
namespace Go.Proofs.YthlmgpllapccfaaGreatDoor
open Go.RowKit

/-- The program's kind of a token. -/
def pk (c : Nat) : Int := if c = 0 then 0 else if c = 1 then 1 else if c = 2 then 2 else if c = 3 then 3 else if 69 ≤ c ∧ c ≤ 94 then 4 else if c = 47 then 5 else if c = 49 then 6 else if c = 48 then 7 else if c = 65 then 8 else if c = 128 then 9 else if c = 42 then 10 else if c = 130 then 11 else if c = 44 then 12 else if c = 45 then 13 else if c = 95 then 14 else if c = 97 then 15 else 16

set_option maxHeartbeats 1000000 in
theorem kindOf_any (n : Nat) (w : World) (hn : n < 256) :
    Calls Tryz.prog 108 #[.int .u8 n] w fun e w' => e = .returned (.int .i64 (pk (n + 4))) ∧ w' = w := by
  have h0 : ¬ n + 4 = 0 := by omega
  have h1 : ¬ n + 4 = 1 := by omega
  have h2 : ¬ n + 4 = 2 := by omega
  have h3 : ¬ n + 4 = 3 := by omega
  by_cases hA : 65 ≤ n ∧ n ≤ 90
  · have HP : Hid (pk (n + 4) = 4) := by unfold Hid pk; rw [if_neg h0, if_neg h1, if_neg h2, if_neg h3, if_pos (by omega)]
    obtain ⟨ha, hb⟩ := hA
    go_enter Tryz.func108, Tryz.ntmps108
    go_wp2
    go_ret
    exact ⟨by rw [HP.out]; rfl, rfl⟩
  · by_cases hc : n = 43 ∨ n = 45 ∨ n = 44 ∨ n = 61 ∨ n = 124 ∨ n = 38 ∨ n = 126 ∨ n = 40 ∨ n = 41 ∨ n = 91 ∨ n = 93
    · rcases hc with rfl | rfl | rfl | rfl | rfl | rfl | rfl | rfl | rfl | rfl | rfl
      all_goals
        clear hn h0 h1 h2 h3 hA
        go_enter Tryz.func108, Tryz.ntmps108
        go_wp2
        go_ret
        exact ⟨rfl, rfl⟩
    · have HP : Hid (pk (n + 4) = 16) := by
        unfold Hid pk
        rw [if_neg h0, if_neg h1, if_neg h2, if_neg h3, if_neg (by omega), if_neg (by omega), if_neg (by omega), if_neg (by omega), if_neg (by omega), if_neg (by omega), if_neg (by omega), if_neg (by omega), if_neg (by omega), if_neg (by omega), if_neg (by omega), if_neg (by omega)]
      simp only [not_or] at hc
      obtain ⟨d1, d2, d3, d4, d5, d6, d7, d8, d9, d10, d11⟩ := hc
      by_cases ha : 65 ≤ n
      · have hb : ¬ n ≤ 90 := by omega
        clear h0 h1 h2 h3 hA
        go_enter Tryz.func108, Tryz.ntmps108
        go_wp2
        go_ret
        exact ⟨by rw [HP.out]; rfl, rfl⟩
      · clear h0 h1 h2 h3 hA
        go_enter Tryz.func108, Tryz.ntmps108
        go_wp2
        go_ret
        exact ⟨by rw [HP.out]; rfl, rfl⟩

set_option maxHeartbeats 400000 in
theorem powerAt_any (s : ByteArray) (i : Nat) (a k : Int) (w : World) (ha : a = i) (hs : s.size ≤ 1000) (hi : i < s.size) (hx : byt s i = 117 ∧ k = 2 ∨ byt s i = 120 ∧ k = 3) :
    Calls Tryz.prog 107 #[.string s, .int .i64 a, .int .i64 k] w fun e w' => e = .returned (.agg #[.int .i64 k, .int .i64 (tokAt s i).at', .int .i64 (tokAt s i).to, .int .i64 (tokAt s i).v]) ∧ Below w.heap.size w w' := by
  subst ha
  have h0 : byt s i ≠ 256 := by omega
  have h1 : ¬ isD s i = true := by rw [isD_iff]; omega
  by_cases h2 : isD s (i + 1) = true
  · have hi2 := isD_in h2
    have hD2 := (isD_iff s (i + 1)).1 h2
    have HT : Hid ((tokAt s i).at' = i ∧ (tokAt s i).to = i + 2 ∧ (tokAt s i).v = byt s (i + 1) - 48) := by
      unfold Hid tokAt
      rcases hx with ⟨hx, _⟩ | ⟨hx, _⟩ <;> simp [h1, h2, hx]
    have H2 : Hid (isD s (i + 1) = true) := h2
    clear h0 h1 hx
    go_enter Tryz.func107, Tryz.ntmps107
    go_wp2_with (first | (go_at_call 110; refine (digit_any s (i + 1) _ _ (by omega) (by omega) H2.out).mono ?_; rintro e w' ⟨rfl, rfl⟩) | (go_at_call 105; refine (isDigit_any s (i+1) _ _ (by omega) (by omega) (by omega)).mono ?_; rintro e w' ⟨rfl, rfl⟩))
    go_returns
    obtain ⟨e1, e2, e3⟩ := HT.out
    exact ⟨by rw [e1, e2, e3]; exact ret4 (by omega) (by omega) (by omega) (by omega), by go_grown⟩
  · have HT : Hid ((tokAt s i).at' = i ∧ (tokAt s i).to = i + 1 ∧ (tokAt s i).v = 1) := by
      unfold Hid tokAt
      rcases hx with ⟨hx, _⟩ | ⟨hx, _⟩ <;> simp [h1, h2, hx]
    have h2' : isD s (i + 1) = false := by simpa using h2
    clear h0 h1 hx h2
    go_enter Tryz.func107, Tryz.ntmps107
    go_wp2_with (first | (go_at_call 105; refine (isDigit_any s (i+1) _ _ (by omega) (by omega) (by omega)).mono ?_; rintro e w' ⟨rfl, rfl⟩))
    go_returns
    obtain ⟨e1, e2, e3⟩ := HT.out
    exact ⟨by rw [e1, e2, e3]; exact ret4 (by omega) (by omega) (by omega) (by omega), by go_grown⟩
end Go.Proofs.YthlmgpllapccfaaGreatDoor
/- THE PROGRAM's TOKENS: tokenAt. -/
namespace Go.Proofs.YthlmgpllapccfaaGreatDoor
open Go.RowKit

theorem kindOf_to (n : Nat) (x : Int) (w : World) (hx : x = n) (hn : n < 256) :
    Calls Tryz.prog 108 #[.int .u8 x] w fun e w' => e = .returned (.int .i64 (pk (n + 4))) ∧ w' = w := by subst hx; exact kindOf_any n w hn

set_option maxHeartbeats 1000000 in
theorem tokenAt_any (s : ByteArray) (i : Nat) (a : Int) (w : World) (ha : a = i) (hs : s.size ≤ 1000) (hi : i ≤ s.size) :
    Calls Tryz.prog 95 #[.string s, .int .i64 a] w fun e w' => e = .returned (.agg #[.int .i64 (pk (tok s i).c), .int .i64 (tok s i).at', .int .i64 (tok s i).to, .int .i64 (tok s i).v]) ∧ Below w.heap.size w w' := by
  subst ha
  go_enter Tryz.func95, Tryz.ntmps95
  go_wp2
  go_loop [1] (fun v => ∃ k : Nat, k ≤ s.size ∧ v = .int .i64 k ∧ Hid (skip s k = skip s i)) (fun v => s.size - (intOf v).toNat)
  case atStart => exact ⟨i, hi, rfl, rfl⟩
  case round =>
    obtain ⟨k, hk, rfl, HK⟩ := hrel
    by_cases hlt : k < s.size
    · have hb := byt_cast hlt
      by_cases hsp : byt s k = 32
      · have H2 : Hid (skip s (k + 1) = skip s i) := by unfold Hid; rw [← skip_space hsp]; exact HK.out
        go_wp2
        go_round
        case rel => exact ⟨k + 1, by omega, by go_num, H2⟩
        case measure => simp [intOf]; omega
      · have HT : Hid (tok s i = tokAt s k) := by unfold Hid tok; rw [← HK.out, skip_here hsp]
        have hsm := byt_small hlt
        have hz : byt s k ≠ 256 := by omega
        by_cases hd : isD s k = true
        · have HC : Hid (pk (tokAt s k).c = 1) := by
            unfold Hid tokAt; rw [if_neg hz, if_pos hd]; split <;> rfl
          have H1 : Hid (isD s k = true) := hd
          go_wp2_with (first | (go_at_call 105; refine (isDigit_any s k _ _ (by omega) (by omega) (by omega)).mono ?_; rintro e w' ⟨rfl, rfl⟩) | (go_at_call 106; refine (numberAt_any s k _ _ (by omega) (by omega) H1.out).mono ?_; rintro e w1 ⟨rfl, hbel⟩; obtain ⟨hc1, hf1⟩ := bcell hbel))
          have hbw := below_alloc hbel
          refine bodyPost_ret (v := .agg #[.int .i64 1, .int .i64 (tokAt s k).at', .int .i64 (tokAt s k).to, .int .i64 (tokAt s k).v]) (by simp [results, Tryz.results95, go_sem, hc1]) rfl ?_
          exact ⟨by rw [HT.out]; exact ret4 (by rw [HC.out]) rfl rfl rfl, by go_grown⟩
        · have hd' : isD s k = false := by simpa using hd
          by_cases hu : byt s k = 117
          · have HC : Hid (pk (tokAt s k).c = 2) := by
              unfold Hid tokAt; rw [if_neg hz, if_neg hd, if_pos hu]; split <;> rfl
            go_wp2_with (first | (go_at_call 105; refine (isDigit_any s k _ _ (by omega) (by omega) (by omega)).mono ?_; rintro e w' ⟨rfl, rfl⟩) | (go_at_call 107; refine (powerAt_any s k _ _ _ (by omega) (by omega) hlt (by omega)).mono ?_; rintro e w1 ⟨rfl, hbel⟩; obtain ⟨hc1, hf1⟩ := bcell hbel))
            have hbw := below_alloc hbel
            refine bodyPost_ret (v := .agg #[.int .i64 2, .int .i64 (tokAt s k).at', .int .i64 (tokAt s k).to, .int .i64 (tokAt s k).v]) (by simp [results, Tryz.results95, go_sem, hc1]) rfl ?_
            exact ⟨by rw [HT.out]; exact ret4 (by rw [HC.out]) rfl rfl rfl, by go_grown⟩
          · by_cases hx : byt s k = 120
            · have HC : Hid (pk (tokAt s k).c = 3) := by
                unfold Hid tokAt; rw [if_neg hz, if_neg hd, if_neg hu, if_pos hx]; split <;> rfl
              go_wp2_with (first | (go_at_call 105; refine (isDigit_any s k _ _ (by omega) (by omega) (by omega)).mono ?_; rintro e w' ⟨rfl, rfl⟩) | (go_at_call 107; refine (powerAt_any s k _ _ _ (by omega) (by omega) hlt (by omega)).mono ?_; rintro e w1 ⟨rfl, hbel⟩; obtain ⟨hc1, hf1⟩ := bcell hbel))
              have hbw := below_alloc hbel
              refine bodyPost_ret (v := .agg #[.int .i64 3, .int .i64 (tokAt s k).at', .int .i64 (tokAt s k).to, .int .i64 (tokAt s k).v]) (by simp [results, Tryz.results95, go_sem, hc1]) rfl ?_
              exact ⟨by rw [HT.out]; exact ret4 (by rw [HC.out]) rfl rfl rfl, by go_grown⟩
            · have HC : Hid (tokAt s k = ⟨byt s k + 4, k, k + 1, 0⟩) := by
                unfold Hid tokAt; rw [if_neg hz, if_neg hd, if_neg hu, if_neg hx]
              go_wp2_with (first | (go_at_call 105; refine (isDigit_any s k _ _ (by omega) (by omega) (by omega)).mono ?_; rintro e w' ⟨rfl, rfl⟩) | (go_at_call 108; refine (kindOf_any (byt s k) _ (by omega)).mono ?_; rintro e w' ⟨rfl, rfl⟩))
              go_returns
              exact ⟨by rw [HT.out, HC.out]; dsimp only; exact ret4 rfl (by omega) (by omega) (by omega), by go_grown⟩
    · have hz := byt_ge hlt
      have HT : Hid (tok s i = ⟨0, k, k, 0⟩) := by
        unfold Hid tok
        rw [← HK.out, skip_here (by omega)]; unfold tokAt; rw [if_pos hz]
      go_wp2
      go_returns
      exact ⟨by rw [HT.out]; exact ret4 rfl rfl rfl rfl, by go_grown⟩
end Go.Proofs.YthlmgpllapccfaaGreatDoor
/- THE READER: take, fail, finish. -/
namespace Go.Proofs.YthlmgpllapccfaaGreatDoor
open Go.RowKit

/-- A reader in memory: its text, the names, its next token, how much is open, whether x may not stand. -/
def Rd (w : World) (b : Nat) (s : ByteArray) (M : Value) (D : Int) (O : Bool) (t : Tok) : Prop := Blk w b #[.string s, M, .int .i64 (pk t.c), .int .i64 t.at', .int .i64 t.to, .int .i64 t.v, .int .i64 D, .bool O] 104
variable {M : Value} {D : Int} {O : Bool}
theorem Rd.cells {w : World} {b : Nat} {s : ByteArray} {t : Tok} (h : Rd w b s M D O t) : w.cell? ⟨b, 0, none⟩ = some (.string s) ∧ w.cell? ⟨b, 2, none⟩ = some (.int .i64 (pk t.c)) ∧ w.cell? ⟨b, 3, none⟩ = some (.int .i64 t.at') ∧ w.cell? ⟨b, 4, none⟩ = some (.int .i64 t.to) ∧ w.cell? ⟨b, 5, none⟩ = some (.int .i64 t.v) :=
  ⟨Blk.cell h 0, Blk.cell h 2, Blk.cell h 3, Blk.cell h 4, Blk.cell h 5⟩
theorem Rd.more {w : World} {b : Nat} {s : ByteArray} {t : Tok} (h : Rd w b s M D O t) : w.cell? ⟨b, 1, none⟩ = some M ∧ w.cell? ⟨b, 6, none⟩ = some (.int .i64 D) ∧ w.cell? ⟨b, 7, none⟩ = some (.bool O) :=
  ⟨Blk.cell h 1, Blk.cell h 6, Blk.cell h 7⟩
theorem Rd.free {w : World} {b : Nat} {s : ByteArray} {t : Tok} (h : Rd w b s M D O t) : w.frozen? ⟨b, 0, none⟩ = false ∧ w.frozen? ⟨b, 2, none⟩ = false ∧ w.frozen? ⟨b, 3, none⟩ = false ∧ w.frozen? ⟨b, 4, none⟩ = false ∧ w.frozen? ⟨b, 5, none⟩ = false :=
  ⟨Blk.frozen h 0, Blk.frozen h 2, Blk.frozen h 3, Blk.frozen h 4, Blk.frozen h 5⟩
theorem Rd.store {w : World} {b : Nat} {s : ByteArray} {t : Tok} (h : Rd w b s M D O t) (u : Tok) : Rd ((((w.setCell ⟨b, 2, none⟩ (.int .i64 (pk u.c))).setCell ⟨b, 3, none⟩ (.int .i64 u.at')).setCell ⟨b, 4, none⟩ (.int .i64 u.to)).setCell ⟨b, 5, none⟩ (.int .i64 u.v)) b s M D O u :=
  Blk.set (Blk.set (Blk.set (Blk.set h 2 _) 3 _) 4 _) 5 _
theorem Rd.setOther {w : World} {b : Nat} {s : ByteArray} {t : Tok} (h : Rd w b s M D O t) (p : Addr) (v : Value) (hn : b ≠ p.block) : Rd (w.setCell p v) b s M D O t := Blk.setOther h p v hn
def faulty (n at' : Int) : List PanicEntry := [{ v := .iface 130 (.agg #[.int .i64 n, .int .i64 at']), recovered := false }]

set_option maxHeartbeats 400000 in
theorem fail_any (n p : Int) (w : World) :
    Calls Tryz.prog 78 #[.int .i64 n, .int .i64 p] w fun e w' => e = .panicked (faulty n p) ∧ w' = w := by
  go_enter Tryz.func78, Tryz.ntmps78
  go_wp2
  exact ⟨rfl, rfl, rfl⟩

set_option maxHeartbeats 1000000 in
theorem take_any (s : ByteArray) (f : Nat → Tok) (k b : Nat) (w : World) (hs : s.size ≤ 1000) (ha : Str s f) (hr : Rd w b s M D O (f k)) :
    Calls Tryz.prog 80 #[.pointer (some ⟨b, 0, none⟩)] w fun e w' => e = .returned (.agg #[.int .i64 (pk (f k).c), .int .i64 (f k).at', .int .i64 (f k).to, .int .i64 (f k).v]) ∧ Rd w' b s M D O (f (k + 1)) ∧ Fr [b] w w' := by
  obtain ⟨c0, c1, c2, c3, c4⟩ := hr.cells
  obtain ⟨f0, f1, f2, f3, f4⟩ := hr.free
  have hb : b < w.heap.size := Blk.lt hr
  have hf := ha.facts k
  have n0 : ¬ b = w.heap.size := by omega
  have n1 : ¬ b = w.heap.size + 1 := by omega
  have HR : Hid (Rd w b s M D O (f k)) := hr
  have HK : Hid (tok s (f k).to = f (k + 1)) := ha.step k
  have hto := (ha.facts k).2.1
  clear hr
  clear ha
  generalize f (k + 1) = t1 at *
  generalize f k = t at *
  go_enter Tryz.func80, Tryz.ntmps80
  go_wp2
  go_region_held3 (fun w' => w'.cell? ⟨b, 0, none⟩ = some (.string s) ∧ w'.cell? ⟨w.heap.size + 1, 2, none⟩ = some (.int .i64 t.to)) (first | (go_keep; done) | (simp [*, World.cell?_setCell_far, cell_set_off]; done)) (first | (go_at_call 95; refine (tokenAt_any s t.to _ _ (by omega) (by omega) (by omega)).mono ?_; rintro e w1 ⟨rfl, hbel⟩; obtain ⟨hc1, hf1⟩ := bcell hbel; have HR1 : Hid (Rd w1 b s M D O t) := Blk.fr (by exact Blk.alloc (Blk.alloc HR.out _) _) (Fr.of_below (bs := []) hbel) (by simp); obtain ⟨d0, d1, d2, d3, d4⟩ := Rd.cells HR1.out; obtain ⟨g0, g1, g2, g3, g4⟩ := Rd.free HR1.out))
  go_wp2
  have hn : Blk w1 w.heap.size #[.int .i64 0, .int .i64 0, .int .i64 0, .int .i64 0] 102 := Blk.fr (by exact Blk.alloc (Blk.new w _ _) _) (Fr.of_below (bs := []) hbel) (by simp)
  have n0' : ¬ w.heap.size = b := fun e => n0 e.symm
  refine bodyPost_ret (results_cell_row Tryz.results80 _ _ w.heap.size 102 #[.int .i64 (pk t.c), .int .i64 t.at', .int .i64 t.to, .int .i64 t.v] (0, 0) _ (by rfl) (Blk.store4 (Blk.setOther (Blk.setOther (Blk.setOther (Blk.setOther hn _ _ n0') _ _ n0') _ _ n0') _ _ n0') _ _ _ _) Tryz.underlying102 rfl (by kernel_rfl)) rfl ⟨rfl, ?_, ?_⟩
  · rw [← HK.out]
    exact ((((Rd.store HR1.out (tok s t.to)).setOther _ _ n0).setOther _ _ n0).setOther _ _ n0).setOther _ _ n0
  · have h1 : Fr [b] w w1 := ((((Fr.refl [b] w).alloc _).alloc _).drew).trans (Fr.of_below (bs := []) hbel) (by simp)
    repeat (refine Fr.setCell ?_ _ _ (by simp))
    exact h1

set_option maxHeartbeats 1000000 in
theorem expect_ok (s : ByteArray) (f : Nat → Tok) (k b : Nat) (K : Int) (w : World) (hs : s.size ≤ 1000) (ha : Str s f) (hr : Rd w b s M D O (f k)) (hc : pk (f k).c = K) :
    Calls Tryz.prog 71 #[.pointer (some ⟨b, 0, none⟩), .int .i64 K] w fun e w' => e = .returned (.agg #[.int .i64 K, .int .i64 (f k).at', .int .i64 (f k).to, .int .i64 (f k).v]) ∧ Rd w' b s M D O (f (k + 1)) ∧ Fr [b] w w' := by
  obtain ⟨c0, c1, c2, c3, c4⟩ := hr.cells
  have HR : Hid (Rd w b s M D O (f k)) := hr
  have hb : b < w.heap.size := Blk.lt hr
  rw [hc] at c1
  have HC : Hid (pk (f k).c = K) := hc
  clear hr hc
  go_enter Tryz.func71, Tryz.ntmps71
  go_wp2_with fail
  refine (take_any s f k b _ (by omega) ha (by exact Blk.alloc HR.out _)).mono ?_
  rintro e w1 ⟨rfl, hr1, hfr⟩
  rw [HC.out]
  have hq : Blk w1 w.heap.size #[.int .i64 0, .int .i64 0, .int .i64 0, .int .i64 0] 102 := Blk.fr (by exact Blk.new w _ _) hfr (by simp; omega)
  obtain ⟨q0, q1, q2, q3⟩ : w1.cell? ⟨w.heap.size, 0, none⟩ = some (.int .i64 0) ∧ w1.cell? ⟨w.heap.size, 1, none⟩ = some (.int .i64 0) ∧ w1.cell? ⟨w.heap.size, 2, none⟩ = some (.int .i64 0) ∧ w1.cell? ⟨w.heap.size, 3, none⟩ = some (.int .i64 0) := ⟨hq.cell 0, hq.cell 1, hq.cell 2, hq.cell 3⟩
  obtain ⟨g0, g1, g2⟩ := hq.free3
  have g3 := hq.frozen 3
  have n0 : b ≠ w.heap.size := by omega
  go_wp2
  refine bodyPost_ret (results_cell_row Tryz.results71 _ _ w.heap.size 102 #[.int .i64 K, .int .i64 (f k).at', .int .i64 (f k).to, .int .i64 (f k).v] (0, 0) _ (by rfl) (Blk.store4 hq _ _ _ _) Tryz.underlying102 rfl (by kernel_rfl)) rfl ⟨rfl, ?_, ?_⟩
  · exact (((hr1.setOther _ _ n0).setOther _ _ n0).setOther _ _ n0).setOther _ _ n0
  · repeat (refine Fr.setCell ?_ _ _ (by simp))
    exact ((Fr.refl [b] w).alloc _).trans hfr (by simp)

set_option maxHeartbeats 1000000 in
theorem expect_not (s : ByteArray) (t : Tok) (b : Nat) (K : Int) (w : World) (hr : Rd w b s M D O t) (hc : pk t.c ≠ K) :
    Calls Tryz.prog 71 #[.pointer (some ⟨b, 0, none⟩), .int .i64 K] w fun e w' => e = .panicked (faulty 4 t.at') ∧ Fr [b] w w' := by
  obtain ⟨c0, c1, c2, c3, c4⟩ := hr.cells
  have hb : b < w.heap.size := Blk.lt hr
  have q : (pk t.c != K) = true := by rw [bne_iff_ne]; exact hc
  clear hr hc
  go_enter Tryz.func71, Tryz.ntmps71
  go_wp2_with fail
  refine (fail_any _ _ _).mono ?_
  rintro e w1 ⟨rfl, rfl⟩
  go_wp2
  exact ⟨rfl, rfl, (Fr.refl _ _).alloc _⟩
end Go.Proofs.YthlmgpllapccfaaGreatDoor
/- THE PROGRAM's ARITHMETIC: Mod; the document's: modulo, raised. -/
namespace Go.Proofs.YthlmgpllapccfaaGreatDoor
open Go.RowKit

theorem tmod7 (n : Int) : (n.tmod 7 + 7).tmod 7 = n % 7 := by
  rcases Int.lt_or_le n 0 with h | h
  · have := Int.tmod_def n 7
    rw [Int.tmod_eq_emod_of_nonneg (by have := Int.lt_tmod_of_pos n (b := 7) (by omega); omega)]
    have e : n.tmod 7 = -((-n) % 7) := by
      have h1 : n = -(-n) := by omega
      rw [h1, Int.neg_tmod, Int.tmod_eq_emod_of_nonneg (by omega)]; simp
    rw [e]; omega
  · rw [Int.tmod_eq_emod_of_nonneg h, Int.tmod_eq_emod_of_nonneg (by omega)]; omega

theorem tmod7_bd (n : Int) : -7 < n.tmod 7 ∧ n.tmod 7 < 7 := ⟨by have := Int.lt_tmod_of_pos n (b := 7) (by omega); omega, Int.tmod_lt_of_pos n (by omega)⟩
theorem ret1 {k : IntKind} {a b : Int} (h : a = b) : Ending.returned (.int k a) = Ending.returned (.int k b) := by rw [h]

set_option maxHeartbeats 400000 in
theorem Mod_any (n : Int) (w : World) :
    Calls Tryz.prog 48 #[.int .i64 n] w fun e w' => e = .returned (.int .i64 (n % 7)) ∧ w' = w := by
  have hb := tmod7_bd n
  have ht := tmod7 n
  have HT : Hid ((n.tmod 7 + 7).tmod 7 = n % 7) := ht
  clear ht
  go_enter Tryz.func48, Tryz.ntmps48
  go_wp2
  go_ret
  exact ⟨ret1 (by rw [← HT.out]; exact (Int.tmod_eq_emod_of_nonneg (by omega)).symm), rfl⟩

set_option maxHeartbeats 400000 in
theorem modulo_any (n : Int) (w : World) :
    Calls Tryz.prog 100 #[.int .i64 n] w fun e w' => e = .returned (.int .i64 (n % 7)) ∧ w' = w := by
  have hb := tmod7_bd n
  have ht := tmod7 n
  have HT : Hid ((n.tmod 7 + 7).tmod 7 = n % 7) := ht
  clear ht
  go_enter Tryz.func100, Tryz.ntmps100
  go_wp2
  go_ret
  exact ⟨ret1 (by rw [← HT.out]; exact (Int.tmod_eq_emod_of_nonneg (by omega)).symm), rfl⟩

/-- a to the n-th, modulo 7. -/
def pw7 (a : Nat) : Nat → Nat
  | 0 => 1
  | n + 1 => pw7 a n * a % 7
theorem pw7_lt (a n : Nat) : pw7 a n < 7 := by cases n <;> simp [pw7]; omega

set_option maxHeartbeats 400000 in
theorem raised_any (a n : Nat) (A N : Int) (w : World) (hA : A = a) (hN : N = n) (ha : a < 7) (hn : n ≤ 6) :
    Calls Tryz.prog 99 #[.int .i64 A, .int .i64 N] w fun e w' => e = .returned (.int .i64 (pw7 a n)) ∧ w' = w := by
  subst hA hN
  go_enter Tryz.func99, Tryz.ntmps99
  go_wp2
  go_loop [5, 6] (fun v i => ∃ k : Nat, k ≤ n ∧ i = .int .i64 k ∧ v = .int .i64 (pw7 a k)) (fun _ i => n - (intOf i).toNat)
  case atStart => exact ⟨0, Nat.zero_le _, rfl, rfl⟩
  case round =>
    obtain ⟨k, hk, rfl, rfl⟩ := hrel
    have hp := pw7_lt a k
    have hm : (pw7 a k : Int) * a ≤ 36 := by
      have h := Nat.mul_le_mul (show pw7 a k ≤ 6 by omega) (show a ≤ 6 by omega)
      have : ((pw7 a k * a : Nat) : Int) ≤ ((6 * 6 : Nat) : Int) := by exact_mod_cast h
      rw [Int.natCast_mul] at this; omega
    have hm0 : 0 ≤ (pw7 a k : Int) * a := by
      have : (0 : Int) ≤ ((pw7 a k * a : Nat) : Int) := by omega
      rw [Int.natCast_mul] at this; omega
    have HS : Hid (((pw7 a k : Int) * a) % 7 = (pw7 a (k + 1) : Nat)) := by unfold Hid; simp [pw7]
    by_cases hlt : k < n
    · go_wp2
      go_round
      case rel => exact ⟨k + 1, by omega, by go_num, by rw [← HS.out]⟩
      case measure => simp [intOf]; omega
    · have e : k = n := by omega
      subst e
      go_wp2
      go_ret
      exact ⟨rfl, rfl⟩
theorem prod_bd {a b : Nat} (ha : a < 7) (hb : b < 7) : 0 ≤ (a : Int) * (b : Int) ∧ (a : Int) * (b : Int) ≤ 36 := by
  have h := Nat.mul_le_mul (show a ≤ 6 by omega) (show b ≤ 6 by omega)
  have h1 : ((a * b : Nat) : Int) ≤ ((6 * 6 : Nat) : Int) := by exact_mod_cast h
  have h2 : (0 : Int) ≤ ((a * b : Nat) : Int) := by omega
  rw [Int.natCast_mul] at h1 h2
  exact ⟨h2, by omega⟩
theorem hidV {p : Prop} (h : p) : Hid p := h
theorem hidT {p : Prop} (h : p) : Hid p := h
end Go.Proofs.YthlmgpllapccfaaGreatDoor
/- THE READER: power. -/
namespace Go.Proofs.YthlmgpllapccfaaGreatDoor
open Go.RowKit
variable {M : Value} {D : Int} {O : Bool}

set_option maxHeartbeats 2000000 in
theorem power_u0 (s : ByteArray) (f : Nat → Tok) (k b : Nat) (u x : Nat) (N : Int) (w : World) (hs : s.size ≤ 1000) (ha : Str s f) (hr : Rd w b s M D false (f k)) (hc : (f k).c = 2) (hu : u ≤ 6) (hx : x ≤ 4) :
    Calls Tryz.prog 98 #[.pointer (some ⟨b, 0, none⟩), .agg #[.int .i64 N, .int .i64 u, .int .i64 x]] w fun e w' =>
      (u + (f k).v ≤ 6 ∧ e = .returned (.agg #[.int .i64 N, .int .i64 ((u + (f k).v : Nat) : Int), .int .i64 (x : Int)]) ∧ Rd w' b s M D false (f (k + 1)) ∧ Fr [b] w w') ∨
      (¬ u + (f k).v ≤ 6 ∧ e = .panicked (faulty 5 (f k).at') ∧ Fr [b] w w') := by
  have hb : b < w.heap.size := Blk.lt hr
  have hf := ha.facts k
  have HR : Hid (Rd w b s M D false (f k)) := hr
  have HPK : Hid (pk (f k).c = 2) := by unfold Hid; rw [hc]; rfl
  have m0 : ¬ w.heap.size = b := by omega
  have m1 : ¬ w.heap.size + 1 = b := by omega
  have HFA := hidV ha
  clear hr hc ha

  by_cases hle : u + (f k).v ≤ 6
  all_goals
    go_enter Tryz.func98, Tryz.ntmps98
    go_wp2_with fail
    refine (take_any s f k b _ (by omega) HFA.out (by exact Blk.alloc (Blk.alloc HR.out _) _)).mono ?_
    rintro e w1 ⟨rfl, hr1, hfr⟩
    rw [HPK.out]
    have ht : Blk w1 w.heap.size #[.int .i64 N, .int .i64 (u : Int), .int .i64 (x : Int)] 163 := Blk.fr (by exact Blk.alloc (Blk.new w _ _) _) hfr (by simp [m0])
    have hq : Blk w1 (w.heap.size + 1) #[.int .i64 0, .int .i64 0, .int .i64 0] 163 := Blk.fr (by exact Blk.newAt _ _ _ (by simp)) hfr (by simp [m1])
    have HF1 : Hid (Fr [b] w w1) := (((Fr.refl [b] w).alloc _).alloc _).trans hfr (by simp)
    have hl1 : w.heap.size + 1 < w1.heap.size := hq.lt
    have hl0 : w.heap.size < w1.heap.size := by omega
    have hb1 : b < w1.heap.size := Blk.lt hr1
    obtain ⟨p0, p1, p2⟩ := ht.cells3
    obtain ⟨e0, e1, e2⟩ := ht.free3
    obtain ⟨q0, q1, q2⟩ := hq.cells3
    obtain ⟨g0, g1, g2⟩ := hq.free3
    have r7 := hr1.more.2.2
    have HQ := hidV hq
    have HR1 := hidV hr1
    clear ht hq hr1 hfr
    go_wp2_with (go_at_call 78; refine (fail_any _ _ _).mono ?_; rintro e w2 ⟨rfl, rfl⟩)
  · refine bodyPost_ret (results_cell_row Tryz.results98 _ _ (w.heap.size + 1) 163 #[.int .i64 N, .int .i64 ((u : Int) + ((f k).v : Int)), .int .i64 ((x : Int))] (0, 0) _ (by rfl) (Blk.alloc (Blk.store3 (HQ.out.setOther _ _ (by simp)) _ _ _) _) Tryz.underlying163 rfl (by kernel_rfl)) rfl (Or.inl ⟨hle, ret3 rfl (by omega) (by omega), ?_, ?_⟩)
    · exact Blk.alloc ((((Rd.setOther HR1.out _ _ (by simp; omega)).setOther _ _ (by simp; omega)).setOther _ _ (by simp; omega)).setOther _ _ (by simp; omega)) _
    · refine Fr.alloc ?_ _
      repeat (refine Fr.setCell ?_ _ _ (by simp))
      exact HF1.out
  · refine ⟨rfl, Or.inr ⟨hle, rfl, ?_⟩⟩
    refine Fr.alloc ?_ _
    repeat (refine Fr.setCell ?_ _ _ (by simp))
    exact HF1.out

set_option maxHeartbeats 2000000 in
theorem power_u1 (s : ByteArray) (f : Nat → Tok) (k b : Nat) (u x : Nat) (N : Int) (w : World) (hs : s.size ≤ 1000) (ha : Str s f) (hr : Rd w b s M D true (f k)) (hc : (f k).c = 2) (hu : u ≤ 6) (hx : x ≤ 4) :
    Calls Tryz.prog 98 #[.pointer (some ⟨b, 0, none⟩), .agg #[.int .i64 N, .int .i64 u, .int .i64 x]] w fun e w' =>
      (u + (f k).v ≤ 6 ∧ e = .returned (.agg #[.int .i64 N, .int .i64 ((u + (f k).v : Nat) : Int), .int .i64 (x : Int)]) ∧ Rd w' b s M D true (f (k + 1)) ∧ Fr [b] w w') ∨
      (¬ u + (f k).v ≤ 6 ∧ e = .panicked (faulty 5 (f k).at') ∧ Fr [b] w w') := by
  have hb : b < w.heap.size := Blk.lt hr
  have hf := ha.facts k
  have HR : Hid (Rd w b s M D true (f k)) := hr
  have HPK : Hid (pk (f k).c = 2) := by unfold Hid; rw [hc]; rfl
  have m0 : ¬ w.heap.size = b := by omega
  have m1 : ¬ w.heap.size + 1 = b := by omega
  have HFA := hidV ha
  clear hr hc ha

  by_cases hle : u + (f k).v ≤ 6
  all_goals
    go_enter Tryz.func98, Tryz.ntmps98
    go_wp2_with fail
    refine (take_any s f k b _ (by omega) HFA.out (by exact Blk.alloc (Blk.alloc HR.out _) _)).mono ?_
    rintro e w1 ⟨rfl, hr1, hfr⟩
    rw [HPK.out]
    have ht : Blk w1 w.heap.size #[.int .i64 N, .int .i64 (u : Int), .int .i64 (x : Int)] 163 := Blk.fr (by exact Blk.alloc (Blk.new w _ _) _) hfr (by simp [m0])
    have hq : Blk w1 (w.heap.size + 1) #[.int .i64 0, .int .i64 0, .int .i64 0] 163 := Blk.fr (by exact Blk.newAt _ _ _ (by simp)) hfr (by simp [m1])
    have HF1 : Hid (Fr [b] w w1) := (((Fr.refl [b] w).alloc _).alloc _).trans hfr (by simp)
    have hl1 : w.heap.size + 1 < w1.heap.size := hq.lt
    have hl0 : w.heap.size < w1.heap.size := by omega
    have hb1 : b < w1.heap.size := Blk.lt hr1
    obtain ⟨p0, p1, p2⟩ := ht.cells3
    obtain ⟨e0, e1, e2⟩ := ht.free3
    obtain ⟨q0, q1, q2⟩ := hq.cells3
    obtain ⟨g0, g1, g2⟩ := hq.free3
    have r7 := hr1.more.2.2
    have HQ := hidV hq
    have HR1 := hidV hr1
    clear ht hq hr1 hfr
    go_wp2_with (go_at_call 78; refine (fail_any _ _ _).mono ?_; rintro e w2 ⟨rfl, rfl⟩)
  · refine bodyPost_ret (results_cell_row Tryz.results98 _ _ (w.heap.size + 1) 163 #[.int .i64 N, .int .i64 ((u : Int) + ((f k).v : Int)), .int .i64 ((x : Int))] (0, 0) _ (by rfl) (Blk.alloc (Blk.store3 (HQ.out.setOther _ _ (by simp)) _ _ _) _) Tryz.underlying163 rfl (by kernel_rfl)) rfl (Or.inl ⟨hle, ret3 rfl (by omega) (by omega), ?_, ?_⟩)
    · exact Blk.alloc ((((Rd.setOther HR1.out _ _ (by simp; omega)).setOther _ _ (by simp; omega)).setOther _ _ (by simp; omega)).setOther _ _ (by simp; omega)) _
    · refine Fr.alloc ?_ _
      repeat (refine Fr.setCell ?_ _ _ (by simp))
      exact HF1.out
  · refine ⟨rfl, Or.inr ⟨hle, rfl, ?_⟩⟩
    refine Fr.alloc ?_ _
    repeat (refine Fr.setCell ?_ _ _ (by simp))
    exact HF1.out

set_option maxHeartbeats 2000000 in
theorem power_x0 (s : ByteArray) (f : Nat → Tok) (k b : Nat) (u x : Nat) (N : Int) (w : World) (hs : s.size ≤ 1000) (ha : Str s f) (hr : Rd w b s M D false (f k)) (hc : (f k).c = 3) (hu : u ≤ 6) (hx : x ≤ 4) :
    Calls Tryz.prog 98 #[.pointer (some ⟨b, 0, none⟩), .agg #[.int .i64 N, .int .i64 u, .int .i64 x]] w fun e w' =>
      (x + (f k).v ≤ 4 ∧ e = .returned (.agg #[.int .i64 N, .int .i64 (u : Int), .int .i64 ((x + (f k).v : Nat) : Int)]) ∧ Rd w' b s M D false (f (k + 1)) ∧ Fr [b] w w') ∨
      (¬ x + (f k).v ≤ 4 ∧ e = .panicked (faulty 5 (f k).at') ∧ Fr [b] w w') := by
  have hb : b < w.heap.size := Blk.lt hr
  have hf := ha.facts k
  have HR : Hid (Rd w b s M D false (f k)) := hr
  have HPK : Hid (pk (f k).c = 3) := by unfold Hid; rw [hc]; rfl
  have m0 : ¬ w.heap.size = b := by omega
  have m1 : ¬ w.heap.size + 1 = b := by omega
  have HFA := hidV ha
  clear hr hc ha

  by_cases hle : x + (f k).v ≤ 4
  all_goals
    go_enter Tryz.func98, Tryz.ntmps98
    go_wp2_with fail
    refine (take_any s f k b _ (by omega) HFA.out (by exact Blk.alloc (Blk.alloc HR.out _) _)).mono ?_
    rintro e w1 ⟨rfl, hr1, hfr⟩
    rw [HPK.out]
    have ht : Blk w1 w.heap.size #[.int .i64 N, .int .i64 (u : Int), .int .i64 (x : Int)] 163 := Blk.fr (by exact Blk.alloc (Blk.new w _ _) _) hfr (by simp [m0])
    have hq : Blk w1 (w.heap.size + 1) #[.int .i64 0, .int .i64 0, .int .i64 0] 163 := Blk.fr (by exact Blk.newAt _ _ _ (by simp)) hfr (by simp [m1])
    have HF1 : Hid (Fr [b] w w1) := (((Fr.refl [b] w).alloc _).alloc _).trans hfr (by simp)
    have hl1 : w.heap.size + 1 < w1.heap.size := hq.lt
    have hl0 : w.heap.size < w1.heap.size := by omega
    have hb1 : b < w1.heap.size := Blk.lt hr1
    obtain ⟨p0, p1, p2⟩ := ht.cells3
    obtain ⟨e0, e1, e2⟩ := ht.free3
    obtain ⟨q0, q1, q2⟩ := hq.cells3
    obtain ⟨g0, g1, g2⟩ := hq.free3
    have r7 := hr1.more.2.2
    have HQ := hidV hq
    have HR1 := hidV hr1
    clear ht hq hr1 hfr
    go_wp2_with (go_at_call 78; refine (fail_any _ _ _).mono ?_; rintro e w2 ⟨rfl, rfl⟩)
  · refine bodyPost_ret (results_cell_row Tryz.results98 _ _ (w.heap.size + 1) 163 #[.int .i64 N, .int .i64 ((u : Int)), .int .i64 ((x : Int) + ((f k).v : Int))] (0, 0) _ (by rfl) (Blk.alloc (Blk.store3 (HQ.out.setOther _ _ (by simp)) _ _ _) _) Tryz.underlying163 rfl (by kernel_rfl)) rfl (Or.inl ⟨hle, ret3 rfl (by omega) (by omega), ?_, ?_⟩)
    · exact Blk.alloc ((((Rd.setOther HR1.out _ _ (by simp; omega)).setOther _ _ (by simp; omega)).setOther _ _ (by simp; omega)).setOther _ _ (by simp; omega)) _
    · refine Fr.alloc ?_ _
      repeat (refine Fr.setCell ?_ _ _ (by simp))
      exact HF1.out
  · refine ⟨rfl, Or.inr ⟨hle, rfl, ?_⟩⟩
    refine Fr.alloc ?_ _
    repeat (refine Fr.setCell ?_ _ _ (by simp))
    exact HF1.out

theorem power_u (s : ByteArray) (f : Nat → Tok) (k b : Nat) (u x : Nat) (N : Int) (w : World) (hs : s.size ≤ 1000) (ha : Str s f) (hr : Rd w b s M D O (f k)) (hc : (f k).c = 2) (hu : u ≤ 6) (hx : x ≤ 4) :
    Calls Tryz.prog 98 #[.pointer (some ⟨b, 0, none⟩), .agg #[.int .i64 N, .int .i64 u, .int .i64 x]] w fun e w' =>
      (u + (f k).v ≤ 6 ∧ e = .returned (.agg #[.int .i64 N, .int .i64 ((u + (f k).v : Nat) : Int), .int .i64 (x : Int)]) ∧ Rd w' b s M D O (f (k + 1)) ∧ Fr [b] w w') ∨
      (¬ u + (f k).v ≤ 6 ∧ e = .panicked (faulty 5 (f k).at') ∧ Fr [b] w w') := by
  cases O
  · exact power_u0 s f k b u x N w hs ha hr hc hu hx
  · exact power_u1 s f k b u x N w hs ha hr hc hu hx

set_option maxHeartbeats 2000000 in
theorem power_x1 (s : ByteArray) (f : Nat → Tok) (k b : Nat) (u x : Nat) (N : Int) (w : World) (hs : s.size ≤ 1000) (ha : Str s f) (hr : Rd w b s M D true (f k)) (hc : (f k).c = 3) :
    Calls Tryz.prog 98 #[.pointer (some ⟨b, 0, none⟩), .agg #[.int .i64 N, .int .i64 u, .int .i64 x]] w fun e w' => e = .panicked (faulty 7 (f k).at') ∧ Fr [b] w w' := by
  have hb : b < w.heap.size := Blk.lt hr
  have hf := ha.facts k
  have HR : Hid (Rd w b s M D true (f k)) := hr
  have HPK : Hid (pk (f k).c = 3) := by unfold Hid; rw [hc]; rfl
  have HFA := hidV ha
  clear hr hc ha
  go_enter Tryz.func98, Tryz.ntmps98
  go_wp2_with fail
  refine (take_any s f k b _ (by omega) HFA.out (by exact Blk.alloc (Blk.alloc HR.out _) _)).mono ?_
  rintro e w1 ⟨rfl, hr1, hfr⟩
  rw [HPK.out]
  have HF1 : Hid (Fr [b] w w1) := (((Fr.refl [b] w).alloc _).alloc _).trans hfr (by simp)
  have hb1 : b < w1.heap.size := Blk.lt hr1
  have r7 := hr1.more.2.2
  clear hr1 hfr
  go_wp2_with (go_at_call 78; refine (fail_any _ _ _).mono ?_; rintro e w2 ⟨rfl, rfl⟩)
  exact ⟨rfl, rfl, HF1.out.alloc _⟩
end Go.Proofs.YthlmgpllapccfaaGreatDoor
/- PLAIN: the reading of powers, terms, polynomials, over a stream of tokens f. Nothing of the program. -/
namespace Go.Proofs.YthlmgpllapccfaaGreatDoor

/-- What the reading of powers comes to: the error (0: none), its place; the next token's number; the powers of u and x. -/
structure PwR where
  e : Nat
  bad : Nat
  k : Nat
  u : Nat
  x : Nat

def pw (f : Nat → Tok) (bare : Bool) : Nat → Nat → Nat → Nat → PwR
  | 0, k, u, x => ⟨0, 0, k, u, x⟩
  | m + 1, k, u, x =>
    if (f k).c = 2 then (if u + (f k).v ≤ 6 then pw f bare m (k + 1) (u + (f k).v) x else ⟨5, (f k).at', k, u, x⟩)
    else if (f k).c = 3 then (if bare = true then ⟨7, (f k).at', k, u, x⟩ else if x + (f k).v ≤ 4 then pw f bare m (k + 1) u (x + (f k).v) else ⟨5, (f k).at', k, u, x⟩)
    else ⟨0, 0, k, u, x⟩

theorem pw_u {f : Nat → Tok} {bare : Bool} {m k u x : Nat} (hm : 0 < m) (hc : (f k).c = 2) (h : u + (f k).v ≤ 6) : pw f bare m k u x = pw f bare (m - 1) (k + 1) (u + (f k).v) x := by
  obtain ⟨m, rfl⟩ : ∃ n, m = n + 1 := ⟨m - 1, by omega⟩
  simp [pw, hc, h]
theorem pw_u_bad {f : Nat → Tok} {bare : Bool} {m k u x : Nat} (hm : 0 < m) (hc : (f k).c = 2) (h : ¬ u + (f k).v ≤ 6) : pw f bare m k u x = ⟨5, (f k).at', k, u, x⟩ := by
  obtain ⟨m, rfl⟩ : ∃ n, m = n + 1 := ⟨m - 1, by omega⟩
  simp [pw, hc, h]
theorem pw_x {f : Nat → Tok} {m k u x : Nat} (hm : 0 < m) (hc : (f k).c = 3) (h : x + (f k).v ≤ 4) : pw f false m k u x = pw f false (m - 1) (k + 1) u (x + (f k).v) := by
  obtain ⟨m, rfl⟩ : ∃ n, m = n + 1 := ⟨m - 1, by omega⟩
  simp [pw, hc, h]
theorem pw_x_bad {f : Nat → Tok} {m k u x : Nat} (hm : 0 < m) (hc : (f k).c = 3) (h : ¬ x + (f k).v ≤ 4) : pw f false m k u x = ⟨5, (f k).at', k, u, x⟩ := by
  obtain ⟨m, rfl⟩ : ∃ n, m = n + 1 := ⟨m - 1, by omega⟩
  simp [pw, hc, h]
theorem pw_x_bare {f : Nat → Tok} {m k u x : Nat} (hm : 0 < m) (hc : (f k).c = 3) : pw f true m k u x = ⟨7, (f k).at', k, u, x⟩ := by
  obtain ⟨m, rfl⟩ : ∃ n, m = n + 1 := ⟨m - 1, by omega⟩
  simp [pw, hc]
theorem pw_end {f : Nat → Tok} {bare : Bool} {m k u x : Nat} (h2 : (f k).c ≠ 2) (h3 : (f k).c ≠ 3) : pw f bare m k u x = ⟨0, 0, k, u, x⟩ := by
  cases m <;> simp [pw, h2, h3]
/-- What is read stays within the bounds; the tokens go on. -/
theorem pw_facts (f : Nat → Tok) (bare : Bool) : ∀ (m k u x : Nat), u ≤ 6 → x ≤ 4 → (pw f bare m k u x).u ≤ 6 ∧ (pw f bare m k u x).x ≤ 4 ∧ k ≤ (pw f bare m k u x).k ∧ (pw f bare m k u x).k ≤ k + m := by
  intro m
  induction m with
  | zero => intro k u x hu hx; simp [pw, hu, hx]
  | succ m ih =>
    intro k u x hu hx
    simp only [pw]
    split
    · split
      · have := ih (k + 1) (u + (f k).v) x (by omega) hx; omega
      · simp [hu, hx]
    · split
      · split
        · simp [hu, hx]
        · split
          · have := ih (k + 1) u (x + (f k).v) hu (by omega); omega
          · simp [hu, hx]
      · simp [hu, hx]

structure TmR where
  e : Nat
  bad : Nat
  k : Nat
  n : Nat
  u : Nat
  x : Nat

/-- A term from token k on; there are at most N tokens ahead of the end. -/
def tm (f : Nat → Tok) (bare : Bool) (N k : Nat) : TmR :=
  if (f k).c = 1 then ⟨(pw f bare (N - (k + 1)) (k + 1) 0 0).e, (pw f bare (N - (k + 1)) (k + 1) 0 0).bad, (pw f bare (N - (k + 1)) (k + 1) 0 0).k, (f k).v, (pw f bare (N - (k + 1)) (k + 1) 0 0).u, (pw f bare (N - (k + 1)) (k + 1) 0 0).x⟩
  else if (f k).c = 2 ∨ (f k).c = 3 then ⟨(pw f bare (N - k) k 0 0).e, (pw f bare (N - k) k 0 0).bad, (pw f bare (N - k) k 0 0).k, 1, (pw f bare (N - k) k 0 0).u, (pw f bare (N - k) k 0 0).x⟩
  else ⟨4, (f k).at', k, 0, 0, 0⟩

/-- A number n added, sg times, at the powers u and x. -/
def plus (p : List Nat) (u x a : Nat) : List Nat := p.set (7 * x + u) ((p.getD (7 * x + u) 0 + a) % 7)

structure PlR where
  e : Nat
  bad : Nat
  k : Nat
  p : List Nat

def pl (f : Nat → Tok) (bare : Bool) (N : Nat) : Nat → Nat → Nat → List Nat → PlR
  | 0, k, _, p => ⟨4, 0, k, p⟩
  | m + 1, k, sg, p =>
    if (tm f bare N k).e = 0 then
      (if (f (tm f bare N k).k).c = 47 then pl f bare N m ((tm f bare N k).k + 1) 1 (plus p (tm f bare N k).u (tm f bare N k).x (sg * (tm f bare N k).n))
      else if (f (tm f bare N k).k).c = 49 then pl f bare N m ((tm f bare N k).k + 1) 6 (plus p (tm f bare N k).u (tm f bare N k).x (sg * (tm f bare N k).n))
      else ⟨0, 0, (tm f bare N k).k, plus p (tm f bare N k).u (tm f bare N k).x (sg * (tm f bare N k).n)⟩)
    else ⟨(tm f bare N k).e, (tm f bare N k).bad, k, p⟩

def zeros : List Nat := List.replicate 35 0

/-- A polynomial from token k on. -/
def poly (f : Nat → Tok) (bare : Bool) (N k : Nat) : PlR :=
  if (f k).c = 49 then pl f bare N (N + 1) (k + 1) 6 zeros else pl f bare N (N + 1) k 1 zeros

/-- A text read as a polynomial: the error, its place, the numbers. -/
structure RdR where
  e : Nat
  bad : Nat
  p : List Nat

def rd (s : ByteArray) : RdR :=
  if 90 < s.size then ⟨2, 0, zeros⟩
  else if (poly (tk s 0) false s.size 0).e = 0 then
    (if (tk s 0 (poly (tk s 0) false s.size 0).k).c = 0 then ⟨0, 0, (poly (tk s 0) false s.size 0).p⟩ else ⟨4, (tk s 0 (poly (tk s 0) false s.size 0).k).at', zeros⟩)
  else ⟨(poly (tk s 0) false s.size 0).e, (poly (tk s 0) false s.size 0).bad, zeros⟩

/-- 35 numbers, 0 to 6. -/
def Good (p : List Nat) : Prop := p.length = 35 ∧ ∀ i, p.getD i 0 < 7
theorem zeros_good : Good zeros := ⟨rfl, fun i => by
  unfold zeros
  rw [List.getD_eq_getElem?_getD, List.getElem?_replicate]
  split <;> simp⟩
theorem plus_good {p : List Nat} (h : Good p) (u x a : Nat) : Good (plus p u x a) := by
  refine ⟨by simp [plus, h.1], fun i => ?_⟩
  unfold plus
  simp only [List.getD_eq_getElem?_getD, List.getElem?_set]
  split
  · split
    · simp; omega
    · simp
  · have := h.2 i; simpa [List.getD_eq_getElem?_getD] using this

theorem tm_facts (f : Nat → Tok) (bare : Bool) (N k : Nat) : (tm f bare N k).u ≤ 6 ∧ (tm f bare N k).x ≤ 4 ∧ k ≤ (tm f bare N k).k ∧ (k < N → (tm f bare N k).k ≤ N) := by
  unfold tm
  split
  · have := pw_facts f bare (N - (k + 1)) (k + 1) 0 0 (by omega) (by omega)
    refine ⟨this.1, this.2.1, ?_, ?_⟩ <;> simp <;> omega
  · split
    · have := pw_facts f bare (N - k) k 0 0 (by omega) (by omega)
      refine ⟨this.1, this.2.1, ?_, ?_⟩ <;> simp <;> omega
    · refine ⟨?_, ?_, ?_, ?_⟩ <;> simp; omega
theorem tm_num {f : Nat → Tok} (bare : Bool) (N k : Nat) (h : ∀ k, (f k).v ≤ 99) : (tm f bare N k).n ≤ 99 := by
  unfold tm
  split
  · exact h k
  · split <;> simp
theorem pl_bad {f : Nat → Tok} {bare : Bool} {N m k sg : Nat} {p : List Nat} (hm : 0 < m) (h : (tm f bare N k).e ≠ 0) : pl f bare N m k sg p = ⟨(tm f bare N k).e, (tm f bare N k).bad, k, p⟩ := by
  obtain ⟨m, rfl⟩ : ∃ n, m = n + 1 := ⟨m - 1, by omega⟩
  simp only [pl, h, if_false]
theorem pl_plus {f : Nat → Tok} {bare : Bool} {N m k sg : Nat} {p : List Nat} (hm : 0 < m) (h : (tm f bare N k).e = 0) (hc : (f (tm f bare N k).k).c = 47) :
    pl f bare N m k sg p = pl f bare N (m - 1) ((tm f bare N k).k + 1) 1 (plus p (tm f bare N k).u (tm f bare N k).x (sg * (tm f bare N k).n)) := by
  obtain ⟨m, rfl⟩ : ∃ n, m = n + 1 := ⟨m - 1, by omega⟩
  simp only [pl, h, hc, if_true, Nat.add_sub_cancel]
theorem pl_minus {f : Nat → Tok} {bare : Bool} {N m k sg : Nat} {p : List Nat} (hm : 0 < m) (h : (tm f bare N k).e = 0) (hc : (f (tm f bare N k).k).c = 49) :
    pl f bare N m k sg p = pl f bare N (m - 1) ((tm f bare N k).k + 1) 6 (plus p (tm f bare N k).u (tm f bare N k).x (sg * (tm f bare N k).n)) := by
  obtain ⟨m, rfl⟩ : ∃ n, m = n + 1 := ⟨m - 1, by omega⟩
  simp [pl, h, hc]
theorem pl_done {f : Nat → Tok} {bare : Bool} {N m k sg : Nat} {p : List Nat} (hm : 0 < m) (h : (tm f bare N k).e = 0) (h4 : (f (tm f bare N k).k).c ≠ 47) (h5 : (f (tm f bare N k).k).c ≠ 49) :
    pl f bare N m k sg p = ⟨0, 0, (tm f bare N k).k, plus p (tm f bare N k).u (tm f bare N k).x (sg * (tm f bare N k).n)⟩ := by
  obtain ⟨m, rfl⟩ : ∃ n, m = n + 1 := ⟨m - 1, by omega⟩
  simp only [pl, h, h4, h5, if_true, if_false]

def sgOf (neg : Bool) : Nat := if neg then 6 else 1
end Go.Proofs.YthlmgpllapccfaaGreatDoor
/- THE READER: term. -/
namespace Go.Proofs.YthlmgpllapccfaaGreatDoor
open Go.RowKit
variable {M : Value} {D : Int} {O : Bool}

theorem pk_ne1 {c : Nat} (h : c ≠ 1) : (pk c == 1) = false := by
  rw [beq_eq_false_iff_ne]; unfold pk
  repeat' split
  all_goals omega
theorem pk_ne2 {c : Nat} (h : c ≠ 2) : (pk c == 2) = false := by
  rw [beq_eq_false_iff_ne]; unfold pk
  repeat' split
  all_goals omega
theorem pk_ne3 {c : Nat} (h : c ≠ 3) : (pk c == 3) = false := by
  rw [beq_eq_false_iff_ne]; unfold pk
  repeat' split
  all_goals omega
theorem power_uOk (s : ByteArray) (f : Nat → Tok) (k b : Nat) (u x : Nat) (N : Int) (w : World) (hs : s.size ≤ 1000) (ha : Str s f) (hr : Rd w b s M D O (f k)) (hc : (f k).c = 2) (hu : u ≤ 6) (hx : x ≤ 4) (h : u + (f k).v ≤ 6) :
    Calls Tryz.prog 98 #[.pointer (some ⟨b, 0, none⟩), .agg #[.int .i64 N, .int .i64 u, .int .i64 x]] w fun e w' =>
      e = .returned (.agg #[.int .i64 N, .int .i64 ((u + (f k).v : Nat) : Int), .int .i64 x]) ∧ Rd w' b s M D O (f (k + 1)) ∧ Fr [b] w w' :=
  (power_u s f k b u x N w hs ha hr hc hu hx).mono (by rintro e w1 (g | g); exact g.2; exact absurd h g.1)
theorem power_uBad (s : ByteArray) (f : Nat → Tok) (k b : Nat) (u x : Nat) (N : Int) (w : World) (hs : s.size ≤ 1000) (ha : Str s f) (hr : Rd w b s M D O (f k)) (hc : (f k).c = 2) (hu : u ≤ 6) (hx : x ≤ 4) (h : ¬ u + (f k).v ≤ 6) :
    Calls Tryz.prog 98 #[.pointer (some ⟨b, 0, none⟩), .agg #[.int .i64 N, .int .i64 u, .int .i64 x]] w fun e w' =>
      e = .panicked (faulty 5 (f k).at') ∧ Fr [b] w w' :=
  (power_u s f k b u x N w hs ha hr hc hu hx).mono (by rintro e w1 (g | g); exact absurd g.1 h; exact g.2)
theorem power_xOk (s : ByteArray) (f : Nat → Tok) (k b : Nat) (u x : Nat) (N : Int) (w : World) (hs : s.size ≤ 1000) (ha : Str s f) (hr : Rd w b s M D false (f k)) (hc : (f k).c = 3) (hu : u ≤ 6) (hx : x ≤ 4) (h : x + (f k).v ≤ 4) :
    Calls Tryz.prog 98 #[.pointer (some ⟨b, 0, none⟩), .agg #[.int .i64 N, .int .i64 u, .int .i64 x]] w fun e w' =>
      e = .returned (.agg #[.int .i64 N, .int .i64 u, .int .i64 ((x + (f k).v : Nat) : Int)]) ∧ Rd w' b s M D false (f (k + 1)) ∧ Fr [b] w w' :=
  (power_x0 s f k b u x N w hs ha hr hc hu hx).mono (by rintro e w1 (g | g); exact g.2; exact absurd h g.1)
theorem power_xBad (s : ByteArray) (f : Nat → Tok) (k b : Nat) (u x : Nat) (N : Int) (w : World) (hs : s.size ≤ 1000) (ha : Str s f) (hr : Rd w b s M D false (f k)) (hc : (f k).c = 3) (hu : u ≤ 6) (hx : x ≤ 4) (h : ¬ x + (f k).v ≤ 4) :
    Calls Tryz.prog 98 #[.pointer (some ⟨b, 0, none⟩), .agg #[.int .i64 N, .int .i64 u, .int .i64 x]] w fun e w' =>
      e = .panicked (faulty 5 (f k).at') ∧ Fr [b] w w' :=
  (power_x0 s f k b u x N w hs ha hr hc hu hx).mono (by rintro e w1 (g | g); exact absurd g.1 h; exact g.2)

theorem field_tok (x0 x1 x2 x3 : Int) (w : World) : (Instr.field 102 (.agg #[.int .i64 x0, .int .i64 x1, .int .i64 x2, .int .i64 x3]) 3).run Tryz.prog w = .ok (.int .i64 x3) w := by kernel_rfl
/-- What a term's reading ends in. -/
def TermPost (s : ByteArray) (f : Nat → Tok) (M : Value) (D : Int) (O : Bool) (b : Nat) (n : Nat) (R : PwR) (w : World) (e : Ending) (w' : World) : Prop :=
  (R.e = 0 ∧ e = .returned (.agg #[.int .i64 n, .int .i64 R.u, .int .i64 R.x]) ∧ Rd w' b s M D O (f R.k) ∧ Fr [b] w w') ∨ (R.e ≠ 0 ∧ e = .panicked (faulty R.e R.bad) ∧ Fr [b] w w')

set_option maxRecDepth 100000 in
set_option maxHeartbeats 2000000 in
theorem term_number (s : ByteArray) (f : Nat → Tok) (k b : Nat) (w : World) (hs : s.size ≤ 1000) (ha : Str s f) (hr : Rd w b s M D O (f k)) (hc : (f k).c = 1) :
    Calls Tryz.prog 81 #[.pointer (some ⟨b, 0, none⟩)] w (TermPost s f M D O b (f k).v (pw f O (s.size - (k + 1)) (k + 1) 0 0) w) := by
  obtain ⟨c0, c1, c2, c3, c4⟩ := hr.cells
  obtain ⟨f0, f1, f2, f3, f4⟩ := hr.free
  have hb : b < w.heap.size := Blk.lt hr
  have hf := ha.facts k
  have n0 : ¬ b = w.heap.size := by omega
  have n1 : ¬ b = w.heap.size + 1 := by omega
  have m0 : ¬ w.heap.size = b := by omega
  have m1 : ¬ w.heap.size + 1 = b := by omega
  have HR : Hid (Rd w b s M D O (f k)) := hr
  have hpk : pk (f k).c = 1 := by rw [hc]; rfl
  rw [hpk] at c1
  have HPK := hidV hpk
  generalize hR : pw f O (s.size - (k + 1)) (k + 1) 0 0 = R
  have HP : Hid (pw f O (s.size - (k + 1)) (k + 1) 0 0 = R) := hR
  have hfl := field_tok
  clear hr hpk hc hR
  go_enter Tryz.func81, Tryz.ntmps81
  go_wp2_with fail
  refine (expect_ok s f k b 1 _ (by omega) ha (by exact Blk.alloc (Blk.alloc HR.out _) _) HPK.out).mono ?_
  rintro e w1 ⟨rfl, hr1, hfr⟩
  have ht : Blk w1 (w.heap.size + 1) #[.int .i64 1, .int .i64 0, .int .i64 0] 163 := Blk.fr (by exact Blk.newAt _ _ _ (by simp)) hfr (by simp [m1])
  have hq : Blk w1 w.heap.size #[.int .i64 0, .int .i64 0, .int .i64 0] 163 := Blk.fr (by exact Blk.alloc (Blk.new w _ _) _) hfr (by simp [m0])
  have hf1 : Fr [b] w w1 := ((((Fr.refl [b] w).alloc _).alloc _)).trans hfr (by simp)
  obtain ⟨p0, p1, p2⟩ := ht.cells3
  obtain ⟨g0, g1, g2⟩ := ht.free3
  go_wp2
  clear c0 c1 c2 c3 c4 f0 f1 f2 f3 f4 p0 p1 p2 g0 g1 g2 hfl
  go_loopg [] (s.size - (k + 1)) (fun m wr => ∃ k' u x : Nat, m = s.size - k' ∧ u ≤ 6 ∧ x ≤ 4 ∧ Rd wr b s M D O (f k') ∧ Blk wr (w.heap.size + 1) #[.int .i64 ((f k).v : Nat), .int .i64 u, .int .i64 x] 163 ∧ Blk wr w.heap.size #[.int .i64 0, .int .i64 0, .int .i64 0] 163 ∧ Fr [b] w wr ∧ Hid (pw f O (s.size - k') k' u x = R))
  case atStart => exact ⟨k + 1, 0, 0, rfl, by omega, by omega, hr1.setOther _ _ n1, ht.set 0 _, hq.setOther _ _ (by simp), hf1.setCell _ _ (by simp), HP⟩
  case round =>
    obtain ⟨k', u, x, hm, hu, hx, hrd, htm, hrs, hfw, HQ⟩ := hrel
    have HRD : Hid (Rd wr b s M D O (f k')) := hrd
    obtain ⟨d0, d1, d2, d3, d4⟩ := hrd.cells
    obtain ⟨i0, i1, i2⟩ := htm.cells3
    have hf' := ha.facts k'
    clear hrd
    by_cases h2 : (f k').c = 2
    · have hp2 : pk (f k').c = 2 := by rw [h2]; rfl
      rw [hp2] at d1
      have hlt : k' < s.size := ha.lt (by omega)
      have H2 : Hid ((f k').c = 2) := h2
      clear h2 hp2
      by_cases hle : u + (f k').v ≤ 6
      · go_wp2_with fail
        refine (power_uOk s f k' b u x _ _ (by omega) ha HRD.out H2.out hu hx hle).mono ?_
        rintro e w2 ⟨rfl, hr2, hfr2⟩
        have ht2 := htm.fr hfr2 (by simp [m1])
        have hq2 := hrs.fr hfr2 (by simp [m0])
        obtain ⟨j0, j1, j2⟩ := ht2.cells3
        obtain ⟨l0, l1, l2⟩ := ht2.free3
        go_wp2
        go_roundg (s.size - (k' + 1))
        case measure => omega
        case rel =>
          refine ⟨k' + 1, u + (f k').v, x, rfl, hle, hx, ((hr2.setOther _ _ n1).setOther _ _ n1).setOther _ _ n1, Blk.store3 ht2 _ _ _, ((hq2.setOther _ _ (by simp)).setOther _ _ (by simp)).setOther _ _ (by simp), ?_, ?_⟩
          · repeat (refine Fr.setCell ?_ _ _ (by simp))
            exact hfw.trans hfr2 (by simp)
          · unfold Hid
            rw [← HQ.out, pw_u (by omega) H2.out hle]; congr 1
      · have HB : Hid (R = ⟨5, (f k').at', k', u, x⟩) := by unfold Hid; rw [← HQ.out, pw_u_bad (by omega) H2.out hle]
        go_wp2_with fail
        refine (power_uBad s f k' b u x _ _ (by omega) ha HRD.out H2.out hu hx hle).mono ?_
        rintro e w2 ⟨rfl, hfr2⟩
        go_wp2
        refine ⟨rfl, Or.inr ⟨?_, ?_, hfw.trans hfr2 (by simp)⟩⟩
        · rw [HB.out]; simp
        · rw [HB.out]; rfl
    · by_cases h3 : (f k').c = 3
      · have hp3 : pk (f k').c = 3 := by rw [h3]; rfl
        rw [hp3] at d1
        have hlt : k' < s.size := ha.lt (by omega)
        have H3 : Hid ((f k').c = 3) := h3
        clear h3 hp3 h2
        rcases Bool.eq_false_or_eq_true O with hO | hO
        · subst hO
          have HB : Hid (R = ⟨7, (f k').at', k', u, x⟩) := by unfold Hid; rw [← HQ.out, pw_x_bare (by omega) H3.out]
          go_wp2_with fail
          refine (power_x1 s f k' b u x _ _ (by omega) ha HRD.out H3.out).mono ?_
          rintro e w2 ⟨rfl, hfr2⟩
          go_wp2
          refine ⟨rfl, Or.inr ⟨?_, ?_, hfw.trans hfr2 (by simp)⟩⟩
          · rw [HB.out]; simp
          · rw [HB.out]; rfl
        · subst hO
          by_cases hle : x + (f k').v ≤ 4
          · go_wp2_with fail
            refine (power_xOk s f k' b u x _ _ (by omega) ha HRD.out H3.out hu hx hle).mono ?_
            rintro e w2 ⟨rfl, hr2, hfr2⟩
            have ht2 := htm.fr hfr2 (by simp [m1])
            have hq2 := hrs.fr hfr2 (by simp [m0])
            obtain ⟨j0, j1, j2⟩ := ht2.cells3
            obtain ⟨l0, l1, l2⟩ := ht2.free3
            go_wp2
            go_roundg (s.size - (k' + 1))
            case measure => omega
            case rel =>
              refine ⟨k' + 1, u, x + (f k').v, rfl, hu, hle, ((hr2.setOther _ _ n1).setOther _ _ n1).setOther _ _ n1, Blk.store3 ht2 _ _ _, ((hq2.setOther _ _ (by simp)).setOther _ _ (by simp)).setOther _ _ (by simp), ?_, ?_⟩
              · repeat (refine Fr.setCell ?_ _ _ (by simp))
                exact hfw.trans hfr2 (by simp)
              · unfold Hid
                rw [← HQ.out, pw_x (by omega) H3.out hle]; congr 1
          · have HB : Hid (R = ⟨5, (f k').at', k', u, x⟩) := by unfold Hid; rw [← HQ.out, pw_x_bad (by omega) H3.out hle]
            go_wp2_with fail
            refine (power_xBad s f k' b u x _ _ (by omega) ha HRD.out H3.out hu hx hle).mono ?_
            rintro e w2 ⟨rfl, hfr2⟩
            go_wp2
            refine ⟨rfl, Or.inr ⟨?_, ?_, hfw.trans hfr2 (by simp)⟩⟩
            · rw [HB.out]; simp
            · rw [HB.out]; rfl
      · have q2 := pk_ne2 h2
        have q3 := pk_ne3 h3
        have HB : Hid (R = ⟨0, 0, k', u, x⟩) := by unfold Hid; rw [← HQ.out, pw_end h2 h3]
        obtain ⟨o0, o1, o2⟩ := hrs.cells3
        obtain ⟨l0, l1, l2⟩ := hrs.free3
        clear h2 h3
        go_wp2
        refine bodyPost_ret (results_cell_row Tryz.results81 _ _ w.heap.size 163 _ (0, 0) _ (by rfl) (Blk.store3 hrs _ _ _) Tryz.underlying163 rfl (by kernel_rfl)) rfl (Or.inl ⟨?_, ?_, ?_, ?_⟩)
        · rw [HB.out]
        · first | (rw [HB.out]; done) | (rw [HB.out]; rfl)
        · rw [HB.out]; exact (((show Rd wr b s M D O (f k') from HRD.out).setOther _ _ n0).setOther _ _ n0).setOther _ _ n0
        · repeat (refine Fr.setCell ?_ _ _ (by simp))
          exact hfw

set_option maxRecDepth 100000 in
set_option maxHeartbeats 2000000 in
theorem term_power (s : ByteArray) (f : Nat → Tok) (k b : Nat) (w : World) (hs : s.size ≤ 1000) (ha : Str s f) (hr : Rd w b s M D O (f k)) (hc : (f k).c = 2 ∨ (f k).c = 3) :
    Calls Tryz.prog 81 #[.pointer (some ⟨b, 0, none⟩)] w (TermPost s f M D O b 1 (pw f O (s.size - k) k 0 0) w) := by
  obtain ⟨c0, c1, c2, c3, c4⟩ := hr.cells
  obtain ⟨f0, f1, f2, f3, f4⟩ := hr.free
  have hb : b < w.heap.size := Blk.lt hr
  have hf := ha.facts k
  have n0 : ¬ b = w.heap.size := by omega
  have n1 : ¬ b = w.heap.size + 1 := by omega
  have m0 : ¬ w.heap.size = b := by omega
  have m1 : ¬ w.heap.size + 1 = b := by omega
  have HR : Hid (Rd w b s M D O (f k)) := hr
  have hpk : pk (f k).c = 2 ∨ pk (f k).c = 3 := by rcases hc with h | h <;> rw [h] <;> simp [pk]
  generalize hR : pw f O (s.size - k) k 0 0 = R
  have HP : Hid (pw f O (s.size - k) k 0 0 = R) := hR
  clear hr hc hR
  rcases hpk with hpk | hpk
  all_goals
    rw [hpk] at c1
    clear hpk
    go_enter Tryz.func81, Tryz.ntmps81
    go_wp2
    clear c0 c1 c2 c3 c4 f0 f1 f2 f3 f4
    go_loopg [] (s.size - k) (fun m wr => ∃ k' u x : Nat, m = s.size - k' ∧ u ≤ 6 ∧ x ≤ 4 ∧ Rd wr b s M D O (f k') ∧ Blk wr (w.heap.size + 1) #[.int .i64 1, .int .i64 u, .int .i64 x] 163 ∧ Blk wr w.heap.size #[.int .i64 0, .int .i64 0, .int .i64 0] 163 ∧ Fr [b] w wr ∧ Hid (pw f O (s.size - k') k' u x = R))
    case atStart => exact ⟨k, 0, 0, rfl, by omega, by omega, Blk.alloc (Blk.alloc HR.out _) _, Blk.newAt _ _ _ (by simp), Blk.alloc (Blk.new w _ _) _, ((Fr.refl [b] w).alloc _).alloc _, HP⟩
    case round =>
      obtain ⟨k', u, x, hm, hu, hx, hrd, htm, hrs, hfw, HQ⟩ := hrel
      have HRD : Hid (Rd wr b s M D O (f k')) := hrd
      obtain ⟨d0, d1, d2, d3, d4⟩ := hrd.cells
      obtain ⟨i0, i1, i2⟩ := htm.cells3
      have hf' := ha.facts k'
      clear hrd
      by_cases h2 : (f k').c = 2
      · have hp2 : pk (f k').c = 2 := by rw [h2]; rfl
        rw [hp2] at d1
        have hlt : k' < s.size := ha.lt (by omega)
        have H2 : Hid ((f k').c = 2) := h2
        clear h2 hp2
        by_cases hle : u + (f k').v ≤ 6
        · go_wp2_with fail
          refine (power_uOk s f k' b u x _ _ (by omega) ha HRD.out H2.out hu hx hle).mono ?_
          rintro e w2 ⟨rfl, hr2, hfr2⟩
          have ht2 := htm.fr hfr2 (by simp [m1])
          have hq2 := hrs.fr hfr2 (by simp [m0])
          obtain ⟨j0, j1, j2⟩ := ht2.cells3
          obtain ⟨l0, l1, l2⟩ := ht2.free3
          go_wp2
          go_roundg (s.size - (k' + 1))
          case measure => omega
          case rel =>
            refine ⟨k' + 1, u + (f k').v, x, rfl, hle, hx, ((hr2.setOther _ _ n1).setOther _ _ n1).setOther _ _ n1, Blk.store3 ht2 _ _ _, ((hq2.setOther _ _ (by simp)).setOther _ _ (by simp)).setOther _ _ (by simp), ?_, ?_⟩
            · repeat (refine Fr.setCell ?_ _ _ (by simp))
              exact hfw.trans hfr2 (by simp)
            · unfold Hid
              rw [← HQ.out, pw_u (by omega) H2.out hle]; congr 1
        · have HB : Hid (R = ⟨5, (f k').at', k', u, x⟩) := by unfold Hid; rw [← HQ.out, pw_u_bad (by omega) H2.out hle]
          go_wp2_with fail
          refine (power_uBad s f k' b u x _ _ (by omega) ha HRD.out H2.out hu hx hle).mono ?_
          rintro e w2 ⟨rfl, hfr2⟩
          go_wp2
          refine ⟨rfl, Or.inr ⟨?_, ?_, hfw.trans hfr2 (by simp)⟩⟩
          · rw [HB.out]; simp
          · rw [HB.out]; rfl
      · by_cases h3 : (f k').c = 3
        · have hp3 : pk (f k').c = 3 := by rw [h3]; rfl
          rw [hp3] at d1
          have hlt : k' < s.size := ha.lt (by omega)
          have H3 : Hid ((f k').c = 3) := h3
          clear h3 hp3 h2
          rcases Bool.eq_false_or_eq_true O with hO | hO
          · subst hO
            have HB : Hid (R = ⟨7, (f k').at', k', u, x⟩) := by unfold Hid; rw [← HQ.out, pw_x_bare (by omega) H3.out]
            go_wp2_with fail
            refine (power_x1 s f k' b u x _ _ (by omega) ha HRD.out H3.out).mono ?_
            rintro e w2 ⟨rfl, hfr2⟩
            go_wp2
            refine ⟨rfl, Or.inr ⟨?_, ?_, hfw.trans hfr2 (by simp)⟩⟩
            · rw [HB.out]; simp
            · rw [HB.out]; rfl
          · subst hO
            by_cases hle : x + (f k').v ≤ 4
            · go_wp2_with fail
              refine (power_xOk s f k' b u x _ _ (by omega) ha HRD.out H3.out hu hx hle).mono ?_
              rintro e w2 ⟨rfl, hr2, hfr2⟩
              have ht2 := htm.fr hfr2 (by simp [m1])
              have hq2 := hrs.fr hfr2 (by simp [m0])
              obtain ⟨j0, j1, j2⟩ := ht2.cells3
              obtain ⟨l0, l1, l2⟩ := ht2.free3
              go_wp2
              go_roundg (s.size - (k' + 1))
              case measure => omega
              case rel =>
                refine ⟨k' + 1, u, x + (f k').v, rfl, hu, hle, ((hr2.setOther _ _ n1).setOther _ _ n1).setOther _ _ n1, Blk.store3 ht2 _ _ _, ((hq2.setOther _ _ (by simp)).setOther _ _ (by simp)).setOther _ _ (by simp), ?_, ?_⟩
                · repeat (refine Fr.setCell ?_ _ _ (by simp))
                  exact hfw.trans hfr2 (by simp)
                · unfold Hid
                  rw [← HQ.out, pw_x (by omega) H3.out hle]; congr 1
            · have HB : Hid (R = ⟨5, (f k').at', k', u, x⟩) := by unfold Hid; rw [← HQ.out, pw_x_bad (by omega) H3.out hle]
              go_wp2_with fail
              refine (power_xBad s f k' b u x _ _ (by omega) ha HRD.out H3.out hu hx hle).mono ?_
              rintro e w2 ⟨rfl, hfr2⟩
              go_wp2
              refine ⟨rfl, Or.inr ⟨?_, ?_, hfw.trans hfr2 (by simp)⟩⟩
              · rw [HB.out]; simp
              · rw [HB.out]; rfl
        · have q2 := pk_ne2 h2
          have q3 := pk_ne3 h3
          have HB : Hid (R = ⟨0, 0, k', u, x⟩) := by unfold Hid; rw [← HQ.out, pw_end h2 h3]
          obtain ⟨o0, o1, o2⟩ := hrs.cells3
          obtain ⟨l0, l1, l2⟩ := hrs.free3
          clear h2 h3
          go_wp2
          refine bodyPost_ret (results_cell_row Tryz.results81 _ _ w.heap.size 163 _ (0, 0) _ (by rfl) (Blk.store3 hrs _ _ _) Tryz.underlying163 rfl (by kernel_rfl)) rfl (Or.inl ⟨?_, ?_, ?_, ?_⟩)
          · rw [HB.out]
          · first | (rw [HB.out]; done) | (rw [HB.out]; rfl)
          · rw [HB.out]; exact (((show Rd wr b s M D O (f k') from HRD.out).setOther _ _ n0).setOther _ _ n0).setOther _ _ n0
          · repeat (refine Fr.setCell ?_ _ _ (by simp))
            exact hfw

set_option maxRecDepth 100000 in
set_option maxHeartbeats 1000000 in
theorem term_bad (s : ByteArray) (f : Nat → Tok) (k b : Nat) (w : World) (hr : Rd w b s M D O (f k)) (hc : (f k).c ≠ 1 ∧ (f k).c ≠ 2 ∧ (f k).c ≠ 3) :
    Calls Tryz.prog 81 #[.pointer (some ⟨b, 0, none⟩)] w fun e w' => e = .panicked (faulty 4 (f k).at') ∧ Fr [b] w w' := by
  obtain ⟨c0, c1, c2, c3, c4⟩ := hr.cells
  have HR : Hid (Rd w b s M D O (f k)) := hr
  obtain ⟨h1, h2, h3⟩ := hc
  have hb : b < w.heap.size := Blk.lt hr
  have HN1 : Hid (pk (f k).c ≠ 1) := by have := pk_ne1 h1; rw [beq_eq_false_iff_ne] at this; exact this
  have q2 := pk_ne2 h2
  have q3 := pk_ne3 h3
  clear hr h1 h2 h3
  go_enter Tryz.func81, Tryz.ntmps81
  go_wp2_with fail
  refine (expect_not s (f k) b 1 _ (by exact Blk.alloc (Blk.alloc HR.out _) _) HN1.out).mono ?_
  rintro e w1 ⟨rfl, hfr⟩
  go_wp2
  exact ⟨rfl, rfl, (((Fr.refl [b] w).alloc _).alloc _).trans hfr (by simp)⟩
end Go.Proofs.YthlmgpllapccfaaGreatDoor
/- A REGION THAT DRAWS ITS ORDER, WHOSE FIRST n OPERATIONS ONLY READ (AND CALL WHAT ONLY READS), THE REST FORCED BEHIND THEM (a store at the end): one walk in the text's order serves every order. Over the library's notions of quiet operations (Derived.Deep.Quiet) and of a forced tail (Derived.StillTail). -/
namespace Go.Proofs.YthlmgpllapccfaaGreatDoor
open Go
section
variable {P : Program} {ops : Array Oper} {md : Region.Mode} {C : World → Prop}

/-- f operations more come up, each of the first n and quiet; then L. -/
def headQ (P : Program) (md : Region.Mode) (ops : Array Oper) (C : World → Prop) (n : Nat) (L : Array Bool → Act → Prop) : Nat → Array Bool → Act → Prop
  | 0, listed, a => L listed a
  | f + 1, listed, a => Region.ready md ops listed ≠ [] ∧ ∀ i ∈ Region.ready md ops listed, i < n ∧ qOp P ops C i (headQ P md ops C n L f (listed.setIfInBounds i true)) a

theorem any_of_headQ {n g : Nat} {L : Array Bool → Act → Prop} {Q : Exit → Act → World → Prop} (hL : ∀ listed a w, C w → L listed a → wpAny P md ops Q g listed a w) :
    ∀ (f : Nat) (listed : Array Bool) (a : Act) (w : World), C w → headQ P md ops C n L f listed a → wpAny P md ops Q (f + g) listed a w := by
  intro f
  induction f with
  | zero => intro listed a w hw h; rw [Nat.zero_add]; exact hL listed a w hw h
  | succ f ih =>
    intro listed a w hw h
    rw [Nat.add_right_comm]
    exact ⟨fun e => absurd e h.1, fun i hi => wpOp_of_qOp hw (fun a' w' hw' h' => ih _ a' w' hw' h') (h.2 i hi).2⟩

theorem headQ_ready {n : Nat} {L : Array Bool → Act → Prop} (hdone : ∀ listed a, L listed a → ∀ j ∈ Region.ready md ops listed, n ≤ j) {f : Nat} {listed : Array Bool} {a : Act}
    (h : headQ P md ops C n L f listed a) {j : Nat} (hj : j ∈ Region.ready md ops listed) (hn : j < n) : ∃ f', f = f' + 1 ∧ qOp P ops C j (headQ P md ops C n L f' (listed.setIfInBounds j true)) a := by
  cases f with
  | zero => have := hdone listed a h j hj; omega
  | succ f => exact ⟨f, rfl, (h.2 j hj).2⟩

theorem headQ_first {n i : Nat} {oi : Oper} {v : Value} {L : Array Bool → Act → Prop} (hi : ops[i]? = some oi) (hsel : ∀ (j : Nat) (o : Oper) cs b, ops[j]? = some o → o.op ≠ .select cs b)
    (hs : Region.sinkB md ops n = true) (hc : Region.chainB md ops n = true) (hn : n < ops.size) (hin : i < n) (hdone : ∀ listed a, L listed a → ∀ j ∈ Region.ready md ops listed, n ≤ j) :
    ∀ (f : Nat) (listed : Array Bool) (a : Act), HeadInv md ops n listed →
      (∀ j oj, ops[j]? = some oj → j ≠ i → listed.getD j true = false → (∀ e ∈ oj.after, Region.binds md e = true → e.on ≠ i) → oi.apart ops oj = true) →
      i ∈ Region.ready md ops listed → YieldsIn P ops C oi v a → headQ P md ops C n L f (listed.setIfInBounds i true) (a.put oi.dst v) → headQ P md ops C n L (f + 1) listed a := by
  intro f
  induction f with
  | zero =>
    intro listed a inv hfree hr hy H
    have hun := (mem_ready.1 hr).1
    refine ⟨List.ne_nil_of_mem hr, fun j hj => ?_⟩
    have hjn : j < n := Nat.lt_of_not_le fun h => tail_waits hs hc hn inv _ i rfl hin hun j h hj
    refine ⟨hjn, ?_⟩
    by_cases hji : j = i
    · rw [hji]; exact hy.qOp hi H
    · obtain ⟨f', e, _⟩ := headQ_ready hdone H (ready_mono hj hji) hjn
      omega
  | succ f ih =>
    intro listed a inv hfree hr hy H
    have hun := (mem_ready.1 hr).1
    refine ⟨List.ne_nil_of_mem hr, fun j hj => ?_⟩
    have hjn : j < n := Nat.lt_of_not_le fun h => tail_waits hs hc hn inv _ i rfl hin hun j h hj
    refine ⟨hjn, ?_⟩
    by_cases hji : j = i
    · rw [hji]; exact hy.qOp hi H
    · obtain ⟨f', e, h1⟩ := headQ_ready hdone H (ready_mono hj hji) hjn
      have e' : f' = f := by omega
      subst e'
      obtain ⟨hjun, oj, hoj, hall⟩ := mem_ready.1 hj
      have hno : ∀ e ∈ oj.after, Region.binds md e = true → e.on ≠ i := fun e he hb heq => by
        have := hall e he hb
        rw [heq, getD_both hun] at this
        exact Bool.false_ne_true this
      have h2 := qOp_put hoj (hfree j oj hoj hji hjun hno) (fun cs b => hsel i oi cs b hi) (fun cs b => hsel j oj cs b hoj) hy h1
      refine qOp_mono (fun a' h3 => ih (listed.setIfInBounds j true) a' (inv.set hj hjn) (fun k ok hk hki hunk hnk => hfree k ok hk hki ?_ hnk) (ready_mono hr (Ne.symm hji)) h3.1 ?_) h2
      · by_cases hjk : j = k
        · rw [← hjk]; exact hjun
        · rw [getD_set_ne true hjk] at hunk; exact hunk
      · rw [Array.setIfInBounds_comm _ _ hji]; exact h3.2

theorem headQ_lex {n g : Nat} {Lq : Act → Prop} (hsel : Region.noSelect ops = true) (hs : Region.sinkB md ops n = true) (hc : Region.chainB md ops n = true) (hn : n < ops.size) :
    ∀ (l : List Oper) (k : Nat) (listed : Array Bool) (a : Act), (∀ j, j < l.length → l[j]? = ops[k + j]?) → k + l.length = n → HeadInv md ops n listed →
    Region.lexHead md ops g l.length k listed = true → wpQuiet P ops C Lq l a →
    headQ P md ops C n (fun listed' a' => Region.seqB md ops g n listed' = true ∧ Lq a') l.length listed a := by
  intro l
  induction l with
  | nil =>
    intro k listed a _ hk _ hB h
    have e : k = n := by simpa using hk
    subst e
    exact ⟨by simpa [Region.lexHead] using hB, h⟩
  | cons o l ih =>
    intro k listed a hl hk inv hB h
    have h0 : ops[k]? = some o := by simpa using (hl 0 (by simp)).symm
    simp only [List.length_cons, Region.lexHead, Bool.and_eq_true] at hB
    simp only [List.length_cons] at hk
    have hr : k ∈ Region.ready md ops listed := by simpa using hB.1.1
    have hq : qOp P ops C k (wpQuiet P ops C Lq l) a := by unfold qOp; simp only [h0]; exact h
    obtain ⟨v, hy, hK⟩ := yieldsIn_of_qOp h0 hq
    refine headQ_first h0 (Region.noSelect_spec hsel) hs hc hn (by omega) (fun listed' a' hL => seqB_ready hL.1) l.length listed a inv (Region.free_spec h0 hB.1.2) hr hy ?_
    refine ih (k + 1) _ _ (fun j hj => ?_) (by omega) (inv.set hr (by omega)) hB.2 hK
    have := hl (j + 1) (by simp; omega)
    rw [show k + 1 + j = k + (j + 1) by omega, ← this]; simp

/-- THE LAW. -/
theorem region_quiet_tail {id : Nat} {Q : Exit → Act → World → Prop} {a : Act} {w : World} {l : List Oper} (n : Nat) (hm : P.follows .mixedOrders = true) (hB : Region.lexTailB .any l.toArray n = true)
    (h : wpQuiet P l.toArray (fun w' => ∃ m, w' = w.drewN m) (fun a' => ∀ w', (∃ m, w' = w.drewN m) → wpList P l.toArray Q (l.drop n) a' w') (l.take n) a) : (Code.region id l.toArray true).wp P Q a w := by
  simp only [Region.lexTailB, Bool.and_eq_true, decide_eq_true_eq] at hB
  obtain ⟨⟨⟨⟨hsel, hn⟩, hs⟩, hc⟩, hlex⟩ := hB
  have htl : (l.take n).length = n := by simp only [List.size_toArray] at hn; simp; omega
  have hdl : (l.drop n).length = l.toArray.size - n := by simp
  have H := headQ_lex (md := .any) (g := l.toArray.size - n) hsel hs hc hn (l.take n) 0 (Array.replicate l.toArray.size false) a (fun j hj => by
      rw [htl] at hj
      simp [hj]) (by omega)
    ⟨by simp, fun j oj _ hl => by rw [getD_replicate_false] at hl; exact absurd hl Bool.false_ne_true, fun t _ ht => getD_in (by simpa using ht) (getD_replicate_false _ _)⟩
    (by rw [htl]; exact hlex) h
  refine wp_region_any hm ?_
  have K := any_of_headQ (Q := Q) (g := l.toArray.size - n) (fun listed a' w' hw' hL => by
    have := wpAny_of_seq (md := .any) (Q' := Q) (l.drop n) n listed a' w' (fun j => by simp [List.getElem?_drop]) (by rw [hdl]; exact hL.1) (hL.2 w' hw')
    rwa [hdl] at this) _ _ _ { w with drawn := w.drawn + 1 } ⟨1, rfl⟩ H
  rw [htl, show n + (l.toArray.size - n) = l.toArray.size by omega] at K
  exact K
end
end Go.Proofs.YthlmgpllapccfaaGreatDoor
