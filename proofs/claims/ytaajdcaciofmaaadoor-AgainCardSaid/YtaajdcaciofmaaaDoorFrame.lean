/- THE FRAME: what a call leaves as it was: every old block but those that are named. -/
import Derived.Test.YtaajdcaciofmaaaDoorTokens3
namespace Go.Proofs.YtaajdcaciofmaaaDoor
open Go.RowKit

/-- Every block of w but those of bs is in w' as it was. -/
structure Fr (bs : List Nat) (w w' : World) : Prop where
  os : w'.os = w.os
  tape : w'.tape = w.tape
  output : w'.output = w.output
  size : w.heap.size ≤ w'.heap.size
  block : ∀ k, k < w.heap.size → k ∉ bs → w'.heap[k]? = w.heap[k]?

theorem Fr.refl (bs : List Nat) (w : World) : Fr bs w w := ⟨rfl, rfl, rfl, Nat.le_refl _, fun _ _ _ => rfl⟩
theorem Fr.trans {bs cs : List Nat} {a b c : World} (h : Fr bs a b) (k : Fr cs b c) (hs : ∀ x ∈ cs, x ∈ bs ∨ a.heap.size ≤ x) : Fr bs a c :=
  ⟨k.os.trans h.os, k.tape.trans h.tape, k.output.trans h.output, Nat.le_trans h.size k.size, fun i hi hn => (k.block i (Nat.lt_of_lt_of_le hi h.size) (fun hc => by rcases hs i hc with g | g; exact hn g; omega)).trans (h.block i hi hn)⟩
theorem Fr.of_below {bs : List Nat} {w w' : World} (h : Below w.heap.size w w') : Fr bs w w' := ⟨h.os, h.tape, h.output, h.size, fun k hk _ => h.block k hk⟩
theorem Fr.below {bs : List Nat} {w w' : World} {B : Nat} (h : Fr bs w w') (hB : B ≤ w.heap.size) (hbs : ∀ x ∈ bs, B ≤ x) : Below B w w' :=
  ⟨h.os, h.tape, h.output, h.size, fun k hk => h.block k (by omega) (fun hc => by have := hbs k hc; omega)⟩
theorem Fr.drew {bs : List Nat} {a w : World} (h : Fr bs a w) : Fr bs a w.drew := ⟨h.os, h.tape, h.output, h.size, h.block⟩
theorem Fr.alloc {bs : List Nat} {a w : World} (h : Fr bs a w) (o : Obj) : Fr bs a (w.alloc o) :=
  ⟨h.os, h.tape, h.output, by have := h.size; simp; omega, fun k hk hn => (Below.heap_alloc _ _ _ (Nat.lt_of_lt_of_le hk h.size)).trans (h.block k hk hn)⟩
theorem Fr.setCell {bs : List Nat} {a w : World} (h : Fr bs a w) (p : Addr) (v : Value) (hp : p.block ∈ bs ∨ a.heap.size ≤ p.block) : Fr bs a (w.setCell p v) :=
  ⟨h.os, h.tape, h.output, by have := h.size; simp [World.setCell]; omega, fun k hk hn => (Below.heap_setCell _ _ _ _ (fun e => by subst e; rcases hp with g | g; exact hn g; omega)).trans (h.block k hk hn)⟩
theorem Fr.cell {bs : List Nat} {w w' : World} (h : Fr bs w w') {b : Nat} (o : Nat) (hb : b < w.heap.size) (hn : b ∉ bs) : w'.cell? ⟨b, o, none⟩ = w.cell? ⟨b, o, none⟩ := by
  simp only [World.cell?, h.block b hb hn]
theorem Fr.frozen {bs : List Nat} {w w' : World} (h : Fr bs w w') {b : Nat} (o : Nat) (hb : b < w.heap.size) (hn : b ∉ bs) : w'.frozen? ⟨b, o, none⟩ = w.frozen? ⟨b, o, none⟩ := by
  simp only [World.frozen?, h.block b hb hn]
theorem Fr.mono {bs cs : List Nat} {w w' : World} (h : Fr bs w w') (hs : ∀ x ∈ bs, x ∈ cs ∨ w.heap.size ≤ x) : Fr cs w w' :=
  ⟨h.os, h.tape, h.output, h.size, fun k hk hn => h.block k hk (fun hc => by rcases hs k hc with g | g; exact hn g; omega)⟩

theorem cell_set_off (w : World) (b o o' : Nat) (v : Value) (h : o ≠ o') : (w.setCell ⟨b, o, none⟩ v).cell? ⟨b, o', none⟩ = w.cell? ⟨b, o', none⟩ :=
  World.cell?_setCell_other w _ _ v (by intro e; exact h (by injection e))
/-- A whole block. -/
def Blk (w : World) (b : Nat) (cs : Array Value) (t : TypeId) : Prop := w.heap[b]? = some (.cells cs t (0, 0))
theorem Blk.lt {w : World} {b : Nat} {cs : Array Value} {t : TypeId} (h : Blk w b cs t) : b < w.heap.size := by
  rcases Nat.lt_or_ge b w.heap.size with g | g
  · exact g
  · unfold Blk at h; rw [Array.getElem?_eq_none g] at h; simp at h
theorem Blk.cell {w : World} {b : Nat} {cs : Array Value} {t : TypeId} (h : Blk w b cs t) (o : Nat) : w.cell? ⟨b, o, none⟩ = cs[o]? := by
  unfold Blk at h; simp [World.cell?, h]
theorem Blk.frozen {w : World} {b : Nat} {cs : Array Value} {t : TypeId} (h : Blk w b cs t) (o : Nat) : w.frozen? ⟨b, o, none⟩ = false := by
  unfold Blk at h; simp [World.frozen?, h]
theorem Blk.fr {bs : List Nat} {w w' : World} {b : Nat} {cs : Array Value} {t : TypeId} (h : Blk w b cs t) (f : Fr bs w w') (hn : b ∉ bs) : Blk w' b cs t := by
  have := h.lt
  unfold Blk at *; rw [f.block b this hn]; exact h
theorem Blk.drew {w : World} {b : Nat} {cs : Array Value} {t : TypeId} (h : Blk w b cs t) : Blk w.drew b cs t := h
theorem Blk.alloc {w : World} {b : Nat} {cs : Array Value} {t : TypeId} (h : Blk w b cs t) (o : Obj) : Blk (w.alloc o) b cs t := h.fr ((Fr.refl [] w).alloc o) (by simp)
theorem Blk.new (w : World) (cs : Array Value) (t : TypeId) : Blk (w.alloc (.cells cs t)) w.heap.size cs t := by
  show (w.heap.push _)[w.heap.size]? = _
  simp
theorem Blk.newAt (w : World) (cs : Array Value) (t : TypeId) {n : Nat} (h : w.heap.size = n) : Blk (w.alloc (.cells cs t)) n cs t := by subst h; exact Blk.new w cs t
theorem Blk.set {w : World} {b : Nat} {cs : Array Value} {t : TypeId} (h : Blk w b cs t) (o : Nat) (v : Value) : Blk (w.setCell ⟨b, o, none⟩ v) b (cs.setIfInBounds o v) t := by
  unfold Blk at *
  simp [World.setCell, Array.getElem?_modify, h]
theorem Blk.setOther {w : World} {b : Nat} {cs : Array Value} {t : TypeId} (h : Blk w b cs t) (p : Addr) (v : Value) (hn : b ≠ p.block) : Blk (w.setCell p v) b cs t := by
  unfold Blk at *; rw [Below.heap_setCell _ _ _ _ hn]; exact h
theorem Blk.store3 {w : World} {n : Nat} {x0 x1 x2 : Value} {t : TypeId} (h : Blk w n #[x0, x1, x2] t) (a b c : Value) : Blk (((w.setCell ⟨n, 0, none⟩ a).setCell ⟨n, 1, none⟩ b).setCell ⟨n, 2, none⟩ c) n #[a, b, c] t :=
  Blk.set (Blk.set (Blk.set h 0 _) 1 _) 2 _
theorem Blk.store4 {w : World} {n : Nat} {x0 x1 x2 x3 : Value} {t : TypeId} (h : Blk w n #[x0, x1, x2, x3] t) (a b c d : Value) : Blk ((((w.setCell ⟨n, 0, none⟩ a).setCell ⟨n, 1, none⟩ b).setCell ⟨n, 2, none⟩ c).setCell ⟨n, 3, none⟩ d) n #[a, b, c, d] t :=
  Blk.set (Blk.set (Blk.set (Blk.set h 0 _) 1 _) 2 _) 3 _
theorem Blk.cells3 {w : World} {n : Nat} {x0 x1 x2 : Value} {t : TypeId} (h : Blk w n #[x0, x1, x2] t) : w.cell? ⟨n, 0, none⟩ = some x0 ∧ w.cell? ⟨n, 1, none⟩ = some x1 ∧ w.cell? ⟨n, 2, none⟩ = some x2 := ⟨h.cell 0, h.cell 1, h.cell 2⟩
theorem Blk.free3 {w : World} {n : Nat} {cs : Array Value} {t : TypeId} (h : Blk w n cs t) : w.frozen? ⟨n, 0, none⟩ = false ∧ w.frozen? ⟨n, 1, none⟩ = false ∧ w.frozen? ⟨n, 2, none⟩ = false := ⟨h.frozen 0, h.frozen 1, h.frozen 2⟩
theorem ret3 {a b c a' b' c' : Int} (h1 : a = a') (h2 : b = b') (h3 : c = c') : Ending.returned (.agg #[.int .i64 a, .int .i64 b, .int .i64 c]) = Ending.returned (.agg #[.int .i64 a', .int .i64 b', .int .i64 c']) := by subst h1 h2 h3; rfl
end Go.Proofs.YtaajdcaciofmaaaDoor
