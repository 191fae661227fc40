/- WHOLE ARRAYS IN BLOCKS OF THEIR OWN: loads and stores of 35 cells. -/
import Derived.Test.YtaajdcaciofmaaaDoorMods
import Derived.Test.YtaajdcaciofmaaaDoorParse
import Derived.Test.YtaajdcaciofmaaaDoorQuietTail
import Derived.Deep.MidRow
namespace Go.Proofs.YtaajdcaciofmaaaDoor
open Go.RowKit

/-- A polynomial as cells. -/
def pv (p : List Nat) : Array Value := (p.map fun n : Nat => Value.int .i64 (n : Int)).toArray
theorem pv_size (p : List Nat) : (pv p).size = p.length := by simp [pv]
theorem pv_get {p : List Nat} {j : Nat} (h : j < p.length) : (pv p)[j]? = some (.int .i64 (p.getD j 0)) := by simp [pv, List.getElem?_eq_getElem h]
theorem pv_set (p : List Nat) (j v : Nat) : (pv p).setIfInBounds j (.int .i64 v) = pv (p.set j v) := by simp [pv, List.map_set]
theorem pv_one (p : List Nat) : (pv p).all (·.oneCell') = true := by
  rw [Array.all_eq_true_iff_forall_mem]
  intro v hv
  simp only [pv, List.mem_toArray, List.mem_map] at hv
  obtain ⟨n, _, rfl⟩ := hv
  rfl

/-- What is known of the world alone. -/
theorem wp_forget {P : Program} {c : Code} {Q : Exit → Act → World → Prop} {a : Act} {w : World} (I : World → Prop) (hI : I w) (h : ∀ W, I W → Code.wp P c Q a W) : Code.wp P c Q a w := h w hI

theorem Blk.putN {w : World} {b : Nat} {p : List Nat} {t : TypeId} (h : Blk w b (pv p) t) (j k : Nat) (n : Int) (hn : n = k) : Blk (w.setCell ⟨b, j, none⟩ (.int .i64 n)) b (pv (p.set j k)) t := by
  subst hn
  have := h.set j (.int .i64 k)
  rwa [pv_set] at this
theorem Blk.there {w : World} {b : Nat} {cs : Array Value} {t : TypeId} (h : Blk w b cs t) {n : Nat} (hn : n ≤ cs.size) : w.there b 0 n := fun j hj => by
  rw [Nat.zero_add, h.cell, h.frozen]
  exact ⟨by simp; omega, rfl⟩
theorem heap_setCells (b : Nat) : ∀ (vs : List Value) (o : Nat) (w : World) (k : Nat), k ≠ b → (w.setCells b o vs).heap[k]? = w.heap[k]?
  | [], _, _, _, _ => rfl
  | v :: r, o, w, k, h => by
    rw [World.setCells, heap_setCells b r (o + 1) _ k h]
    exact Below.heap_setCell _ _ _ _ h
theorem rest_setCells (b : Nat) : ∀ (vs : List Value) (o : Nat) (w : World), (w.setCells b o vs).os = w.os ∧ (w.setCells b o vs).tape = w.tape ∧ (w.setCells b o vs).output = w.output ∧ (w.setCells b o vs).heap.size = w.heap.size
  | [], _, _ => ⟨rfl, rfl, rfl, rfl⟩
  | v :: r, o, w => by
    rw [World.setCells]
    have := rest_setCells b r (o + 1) (w.setCell ⟨b, o, none⟩ v)
    refine ⟨this.1, this.2.1, this.2.2.1, this.2.2.2.trans (by simp [World.setCell])⟩
theorem Fr.setCells {bs : List Nat} {a w : World} (h : Fr bs a w) (b o : Nat) (vs : List Value) (hp : b ∈ bs ∨ a.heap.size ≤ b) : Fr bs a (w.setCells b o vs) := by
  obtain ⟨h1, h2, h3, h4⟩ := rest_setCells b vs o w
  exact ⟨h1.trans h.os, h2.trans h.tape, h3.trans h.output, by rw [h4]; exact h.size, fun k hk hn => (heap_setCells b vs o w k (fun e => by subst e; rcases hp with g | g; exact hn g; omega)).trans (h.block k hk hn)⟩
theorem Below.setCells {B : Nat} {a w : World} (h : Below B a w) (b o : Nat) (vs : List Value) (hp : B ≤ b) : Below B a (w.setCells b o vs) := by
  obtain ⟨h1, h2, h3, h4⟩ := rest_setCells b vs o w
  exact ⟨h1.trans h.os, h2.trans h.tape, h3.trans h.output, by rw [h4]; exact h.size, fun k hk => (heap_setCells b vs o w k (by omega)).trans (h.block k hk)⟩
theorem Blk.setCellsOther {w : World} {b : Nat} {cs : Array Value} {t : TypeId} (h : Blk w b cs t) (c o : Nat) (vs : List Value) (hn : b ≠ c) : Blk (w.setCells c o vs) b cs t := by
  unfold Blk at *; rw [heap_setCells _ _ _ _ _ hn]; exact h
theorem Blk.over (b : Nat) (t : TypeId) : ∀ (vs : List Value) (o : Nat) (w : World) (cs : Array Value), Blk w b cs t → ∃ ds : Array Value, Blk (w.setCells b o vs) b ds t ∧ ds.size = cs.size ∧ ∀ j, j < cs.size → ds[j]? = if o ≤ j ∧ j < o + vs.length then vs[j - o]? else cs[j]?
  | [], o, w, cs, h => ⟨cs, h, rfl, fun j _ => by rw [if_neg (by simp)]⟩
  | v :: r, o, w, cs, h => by
    obtain ⟨ds, h1, h2, h3⟩ := Blk.over b t r (o + 1) (w.setCell ⟨b, o, none⟩ v) _ (h.set o v)
    refine ⟨ds, h1, by simpa using h2, fun j hj => ?_⟩
    rw [h3 j (by simpa using hj)]
    by_cases hjo : j = o
    · subst hjo
      rw [if_neg (by omega), if_pos (by simp)]
      simp [hj]
    · by_cases hin : o + 1 ≤ j ∧ j < o + 1 + r.length
      · rw [if_pos hin, if_pos (by simp; omega), show j - o = (j - (o + 1)) + 1 by omega]; simp
      · rw [if_neg hin, if_neg (by simp; omega)]
        simp [Ne.symm hjo]
theorem Blk.setAll {w : World} {b : Nat} {cs : Array Value} {t : TypeId} (h : Blk w b cs t) (vs : Array Value) (hs : vs.size = cs.size) : Blk (w.setCells b 0 vs.toList) b vs t := by
  obtain ⟨ds, h1, h2, h3⟩ := Blk.over b t vs.toList 0 w cs h
  have e : ds = vs := by
    apply Array.ext_getElem?
    intro j
    by_cases hj : j < cs.size
    · rw [h3 j hj, if_pos (by simp; omega)]; simp
    · rw [Array.getElem?_eq_none (by omega), Array.getElem?_eq_none (by omega)]
  rw [← e]; rw [← e] at h1; exact h1
theorem size_poly {p : List Nat} (hp : Good p) : (Tryd.prog.info? 37).map (·.size) = some (pv p).size := by rw [pv_size, hp.1]; kernel_rfl
theorem size_rPoly {p : List Nat} (hp : Good p) : (Tryd.prog.info? 41).map (·.size) = some (pv p).size := by rw [pv_size, hp.1]; kernel_rfl
end Go.Proofs.YtaajdcaciofmaaaDoor
