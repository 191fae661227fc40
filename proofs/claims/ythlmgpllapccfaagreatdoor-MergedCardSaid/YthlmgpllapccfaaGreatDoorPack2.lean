import Derived.Test.YthlmgpllapccfaaGreatDoorPack1
import Derived.Deep.MidRow
import Derived.LaidEql
import Derived.Stop.Asserts
import Derived.RowKitTokens
import Derived.Laws.Rows
import Derived.Defers
import Derived.Recover
import Derived.Maps.Own
import Derived.Laws.ResultCell
import Derived.Deep.AppendLies
import Derived.Deep.LoopGhost
import Derived.Deep.Cut
/- WHOLE ARRAYS IN BLOCKS OF THEIR OWN: loads and stores of 35 cells. -/
namespace Go.Proofs.YthlmgpllapccfaaGreatDoor
open Go.RowKit

/-- A polynomial as cells. -/
def pv (p : List Nat) : Array Value := (p.map fun n : Nat => Value.int .i64 (n : Int)).toArray
theorem pv_size (p : List Nat) : (pv p).size = p.length := by simp [pv]
theorem pv_get {p : List Nat} {j : Nat} (h : j < p.length) : (pv p)[j]? = some (.int .i64 (p.getD j 0)) := by simp [pv, List.getElem?_eq_getElem h]
theorem pv_set (p : List Nat) (j v : Nat) : (pv p).setIfInBounds j (.int .i64 v) = pv (p.set j v) := by simp [pv, List.map_set]
theorem pv_one (p : List Nat) : (pv p).all (·.oneCell') = true := by
  rw [Array.all_eq_true_iff_forall_mem]
  intro v hv
  simp only [pv, List.mem_toArray, List.mem_map] at hv
  obtain ⟨n, _, rfl⟩ := hv
  rfl

/-- What is known of the world alone. -/
theorem wp_forget {P : Program} {c : Code} {Q : Exit → Act → World → Prop} {a : Act} {w : World} (I : World → Prop) (hI : I w) (h : ∀ W, I W → Code.wp P c Q a W) : Code.wp P c Q a w := h w hI

theorem Blk.putN {w : World} {b : Nat} {p : List Nat} {t : TypeId} (h : Blk w b (pv p) t) (j k : Nat) (n : Int) (hn : n = k) : Blk (w.setCell ⟨b, j, none⟩ (.int .i64 n)) b (pv (p.set j k)) t := by
  subst hn
  have := h.set j (.int .i64 k)
  rwa [pv_set] at this
theorem Blk.there {w : World} {b : Nat} {cs : Array Value} {t : TypeId} (h : Blk w b cs t) {n : Nat} (hn : n ≤ cs.size) : w.there b 0 n := fun j hj => by
  rw [Nat.zero_add, h.cell, h.frozen]
  exact ⟨by simp; omega, rfl⟩
theorem heap_setCells (b : Nat) : ∀ (vs : List Value) (o : Nat) (w : World) (k : Nat), k ≠ b → (w.setCells b o vs).heap[k]? = w.heap[k]?
  | [], _, _, _, _ => rfl
  | v :: r, o, w, k, h => by
    rw [World.setCells, heap_setCells b r (o + 1) _ k h]
    exact Below.heap_setCell _ _ _ _ h
theorem rest_setCells (b : Nat) : ∀ (vs : List Value) (o : Nat) (w : World), (w.setCells b o vs).os = w.os ∧ (w.setCells b o vs).tape = w.tape ∧ (w.setCells b o vs).output = w.output ∧ (w.setCells b o vs).heap.size = w.heap.size
  | [], _, _ => ⟨rfl, rfl, rfl, rfl⟩
  | v :: r, o, w => by
    rw [World.setCells]
    have := rest_setCells b r (o + 1) (w.setCell ⟨b, o, none⟩ v)
    refine ⟨this.1, this.2.1, this.2.2.1, this.2.2.2.trans (by simp [World.setCell])⟩
theorem Fr.setCells {bs : List Nat} {a w : World} (h : Fr bs a w) (b o : Nat) (vs : List Value) (hp : b ∈ bs ∨ a.heap.size ≤ b) : Fr bs a (w.setCells b o vs) := by
  obtain ⟨h1, h2, h3, h4⟩ := rest_setCells b vs o w
  exact ⟨h1.trans h.os, h2.trans h.tape, h3.trans h.output, by rw [h4]; exact h.size, fun k hk hn => (heap_setCells b vs o w k (fun e => by subst e; rcases hp with g | g; exact hn g; omega)).trans (h.block k hk hn)⟩
theorem Below.setCells {B : Nat} {a w : World} (h : Below B a w) (b o : Nat) (vs : List Value) (hp : B ≤ b) : Below B a (w.setCells b o vs) := by
  obtain ⟨h1, h2, h3, h4⟩ := rest_setCells b vs o w
  exact ⟨h1.trans h.os, h2.trans h.tape, h3.trans h.output, by rw [h4]; exact h.size, fun k hk => (heap_setCells b vs o w k (by omega)).trans (h.block k hk)⟩
theorem Blk.setCellsOther {w : World} {b : Nat} {cs : Array Value} {t : TypeId} (h : Blk w b cs t) (c o : Nat) (vs : List Value) (hn : b ≠ c) : Blk (w.setCells c o vs) b cs t := by
  unfold Blk at *; rw [heap_setCells _ _ _ _ _ hn]; exact h
theorem Blk.over (b : Nat) (t : TypeId) : ∀ (vs : List Value) (o : Nat) (w : World) (cs : Array Value), Blk w b cs t → ∃ ds : Array Value, Blk (w.setCells b o vs) b ds t ∧ ds.size = cs.size ∧ ∀ j, j < cs.size → ds[j]? = if o ≤ j ∧ j < o + vs.length then vs[j - o]? else cs[j]?
  | [], o, w, cs, h => ⟨cs, h, rfl, fun j _ => by rw [if_neg (by simp)]⟩
  | v :: r, o, w, cs, h => by
    obtain ⟨ds, h1, h2, h3⟩ := Blk.over b t r (o + 1) (w.setCell ⟨b, o, none⟩ v) _ (h.set o v)
    refine ⟨ds, h1, by simpa using h2, fun j hj => ?_⟩
    rw [h3 j (by simpa using hj)]
    by_cases hjo : j = o
    · subst hjo
      rw [if_neg (by omega), if_pos (by simp)]
      simp [hj]
    · by_cases hin : o + 1 ≤ j ∧ j < o + 1 + r.length
      · rw [if_pos hin, if_pos (by simp; omega), show j - o = (j - (o + 1)) + 1 by omega]; simp
      · rw [if_neg hin, if_neg (by simp; omega)]
        simp [Ne.symm hjo]
theorem Blk.setAll {w : World} {b : Nat} {cs : Array Value} {t : TypeId} (h : Blk w b cs t) (vs : Array Value) (hs : vs.size = cs.size) : Blk (w.setCells b 0 vs.toList) b vs t := by
  obtain ⟨ds, h1, h2, h3⟩ := Blk.over b t vs.toList 0 w cs h
  have e : ds = vs := by
    apply Array.ext_getElem?
    intro j
    by_cases hj : j < cs.size
    · rw [h3 j hj, if_pos (by simp; omega)]; simp
    · rw [Array.getElem?_eq_none (by omega), Array.getElem?_eq_none (by omega)]
  rw [← e]; rw [← e] at h1; exact h1
theorem size_poly {p : List Nat} (hp : Good p) : (Tryz.prog.info? 76).map (·.size) = some (pv p).size := by rw [pv_size, hp.1]; kernel_rfl
theorem size_rPoly {p : List Nat} (hp : Good p) : (Tryz.prog.info? 116).map (·.size) = some (pv p).size := by rw [pv_size, hp.1]; kernel_rfl
theorem lit_zeros : (#[.int .i64 0, .int .i64 0, .int .i64 0, .int .i64 0, .int .i64 0, .int .i64 0, .int .i64 0, .int .i64 0, .int .i64 0, .int .i64 0, .int .i64 0, .int .i64 0, .int .i64 0, .int .i64 0, .int .i64 0, .int .i64 0, .int .i64 0, .int .i64 0, .int .i64 0, .int .i64 0, .int .i64 0, .int .i64 0, .int .i64 0, .int .i64 0, .int .i64 0, .int .i64 0, .int .i64 0, .int .i64 0, .int .i64 0, .int .i64 0, .int .i64 0, .int .i64 0, .int .i64 0, .int .i64 0, .int .i64 0] : Array Value).toList = (pv zeros).toList := by kernel_rfl
end Go.Proofs.YthlmgpllapccfaaGreatDoor
/- THE PROGRAM's POLYNOMIALS: Plus. -/
namespace Go.Proofs.YthlmgpllapccfaaGreatDoor
open Go.RowKit

set_option maxRecDepth 100000 in
set_option maxHeartbeats 1000000 in
theorem Plus_any (p : List Nat) (u x a : Nat) (N : Int) (w : World) (hp : Good p) (hu : u ≤ 6) (hx : x ≤ 4) (hN : N % 7 = ((a % 7 : Nat) : Int)) :
    Calls Tryz.prog 82 #[.agg (pv p), .agg #[.int .i64 N, .int .i64 u, .int .i64 x]] w fun e w' => e = .returned (.agg (pv (plus p u x a))) ∧ Below w.heap.size w w' := by
  have hx0 : (0 : Int) ≤ (x : Int) := by omega
  have hx1 : (x : Int) < 5 := by omega
  have hu0 : (0 : Int) ≤ (u : Int) := by omega
  have hu1 : (u : Int) < 7 := by omega
  have hq : x * 7 + u < p.length := by rw [hp.1]; omega
  have hcell := pv_get hq
  have hv7 := hp.2 (x * 7 + u)
  have HV : Hid (plus p u x a = p.set (x * 7 + u) ((p.getD (x * 7 + u) 0 + a) % 7)) := by unfold Hid plus; rw [Nat.mul_comm 7 x]
  generalize p.getD (x * 7 + u) 0 = v at *
  go_enter Tryz.func82, Tryz.ntmps82
  go_wp2
  refine wp_forget (fun W => Blk W w.heap.size (pv p) 76 ∧ Blk W (w.heap.size + 1) #[.int .i64 N, .int .i64 u, .int .i64 x] 163 ∧ Blk W (w.heap.size + 1 + 1) (pv zeros) 76 ∧ Below w.heap.size w W) ⟨Blk.alloc (Blk.alloc (Blk.new w _ _) _) _, Blk.alloc (Blk.newAt _ _ _ (by simp)) _, Blk.newAt _ _ _ (by simp), by go_grown⟩ ?_
  rintro W ⟨b1, b2, b3, hbel⟩
  have B1 : Hid (Blk W w.heap.size (pv p) 76) := b1
  have B3 : Hid (Blk W (w.heap.size + 1 + 1) (pv zeros) 76) := b3
  obtain ⟨e0, e1, e2⟩ := b2.cells3
  have e3 : W.cell? ⟨w.heap.size, x * 7 + u, none⟩ = some (.int .i64 v) := by rw [b1.cell]; exact hcell
  have e4 : W.frozen? ⟨w.heap.size, x * 7 + u, none⟩ = false := b1.frozen _
  clear b1 b2 b3 hcell
  refine region_quiet_tail 18 (by kernel_rfl) (by kernel_rfl) ?_
  simp only [List.take_succ_cons, List.take_zero, List.drop_succ_cons, List.drop_zero]
  repeat (first | go_big_quiet_step ((go_at_call 48; exact Calls.quiet_of_same (Mod_any _ _))) | quiet_step ((go_at_call 48; exact Calls.quiet_of_same (Mod_any _ _))))
  refine wpQuiet_nil ?_
  rintro _ ⟨nq, rfl⟩
  have hg : Good (plus p u x a) := plus_good hp u x a
  go_wp2_with (first | (refine wpList_load_row (by rfl) 76 _ (by rfl) w.heap.size (by rfl) 76 (pv (plus p u x a)) (0, 0) _ (by rw [HV.out]; exact Blk.putN B1.out _ _ _ (by omega)) Tryz.underlying76 (by rfl) (size_poly hg) ?_) | (refine wpList_store_mid (by rfl) 76 _ _ (by rfl) (w.heap.size + 1 + 1) 0 (pv (plus p u x a)) (by rfl) (by rfl) (by exact Blk.there (Blk.setOther B3.out _ _ (by show ¬ w.heap.size + 1 + 1 = w.heap.size; omega)) (by rw [pv_size, pv_size, hg.1]; simp [zeros])) (size_poly hg) (pv_one _) ?_))
  refine bodyPost_ret (results_cell_row Tryz.results82 _ _ (w.heap.size + 1 + 1) 76 (pv (plus p u x a)) (0, 0) _ (by rfl) (Blk.setAll (Blk.setOther (by exact B3.out) _ _ (by show ¬ w.heap.size + 1 + 1 = w.heap.size; omega)) _ (by rw [pv_size, pv_size, hg.1]; rfl)) Tryz.underlying76 rfl (size_poly hg)) rfl ⟨rfl, ?_⟩
  exact Below.setCells (Below.setCell (below_drewN hbel nq) (Nat.le_refl _) _) _ _ _ (by omega)
end Go.Proofs.YthlmgpllapccfaaGreatDoor
/- THE READER: term whole; polynomial. -/
namespace Go.Proofs.YthlmgpllapccfaaGreatDoor
open Go.RowKit
variable {M : Value} {D : Int} {O : Bool}

theorem term_ok (s : ByteArray) (f : Nat → Tok) (k b : Nat) (w : World) (hs : s.size ≤ 1000) (ha : Str s f) (hr : Rd w b s M D O (f k)) (h : (tm f O s.size k).e = 0) :
    Calls Tryz.prog 81 #[.pointer (some ⟨b, 0, none⟩)] w fun e w' => e = .returned (.agg #[.int .i64 (tm f O s.size k).n, .int .i64 (tm f O s.size k).u, .int .i64 (tm f O s.size k).x]) ∧ Rd w' b s M D O (f (tm f O s.size k).k) ∧ Fr [b] w w' := by
  unfold tm at *
  by_cases h1 : (f k).c = 1
  · rw [if_pos h1] at *
    refine (term_number s f k b w hs ha hr h1).mono ?_
    rintro e w1 (g | g)
    · exact g.2
    · exact absurd h g.1
  · rw [if_neg h1] at *
    by_cases h2 : (f k).c = 2 ∨ (f k).c = 3
    · rw [if_pos h2] at *
      refine (term_power s f k b w hs ha hr h2).mono ?_
      rintro e w1 (g | g)
      · exact g.2
      · exact absurd h g.1
    · rw [if_neg h2] at h
      exact absurd h (by simp)
theorem term_not (s : ByteArray) (f : Nat → Tok) (k b : Nat) (w : World) (hs : s.size ≤ 1000) (ha : Str s f) (hr : Rd w b s M D O (f k)) (h : (tm f O s.size k).e ≠ 0) :
    Calls Tryz.prog 81 #[.pointer (some ⟨b, 0, none⟩)] w fun e w' => e = .panicked (faulty (tm f O s.size k).e (tm f O s.size k).bad) ∧ Fr [b] w w' := by
  unfold tm at *
  by_cases h1 : (f k).c = 1
  · rw [if_pos h1] at *
    refine (term_number s f k b w hs ha hr h1).mono ?_
    rintro e w1 (g | g)
    · exact absurd g.1 h
    · exact g.2
  · rw [if_neg h1] at *
    by_cases h2 : (f k).c = 2 ∨ (f k).c = 3
    · rw [if_pos h2] at *
      refine (term_power s f k b w hs ha hr h2).mono ?_
      rintro e w1 (g | g)
      · exact absurd g.1 h
      · exact g.2
    · rw [if_neg h2] at *
      exact term_bad s f k b w hr (by omega)

theorem pk_is4 {c : Nat} (h : c = 47) : pk c = 5 := by subst h; rfl
theorem pk_is5 {c : Nat} (h : c = 49) : pk c = 6 := by subst h; rfl
theorem pk_ne4 {c : Nat} (h : c ≠ 47) : (pk c != 5) = true := by
  rw [bne_iff_ne]; unfold pk
  repeat' split
  all_goals omega
theorem pk_ne5 {c : Nat} (h : c ≠ 49) : (pk c != 6) = true := by
  rw [bne_iff_ne]; unfold pk
  repeat' split
  all_goals omega
theorem pk_no5 {c : Nat} (h : c ≠ 49) : (pk c == 6) = false := by
  rw [beq_eq_false_iff_ne]; unfold pk
  repeat' split
  all_goals omega

/-- What the reading of a polynomial ends in. -/
def PolyPost (s : ByteArray) (f : Nat → Tok) (M : Value) (D : Int) (O : Bool) (b : Nat) (R : PlR) (w : World) (e : Ending) (w' : World) : Prop :=
  (R.e = 0 ∧ e = .returned (.agg (pv R.p)) ∧ Good R.p ∧ Rd w' b s M D O (f R.k) ∧ Fr [b] w w') ∨ (R.e ≠ 0 ∧ e = .panicked (faulty R.e R.bad) ∧ Fr [b] w w')
end Go.Proofs.YthlmgpllapccfaaGreatDoor
/- THE READER: polynomial. -/
namespace Go.Proofs.YthlmgpllapccfaaGreatDoor
open Go.RowKit
variable {M : Value} {D : Int} {O : Bool}

theorem hide' {p : Prop} (h : p) : Hid p := h
theorem field_tok0 (x0 x1 x2 x3 : Int) (w : World) : (Instr.field 102 (.agg #[.int .i64 x0, .int .i64 x1, .int .i64 x2, .int .i64 x3]) 0).run Tryz.prog w = .ok (.int .i64 x0) w := by kernel_rfl

theorem Plus_to (p p' : List Nat) (u x a : Nat) (N : Int) (w : World) (hp : Good p) (hu : u ≤ 6) (hx : x ≤ 4) (hN : N % 7 = ((a % 7 : Nat) : Int)) (h : plus p u x a = p') :
    Calls Tryz.prog 82 #[.agg (pv p), .agg #[.int .i64 N, .int .i64 u, .int .i64 x]] w fun e w' => e = .returned (.agg (pv p')) ∧ Below w.heap.size w w' := by
  rw [← h]; exact Plus_any p u x a N w hp hu hx hN

set_option maxRecDepth 100000 in
set_option maxHeartbeats 4000000 in
theorem polynomial_plain (s : ByteArray) (f : Nat → Tok) (k b : Nat) (w : World) (hs : s.size ≤ 1000) (ha : Str s f) (hk : k ≤ s.size) (hr : Rd w b s M D O (f k)) (hc : (f k).c ≠ 49) :
    Calls Tryz.prog 46 #[.pointer (some ⟨b, 0, none⟩)] w (PolyPost s f M D O b (pl f O s.size (s.size + 1) k 1 zeros) w) := by
  obtain ⟨c0, c1, c2, c3, c4⟩ := hr.cells
  have hb : b < w.heap.size := Blk.lt hr
  have n0 : ¬ b = w.heap.size := by omega
  have n1 : ¬ b = w.heap.size + 1 := by omega
  have m0 : ¬ w.heap.size = b := by omega
  have m1 : ¬ w.heap.size + 1 = b := by omega
  have HR : Hid (Rd w b s M D O (f k)) := hr
  have q5 := pk_no5 hc
  generalize hR : pl f O s.size (s.size + 1) k 1 zeros = R
  have HP : Hid (pl f O s.size (s.size + 1) k 1 zeros = R) := hR
  clear hr hc hR
  go_enter Tryz.func46, Tryz.ntmps46
  go_wp2
  clear c0 c1 c2 c3 c4 q5
  go_loopg [4] (s.size + 1) (fun m v wr => ∃ (k' : Nat) (neg : Bool) (p : List Nat), s.size + 1 ≤ m + k' ∧ v = .bool neg ∧ k' ≤ s.size ∧ Good p ∧ Rd wr b s M D O (f k') ∧ Blk wr (w.heap.size + 1) (pv p) 76 ∧ Blk wr w.heap.size (pv zeros) 76 ∧ Fr [b] w wr ∧ Hid (pl f O s.size m k' (sgOf neg) p = R))
  case atStart => exact ⟨k, false, zeros, by omega, rfl, hk, zeros_good, Blk.alloc (Blk.alloc HR.out _) _, Blk.newAt _ _ _ (by simp), Blk.alloc (Blk.new w _ _) _, ((Fr.refl [b] w).alloc _).alloc _, HP⟩
  case round =>
    obtain ⟨k', neg, p, hgk, rfl, hk', hp, hrd, hsum, hres, hfw, HQ⟩ := hrel
    have HRD : Hid (Rd wr b s M D O (f k')) := hrd
    have HSUM : Hid (Blk wr (w.heap.size + 1) (pv p) 76) := hsum
    have HRES : Hid (Blk wr w.heap.size (pv zeros) 76) := hres
    have hbr : b < wr.heap.size := Blk.lt hrd
    have hz0 : w.heap.size + 1 < wr.heap.size := Blk.lt hsum
    clear hrd hsum hres
    by_cases hte : (tm f O s.size k').e = 0
    · have hT := tm_facts f O s.size k'
      have hTn := tm_num (f := f) O s.size k' (fun j => (ha.facts j).2.2)
      have HTE : Hid ((tm f O s.size k').e = 0) := hte
      go_wp2_with fail
      refine (term_ok s f k' b _ (by omega) ha HRD.out hte).mono ?_
      rintro e w1 ⟨rfl, hr1, hfr1⟩
      clear hte
      generalize hTT : tm f O s.size k' = T at *
      have HTT : Hid (tm f O s.size k' = T) := hTT
      clear hTT
      have hs1 : Blk w1 (w.heap.size + 1) (pv p) 76 := HSUM.out.fr hfr1 (by simp [m1])
      have hq1 : Blk w1 w.heap.size (pv zeros) 76 := HRES.out.fr hfr1 (by simp [m0])
      have hf1 : Fr [b] w w1 := hfw.trans hfr1 (by simp)
      obtain ⟨p', HP'⟩ : ∃ p', Hid (plus p T.u T.x (sgOf neg * T.n) = p') := ⟨_, rfl⟩
      have hg : Good p' := by rw [← HP'.out]; exact plus_good hp _ _ _
      have HS1 : Hid (Blk w1 (w.heap.size + 1) (pv p) 76) := hs1
      have HQ1 : Hid (Blk w1 w.heap.size (pv zeros) 76) := hq1
      have HR1 : Hid (Rd w1 b s M D O (f T.k)) := hr1
      have hz1 : w.heap.size + 1 < w1.heap.size := Blk.lt hs1
      have hb1 : b < w1.heap.size := Blk.lt hr1
      clear hs1 hq1 hr1
      have hfl := field_tok0
      have hN : (if neg then -(T.n : Int) else (T.n : Int)) % 7 = ((sgOf neg * T.n % 7 : Nat) : Int) := by cases neg <;> simp [sgOf] <;> omega
      cases neg
      all_goals
        simp only [Bool.false_eq_true, if_false, if_true] at hN
        have HN := hide' hN
        clear hN
        go_wp2_with (refine wpList_load_row (by rfl) 76 _ (by rfl) (w.heap.size + 1) (by rfl) 76 (pv p) (0, 0) _ (by exact Blk.alloc HS1.out _) Tryz.underlying76 (by rfl) (size_poly hp) ?_)
        refine (Plus_to p p' T.u T.x _ _ _ hp hT.1 hT.2.1 HN.out HP'.out).mono ?_
        rintro e w3 ⟨rfl, hbel⟩
        have hs3 : Blk w3 (w.heap.size + 1) (pv p) 76 := Blk.fr (by exact Blk.alloc HS1.out _) (Fr.of_below (bs := []) hbel) (by simp)
        have hq3 : Blk w3 w.heap.size (pv zeros) 76 := Blk.fr (by exact Blk.alloc HQ1.out _) (Fr.of_below (bs := []) hbel) (by simp)
        have hr3 : Rd w3 b s M D O (f T.k) := Blk.fr (by exact Blk.alloc HR1.out _) (Fr.of_below (bs := []) hbel) (by simp)
        have hf4 : Fr [b] w (w3.setCells (w.heap.size + 1) 0 (pv p').toList) := Fr.setCells ((hf1.alloc _).trans (Fr.of_below (bs := []) hbel) (by simp)) _ _ _ (by simp)
        have hr4 : Rd (w3.setCells (w.heap.size + 1) 0 (pv p').toList) b s M D O (f T.k) := Blk.setCellsOther hr3 _ _ _ n1
        have hs4 : Blk (w3.setCells (w.heap.size + 1) 0 (pv p').toList) (w.heap.size + 1) (pv p') 76 := Blk.setAll hs3 _ (by rw [pv_size, pv_size, hg.1, hp.1])
        have hq4 : Blk (w3.setCells (w.heap.size + 1) 0 (pv p').toList) w.heap.size (pv zeros) 76 := Blk.setCellsOther hq3 _ _ _ (by omega)
        have hth : w3.there (w.heap.size + 1) 0 (pv p').size := Blk.there hs3 (by rw [pv_size, pv_size, hg.1, hp.1]; exact Nat.le_refl _)
        have HTH := hide' hth
        have HR4 := hide' hr4
        have HS4 := hide' hs4
        have HQ4 := hide' hq4
        have HF4 := hide' hf4
        obtain ⟨d0, d1, d2, d3, d4⟩ := hr4.cells
        clear hs3 hq3 hr3 hr4 hs4 hq4 hth hf4
        by_cases h4 : (f T.k).c = 47
        · have hpk := pk_is4 h4
          rw [hpk] at d1
          have hlt : T.k < s.size := ha.lt (by omega)
          have HN' : Hid (pl f O s.size (gk - 1) (T.k + 1) 1 p' = R) := by
            have q := HQ.out
            rw [pl_plus (by omega) (by rw [HTT.out]; exact HTE.out) (by rw [HTT.out]; exact h4), HTT.out, HP'.out] at q
            exact q
          clear h4
          go_wp2_with (refine wpList_store_mid (by rfl) 76 _ _ (by rfl) (w.heap.size + 1) 0 (pv p') (by rfl) (by rfl) HTH.out (size_poly hg) (pv_one _) ?_)
          refine (take_any s f T.k b _ (by omega) ha HR4.out).mono ?_
          rintro e w5 ⟨rfl, hr5, hfr5⟩
          go_wp2
          go_roundg (gk - 1)
          case measure => omega
          case rel => exact ⟨T.k + 1, false, p', by omega, by simp, by omega, hg, hr5, HS4.out.fr hfr5 (by simp [m1]), HQ4.out.fr hfr5 (by simp [m0]), HF4.out.trans hfr5 (by simp), HN'⟩
        · by_cases h5 : (f T.k).c = 49
          · have hpk := pk_is5 h5
            rw [hpk] at d1
            have hlt : T.k < s.size := ha.lt (by omega)
            have HN' : Hid (pl f O s.size (gk - 1) (T.k + 1) 6 p' = R) := by
              have q := HQ.out
              rw [pl_minus (by omega) (by rw [HTT.out]; exact HTE.out) (by rw [HTT.out]; exact h5), HTT.out, HP'.out] at q
              exact q
            clear h4 h5
            go_wp2_with (refine wpList_store_mid (by rfl) 76 _ _ (by rfl) (w.heap.size + 1) 0 (pv p') (by rfl) (by rfl) HTH.out (size_poly hg) (pv_one _) ?_)
            refine (take_any s f T.k b _ (by omega) ha HR4.out).mono ?_
            rintro e w5 ⟨rfl, hr5, hfr5⟩
            go_wp2
            go_roundg (gk - 1)
            case measure => omega
            case rel => exact ⟨T.k + 1, true, p', by omega, by simp, by omega, hg, hr5, HS4.out.fr hfr5 (by simp [m1]), HQ4.out.fr hfr5 (by simp [m0]), HF4.out.trans hfr5 (by simp), HN'⟩
          · have HB : Hid (R = ⟨0, 0, T.k, p'⟩) := by
              unfold Hid
              rw [← HQ.out, pl_done (by omega) (by rw [HTT.out]; exact HTE.out) (by rw [HTT.out]; exact h4) (by rw [HTT.out]; exact h5), HTT.out, HP'.out]
            have q4 := pk_ne4 h4
            have q5 := pk_ne5 h5
            clear h4 h5
            go_wp2_with (first | (refine wpList_store_mid (by rfl) 76 _ (.tmp 24) (by rfl) (w.heap.size + 1) 0 (pv p') (by rfl) (by rfl) HTH.out (size_poly hg) (pv_one _) ?_) | (refine wpList_load_row (by rfl) 76 _ (by rfl) (w.heap.size + 1) (by rfl) 76 (pv p') (0, 0) _ HS4.out Tryz.underlying76 (by rfl) (size_poly hg) ?_) | (refine wpList_store_mid (by rfl) 76 _ (.tmp 39) (by rfl) w.heap.size 0 (pv p') (by rfl) (by rfl) (Blk.there HQ4.out (by rw [pv_size, pv_size, hg.1]; exact Nat.le_refl _)) (size_poly hg) (pv_one _) ?_))
            refine bodyPost_ret (results_cell_row Tryz.results46 _ _ w.heap.size 76 (pv p') (0, 0) _ (by rfl) (Blk.setAll HQ4.out _ (by rw [pv_size, pv_size, hg.1]; rfl)) Tryz.underlying76 rfl (size_poly hg)) rfl (Or.inl ⟨?_, ?_, ?_, ?_, ?_⟩)
            · rw [HB.out]
            · rw [HB.out]
            · rw [HB.out]; exact hg
            · rw [HB.out]; exact Blk.setCellsOther HR4.out _ _ _ n0
            · exact Fr.setCells HF4.out _ _ _ (by simp)
    · have HB : Hid (R.e ≠ 0 ∧ R.e = (tm f O s.size k').e ∧ R.bad = (tm f O s.size k').bad) := by
        unfold Hid
        rw [← HQ.out, pl_bad (by omega) hte]; exact ⟨hte, rfl, rfl⟩
      go_wp2_with fail
      refine (term_not s f k' b _ (by omega) ha HRD.out hte).mono ?_
      rintro e w1 ⟨rfl, hfr1⟩
      go_wp2
      obtain ⟨g1, g2, g3⟩ := HB.out
      refine ⟨rfl, Or.inr ⟨g1, ?_, hfw.trans hfr1 (by simp)⟩⟩
      rw [g2, g3]

set_option maxRecDepth 100000 in
set_option maxHeartbeats 4000000 in
theorem polynomial_minus (s : ByteArray) (f : Nat → Tok) (k b : Nat) (w : World) (hs : s.size ≤ 1000) (ha : Str s f) (hr : Rd w b s M D O (f k)) (hc : (f k).c = 49) :
    Calls Tryz.prog 46 #[.pointer (some ⟨b, 0, none⟩)] w (PolyPost s f M D O b (pl f O s.size (s.size + 1) (k + 1) 6 zeros) w) := by
  obtain ⟨c0, c1, c2, c3, c4⟩ := hr.cells
  have hb : b < w.heap.size := Blk.lt hr
  have n0 : ¬ b = w.heap.size := by omega
  have n1 : ¬ b = w.heap.size + 1 := by omega
  have m0 : ¬ w.heap.size = b := by omega
  have m1 : ¬ w.heap.size + 1 = b := by omega
  have HR : Hid (Rd w b s M D O (f k)) := hr
  have q5 := pk_is5 hc
  rw [q5] at c1
  have hk : k < s.size := ha.lt (by omega)
  generalize hR : pl f O s.size (s.size + 1) (k + 1) 6 zeros = R
  have HP : Hid (pl f O s.size (s.size + 1) (k + 1) 6 zeros = R) := hR
  clear hr hc hR q5
  go_enter Tryz.func46, Tryz.ntmps46
  go_wp2_with fail
  refine (take_any s f k b _ (by omega) ha (by exact Blk.alloc (Blk.alloc HR.out _) _)).mono ?_
  rintro e w2 ⟨rfl, hr2, hfr2⟩
  have hs2 : Blk w2 (w.heap.size + 1) (pv zeros) 76 := Blk.fr (by exact Blk.newAt _ _ _ (by simp)) hfr2 (by simp [m1])
  have hq2 : Blk w2 w.heap.size (pv zeros) 76 := Blk.fr (by exact Blk.alloc (Blk.new w _ _) _) hfr2 (by simp [m0])
  have hf2 : Fr [b] w w2 := (((Fr.refl [b] w).alloc _).alloc _).trans hfr2 (by simp)
  go_wp2
  clear c0 c1 c2 c3 c4
  go_loopg [4] (s.size + 1) (fun m v wr => ∃ (k' : Nat) (neg : Bool) (p : List Nat), s.size + 1 ≤ m + k' ∧ v = .bool neg ∧ k' ≤ s.size ∧ Good p ∧ Rd wr b s M D O (f k') ∧ Blk wr (w.heap.size + 1) (pv p) 76 ∧ Blk wr w.heap.size (pv zeros) 76 ∧ Fr [b] w wr ∧ Hid (pl f O s.size m k' (sgOf neg) p = R))
  case atStart => exact ⟨k + 1, true, zeros, by omega, rfl, by omega, zeros_good, hr2, hs2, hq2, hf2, HP⟩
  case round =>
    obtain ⟨k', neg, p, hgk, rfl, hk', hp, hrd, hsum, hres, hfw, HQ⟩ := hrel
    have HRD : Hid (Rd wr b s M D O (f k')) := hrd
    have HSUM : Hid (Blk wr (w.heap.size + 1) (pv p) 76) := hsum
    have HRES : Hid (Blk wr w.heap.size (pv zeros) 76) := hres
    have hbr : b < wr.heap.size := Blk.lt hrd
    have hz0 : w.heap.size + 1 < wr.heap.size := Blk.lt hsum
    clear hrd hsum hres
    by_cases hte : (tm f O s.size k').e = 0
    · have hT := tm_facts f O s.size k'
      have hTn := tm_num (f := f) O s.size k' (fun j => (ha.facts j).2.2)
      have HTE : Hid ((tm f O s.size k').e = 0) := hte
      go_wp2_with fail
      refine (term_ok s f k' b _ (by omega) ha HRD.out hte).mono ?_
      rintro e w1 ⟨rfl, hr1, hfr1⟩
      clear hte
      generalize hTT : tm f O s.size k' = T at *
      have HTT : Hid (tm f O s.size k' = T) := hTT
      clear hTT
      have hs1 : Blk w1 (w.heap.size + 1) (pv p) 76 := HSUM.out.fr hfr1 (by simp [m1])
      have hq1 : Blk w1 w.heap.size (pv zeros) 76 := HRES.out.fr hfr1 (by simp [m0])
      have hf1 : Fr [b] w w1 := hfw.trans hfr1 (by simp)
      obtain ⟨p', HP'⟩ : ∃ p', Hid (plus p T.u T.x (sgOf neg * T.n) = p') := ⟨_, rfl⟩
      have hg : Good p' := by rw [← HP'.out]; exact plus_good hp _ _ _
      have HS1 : Hid (Blk w1 (w.heap.size + 1) (pv p) 76) := hs1
      have HQ1 : Hid (Blk w1 w.heap.size (pv zeros) 76) := hq1
      have HR1 : Hid (Rd w1 b s M D O (f T.k)) := hr1
      have hz1 : w.heap.size + 1 < w1.heap.size := Blk.lt hs1
      have hb1 : b < w1.heap.size := Blk.lt hr1
      clear hs1 hq1 hr1
      have hfl := field_tok0
      have hN : (if neg then -(T.n : Int) else (T.n : Int)) % 7 = ((sgOf neg * T.n % 7 : Nat) : Int) := by cases neg <;> simp [sgOf] <;> omega
      cases neg
      all_goals
        simp only [Bool.false_eq_true, if_false, if_true] at hN
        have HN := hide' hN
        clear hN
        go_wp2_with (refine wpList_load_row (by rfl) 76 _ (by rfl) (w.heap.size + 1) (by rfl) 76 (pv p) (0, 0) _ (by exact Blk.alloc HS1.out _) Tryz.underlying76 (by rfl) (size_poly hp) ?_)
        refine (Plus_to p p' T.u T.x _ _ _ hp hT.1 hT.2.1 HN.out HP'.out).mono ?_
        rintro e w3 ⟨rfl, hbel⟩
        have hs3 : Blk w3 (w.heap.size + 1) (pv p) 76 := Blk.fr (by exact Blk.alloc HS1.out _) (Fr.of_below (bs := []) hbel) (by simp)
        have hq3 : Blk w3 w.heap.size (pv zeros) 76 := Blk.fr (by exact Blk.alloc HQ1.out _) (Fr.of_below (bs := []) hbel) (by simp)
        have hr3 : Rd w3 b s M D O (f T.k) := Blk.fr (by exact Blk.alloc HR1.out _) (Fr.of_below (bs := []) hbel) (by simp)
        have hf4 : Fr [b] w (w3.setCells (w.heap.size + 1) 0 (pv p').toList) := Fr.setCells ((hf1.alloc _).trans (Fr.of_below (bs := []) hbel) (by simp)) _ _ _ (by simp)
        have hr4 : Rd (w3.setCells (w.heap.size + 1) 0 (pv p').toList) b s M D O (f T.k) := Blk.setCellsOther hr3 _ _ _ n1
        have hs4 : Blk (w3.setCells (w.heap.size + 1) 0 (pv p').toList) (w.heap.size + 1) (pv p') 76 := Blk.setAll hs3 _ (by rw [pv_size, pv_size, hg.1, hp.1])
        have hq4 : Blk (w3.setCells (w.heap.size + 1) 0 (pv p').toList) w.heap.size (pv zeros) 76 := Blk.setCellsOther hq3 _ _ _ (by omega)
        have hth : w3.there (w.heap.size + 1) 0 (pv p').size := Blk.there hs3 (by rw [pv_size, pv_size, hg.1, hp.1]; exact Nat.le_refl _)
        have HTH := hide' hth
        have HR4 := hide' hr4
        have HS4 := hide' hs4
        have HQ4 := hide' hq4
        have HF4 := hide' hf4
        obtain ⟨d0, d1, d2, d3, d4⟩ := hr4.cells
        clear hs3 hq3 hr3 hr4 hs4 hq4 hth hf4
        by_cases h4 : (f T.k).c = 47
        · have hpk := pk_is4 h4
          rw [hpk] at d1
          have hlt : T.k < s.size := ha.lt (by omega)
          have HN' : Hid (pl f O s.size (gk - 1) (T.k + 1) 1 p' = R) := by
            have q := HQ.out
            rw [pl_plus (by omega) (by rw [HTT.out]; exact HTE.out) (by rw [HTT.out]; exact h4), HTT.out, HP'.out] at q
            exact q
          clear h4
          go_wp2_with (refine wpList_store_mid (by rfl) 76 _ _ (by rfl) (w.heap.size + 1) 0 (pv p') (by rfl) (by rfl) HTH.out (size_poly hg) (pv_one _) ?_)
          refine (take_any s f T.k b _ (by omega) ha HR4.out).mono ?_
          rintro e w5 ⟨rfl, hr5, hfr5⟩
          go_wp2
          go_roundg (gk - 1)
          case measure => omega
          case rel => exact ⟨T.k + 1, false, p', by omega, by simp, by omega, hg, hr5, HS4.out.fr hfr5 (by simp [m1]), HQ4.out.fr hfr5 (by simp [m0]), HF4.out.trans hfr5 (by simp), HN'⟩
        · by_cases h5 : (f T.k).c = 49
          · have hpk := pk_is5 h5
            rw [hpk] at d1
            have hlt : T.k < s.size := ha.lt (by omega)
            have HN' : Hid (pl f O s.size (gk - 1) (T.k + 1) 6 p' = R) := by
              have q := HQ.out
              rw [pl_minus (by omega) (by rw [HTT.out]; exact HTE.out) (by rw [HTT.out]; exact h5), HTT.out, HP'.out] at q
              exact q
            clear h4 h5
            go_wp2_with (refine wpList_store_mid (by rfl) 76 _ _ (by rfl) (w.heap.size + 1) 0 (pv p') (by rfl) (by rfl) HTH.out (size_poly hg) (pv_one _) ?_)
            refine (take_any s f T.k b _ (by omega) ha HR4.out).mono ?_
            rintro e w5 ⟨rfl, hr5, hfr5⟩
            go_wp2
            go_roundg (gk - 1)
            case measure => omega
            case rel => exact ⟨T.k + 1, true, p', by omega, by simp, by omega, hg, hr5, HS4.out.fr hfr5 (by simp [m1]), HQ4.out.fr hfr5 (by simp [m0]), HF4.out.trans hfr5 (by simp), HN'⟩
          · have HB : Hid (R = ⟨0, 0, T.k, p'⟩) := by
              unfold Hid
              rw [← HQ.out, pl_done (by omega) (by rw [HTT.out]; exact HTE.out) (by rw [HTT.out]; exact h4) (by rw [HTT.out]; exact h5), HTT.out, HP'.out]
            have q4 := pk_ne4 h4
            have q5 := pk_ne5 h5
            clear h4 h5
            go_wp2_with (first | (refine wpList_store_mid (by rfl) 76 _ (.tmp 24) (by rfl) (w.heap.size + 1) 0 (pv p') (by rfl) (by rfl) HTH.out (size_poly hg) (pv_one _) ?_) | (refine wpList_load_row (by rfl) 76 _ (by rfl) (w.heap.size + 1) (by rfl) 76 (pv p') (0, 0) _ HS4.out Tryz.underlying76 (by rfl) (size_poly hg) ?_) | (refine wpList_store_mid (by rfl) 76 _ (.tmp 39) (by rfl) w.heap.size 0 (pv p') (by rfl) (by rfl) (Blk.there HQ4.out (by rw [pv_size, pv_size, hg.1]; exact Nat.le_refl _)) (size_poly hg) (pv_one _) ?_))
            refine bodyPost_ret (results_cell_row Tryz.results46 _ _ w.heap.size 76 (pv p') (0, 0) _ (by rfl) (Blk.setAll HQ4.out _ (by rw [pv_size, pv_size, hg.1]; rfl)) Tryz.underlying76 rfl (size_poly hg)) rfl (Or.inl ⟨?_, ?_, ?_, ?_, ?_⟩)
            · rw [HB.out]
            · rw [HB.out]
            · rw [HB.out]; exact hg
            · rw [HB.out]; exact Blk.setCellsOther HR4.out _ _ _ n0
            · exact Fr.setCells HF4.out _ _ _ (by simp)
    · have HB : Hid (R.e ≠ 0 ∧ R.e = (tm f O s.size k').e ∧ R.bad = (tm f O s.size k').bad) := by
        unfold Hid
        rw [← HQ.out, pl_bad (by omega) hte]; exact ⟨hte, rfl, rfl⟩
      go_wp2_with fail
      refine (term_not s f k' b _ (by omega) ha HRD.out hte).mono ?_
      rintro e w1 ⟨rfl, hfr1⟩
      go_wp2
      obtain ⟨g1, g2, g3⟩ := HB.out
      refine ⟨rfl, Or.inr ⟨g1, ?_, hfw.trans hfr1 (by simp)⟩⟩
      rw [g2, g3]

theorem polynomial_any (s : ByteArray) (f : Nat → Tok) (k b : Nat) (w : World) (hs : s.size ≤ 1000) (ha : Str s f) (hk : k ≤ s.size) (hr : Rd w b s M D O (f k)) :
    Calls Tryz.prog 46 #[.pointer (some ⟨b, 0, none⟩)] w (PolyPost s f M D O b (poly f O s.size k) w) := by
  unfold poly
  by_cases hc : (f k).c = 49
  · rw [if_pos hc]; exact polynomial_minus s f k b w hs ha hr hc
  · rw [if_neg hc]; exact polynomial_plain s f k b w hs ha hk hr hc
end Go.Proofs.YthlmgpllapccfaaGreatDoor
/- errors.As AT A fault AND A *fault, after the library's worked example Toyas. -/
namespace Go.Proofs.YthlmgpllapccfaaGreatDoor
open Go.RowKit Go.Extern.Stop Go.Stop Go.Extern

theorem as_valueOf (t : Addr) (w : World) : (ReflectliteValue.unpack (.iface 132 (.pointer (some t)))).run Tryz.prog w
    = .ok (.agg #[.pointer (some ⟨5, 132, none⟩), .pointer (some ⟨w.heap.size, 0, none⟩), .int .u64 150]) (w.alloc (.cells #[.pointer (some t)] 132)) := by kernel_rfl
theorem as_type (a : Addr) (w : World) : (ReflectliteValue.methodAny (ReflectliteValue.valueError "reflectlite.Value.Type" 0) (fun t _ _ _ => ReflectliteType.toType t) #[.agg #[.pointer (some ⟨5, 132, none⟩), .pointer (some a), .int .u64 150]]).run Tryz.prog w
    = .ok (.iface 195 (.agg #[.pointer (some ⟨5, 132, none⟩)])) w := by kernel_rfl
theorem as_kindP (w : World) : ((ReflectliteType.abiMethod fun t => (fun a : Nat => Value.int IntKind.u8 (a : Int)) <$> Rtype.kind t) #[.pointer (some ⟨5, 132, none⟩)]).run Tryz.prog w = .ok (.int .u8 22) w := by kernel_rfl
theorem as_kindE (w : World) : ((ReflectliteType.abiMethod fun t => (fun a : Nat => Value.int IntKind.u8 (a : Int)) <$> Rtype.kind t) #[.pointer (some ⟨5, 130, none⟩)]).run Tryz.prog w = .ok (.int .u8 25) w := by kernel_rfl
theorem as_rlm (z : Sem Value) (f : TypeId → Addr → Nat → Nat → Sem Value) (v : Value) :
    ReflectliteValue.method z f #[v] = (do match ← ReflectliteValue.parts v with | none => z | some (t, a, fl) => f t a fl (fl % 32)) := rfl
theorem as_partsP (a : Addr) (w : World) : (ReflectliteValue.parts (.agg #[.pointer (some ⟨5, 132, none⟩), .pointer (some a), .int .u64 150])).run Tryz.prog w = .ok (some (132, a, 150)) w := by kernel_rfl
theorem as_isNil (a p : Addr) (W : World) (ha : W.cell? a = some (.pointer (some p))) :
    (ReflectliteValue.method (ReflectliteValue.valueError "reflectlite.Value.IsNil" 0) ReflectliteValue.isNil #[.agg #[.pointer (some ⟨5, 132, none⟩), .pointer (some a), .int .u64 150]]).run Tryz.prog W = .ok (.bool false) W := by
  rw [as_rlm]
  simp only [Sem.run_bind, as_partsP, Result.andThen]
  simp [ReflectliteValue.isNil, loadVar, isAgg, underlying, Tryz.underlying132, ha, Result.andThen]
theorem as_elem (w : World) : (ReflectliteType.method ReflectliteType.elem #[.agg #[.pointer (some ⟨5, 132, none⟩)]]).run Tryz.prog w = .ok (.iface 195 (.agg #[.pointer (some ⟨5, 130, none⟩)])) w := by kernel_rfl
theorem as_implements (w : World) : (ReflectliteType.relation "Implements" ReflectliteType.implements_ #[.agg #[.pointer (some ⟨5, 130, none⟩)], .iface 195 (.agg #[.pointer (some ⟨5, 127, none⟩)])]).run Tryz.prog w = .ok (.bool true) w := by kernel_rfl
theorem as_typeOf (v : Value) (w : World) : (ReflectliteType.typeOf #[.iface 130 v]).run Tryz.prog w = .ok (.iface 195 (.agg #[.pointer (some ⟨5, 130, none⟩)])) w := by kernel_rfl
theorem as_assignable (w : World) : (ReflectliteType.relation "AssignableTo" ReflectliteType.assignableTo #[.agg #[.pointer (some ⟨5, 130, none⟩)], .iface 195 (.agg #[.pointer (some ⟨5, 130, none⟩)])]).run Tryz.prog w = .ok (.bool true) w := by kernel_rfl
theorem as_valueOfE (x y : Int) (w : World) : (ReflectliteValue.unpack (.iface 130 (.agg #[.int .i64 x, .int .i64 y]))).run Tryz.prog w
    = .ok (.agg #[.pointer (some ⟨5, 130, none⟩), .pointer (some ⟨w.heap.size, 0, none⟩), .int .u64 153]) (w.alloc (.cells #[.int .i64 x, .int .i64 y] 130)) := by kernel_rfl
theorem as_elemOf (w : World) : (Rtype.elem? 132).run Tryz.prog w = .ok (some 130) w := by kernel_rfl
theorem as_mk (p : Addr) (w : World) : (ReflectliteValue.mk 130 p ReflectliteValue.flagAddr).run Tryz.prog w = .ok (.agg #[.pointer (some ⟨5, 130, none⟩), .pointer (some p), .int .u64 409]) w := by kernel_rfl
theorem as_elemV (a p : Addr) (W : World) (ha : W.cell? a = some (.pointer (some p))) :
    (ReflectliteValue.method (ReflectliteValue.valueError "reflectlite.Value.Elem" 0) ReflectliteValue.elem #[.agg #[.pointer (some ⟨5, 132, none⟩), .pointer (some a), .int .u64 150]]).run Tryz.prog W
      = .ok (.agg #[.pointer (some ⟨5, 130, none⟩), .pointer (some p), .int .u64 409]) W := by
  rw [as_rlm]
  simp only [Sem.run_bind, as_partsP, Result.andThen]
  simp [ReflectliteValue.elem, loadVar, isAgg, underlying, Tryz.underlying132, ha, Result.andThen, as_elemOf, as_mk]
theorem as_rls (v x : Value) : ReflectliteValue.set #[v, x] = (do
    let (some (dst, a, fl), some (src, b, _)) := (← ReflectliteValue.parts v, ← ReflectliteValue.parts x)
      | unsupported (.noEntry "extern/(internal/reflectlite.Value).Set.zeroValue")
    if fl / ReflectliteValue.flagAddr % 2 == 0 then unsupported (.noEntry "extern/(internal/reflectlite.Value).Set.unaddressable")
    let val ← loadVar src b
    if ← Rtype.directlyAssignable dst src then storeVar dst a val
    else if ← Rtype.implements dst src then
      if (← Rtype.kind src) == 20 then
        match val with
        | .nilIface => unsupported (.noEntry "extern/reflectlite: a nil value of one interface type handed on as a value of another")
        | _ => storeVar dst a val
      else storeVar dst a (.iface src val)
    else panicString ("reflectlite.Set: value of type " ++ (← Rtype.spelt src) ++ " is not assignable to type " ++ (← Rtype.spelt dst))
    pure (.tuple #[])) := rfl
theorem as_partsA (a : Addr) (w : World) : (ReflectliteValue.parts (.agg #[.pointer (some ⟨5, 130, none⟩), .pointer (some a), .int .u64 409])).run Tryz.prog w = .ok (some (130, a, 409)) w := by kernel_rfl
theorem as_partsE (a : Addr) (w : World) : (ReflectliteValue.parts (.agg #[.pointer (some ⟨5, 130, none⟩), .pointer (some a), .int .u64 153])).run Tryz.prog w = .ok (some (130, a, 153)) w := by kernel_rfl
theorem as_direct (w : World) : (Rtype.directlyAssignable 130 130).run Tryz.prog w = .ok true w := by kernel_rfl
theorem as_set (t b : Nat) (x y x0 y0 : Int) (W : World) (hb : Blk W b #[.int .i64 x, .int .i64 y] 130) (ht : Blk W t #[.int .i64 x0, .int .i64 y0] 130) :
    (ReflectliteValue.set #[.agg #[.pointer (some ⟨5, 130, none⟩), .pointer (some ⟨t, 0, none⟩), .int .u64 409], .agg #[.pointer (some ⟨5, 130, none⟩), .pointer (some ⟨b, 0, none⟩), .int .u64 153]]).run Tryz.prog W
      = .ok (.tuple #[]) ((W.setCell ⟨t, 0, none⟩ (.int .i64 x)).setCell ⟨t, 1, none⟩ (.int .i64 y)) := by
  have hl := run_loadVar_row (P := Tryz.prog) W b 130 130 #[.int .i64 x, .int .i64 y] (0, 0) _ hb Tryz.underlying130 rfl (by kernel_rfl)
  have hth : W.there t 0 2 := fun j hj => by
    rw [Nat.zero_add, Blk.cell ht, Blk.frozen ht]
    match j, hj with
    | 0, _ => exact ⟨rfl, rfl⟩
    | 1, _ => exact ⟨rfl, rfl⟩
  have hs := run_storeVar_mid (P := Tryz.prog) W t 0 130 #[.int .i64 x, .int .i64 y] hth (by kernel_rfl) (by kernel_rfl)
  rw [as_rls]
  simp only [Sem.run_bind, as_partsA, as_partsE, Result.andThen]
  simp [ReflectliteValue.flagAddr, hl, as_direct, Result.andThen, hs, World.setCells]
end Go.Proofs.YthlmgpllapccfaaGreatDoor
/- errors.As AT A fault AND A *fault: the walk. -/
namespace Go.Proofs.YthlmgpllapccfaaGreatDoor
open Go.RowKit Go.Extern.Stop Go.Stop Go.Extern

set_option maxRecDepth 100000 in
set_option maxHeartbeats 4000000 in
theorem as_hit (x y x0 y0 : Int) (t : Nat) (w : World) (hg : w.cell? ⟨0, 0, none⟩ = some (.iface 195 (.agg #[.pointer (some ⟨5, 127, none⟩)]))) (ht : Blk w t #[.int .i64 x0, .int .i64 y0] 130) :
    Calls Tryz.prog 69 #[.iface 130 (.agg #[.int .i64 x, .int .i64 y]), .iface 132 (.pointer (some ⟨t, 0, none⟩))] w fun ev w' => ev = .returned (.bool true) ∧ Blk w' t #[.int .i64 x, .int .i64 y] 130 ∧ Fr [t] w w' := by
  have h6 := @run_callFunc_extern Tryz.prog 91 _ (fun args => ReflectliteValue.unpack (args.getD 0 (.tuple #[]))) Tryz.func91 (by kernel_rfl) (by kernel_rfl) (by kernel_rfl) (by kernel_rfl)
  have h7 := @run_callFunc_extern Tryz.prog 92 _ (ReflectliteValue.methodAny (ReflectliteValue.valueError "reflectlite.Value.Type" 0) (fun t _ _ _ => ReflectliteType.toType t)) Tryz.func92 (by kernel_rfl) (by kernel_rfl) (by kernel_rfl) (by kernel_rfl)
  have h8 := @run_callFunc_extern Tryz.prog 93 _ (ReflectliteValue.method (ReflectliteValue.valueError "reflectlite.Value.IsNil" 0) ReflectliteValue.isNil) Tryz.func93 (by kernel_rfl) (by kernel_rfl) (by kernel_rfl) (by kernel_rfl)
  have h27 := @run_callFunc_extern Tryz.prog 129 _ (ReflectliteType.abiMethod fun t => do pure (.int .u8 (← Rtype.kind t))) Tryz.func129 (by kernel_rfl) (by kernel_rfl) (by kernel_rfl) (by kernel_rfl)
  have h37 := @run_callFunc_extern Tryz.prog 196 _ (ReflectliteType.method ReflectliteType.elem) Tryz.func196 (by kernel_rfl) (by kernel_rfl) (by kernel_rfl) (by kernel_rfl)
  have h38 := @run_callFunc_extern Tryz.prog 197 _ (ReflectliteType.relation "Implements" ReflectliteType.implements_) Tryz.func197 (by kernel_rfl) (by kernel_rfl) (by kernel_rfl) (by kernel_rfl)
  have h10 := @run_callFunc_extern Tryz.prog 102 _ ReflectliteType.typeOf Tryz.func102 (by kernel_rfl) (by kernel_rfl) (by kernel_rfl) (by kernel_rfl)
  have h35 := @run_callFunc_extern Tryz.prog 194 _ (ReflectliteType.relation "AssignableTo" ReflectliteType.assignableTo) Tryz.func194 (by kernel_rfl) (by kernel_rfl) (by kernel_rfl) (by kernel_rfl)
  have h11 := @run_callFunc_extern Tryz.prog 103 _ (ReflectliteValue.method (ReflectliteValue.valueError "reflectlite.Value.Elem" 0) ReflectliteValue.elem) Tryz.func103 (by kernel_rfl) (by kernel_rfl) (by kernel_rfl) (by kernel_rfl)
  have h12 := @run_callFunc_extern Tryz.prog 104 _ ReflectliteValue.set Tryz.func104 (by kernel_rfl) (by kernel_rfl) (by kernel_rfl) (by kernel_rfl)
  have tO := as_typeOf
  have a25 := as_assignable
  have v25 := as_valueOfE
  have f6 := as_valueOf
  have f7 := as_type
  have k27 := as_kindP
  have k25 := as_kindE
  have e27 := as_elem
  have i25 := as_implements
  have htl : t < w.heap.size := Blk.lt ht
  have hlt : 0 < w.heap.size := by omega
  have b0 : Blk (w.alloc (.cells #[.pointer (some ⟨t, 0, none⟩)] 132)) w.heap.size #[.pointer (some ⟨t, 0, none⟩)] 132 := Blk.new w _ _
  have c2 : ((w.alloc (.cells #[.pointer (some ⟨t, 0, none⟩)] 132)).alloc (.cells #[.pointer (some ⟨5, 132, none⟩), .pointer (some ⟨w.heap.size, 0, none⟩), .int .u64 150] 177)).cell? ⟨w.heap.size, 0, none⟩ = some (.pointer (some ⟨t, 0, none⟩)) := (Blk.alloc b0 _).cell 0
  have c3 : (((w.alloc (.cells #[.pointer (some ⟨t, 0, none⟩)] 132)).alloc (.cells #[.pointer (some ⟨5, 132, none⟩), .pointer (some ⟨w.heap.size, 0, none⟩), .int .u64 150] 177)).alloc (.cells #[.pointer (some ⟨5, 132, none⟩), .pointer (some ⟨w.heap.size, 0, none⟩), .int .u64 150] 177)).cell? ⟨w.heap.size, 0, none⟩ = some (.pointer (some ⟨t, 0, none⟩)) := (Blk.alloc (Blk.alloc b0 _) _).cell 0
  have n8 := as_isNil ⟨w.heap.size, 0, none⟩ ⟨t, 0, none⟩ _ c2
  have el := as_elemV ⟨w.heap.size, 0, none⟩ ⟨t, 0, none⟩ _ c3
  have hg2 : ((w.alloc (.cells #[.pointer (some ⟨t, 0, none⟩)] 132)).alloc (.cells #[.pointer (some ⟨5, 132, none⟩), .pointer (some ⟨w.heap.size, 0, none⟩), .int .u64 150] 177)).cell? ⟨0, 0, none⟩ = some (.iface 195 (.agg #[.pointer (some ⟨5, 127, none⟩)])) := by
    rw [World.cell?_alloc_lt _ _ ⟨0, 0, none⟩ (by simp), World.cell?_alloc_lt _ _ ⟨0, 0, none⟩ hlt]; exact hg
  have st := as_set t (w.heap.size + 1 + 1 + 1) x y x0 y0 ((((w.alloc (.cells #[.pointer (some ⟨t, 0, none⟩)] 132)).alloc (.cells #[.pointer (some ⟨5, 132, none⟩), .pointer (some ⟨w.heap.size, 0, none⟩), .int .u64 150] 177)).alloc (.cells #[.pointer (some ⟨5, 132, none⟩), .pointer (some ⟨w.heap.size, 0, none⟩), .int .u64 150] 177)).alloc (.cells #[.int .i64 x, .int .i64 y] 130)) (Blk.newAt _ _ _ (by simp)) (Blk.alloc (Blk.alloc (Blk.alloc (Blk.alloc ht _) _) _) _)
  have HT := ht
  have HH : Hid (Blk w t #[.int .i64 x0, .int .i64 y0] 130) := ht
  clear ht HT b0 c2 c3 hg
  go_enter Tryz.func69, Tryz.ntmps69
  go_wp2
  refine wp_loop_rounds 1 ?_
  rw [rounds_succ]
  go_wp2
  go_ret
  refine ⟨rfl, ?_, ?_⟩
  · exact Blk.set (Blk.set (Blk.alloc (Blk.alloc (Blk.alloc (Blk.alloc HH.out _) _) _) _) 0 _) 1 _
  · exact Fr.setCell (Fr.setCell (((((Fr.refl [t] w).alloc _).alloc _).alloc _).alloc _) _ _ (by simp)) _ _ (by simp)
end Go.Proofs.YthlmgpllapccfaaGreatDoor
/- THE READER: begin; the whole text's end. -/
namespace Go.Proofs.YthlmgpllapccfaaGreatDoor
open Go.RowKit
variable {M : Value} {D : Int} {O : Bool}

set_option maxHeartbeats 1000000 in
theorem begin_long (s : ByteArray) (b : Nat) (t : Tok) (w : World) (hr : Rd w b s M D O t) (h : 90 < s.size) (hm : s.size ≤ 140737488351232) :
    Calls Tryz.prog 70 #[.pointer (some ⟨b, 0, none⟩)] w fun e w' => e = .panicked (faulty 2 0) ∧ w' = w := by
  have h' : ((s.size : Nat) : Int) > 90 := by omega
  obtain ⟨c0, c1, c2, c3, c4⟩ := hr.cells
  have hb : b < w.heap.size := Blk.lt hr
  clear hr
  go_enter Tryz.func70, Tryz.ntmps70
  go_wp2_with (go_at_call 78; refine (fail_any _ _ _).mono ?_; rintro e w2 ⟨rfl, rfl⟩)
  exact ⟨rfl, rfl, rfl⟩

set_option maxHeartbeats 1000000 in
theorem begin_short (s : ByteArray) (b : Nat) (t : Tok) (w : World) (hr : Rd w b s M D O t) (h : ¬ 90 < s.size) :
    Calls Tryz.prog 70 #[.pointer (some ⟨b, 0, none⟩)] w fun e w' => e = .returned (.tuple #[]) ∧ Rd w' b s M D O (tok s 0) ∧ Fr [b] w w' := by
  have h' : ¬ ((s.size : Nat) : Int) > 90 := by omega
  obtain ⟨c0, c1, c2, c3, c4⟩ := hr.cells
  obtain ⟨f0, f1, f2, f3, f4⟩ := hr.free
  have hb : b < w.heap.size := Blk.lt hr
  have HR := hidV hr
  clear hr
  go_enter Tryz.func70, Tryz.ntmps70
  go_wp2_with (go_at_call 95; refine (tokenAt_any s 0 _ _ (by omega) (by omega) (by omega)).mono ?_; rintro e w1 ⟨rfl, hbel⟩; have HR1 : Hid (Rd w1 b s M D O t) := Blk.fr HR.out (Fr.of_below (bs := []) hbel) (by simp); obtain ⟨d0, d1, d2, d3, d4⟩ := Rd.cells HR1.out; obtain ⟨g0, g1, g2, g3, g4⟩ := Rd.free HR1.out)
  go_end0
  refine ⟨rfl, Rd.store HR1.out (tok s 0), ?_⟩
  repeat (refine Fr.setCell ?_ _ _ (by simp))
  exact Fr.of_below hbel
end Go.Proofs.YthlmgpllapccfaaGreatDoor
/- MAPS KEYED BY A BYTE, in memory. Nothing of the program. -/
namespace Go.Proofs.YthlmgpllapccfaaGreatDoor
open Go.RowKit

def keyIs (n : Int) : Value → Bool
  | .int .u8 m => decide (m = n)
  | _ => false
/-- What the map has at n. -/
def mget (n : Int) : List MapEntry → Option Value
  | [] => none
  | e :: l => if keyIs n e.key = true then some e.val else mget n l
def KeysU (l : List MapEntry) : Prop := ∀ e ∈ l, ∃ m : Int, e.key = .int .u8 m
theorem keyIs_same (n : Int) : keyIs n (.int .u8 n) = true := by simp [keyIs]
theorem keyIs_other {n m : Int} (h : m ≠ n) : keyIs n (.int .u8 m) = false := by simp [keyIs, h]
theorem mget_push (n : Int) (v : Value) (c : Nat) : ∀ (l : List MapEntry), mget n l = none → ∀ n', mget n' (l ++ [⟨.int .u8 n, v, c⟩]) = if n' = n then some v else mget n' l
  | [], _, n' => by
    by_cases h : n' = n
    · subst h; simp [mget, keyIs_same]
    · simp [mget, keyIs_other (Ne.symm h), h]
  | e :: l, h, n' => by
    simp only [mget] at h
    split at h
    · simp at h
    · rename_i hk
      have ih := mget_push n v c l h n'
      simp only [List.cons_append, mget]
      rw [ih]
      by_cases hn : n' = n
      · subst hn; rw [if_neg hk, if_pos rfl, if_pos rfl]
      · rw [if_neg hn, if_neg hn]
theorem findNow_mget (n : Int) : ∀ (l : List MapEntry) (i : Nat), KeysU l →
    (∃ j e, Instr.findNow (.int .u8) (.int .u8 n) l i = some (some (i + j, e.val)) ∧ l[j]? = some e ∧ e.key = .int .u8 n ∧ mget n l = some e.val ∧ ∀ v n', mget n' (l.modify j fun e => { e with key := .int .u8 n, val := v }) = if n' = n then some v else mget n' l)
    ∨ (Instr.findNow (.int .u8) (.int .u8 n) l i = some none ∧ mget n l = none)
  | [], i, _ => Or.inr ⟨rfl, rfl⟩
  | e :: l, i, h => by
    obtain ⟨m, hm⟩ := h e (by simp)
    have hl : KeysU l := fun x hx => h x (by simp [hx])
    by_cases hn : m = n
    · subst hn
      refine Or.inl ⟨0, e, ?_, rfl, hm, ?_, fun v n' => ?_⟩
      · simp [Instr.findNow, hm, Instr.sameNow]
      · simp [mget, hm, keyIs_same]
      · simp only [List.modify_cons, if_true, mget, hm]
        by_cases hq : n' = m
        · subst hq; simp [keyIs_same]
        · simp [keyIs_other (Ne.symm hq), hq]
    · have hs : Instr.sameNow (.int .u8) (.int .u8 n) e.key = some false := by simp [Instr.sameNow, hm]; exact fun q => hn q.symm
      rcases findNow_mget n l (i + 1) hl with ⟨j, x, h1, h2, h3, h4, h5⟩ | ⟨h1, h2⟩
      · refine Or.inl ⟨j + 1, x, ?_, by simpa using h2, h3, ?_, fun v n' => ?_⟩
        · rw [Instr.findNow, hs]; simp only []; rw [h1]; congr 3; omega
        · rw [mget, hm, keyIs_other hn]; simpa using h4
        · rw [List.modify_succ_cons, mget, mget, h5, hm]
          by_cases hq : n' = n
          · subst hq; rw [keyIs_other hn]; simp
          · rw [if_neg hq, if_neg hq]
      · refine Or.inr ⟨?_, ?_⟩
        · rw [Instr.findNow, hs]; exact h1
        · rw [mget, hm, keyIs_other hn]; simpa using h2

theorem check_u8 {P : Program} {k : TypeId} (hk : P.underlying k = some (.int .u8)) (em : Bool) (m : Nat) (n : Int) (w : World) : (Instr.checkKey em (m + 1) k (.int .u8 n)).run P w = .ok () w := by
  simp [Instr.checkKey, run_underlying hk, Result.andThen]
theorem run_lookup_u8 {P : Program} {t k e : TypeId} {w : World} {b clock : Nat} {es : Array MapEntry} {z : Value} (ht : P.underlying t = some (.map k e)) (hk : P.underlying k = some (.int .u8)) (hz : (zeroValue e).run P w = .ok z w) (hb : w.heap[b]? = some (.map es clock)) (hK : KeysU es.toList) (n : Int) :
    (Instr.lookup t (.map (some b)) (.int .u8 n) false).run P w = .ok ((mget n es.toList).getD z) w := by
  have hc : ∀ em, (Instr.checkKey em 10000 k (.int .u8 n)).run P w = .ok () w := fun em => check_u8 hk em 9999 n w
  rcases findNow_mget n es.toList 0 hK with ⟨j, x, h1, h2, h3, h4, h5⟩ | ⟨h1, h2⟩
  · simp [Instr.lookup, run_underlying ht, run_underlying hk, MapKept.run_getObj_map hb, hc, Instr.findKey, h1, h4, Result.andThen]
  · simp [Instr.lookup, run_underlying ht, run_underlying hk, MapKept.run_getObj_map hb, hc, Instr.findKey, h1, h2, hz, Result.andThen]
theorem run_update_u8 {P : Program} {t k e : TypeId} {w : World} {b clock : Nat} {es : Array MapEntry} (ht : P.underlying t = some (.map k e)) (hk : P.underlying k = some (.int .u8)) (hb : w.heap[b]? = some (.map es clock)) (hK : KeysU es.toList) (n : Int) (v : Value) :
    ∃ es' clock', (Instr.mapUpdate t (.map (some b)) (.int .u8 n) v).run P w = .ok () (ChangeMaps.setBlock w b (.map es' clock')) ∧ KeysU es'.toList ∧ ∀ n', mget n' es'.toList = if n' = n then some v else mget n' es.toList := by
  have hc : ∀ em, (Instr.checkKey em 10000 k (.int .u8 n)).run P w = .ok () w := fun em => check_u8 hk em 9999 n w
  rcases findNow_mget n es.toList 0 hK with ⟨j, x, h1, h2, h3, h4, h5⟩ | ⟨h1, h2⟩
  · have hj : es[j]? = some x := by rw [← Array.getElem?_toList]; exact h2
    have hsb : Instr.sameBits 10000 (.int .u8 n) (.int .u8 n) = true := by simp [Instr.sameBits]
    refine ⟨es.modify j fun e => { e with key := .int .u8 n, val := v }, clock, ?_, ?_, ?_⟩
    · simp [Instr.mapUpdate, run_underlying ht, run_underlying hk, MapKept.run_getObj_map hb, hc, Instr.findKey, h1, Result.andThen, Instr.keyThatStays, hj, h3, hsb, MapKept.run_setObj_map _ hb, ChangeMaps.setBlock]
    · intro y hy
      rw [Array.toList_modify] at hy
      obtain ⟨i, hi⟩ := List.mem_iff_getElem?.1 hy
      rw [List.getElem?_modify] at hi
      split at hi
      · cases hq : es.toList[i]? with
        | none => rw [hq] at hi; simp at hi
        | some z => rw [hq] at hi; simp at hi; exact ⟨n, by rw [← hi]⟩
      · cases hq : es.toList[i]? with
        | none => rw [hq] at hi; simp at hi
        | some z => rw [hq] at hi; simp at hi; subst hi; exact hK z (List.mem_of_getElem? hq)
    · intro n'
      rw [Array.toList_modify]; exact h5 v n'
  · refine ⟨es.push ⟨.int .u8 n, v, clock⟩, clock + 1, ?_, ?_, ?_⟩
    · simp [Instr.mapUpdate, run_underlying ht, run_underlying hk, MapKept.run_getObj_map hb, hc, Instr.findKey, h1, Result.andThen, MapKept.run_setObj_map _ hb, ChangeMaps.setBlock]
    · intro y hy
      rw [Array.toList_push, List.mem_append] at hy
      rcases hy with hy | hy
      · exact hK y hy
      · simp at hy; exact ⟨n, by rw [hy]⟩
    · intro n'
      rw [Array.toList_push]; exact mget_push n v clock es.toList h2 n'
end Go.Proofs.YthlmgpllapccfaaGreatDoor
/- THE DOCUMENT's ANSWER: digit, small, sign. -/
namespace Go.Proofs.YthlmgpllapccfaaGreatDoor
open Go.RowKit

/-- The signs. -/
def sgn (b : Nat) : Bool := b == 43 || b == 45 || b == 44 || b == 61 || b == 124 || b == 38 || b == 126 || b == 40 || b == 41 || b == 91 || b == 93

theorem sgn_of (k n : Nat) (h : ((k : Int) == (n : Int)) = true) (hk : sgn k = true) : sgn n = true := by
  have e : k = n := by simp at h; omega
  subst e; exact hk
theorem sgn_none (n : Nat) (h0 : (((43 : Nat) : Int) == (n : Int)) = false) (h1 : (((45 : Nat) : Int) == (n : Int)) = false) (h2 : (((44 : Nat) : Int) == (n : Int)) = false) (h3 : (((61 : Nat) : Int) == (n : Int)) = false) (h4 : (((124 : Nat) : Int) == (n : Int)) = false) (h5 : (((38 : Nat) : Int) == (n : Int)) = false) (h6 : (((126 : Nat) : Int) == (n : Int)) = false) (h7 : (((40 : Nat) : Int) == (n : Int)) = false) (h8 : (((41 : Nat) : Int) == (n : Int)) = false) (h9 : (((91 : Nat) : Int) == (n : Int)) = false) (h10 : (((93 : Nat) : Int) == (n : Int)) = false) : sgn n = false := by
  simp only [beq_eq_false_iff_ne] at *
  unfold sgn
  simp only [Bool.or_eq_false_iff, beq_eq_false_iff_ne]
  omega

set_option maxHeartbeats 400000 in
theorem rdigit_any (n : Nat) (a : Int) (w : World) (ha : a = n) (_h : n ≤ 255) :
    Calls Tryz.prog 51 #[.int .u8 a] w fun e w' => e = .returned (.bool (decide (48 ≤ n) && decide (n ≤ 57))) ∧ w' = w := by
  subst ha
  by_cases h1 : 48 ≤ n
  · by_cases h2 : n ≤ 57
    · go_enter Tryz.func51, Tryz.ntmps51
      go_wp2
      go_ret
      exact ⟨by simp [h1, h2]; omega, rfl⟩
    · go_enter Tryz.func51, Tryz.ntmps51
      go_wp2
      go_ret
      exact ⟨by simp [h1, h2]; omega, rfl⟩
  · go_enter Tryz.func51, Tryz.ntmps51
    go_wp2
    go_ret
    exact ⟨by simp, rfl⟩

set_option maxRecDepth 100000 in
set_option maxHeartbeats 4000000 in
theorem sign_any (n : Nat) (a : Int) (w : World) (ha : a = n) (_h : n ≤ 255) :
    Calls Tryz.prog 54 #[.int .u8 a] w fun e w' => e = .returned (.bool (sgn n)) ∧ w' = w := by
  subst ha
  go_enter Tryz.func54, Tryz.ntmps54
  go_wp2
  refine wp_loop_rounds 12 ?_
  repeat any_goals (rw [rounds_succ]; go_wp2)
  all_goals go_ret
  all_goals first
    | exact ⟨congrArg (fun b => Ending.returned (.bool b)) (sgn_of _ n (by assumption) (by decide)).symm, rfl⟩
    | exact ⟨congrArg (fun b => Ending.returned (.bool b)) (sgn_none n (by assumption) (by assumption) (by assumption) (by assumption) (by assumption) (by assumption) (by assumption) (by assumption) (by assumption) (by assumption) (by assumption)).symm, rfl⟩
end Go.Proofs.YthlmgpllapccfaaGreatDoor
/- THE DOCUMENT's ANSWER: tokens in memory; number, power. -/
namespace Go.Proofs.YthlmgpllapccfaaGreatDoor
open Go.RowKit

/-- A word's letters as one number, and back. -/
def wenc : List UInt8 → Nat
  | [] => 0
  | b :: l => 1 + b.toNat + 256 * wenc l
def wdF : Nat → Nat → List UInt8
  | 0, _ => []
  | m + 1, n => if n = 0 then [] else UInt8.ofNat ((n - 1) % 256) :: wdF m ((n - 1) / 256)
theorem wdF_enc : ∀ (l : List UInt8) (m : Nat), l.length ≤ m → wdF m (wenc l) = l
  | [], m, _ => by cases m <;> simp [wdF, wenc]
  | b :: l, 0, h => by simp at h
  | b :: l, m + 1, h => by
    have hb : b.toNat < 256 := b.toNat_lt
    rw [wdF, wenc, if_neg (by omega), show (1 + b.toNat + 256 * wenc l - 1) % 256 = b.toNat by omega, show (1 + b.toNat + 256 * wenc l - 1) / 256 = wenc l by omega, wdF_enc l m (by simp at h; omega)]
    simp
theorem wenc_len : ∀ l : List UInt8, l.length ≤ wenc l
  | [] => Nat.le_refl _
  | b :: l => by have := wenc_len l; simp only [List.length_cons, wenc]; omega
/-- The kind and the text of a token in the document's answer (from 1000 on: a word). -/
def rk (c : Nat) : Int := if c = 0 then 6 else if c = 1 then 1 else if c = 2 ∨ c = 3 then 2 else if 69 ≤ c ∧ c ≤ 94 then 3 else if sgn (c - 4) = true then ((c - 4 : Nat) : Int) else if 1000 ≤ c then 4 else 5
def rs (c : Nat) : ByteArray := if c = 2 then ⟨#[117]⟩ else if c = 3 then ⟨#[120]⟩ else if 69 ≤ c ∧ c ≤ 94 then ⟨#[UInt8.ofNat (c - 4)]⟩ else if 1000 ≤ c then ⟨(wdF c (c - 1000)).toArray⟩ else ⟨#[]⟩
theorem sgn_small {c : Nat} (h : sgn c = true) : c ≤ 126 := by
  unfold sgn at h
  simp only [Bool.or_eq_true, beq_iff_eq] at h
  omega
theorem rk_word (t : ByteArray) : rk (1000 + wenc t.data.toList) = 4 ∧ rs (1000 + wenc t.data.toList) = t := by
  constructor
  · unfold rk
    rw [if_neg (by omega), if_neg (by omega), if_neg (by omega), if_neg (by omega), if_neg (fun h => by have := sgn_small h; omega), if_pos (by omega)]
  · unfold rs
    rw [if_neg (by omega), if_neg (by omega), if_neg (by omega), if_pos (by omega), Nat.add_sub_cancel_left, wdF_enc _ _ (by have := wenc_len t.data.toList; omega)]

theorem one_byte {s : ByteArray} {i : Nat} (h : i < s.size) : s.extract i (i + 1) = ⟨#[UInt8.ofNat (byt s i)]⟩ := by
  rw [byt_lt h]
  apply ByteArray.ext
  apply Array.ext
  · simp; omega
  · intro j h1 h2
    have : j = 0 := by simp at h2; omega
    subst this
    simp
    rfl

theorem results_tok {fn : Func} {p u : Tmp} (h : fn.results = #[.cell p 91, .tmp u]) (tmps : Array Value) (w : World) (g : Nat) (x0 x1 x2 x3 : Value)
    (hp : tmps.getD p undef = .pointer (some ⟨g, 0, none⟩)) (hg : Blk w g #[x0, x1, x2, x3] 91) :
    (results fn tmps).run Tryz.prog w = .ok (.tuple #[.agg #[x0, x1, x2, x3], tmps.getD u undef]) w := by
  rw [results_cell_tmp h, hp]
  simp [asAddr, run_loadVar_row (P := Tryz.prog) w g 91 91 #[x0, x1, x2, x3] (0, 0) _ hg Tryz.underlying91 rfl (by kernel_rfl)]
theorem retTok {a b c d a' b' c' d' : Int} {s s' : ByteArray} (h1 : a = a') (h2 : b = b') (h3 : c = c') (hs : s = s') (h4 : d = d') : Ending.returned (.tuple #[.agg #[.int .i64 a, .int .i64 b, .int .i64 c, .string s], .int .i64 d]) = Ending.returned (.tuple #[.agg #[.int .i64 a', .int .i64 b', .int .i64 c', .string s'], .int .i64 d']) := by subst h1 h2 h3 h4 hs; rfl

set_option maxHeartbeats 1000000 in
theorem number_any (s : ByteArray) (i : Nat) (a : Int) (w : World) (ha : a = i) (hs : s.size ≤ 1000) (hd : isD s i = true) :
    Calls Tryz.prog 52 #[.string s, .int .i64 a] w fun e w' => e = .returned (.tuple #[.agg #[.int .i64 1, .int .i64 (tokAt s i).at', .int .i64 (tokAt s i).v, .string ⟨#[]⟩], .int .i64 (tokAt s i).to]) ∧ Below w.heap.size w w' := by
  subst ha
  have hi := isD_in hd
  have hb := byt_cast hi
  have hD := (isD_iff s i).1 hd
  have ht : byt s i ≠ 256 := by omega
  by_cases h2 : isD s (i + 1) = true
  · have hi2 := isD_in h2
    have hb2 := byt_cast hi2
    have hD2 := (isD_iff s (i + 1)).1 h2
    have HT : Hid (tokAt s i = ⟨1, i, i + 2, 10 * (byt s i - 48) + (byt s (i + 1) - 48)⟩) := by unfold Hid tokAt; rw [if_neg ht, if_pos hd, if_pos h2]
    have hdec : (decide (48 ≤ byt s (i + 1)) && decide (byt s (i + 1) ≤ 57)) = true := h2
    clear hd ht h2
    go_enter Tryz.func52, Tryz.ntmps52
    go_wp2_with (go_at_call 51; refine (rdigit_any (byt s (i + 1)) _ _ (by omega) (by omega)).mono ?_; rintro e w' ⟨rfl, rfl⟩)
    refine bodyPost_ret (results_tok Tryz.results52 _ _ w.heap.size _ _ _ _ (by rfl) (Blk.new w _ _)) rfl ⟨?_, by go_grown⟩
    rw [HT.out]; dsimp only
    exact retTok (by omega) (by omega) (by omega) rfl (by omega)
  · have HT : Hid (tokAt s i = ⟨1, i, i + 1, byt s i - 48⟩) := by unfold Hid tokAt; rw [if_neg ht, if_pos hd, if_neg h2]
    by_cases hi2 : i + 1 < s.size
    · have hb2 := byt_cast hi2
      have hsm := byt_small hi2
      have hdec : (decide (48 ≤ byt s (i + 1)) && decide (byt s (i + 1) ≤ 57)) = false := by
        cases q : (decide (48 ≤ byt s (i + 1)) && decide (byt s (i + 1) ≤ 57)) with
        | false => rfl
        | true => exact absurd q h2
      clear hd ht h2
      go_enter Tryz.func52, Tryz.ntmps52
      go_wp2_with (go_at_call 51; refine (rdigit_any (byt s (i + 1)) _ _ (by omega) (by omega)).mono ?_; rintro e w' ⟨rfl, rfl⟩)
      refine bodyPost_ret (results_tok Tryz.results52 _ _ w.heap.size _ _ _ _ (by rfl) (Blk.new w _ _)) rfl ⟨?_, by go_grown⟩
      rw [HT.out]; dsimp only
      exact retTok (by omega) (by omega) (by omega) rfl (by omega)
    · clear hd ht h2
      go_enter Tryz.func52, Tryz.ntmps52
      go_wp2
      refine bodyPost_ret (results_tok Tryz.results52 _ _ w.heap.size _ _ _ _ (by rfl) (Blk.new w _ _)) rfl ⟨?_, by go_grown⟩
      rw [HT.out]; dsimp only
      exact retTok (by omega) (by omega) (by omega) rfl (by omega)

set_option maxHeartbeats 1000000 in
theorem rpower_any (s : ByteArray) (i : Nat) (a : Int) (w : World) (ha : a = i) (hs : s.size ≤ 1000) (hi : i < s.size) (hx : byt s i = 117 ∨ byt s i = 120) :
    Calls Tryz.prog 53 #[.string s, .int .i64 a] w fun e w' => e = .returned (.tuple #[.agg #[.int .i64 2, .int .i64 (tokAt s i).at', .int .i64 (tokAt s i).v, .string (rs (tokAt s i).c)], .int .i64 (tokAt s i).to]) ∧ Below w.heap.size w w' := by
  subst ha
  have h0 : byt s i ≠ 256 := by omega
  have h1 : ¬ isD s i = true := by rw [isD_iff]; omega
  have HS : Hid (s.extract i (i + 1) = rs (tokAt s i).c) := by
    unfold Hid
    rw [one_byte hi]
    unfold tokAt
    rw [if_neg h0, if_neg h1]
    rcases hx with hx | hx
    · rw [if_pos hx, hx]; split <;> rfl
    · rw [if_neg (by omega), if_pos hx, hx]; split <;> rfl
  by_cases h2 : isD s (i + 1) = true
  · have hi2 := isD_in h2
    have hb2 := byt_cast hi2
    have hD2 := (isD_iff s (i + 1)).1 h2
    have HT : Hid ((tokAt s i).at' = i ∧ (tokAt s i).to = i + 2 ∧ (tokAt s i).v = byt s (i + 1) - 48) := by
      unfold Hid tokAt
      rcases hx with hx | hx <;> simp [h1, h2, hx]
    have hdec : (decide (48 ≤ byt s (i + 1)) && decide (byt s (i + 1) ≤ 57)) = true := h2
    clear h0 h1 hx h2
    go_enter Tryz.func53, Tryz.ntmps53
    go_wp2_with (go_at_call 51; refine (rdigit_any (byt s (i + 1)) _ _ (by omega) (by omega)).mono ?_; rintro e w' ⟨rfl, rfl⟩)
    go_region
    go_wp2
    obtain ⟨e1, e2, e3⟩ := HT.out
    refine bodyPost_ret (results_tok Tryz.results53 _ _ w.heap.size _ _ _ _ (by rfl) (Blk.drew (Blk.new w _ _))) rfl ⟨?_, by go_grown⟩
    rw [e1, e2, e3]
    exact retTok (by omega) (by omega) (by omega) HS.out (by omega)
  · have HT : Hid ((tokAt s i).at' = i ∧ (tokAt s i).to = i + 1 ∧ (tokAt s i).v = 1) := by
      unfold Hid tokAt
      rcases hx with hx | hx <;> simp [h1, h2, hx]
    by_cases hi2 : i + 1 < s.size
    · have hb2 := byt_cast hi2
      have hsm := byt_small hi2
      have hdec : (decide (48 ≤ byt s (i + 1)) && decide (byt s (i + 1) ≤ 57)) = false := by
        cases q : (decide (48 ≤ byt s (i + 1)) && decide (byt s (i + 1) ≤ 57)) with
        | false => rfl
        | true => exact absurd q h2
      clear h0 h1 hx h2
      go_enter Tryz.func53, Tryz.ntmps53
      go_wp2_with (go_at_call 51; refine (rdigit_any (byt s (i + 1)) _ _ (by omega) (by omega)).mono ?_; rintro e w' ⟨rfl, rfl⟩)
      obtain ⟨e1, e2, e3⟩ := HT.out
      refine bodyPost_ret (results_tok Tryz.results53 _ _ w.heap.size _ _ _ _ (by rfl) (Blk.new w _ _)) rfl ⟨?_, by go_grown⟩
      rw [e1, e2, e3]
      exact retTok (by omega) (by omega) (by omega) HS.out (by omega)
    · clear h0 h1 hx h2
      go_enter Tryz.func53, Tryz.ntmps53
      go_wp2
      obtain ⟨e1, e2, e3⟩ := HT.out
      refine bodyPost_ret (results_tok Tryz.results53 _ _ w.heap.size _ _ _ _ (by rfl) (Blk.new w _ _)) rfl ⟨?_, by go_grown⟩
      rw [e1, e2, e3]
      exact retTok (by omega) (by omega) (by omega) HS.out (by omega)
end Go.Proofs.YthlmgpllapccfaaGreatDoor
/- THE DOCUMENT's ANSWER: cut. -/
namespace Go.Proofs.YthlmgpllapccfaaGreatDoor
open Go.RowKit

/-- A token's cells; the first k tokens' cells. -/
def tokL (t : Tok) : List Value := [.int .i64 (rk t.c), .int .i64 t.at', .int .i64 t.v, .string (rs t.c)]
def toksL (s : ByteArray) (a : Nat) : Nat → List Value
  | 0 => []
  | k + 1 => toksL s a k ++ tokL (tk s a k)
theorem toksL_length (s : ByteArray) (a : Nat) : ∀ k, (toksL s a k).length = k * 4
  | 0 => rfl
  | k + 1 => by simp [toksL, toksL_length s a k, tokL]; omega
theorem toksL_get (s : ByteArray) (a : Nat) : ∀ (k j i : Nat), j < k → i < 4 → (toksL s a k)[j * 4 + i]? = (tokL (tk s a j))[i]?
  | 0, _, _, h, _ => by omega
  | k + 1, j, i, h, hi => by
    show (toksL s a k ++ tokL (tk s a k))[j * 4 + i]? = _
    by_cases hj : j < k
    · rw [List.getElem?_append_left (by rw [toksL_length]; omega)]
      exact toksL_get s a k j i hj hi
    · have e : j = k := by omega
      subst e
      rw [List.getElem?_append_right (by rw [toksL_length]; omega), toksL_length]
      congr 1; omega
theorem Token_info : (Tryz.prog.info? 91).map (fun i => (i.zero, i.size, i.bytes)) = some (some (.agg #[.int .i64 0, .int .i64 0, .int .i64 0, .string ⟨#[]⟩]), 4, 40) := by kernel_rfl
theorem tokL_one (t : Tok) : ∀ u ∈ tokL t, u.oneCell' = true := by
  intro u hu
  simp only [tokL, List.mem_cons, List.not_mem_nil, or_false] at hu
  rcases hu with rfl | rfl | rfl | rfl <;> rfl

theorem hideR {p : Prop} (h : p) : Hid p := h
/-- What is owned stays owned where nothing old but one other block has turned. -/
theorem ownsRow_fr {w w' : World} {base : Nat} {e : TypeId} {size : Nat} {v : Value} {n : Nat} {xs : List Value} {c : Nat} (h : w.ownsRow base e size v n xs) (hf : Fr [c] w w') (hc : v.ownBlock ≠ some c) : w'.ownsRow base e size v n xs :=
  h.kept (row := some c) ⟨hf.os, hf.tape, hf.output, hf.size, fun k hk hn => hf.block k hk (by simp; intro q; exact hn (by rw [q]))⟩ (Or.inr hc)
theorem ownsRow_ne {w : World} {base : Nat} {e : TypeId} {size : Nat} {v : Value} {n : Nat} {xs : List Value} (h : w.ownsRow base e size v n xs) {c : Nat} (hc : w.heap.size ≤ c) : v.ownBlock ≠ some c := fun q => by
  have := (h.lt c q).2; omega

set_option maxRecDepth 100000 in
set_option maxHeartbeats 8000000 in
theorem cut_plain (s : ByteArray) (w : World) (hs : s.size ≤ 1000) :
    Calls Tryz.prog 35 #[.string s, .bool false] w fun e w' => ∃ n g cap, e = .returned (.slice (some ⟨g, 0, none⟩) (n + 1) cap) ∧ n ≤ s.size ∧ (∀ j, j < n → (tk s 0 j).c ≠ 0) ∧ (tk s 0 n).c = 0 ∧ w'.ownsRow w.heap.size 91 4 (.slice (some ⟨g, 0, none⟩) (n + 1) cap) (n + 1) (toksL s 0 (n + 1)) ∧ w.heap.size ≤ g ∧ Below w.heap.size w w' := by
  obtain ⟨i0, hi, hz0, hz1, hz2⟩ := info_parts Token_info
  go_enter Tryz.func35, Tryz.ntmps35
  go_wp2
  go_loopg [5, 6] (s.size) (fun m v5 v6 wr => ∃ k i : Nat, m = s.size - i ∧ v6 = .int .i64 i ∧ i ≤ s.size ∧ k ≤ i ∧ Hid (skip s i = skip s (pos s 0 k)) ∧ Hid (∀ j, j < k → (tk s 0 j).c ≠ 0) ∧ wr.ownsRow w.heap.size 91 4 v5 k (toksL s 0 k) ∧ Below w.heap.size w wr)
  case atStart => exact ⟨0, 0, rfl, rfl, by omega, by omega, rfl, fun j hj => by omega, World.ownsRow_nil _ _ _ _, Below.refl _ _⟩
  case round =>
    obtain ⟨k, i, hm, rfl, hi', hki, HS, HC, hown, hbel⟩ := hrel
    by_cases hlt : i < s.size
    · have hb := byt_cast hlt
      have hsm := byt_small hlt
      by_cases hsp : byt s i = 32
      · have H2 : Hid (skip s (i + 1) = skip s (pos s 0 k)) := by unfold Hid; rw [← skip_space hsp]; exact HS.out
        go_wp2
        go_roundg (s.size - (i + 1))
        case measure => omega
        case rel => exact ⟨k, i + 1, rfl, by go_num, by omega, by omega, H2, HC, hown.alloc _, hbel.alloc hbel.size _⟩
      · have hz : byt s i ≠ 256 := by omega
        have HT : Hid (tk s 0 k = tokAt s i) := by unfold Hid tk tok; rw [← HS.out, skip_here hsp]
        by_cases hd : isD s i = true
        · have HD := hideR hd
          have hd' : (decide (48 ≤ byt s i) && decide (byt s i ≤ 57)) = true := hd
          have HK : Hid (rk (tokAt s i).c = 1 ∧ rs (tokAt s i).c = ⟨#[]⟩) := by
            unfold Hid tokAt; rw [if_neg hz, if_pos hd]; split <;> exact ⟨rfl, rfl⟩
          clear hd
          have HF : Hid ((tk s 0 k).to ≤ s.size ∧ i < (tk s 0 k).to ∧ (tk s 0 k).c ≠ 0) := by
            obtain ⟨_, _, f1, _, _, f2, f3⟩ := tokAt_facts hi'
            have f4 : (tokAt s i).c ≠ 0 := fun q => by have := f2.1 q; omega
            unfold Hid; rw [HT.out]; exact ⟨f1, f3 f4, f4⟩

          go_upto_region 19 with (first | (go_at_call 51; refine (rdigit_any (byt s i) _ _ (by omega) (by omega)).mono ?_; rintro e w' ⟨rfl, rfl⟩) | (go_at_call 52; refine (number_any s i _ _ (by omega) (by omega) HD.out).mono ?_; rintro e w1 ⟨rfl, hb1⟩; obtain ⟨hc1, hf1⟩ := bcell hb1))
          refine wp_forget (fun W => Blk W wr.heap.size #[.int .i64 (rk (tk s 0 k).c), .int .i64 (tk s 0 k).at', .int .i64 (tk s 0 k).v, .string (rs (tk s 0 k).c)] 91 ∧ W.ownsRow w.heap.size 91 4 u5 k (toksL s 0 k) ∧ Below w.heap.size w W) ?_ ?_
          · have hf8 : Fr [] (wr.alloc (.cells #[.int .i64 5, .int .i64 i, .int .i64 0, .string ⟨#[]⟩] 91)) w1 := Fr.of_below hb1
            have b8 : Blk w1 wr.heap.size #[.int .i64 5, .int .i64 i, .int .i64 0, .string ⟨#[]⟩] 91 := Blk.fr (Blk.new wr _ _) hf8 (by simp)
            refine ⟨?_, ?_, ?_⟩
            · rw [HT.out, HK.out.1, HK.out.2]
              exact Blk.store4 b8 _ _ _ _
            · refine ownsRow_fr (c := wr.heap.size) (hown.alloc (.cells #[.int .i64 5, .int .i64 i, .int .i64 0, .string ⟨#[]⟩] 91)) ?_ (ownsRow_ne hown (Nat.le_refl _))
              repeat (refine Fr.setCell ?_ _ _ (by simp))
              exact hf8.mono (by simp)
            · repeat (refine Below.setCell ?_ hbel.size _)
              exact (hbel.alloc hbel.size _).trans (hb1.mono (by have := hbel.size; simp; omega))
          rintro W ⟨b8, hownW, hbelW⟩
          have k0 : W.cell? ⟨wr.heap.size, 0, none⟩ = some (.int .i64 (rk (tk s 0 k).c)) := b8.cell 0
          have k1 : W.cell? ⟨wr.heap.size, 1, none⟩ = some (.int .i64 (tk s 0 k).at') := b8.cell 1
          have k2 : W.cell? ⟨wr.heap.size, 2, none⟩ = some (.int .i64 (tk s 0 k).v) := b8.cell 2
          have k3 : W.cell? ⟨wr.heap.size, 3, none⟩ = some (.string (rs (tk s 0 k).c)) := b8.cell 3
          have HOWN := hideR hownW
          have HBEL := hideR hbelW
          clear b8 hownW hbelW hown hbel
          go_wp2_with (at_builtin; refine wpList_append_lies _ (by rfl) (.tmp 86) (.tmp 88) 86 (by rfl) w.heap.size 91 i0 _ 4 40 Tryz.underlying86 hi hz0 hz1 hz2 (by rfl) (by decide) _ k (toksL s 0 k) (by rfl) (by exact HOWN.out.alloc _) ⟨W.heap.size, 0, none⟩ 1 1 (tokL (tk s 0 k)) (by rfl) (by rfl) (by exact World.news_of_block (Blk.new W _ _)) (tokL_one _) (by decide) (by unfold maxLen; omega) (by omega) (by have := HBEL.out.size; simp; omega) _ rfl ?_; intro g cap w1 hown1 hgrow hat hlt1)
          go_roundg (s.size - (tk s 0 k).to)
          case measure => have := HF.out.2.1; omega
          case rel =>
            have hq := HOWN.out
            refine ⟨k + 1, (tk s 0 k).to, rfl, (by rw [HT.out]), HF.out.1, (by have := HF.out.2.1; omega), rfl, ?_, hown1, ?_⟩
            · intro j hj
              by_cases q : j < k
              · exact HC.out j q
              · have e : j = k := by omega
                subst e; exact HF.out.2.2
            · exact (HBEL.out.alloc (by have := HBEL.out.size; omega) _).grown hgrow (by have := HBEL.out.size; simp; omega) (fun b hb => (hq.lt b hb).1)
        · have hd' : (decide (48 ≤ byt s i) && decide (byt s i ≤ 57)) = false := by
            cases q : (decide (48 ≤ byt s i) && decide (byt s i ≤ 57)) with
            | false => rfl
            | true => exact absurd q hd
          by_cases hux : byt s i = 117 ∨ byt s i = 120
          · have HK : Hid (rk (tokAt s i).c = 2) := by
              unfold Hid tokAt; rw [if_neg hz, if_neg hd]
              rcases hux with q | q
              · rw [if_pos q]; split <;> rfl
              · rw [if_neg (by omega), if_pos q]; split <;> rfl
            have HU := hideR hux
            clear hd
            rcases hux with hu | hu
            all_goals
              have HF : Hid ((tk s 0 k).to ≤ s.size ∧ i < (tk s 0 k).to ∧ (tk s 0 k).c ≠ 0) := by
                obtain ⟨_, _, f1, _, _, f2, f3⟩ := tokAt_facts hi'
                have f4 : (tokAt s i).c ≠ 0 := fun q => by have := f2.1 q; omega
                unfold Hid; rw [HT.out]; exact ⟨f1, f3 f4, f4⟩

              go_upto_region 19 with (first | (go_at_call 51; refine (rdigit_any (byt s i) _ _ (by omega) (by omega)).mono ?_; rintro e w' ⟨rfl, rfl⟩) | (go_at_call 53; refine (rpower_any s i _ _ (by omega) (by omega) hlt HU.out).mono ?_; rintro e w1 ⟨rfl, hb1⟩; obtain ⟨hc1, hf1⟩ := bcell hb1))
              refine wp_forget (fun W => Blk W wr.heap.size #[.int .i64 (rk (tk s 0 k).c), .int .i64 (tk s 0 k).at', .int .i64 (tk s 0 k).v, .string (rs (tk s 0 k).c)] 91 ∧ W.ownsRow w.heap.size 91 4 u5 k (toksL s 0 k) ∧ Below w.heap.size w W) ?_ ?_
              · have hf8 : Fr [] (wr.alloc (.cells #[.int .i64 5, .int .i64 i, .int .i64 0, .string ⟨#[]⟩] 91)) w1 := Fr.of_below hb1
                have b8 : Blk w1 wr.heap.size #[.int .i64 5, .int .i64 i, .int .i64 0, .string ⟨#[]⟩] 91 := Blk.fr (Blk.new wr _ _) hf8 (by simp)
                refine ⟨?_, ?_, ?_⟩
                · rw [HT.out, HK.out]
                  exact Blk.store4 b8 _ _ _ _
                · refine ownsRow_fr (c := wr.heap.size) (hown.alloc (.cells #[.int .i64 5, .int .i64 i, .int .i64 0, .string ⟨#[]⟩] 91)) ?_ (ownsRow_ne hown (Nat.le_refl _))
                  repeat (refine Fr.setCell ?_ _ _ (by simp))
                  exact hf8.mono (by simp)
                · repeat (refine Below.setCell ?_ hbel.size _)
                  exact (hbel.alloc hbel.size _).trans (hb1.mono (by have := hbel.size; simp; omega))
              rintro W ⟨b8, hownW, hbelW⟩
              have k0 : W.cell? ⟨wr.heap.size, 0, none⟩ = some (.int .i64 (rk (tk s 0 k).c)) := b8.cell 0
              have k1 : W.cell? ⟨wr.heap.size, 1, none⟩ = some (.int .i64 (tk s 0 k).at') := b8.cell 1
              have k2 : W.cell? ⟨wr.heap.size, 2, none⟩ = some (.int .i64 (tk s 0 k).v) := b8.cell 2
              have k3 : W.cell? ⟨wr.heap.size, 3, none⟩ = some (.string (rs (tk s 0 k).c)) := b8.cell 3
              have HOWN := hideR hownW
              have HBEL := hideR hbelW
              clear b8 hownW hbelW hown hbel
              go_wp2_with (at_builtin; refine wpList_append_lies _ (by rfl) (.tmp 86) (.tmp 88) 86 (by rfl) w.heap.size 91 i0 _ 4 40 Tryz.underlying86 hi hz0 hz1 hz2 (by rfl) (by decide) _ k (toksL s 0 k) (by rfl) (by exact HOWN.out.alloc _) ⟨W.heap.size, 0, none⟩ 1 1 (tokL (tk s 0 k)) (by rfl) (by rfl) (by exact World.news_of_block (Blk.new W _ _)) (tokL_one _) (by decide) (by unfold maxLen; omega) (by omega) (by have := HBEL.out.size; simp; omega) _ rfl ?_; intro g cap w1 hown1 hgrow hat hlt1)
              go_roundg (s.size - (tk s 0 k).to)
              case measure => have := HF.out.2.1; omega
              case rel =>
                have hq := HOWN.out
                refine ⟨k + 1, (tk s 0 k).to, rfl, (by rw [HT.out]), HF.out.1, (by have := HF.out.2.1; omega), rfl, ?_, hown1, ?_⟩
                · intro j hj
                  by_cases q : j < k
                  · exact HC.out j q
                  · have e : j = k := by omega
                    subst e; exact HF.out.2.2
                · exact (HBEL.out.alloc (by have := HBEL.out.size; omega) _).grown hgrow (by have := HBEL.out.size; simp; omega) (fun b hb => (hq.lt b hb).1)
          · have hu : byt s i ≠ 117 := by omega
            have hx : byt s i ≠ 120 := by omega
            have qu : ((byt s i : Int) == 117) = false := by rw [beq_eq_false_iff_ne]; omega
            have qx : ((byt s i : Int) == 120) = false := by rw [beq_eq_false_iff_ne]; omega
            have HA : Hid (tokAt s i = ⟨byt s i + 4, i, i + 1, 0⟩) := by unfold Hid tokAt; rw [if_neg hz, if_neg hd, if_neg hu, if_neg hx]
            by_cases hname : 65 ≤ byt s i ∧ byt s i ≤ 90
            · obtain ⟨hn1, hn2⟩ := hname
              have HX : Hid (s.extract i (i + 1) = ⟨#[UInt8.ofNat (byt s i)]⟩) := one_byte hlt
              have HF : Hid ((tk s 0 k).to ≤ s.size ∧ i < (tk s 0 k).to ∧ (tk s 0 k).c ≠ 0) := by unfold Hid; rw [HT.out, HA.out]; refine ⟨?_, ?_, ?_⟩ <;> dsimp only <;> omega
              have HK : Hid (rk (byt s i + 4) = 3 ∧ rs (byt s i + 4) = s.extract i (i + 1)) := by
                unfold Hid rk rs
                rw [if_neg (by omega), if_neg (by omega), if_neg (by omega), if_pos (by omega), if_neg (by omega), if_neg (by omega), if_pos (by omega), HX.out]; exact ⟨rfl, rfl⟩
              clear hd hux hu hx
              go_upto_region 19 with ((go_at_call 51; refine (rdigit_any (byt s i) _ _ (by omega) (by omega)).mono ?_; rintro e w' ⟨rfl, rfl⟩))
              refine wp_forget (fun W => Blk W wr.heap.size #[.int .i64 (rk (tk s 0 k).c), .int .i64 (tk s 0 k).at', .int .i64 (tk s 0 k).v, .string (rs (tk s 0 k).c)] 91 ∧ W.ownsRow w.heap.size 91 4 u5 k (toksL s 0 k) ∧ Below w.heap.size w W) ?_ ?_
              · refine ⟨?_, hown.alloc _, hbel.alloc hbel.size _⟩
                rw [HT.out, HA.out]; dsimp only
                rw [HK.out.1, HK.out.2]
                exact Blk.new wr _ _
              rintro W ⟨b8, hownW, hbelW⟩
              have k0 : W.cell? ⟨wr.heap.size, 0, none⟩ = some (.int .i64 (rk (tk s 0 k).c)) := b8.cell 0
              have k1 : W.cell? ⟨wr.heap.size, 1, none⟩ = some (.int .i64 (tk s 0 k).at') := b8.cell 1
              have k2 : W.cell? ⟨wr.heap.size, 2, none⟩ = some (.int .i64 (tk s 0 k).v) := b8.cell 2
              have k3 : W.cell? ⟨wr.heap.size, 3, none⟩ = some (.string (rs (tk s 0 k).c)) := b8.cell 3
              have HOWN := hideR hownW
              have HBEL := hideR hbelW
              clear b8 hownW hbelW hown hbel
              go_wp2_with (at_builtin; refine wpList_append_lies _ (by rfl) (.tmp 86) (.tmp 88) 86 (by rfl) w.heap.size 91 i0 _ 4 40 Tryz.underlying86 hi hz0 hz1 hz2 (by rfl) (by decide) _ k (toksL s 0 k) (by rfl) (by exact HOWN.out.alloc _) ⟨W.heap.size, 0, none⟩ 1 1 (tokL (tk s 0 k)) (by rfl) (by rfl) (by exact World.news_of_block (Blk.new W _ _)) (tokL_one _) (by decide) (by unfold maxLen; omega) (by omega) (by have := HBEL.out.size; simp; omega) _ rfl ?_; intro g cap w1 hown1 hgrow hat hlt1)
              go_roundg (s.size - (tk s 0 k).to)
              case measure => have := HF.out.2.1; omega
              case rel =>
                have hq := HOWN.out
                refine ⟨k + 1, (tk s 0 k).to, rfl, (by rw [HT.out, HA.out]; go_num), HF.out.1, (by have := HF.out.2.1; omega), rfl, ?_, hown1, ?_⟩
                · intro j hj
                  by_cases q : j < k
                  · exact HC.out j q
                  · have e : j = k := by omega
                    subst e; exact HF.out.2.2
                · exact (HBEL.out.alloc (by have := HBEL.out.size; omega) _).grown hgrow (by have := HBEL.out.size; simp; omega) (fun b hb => (hq.lt b hb).1)
            · by_cases hsg : sgn (byt s i) = true
              · have HF : Hid ((tk s 0 k).to ≤ s.size ∧ i < (tk s 0 k).to ∧ (tk s 0 k).c ≠ 0) := by unfold Hid; rw [HT.out, HA.out]; refine ⟨?_, ?_, ?_⟩ <;> dsimp only <;> omega
                have HK : Hid (rk (byt s i + 4) = (byt s i : Int) ∧ rs (byt s i + 4) = ⟨#[]⟩) := by
                  unfold Hid rk rs
                  rw [if_neg (by omega), if_neg (by omega), if_neg (by omega), if_neg (by omega), Nat.add_sub_cancel, if_pos hsg, if_neg (by omega), if_neg (by omega), if_neg (by omega), if_neg (by omega)]; exact ⟨rfl, rfl⟩
                have hnn : byt s i < 65 ∨ 90 < byt s i := by omega
                clear hd hux hu hx hname
                rcases hnn with hnn | hnn
                all_goals
                  go_upto_region 19 with (first | (go_at_call 51; refine (rdigit_any (byt s i) _ _ (by omega) (by omega)).mono ?_; rintro e w' ⟨rfl, rfl⟩) | (go_at_call 54; refine (sign_any (byt s i) _ _ (by omega) (by omega)).mono ?_; rintro e w' ⟨rfl, rfl⟩))
                  refine wp_forget (fun W => Blk W wr.heap.size #[.int .i64 (rk (tk s 0 k).c), .int .i64 (tk s 0 k).at', .int .i64 (tk s 0 k).v, .string (rs (tk s 0 k).c)] 91 ∧ W.ownsRow w.heap.size 91 4 u5 k (toksL s 0 k) ∧ Below w.heap.size w W) ?_ ?_
                  · refine ⟨?_, hown.alloc _, hbel.alloc hbel.size _⟩
                    rw [HT.out, HA.out]; dsimp only
                    rw [HK.out.1, HK.out.2]
                    exact Blk.new wr _ _
                  rintro W ⟨b8, hownW, hbelW⟩
                  have k0 : W.cell? ⟨wr.heap.size, 0, none⟩ = some (.int .i64 (rk (tk s 0 k).c)) := b8.cell 0
                  have k1 : W.cell? ⟨wr.heap.size, 1, none⟩ = some (.int .i64 (tk s 0 k).at') := b8.cell 1
                  have k2 : W.cell? ⟨wr.heap.size, 2, none⟩ = some (.int .i64 (tk s 0 k).v) := b8.cell 2
                  have k3 : W.cell? ⟨wr.heap.size, 3, none⟩ = some (.string (rs (tk s 0 k).c)) := b8.cell 3
                  have HOWN := hideR hownW
                  have HBEL := hideR hbelW
                  clear b8 hownW hbelW hown hbel
                  go_wp2_with (at_builtin; refine wpList_append_lies _ (by rfl) (.tmp 86) (.tmp 88) 86 (by rfl) w.heap.size 91 i0 _ 4 40 Tryz.underlying86 hi hz0 hz1 hz2 (by rfl) (by decide) _ k (toksL s 0 k) (by rfl) (by exact HOWN.out.alloc _) ⟨W.heap.size, 0, none⟩ 1 1 (tokL (tk s 0 k)) (by rfl) (by rfl) (by exact World.news_of_block (Blk.new W _ _)) (tokL_one _) (by decide) (by unfold maxLen; omega) (by omega) (by have := HBEL.out.size; simp; omega) _ rfl ?_; intro g cap w1 hown1 hgrow hat hlt1)
                  go_roundg (s.size - (tk s 0 k).to)
                  case measure => have := HF.out.2.1; omega
                  case rel =>
                    have hq := HOWN.out
                    refine ⟨k + 1, (tk s 0 k).to, rfl, (by rw [HT.out, HA.out]; go_num), HF.out.1, (by have := HF.out.2.1; omega), rfl, ?_, hown1, ?_⟩
                    · intro j hj
                      by_cases q : j < k
                      · exact HC.out j q
                      · have e : j = k := by omega
                        subst e; exact HF.out.2.2
                    · exact (HBEL.out.alloc (by have := HBEL.out.size; omega) _).grown hgrow (by have := HBEL.out.size; simp; omega) (fun b hb => (hq.lt b hb).1)
                
              · have hsg' : sgn (byt s i) = false := by simpa using hsg
                have HF : Hid ((tk s 0 k).to ≤ s.size ∧ i < (tk s 0 k).to ∧ (tk s 0 k).c ≠ 0) := by unfold Hid; rw [HT.out, HA.out]; refine ⟨?_, ?_, ?_⟩ <;> dsimp only <;> omega
                have HK : Hid (rk (byt s i + 4) = 5 ∧ rs (byt s i + 4) = ⟨#[]⟩) := by
                  unfold Hid rk rs
                  rw [if_neg (by omega), if_neg (by omega), if_neg (by omega), if_neg (by omega), Nat.add_sub_cancel, if_neg hsg, if_neg (by omega), if_neg (by omega), if_neg (by omega), if_neg (by omega), if_neg (by omega)]; exact ⟨rfl, rfl⟩
                have hnn : byt s i < 65 ∨ 90 < byt s i := by omega
                clear hd hux hu hx hname hsg
                rcases hnn with hnn | hnn
                all_goals
                  go_upto_region 19 with (first | (go_at_call 51; refine (rdigit_any (byt s i) _ _ (by omega) (by omega)).mono ?_; rintro e w' ⟨rfl, rfl⟩) | (go_at_call 54; refine (sign_any (byt s i) _ _ (by omega) (by omega)).mono ?_; rintro e w' ⟨rfl, rfl⟩))
                  refine wp_forget (fun W => Blk W wr.heap.size #[.int .i64 (rk (tk s 0 k).c), .int .i64 (tk s 0 k).at', .int .i64 (tk s 0 k).v, .string (rs (tk s 0 k).c)] 91 ∧ W.ownsRow w.heap.size 91 4 u5 k (toksL s 0 k) ∧ Below w.heap.size w W) ?_ ?_
                  · refine ⟨?_, hown.alloc _, hbel.alloc hbel.size _⟩
                    rw [HT.out, HA.out]; dsimp only
                    rw [HK.out.1, HK.out.2]
                    exact Blk.new wr _ _
                  rintro W ⟨b8, hownW, hbelW⟩
                  have k0 : W.cell? ⟨wr.heap.size, 0, none⟩ = some (.int .i64 (rk (tk s 0 k).c)) := b8.cell 0
                  have k1 : W.cell? ⟨wr.heap.size, 1, none⟩ = some (.int .i64 (tk s 0 k).at') := b8.cell 1
                  have k2 : W.cell? ⟨wr.heap.size, 2, none⟩ = some (.int .i64 (tk s 0 k).v) := b8.cell 2
                  have k3 : W.cell? ⟨wr.heap.size, 3, none⟩ = some (.string (rs (tk s 0 k).c)) := b8.cell 3
                  have HOWN := hideR hownW
                  have HBEL := hideR hbelW
                  clear b8 hownW hbelW hown hbel
                  go_wp2_with (at_builtin; refine wpList_append_lies _ (by rfl) (.tmp 86) (.tmp 88) 86 (by rfl) w.heap.size 91 i0 _ 4 40 Tryz.underlying86 hi hz0 hz1 hz2 (by rfl) (by decide) _ k (toksL s 0 k) (by rfl) (by exact HOWN.out.alloc _) ⟨W.heap.size, 0, none⟩ 1 1 (tokL (tk s 0 k)) (by rfl) (by rfl) (by exact World.news_of_block (Blk.new W _ _)) (tokL_one _) (by decide) (by unfold maxLen; omega) (by omega) (by have := HBEL.out.size; simp; omega) _ rfl ?_; intro g cap w1 hown1 hgrow hat hlt1)
                  go_roundg (s.size - (tk s 0 k).to)
                  case measure => have := HF.out.2.1; omega
                  case rel =>
                    have hq := HOWN.out
                    refine ⟨k + 1, (tk s 0 k).to, rfl, (by rw [HT.out, HA.out]; go_num), HF.out.1, (by have := HF.out.2.1; omega), rfl, ?_, hown1, ?_⟩
                    · intro j hj
                      by_cases q : j < k
                      · exact HC.out j q
                      · have e : j = k := by omega
                        subst e; exact HF.out.2.2
                    · exact (HBEL.out.alloc (by have := HBEL.out.size; omega) _).grown hgrow (by have := HBEL.out.size; simp; omega) (fun b hb => (hq.lt b hb).1)
                
    · have hz := byt_ge hlt
      have ei : i = s.size := by omega
      have HT : Hid (tk s 0 k = ⟨0, i, i, 0⟩) := by
        unfold Hid tk tok; rw [← HS.out, skip_here (by omega)]; unfold tokAt; rw [if_pos hz]
      have HL : Hid (tokL (tk s 0 k) = [.int .i64 6, .int .i64 (s.size : Nat), .int .i64 0, .string ⟨#[]⟩]) := by
        unfold Hid; rw [HT.out, ei]; rfl
      have HOWN := hideR hown
      have HBEL := hideR hbel
      have HEI := hideR ei
      clear hown hbel ei
      go_wp2_with (at_builtin; refine wpList_append_lies _ (by rfl) (.tmp 91) (.tmp 95) 86 (by rfl) w.heap.size 91 i0 _ 4 40 Tryz.underlying86 hi hz0 hz1 hz2 (by rfl) (by decide) _ k (toksL s 0 k) (by rfl) (by exact HOWN.out.alloc _) ⟨wr.heap.size, 0, none⟩ 1 1 (tokL (tk s 0 k)) (by rfl) (by rfl) (by rw [HL.out]; exact World.news_of_block (Blk.new wr _ _)) (tokL_one _) (by decide) (by unfold maxLen; omega) (by omega) (by have := HBEL.out.size; simp; omega) _ rfl ?_; intro g cap w1 hown1 hgrow hat hlt1)
      go_ret
      have hb1 : Below w.heap.size w w1 := (HBEL.out.alloc HBEL.out.size _).grown hgrow (by have := HBEL.out.size; simp; omega) (fun b hb => (HOWN.out.lt b hb).1)
      refine ⟨k, g, cap, rfl, by omega, HC.out, ?_, hown1, ?_, hb1⟩
      · rw [HT.out]
      · exact (hown1.lt g rfl).1
end Go.Proofs.YthlmgpllapccfaaGreatDoor
