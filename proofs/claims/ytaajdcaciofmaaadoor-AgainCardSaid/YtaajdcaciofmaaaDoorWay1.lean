/- THE DOCUMENT's ANSWER: the way in memory; wrong, next, passes, end. -/
import Derived.Test.YtaajdcaciofmaaaDoorRef3
namespace Go.Proofs.YtaajdcaciofmaaaDoor
open Go.RowKit

/-- The way: its tokens (n in block g), where it stands, what is wrong and where, how many are open. -/
def Wy (w : World) (b g n cap : Nat) (k : Nat) (e bad op : Int) : Prop := Blk w b #[.slice (some ⟨g, 0, none⟩) n cap, .int .i64 k, .int .i64 e, .int .i64 bad, .int .i64 op] 70
theorem Wy.cells {w : World} {b g n cap k : Nat} {e bad op : Int} (h : Wy w b g n cap k e bad op) : w.cell? ⟨b, 0, none⟩ = some (.slice (some ⟨g, 0, none⟩) n cap) ∧ w.cell? ⟨b, 1, none⟩ = some (.int .i64 k) ∧ w.cell? ⟨b, 2, none⟩ = some (.int .i64 e) ∧ w.cell? ⟨b, 3, none⟩ = some (.int .i64 bad) ∧ w.cell? ⟨b, 4, none⟩ = some (.int .i64 op) :=
  ⟨Blk.cell h 0, Blk.cell h 1, Blk.cell h 2, Blk.cell h 3, Blk.cell h 4⟩
theorem Wy.free {w : World} {b g n cap k : Nat} {e bad op : Int} (h : Wy w b g n cap k e bad op) : w.frozen? ⟨b, 0, none⟩ = false ∧ w.frozen? ⟨b, 1, none⟩ = false ∧ w.frozen? ⟨b, 2, none⟩ = false ∧ w.frozen? ⟨b, 3, none⟩ = false ∧ w.frozen? ⟨b, 4, none⟩ = false :=
  ⟨Blk.frozen h 0, Blk.frozen h 1, Blk.frozen h 2, Blk.frozen h 3, Blk.frozen h 4⟩

/-- The tokens in memory. -/
def Tk (w : World) (g n : Nat) (f : Nat → Tok) : Prop := g < w.heap.size ∧ ∀ k, k < n → ∀ i, i < 4 → w.cell? ⟨g, k * 4 + i, none⟩ = (tokL (f k))[i]?
theorem Tk.cells {w : World} {g n : Nat} {f : Nat → Tok} (h : Tk w g n f) {k : Nat} (hk : k < n) : w.cell? ⟨g, k * 4, none⟩ = some (.int .i64 (rk (f k).c)) ∧ w.cell? ⟨g, k * 4 + 1, none⟩ = some (.int .i64 (f k).at') ∧ w.cell? ⟨g, k * 4 + 2, none⟩ = some (.int .i64 (f k).v) ∧ w.cell? ⟨g, k * 4 + 3, none⟩ = some (.string (rs (f k).c)) :=
  ⟨h.2 k hk 0 (by omega), h.2 k hk 1 (by omega), h.2 k hk 2 (by omega), h.2 k hk 3 (by omega)⟩
theorem Tk.fr {bs : List Nat} {w w' : World} {g n : Nat} {f : Nat → Tok} (h : Tk w g n f) (hf : Fr bs w w') (hn : g ∉ bs) : Tk w' g n f :=
  ⟨Nat.lt_of_lt_of_le h.1 hf.size, fun k hk i hi => by rw [hf.cell _ h.1 hn]; exact h.2 k hk i hi⟩
theorem Tk.of_owns {w : World} {base g n cap : Nat} {s : ByteArray} {a : Nat} (h : w.ownsRow base 103 4 (.slice (some ⟨g, 0, none⟩) n cap) n (toksL s a n)) : Tk w g n (tk s a) := by
  have hg : (Value.slice (some ⟨g, 0, none⟩) n cap).ownBlock = some g := rfl
  refine ⟨(h.lt g hg).2, fun k hk i hi => ?_⟩
  have e := toksL_get s a n k i hk hi
  have hc := h.cells hg (k * 4 + i)
  rw [Addr.add_mid, Nat.zero_add] at hc
  cases q : (tokL (tk s a k))[i]? with
  | none => simp [tokL] at q; omega
  | some u => exact hc u (by rw [e]; exact q)

set_option maxHeartbeats 400000 in
theorem wrong_first (b g n cap k : Nat) (e0 at0 bad op : Int) (w : World) (h : Wy w b g n cap k 0 bad op) :
    Calls Tryd.prog 59 #[.pointer (some ⟨b, 0, none⟩), .int .i64 e0, .int .i64 at0] w fun e w' => e = .returned (.tuple #[]) ∧ Wy w' b g n cap k e0 at0 op ∧ Fr [b] w w' := by
  obtain ⟨c0, c1, c2, c3, c4⟩ := h.cells
  obtain ⟨f0, f1, f2, f3, f4⟩ := h.free
  have H := hideR h
  clear h
  go_enter Tryd.func59, Tryd.ntmps59
  go_wp2
  go_end0
  exact ⟨rfl, Blk.set (Blk.set H.out 2 _) 3 _, ((Fr.refl [b] w).setCell _ _ (by simp)).setCell _ _ (by simp)⟩
set_option maxHeartbeats 400000 in
theorem wrong_later (b g n cap k : Nat) (e0 at0 x bad op : Int) (w : World) (h : Wy w b g n cap k x bad op) (hx : x ≠ 0) :
    Calls Tryd.prog 59 #[.pointer (some ⟨b, 0, none⟩), .int .i64 e0, .int .i64 at0] w fun e w' => e = .returned (.tuple #[]) ∧ w' = w := by
  obtain ⟨c0, c1, c2, c3, c4⟩ := h.cells
  have q : (x == 0) = false := by rw [beq_eq_false_iff_ne]; exact hx
  clear hx h
  go_enter Tryd.func59, Tryd.ntmps59
  go_wp2
  go_end0
  exact ⟨rfl, rfl⟩

set_option maxRecDepth 100000 in
set_option maxHeartbeats 1000000 in
theorem next_any (b g n cap k : Nat) (f : Nat → Tok) (x bad op : Int) (w : World) (h : Wy w b g n cap k x bad op) (ht : Tk w g n f) (hk : k < n) (_hn : n ≤ 2000) :
    Calls Tryd.prog 70 #[.pointer (some ⟨b, 0, none⟩)] w fun e w' => e = .returned (.agg #[.int .i64 (rk (f k).c), .int .i64 (f k).at', .int .i64 (f k).v, .string (rs (f k).c)]) ∧ Below w.heap.size w w' := by
  have hb : b < w.heap.size := Blk.lt h
  have hg := ht.1
  have i0 : (0 : Int) ≤ (k : Int) := by omega
  have i1 : (k : Int) < (n : Int) := by omega
  have HW := hideR h
  have HT := hideR ht
  clear h ht
  go_enter Tryd.func70, Tryd.ntmps70
  go_wp2
  refine wp_forget (fun W => Wy W b g n cap k x bad op ∧ Tk W g n f ∧ Blk W w.heap.size #[.int .i64 0, .int .i64 0, .int .i64 0, .string ⟨#[]⟩] 103 ∧ Below w.heap.size w W) ⟨Blk.alloc HW.out _, HT.out.fr ((Fr.refl [] w).alloc _) (by simp), Blk.new w _ _, by go_grown⟩ ?_
  rintro W ⟨hw, ht, hr, hbel⟩
  obtain ⟨c0, c1, c2, c3, c4⟩ := hw.cells
  obtain ⟨d0, d1, d2, d3⟩ := ht.cells hk
  obtain ⟨r0, r1, r2, r3⟩ : W.cell? ⟨w.heap.size, 0, none⟩ = some (.int .i64 0) ∧ W.cell? ⟨w.heap.size, 1, none⟩ = some (.int .i64 0) ∧ W.cell? ⟨w.heap.size, 2, none⟩ = some (.int .i64 0) ∧ W.cell? ⟨w.heap.size, 3, none⟩ = some (.string ⟨#[]⟩) := ⟨hr.cell 0, hr.cell 1, hr.cell 2, hr.cell 3⟩
  have z0 := hr.frozen 0
  have z1 := hr.frozen 1
  have z2 := hr.frozen 2
  have z3 := hr.frozen 3
  have HR := hideR hr
  clear hw ht hr
  refine region_quiet_tail 10 (by kernel_rfl) (by kernel_rfl) ?_
  simp only [List.take_succ_cons, List.take_zero, List.drop_succ_cons, List.drop_zero]
  repeat (first | go_big_quiet_step ((fail)) | quiet_step ((fail)))
  refine wpQuiet_nil ?_
  rintro _ ⟨nq, rfl⟩
  go_wp2
  refine bodyPost_ret (results_cell_row Tryd.results70 _ _ w.heap.size 103 #[.int .i64 (rk (f k).c), .int .i64 (f k).at', .int .i64 (f k).v, .string (rs (f k).c)] (0, 0) _ (by rfl) (Blk.store4 (by exact HR.out) _ _ _ _) Tryd.underlying103 rfl (by kernel_rfl)) rfl ⟨rfl, ?_⟩
  exact Below.setCell (Below.setCell (Below.setCell (Below.setCell (below_drewN hbel nq) (Nat.le_refl _) _) (Nat.le_refl _) _) (Nat.le_refl _) _) (Nat.le_refl _) _
end Go.Proofs.YtaajdcaciofmaaaDoor
