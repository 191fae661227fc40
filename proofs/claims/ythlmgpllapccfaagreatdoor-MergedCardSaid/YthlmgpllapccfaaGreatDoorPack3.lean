import Derived.Test.YthlmgpllapccfaaGreatDoorPack2
import Derived.Lib.Join
import Derived.Lib.ItoaNum
/- THE DOCUMENT's ANSWER: the way in memory; wrong, next, passes, end. -/
namespace Go.Proofs.YthlmgpllapccfaaGreatDoor
open Go.RowKit

/-- The way: its tokens (n in block g), where it stands, what is wrong and where, how many are open. -/
def Wy (w : World) (b g n cap : Nat) (k : Nat) (e bad op : Int) : Prop := Blk w b #[.slice (some ⟨g, 0, none⟩) n cap, .int .i64 k, .int .i64 e, .int .i64 bad, .int .i64 op] 89
theorem Wy.cells {w : World} {b g n cap k : Nat} {e bad op : Int} (h : Wy w b g n cap k e bad op) : w.cell? ⟨b, 0, none⟩ = some (.slice (some ⟨g, 0, none⟩) n cap) ∧ w.cell? ⟨b, 1, none⟩ = some (.int .i64 k) ∧ w.cell? ⟨b, 2, none⟩ = some (.int .i64 e) ∧ w.cell? ⟨b, 3, none⟩ = some (.int .i64 bad) ∧ w.cell? ⟨b, 4, none⟩ = some (.int .i64 op) :=
  ⟨Blk.cell h 0, Blk.cell h 1, Blk.cell h 2, Blk.cell h 3, Blk.cell h 4⟩
theorem Wy.free {w : World} {b g n cap k : Nat} {e bad op : Int} (h : Wy w b g n cap k e bad op) : w.frozen? ⟨b, 0, none⟩ = false ∧ w.frozen? ⟨b, 1, none⟩ = false ∧ w.frozen? ⟨b, 2, none⟩ = false ∧ w.frozen? ⟨b, 3, none⟩ = false ∧ w.frozen? ⟨b, 4, none⟩ = false :=
  ⟨Blk.frozen h 0, Blk.frozen h 1, Blk.frozen h 2, Blk.frozen h 3, Blk.frozen h 4⟩

/-- The tokens in memory. -/
def Tk (w : World) (g n : Nat) (f : Nat → Tok) : Prop := g < w.heap.size ∧ ∀ k, k < n → ∀ i, i < 4 → w.cell? ⟨g, k * 4 + i, none⟩ = (tokL (f k))[i]?
theorem Tk.cells {w : World} {g n : Nat} {f : Nat → Tok} (h : Tk w g n f) {k : Nat} (hk : k < n) : w.cell? ⟨g, k * 4, none⟩ = some (.int .i64 (rk (f k).c)) ∧ w.cell? ⟨g, k * 4 + 1, none⟩ = some (.int .i64 (f k).at') ∧ w.cell? ⟨g, k * 4 + 2, none⟩ = some (.int .i64 (f k).v) ∧ w.cell? ⟨g, k * 4 + 3, none⟩ = some (.string (rs (f k).c)) :=
  ⟨h.2 k hk 0 (by omega), h.2 k hk 1 (by omega), h.2 k hk 2 (by omega), h.2 k hk 3 (by omega)⟩
theorem Tk.fr {bs : List Nat} {w w' : World} {g n : Nat} {f : Nat → Tok} (h : Tk w g n f) (hf : Fr bs w w') (hn : g ∉ bs) : Tk w' g n f :=
  ⟨Nat.lt_of_lt_of_le h.1 hf.size, fun k hk i hi => by rw [hf.cell _ h.1 hn]; exact h.2 k hk i hi⟩
theorem Tk.of_owns {w : World} {base g n cap : Nat} {s : ByteArray} {a : Nat} (h : w.ownsRow base 91 4 (.slice (some ⟨g, 0, none⟩) n cap) n (toksL s a n)) : Tk w g n (tk s a) := by
  have hg : (Value.slice (some ⟨g, 0, none⟩) n cap).ownBlock = some g := rfl
  refine ⟨(h.lt g hg).2, fun k hk i hi => ?_⟩
  have e := toksL_get s a n k i hk hi
  have hc := h.cells hg (k * 4 + i)
  rw [Addr.add_mid, Nat.zero_add] at hc
  cases q : (tokL (tk s a k))[i]? with
  | none => simp [tokL] at q; omega
  | some u => exact hc u (by rw [e]; exact q)

set_option maxHeartbeats 400000 in
theorem wrong_first (b g n cap k : Nat) (e0 at0 bad op : Int) (w : World) (h : Wy w b g n cap k 0 bad op) :
    Calls Tryz.prog 64 #[.pointer (some ⟨b, 0, none⟩), .int .i64 e0, .int .i64 at0] w fun e w' => e = .returned (.tuple #[]) ∧ Wy w' b g n cap k e0 at0 op ∧ Fr [b] w w' := by
  obtain ⟨c0, c1, c2, c3, c4⟩ := h.cells
  obtain ⟨f0, f1, f2, f3, f4⟩ := h.free
  have H := hideR h
  clear h
  go_enter Tryz.func64, Tryz.ntmps64
  go_wp2
  go_end0
  exact ⟨rfl, Blk.set (Blk.set H.out 2 _) 3 _, ((Fr.refl [b] w).setCell _ _ (by simp)).setCell _ _ (by simp)⟩
set_option maxHeartbeats 400000 in
theorem wrong_later (b g n cap k : Nat) (e0 at0 x bad op : Int) (w : World) (h : Wy w b g n cap k x bad op) (hx : x ≠ 0) :
    Calls Tryz.prog 64 #[.pointer (some ⟨b, 0, none⟩), .int .i64 e0, .int .i64 at0] w fun e w' => e = .returned (.tuple #[]) ∧ w' = w := by
  obtain ⟨c0, c1, c2, c3, c4⟩ := h.cells
  have q : (x == 0) = false := by rw [beq_eq_false_iff_ne]; exact hx
  clear hx h
  go_enter Tryz.func64, Tryz.ntmps64
  go_wp2
  go_end0
  exact ⟨rfl, rfl⟩

set_option maxRecDepth 100000 in
set_option maxHeartbeats 1000000 in
theorem next_any (b g n cap k : Nat) (f : Nat → Tok) (x bad op : Int) (w : World) (h : Wy w b g n cap k x bad op) (ht : Tk w g n f) (hk : k < n) (_hn : n ≤ 2000) :
    Calls Tryz.prog 36 #[.pointer (some ⟨b, 0, none⟩)] w fun e w' => e = .returned (.agg #[.int .i64 (rk (f k).c), .int .i64 (f k).at', .int .i64 (f k).v, .string (rs (f k).c)]) ∧ Below w.heap.size w w' := by
  have hb : b < w.heap.size := Blk.lt h
  have hg := ht.1
  have i0 : (0 : Int) ≤ (k : Int) := by omega
  have i1 : (k : Int) < (n : Int) := by omega
  have HW := hideR h
  have HT := hideR ht
  clear h ht
  go_enter Tryz.func36, Tryz.ntmps36
  go_wp2
  refine wp_forget (fun W => Wy W b g n cap k x bad op ∧ Tk W g n f ∧ Blk W w.heap.size #[.int .i64 0, .int .i64 0, .int .i64 0, .string ⟨#[]⟩] 91 ∧ Below w.heap.size w W) ⟨Blk.alloc HW.out _, HT.out.fr ((Fr.refl [] w).alloc _) (by simp), Blk.new w _ _, by go_grown⟩ ?_
  rintro W ⟨hw, ht, hr, hbel⟩
  obtain ⟨c0, c1, c2, c3, c4⟩ := hw.cells
  obtain ⟨d0, d1, d2, d3⟩ := ht.cells hk
  obtain ⟨r0, r1, r2, r3⟩ : W.cell? ⟨w.heap.size, 0, none⟩ = some (.int .i64 0) ∧ W.cell? ⟨w.heap.size, 1, none⟩ = some (.int .i64 0) ∧ W.cell? ⟨w.heap.size, 2, none⟩ = some (.int .i64 0) ∧ W.cell? ⟨w.heap.size, 3, none⟩ = some (.string ⟨#[]⟩) := ⟨hr.cell 0, hr.cell 1, hr.cell 2, hr.cell 3⟩
  have z0 := hr.frozen 0
  have z1 := hr.frozen 1
  have z2 := hr.frozen 2
  have z3 := hr.frozen 3
  have HR := hideR hr
  clear hw ht hr
  refine region_quiet_tail 10 (by kernel_rfl) (by kernel_rfl) ?_
  simp only [List.take_succ_cons, List.take_zero, List.drop_succ_cons, List.drop_zero]
  repeat (first | go_big_quiet_step ((fail)) | quiet_step ((fail)))
  refine wpQuiet_nil ?_
  rintro _ ⟨nq, rfl⟩
  go_wp2
  refine bodyPost_ret (results_cell_row Tryz.results36 _ _ w.heap.size 91 #[.int .i64 (rk (f k).c), .int .i64 (f k).at', .int .i64 (f k).v, .string (rs (f k).c)] (0, 0) _ (by rfl) (Blk.store4 (by exact HR.out) _ _ _ _) Tryz.underlying91 rfl (by kernel_rfl)) rfl ⟨rfl, ?_⟩
  exact Below.setCell (Below.setCell (Below.setCell (Below.setCell (below_drewN hbel nq) (Nat.le_refl _) _) (Nat.le_refl _) _) (Nat.le_refl _) _) (Nat.le_refl _) _
end Go.Proofs.YthlmgpllapccfaaGreatDoor
/- THE DOCUMENT's ANSWER: passes, end. -/
namespace Go.Proofs.YthlmgpllapccfaaGreatDoor
open Go.RowKit

theorem Fr.drewN {bs : List Nat} {a w : World} (h : Fr bs a w) (n : Nat) : Fr bs a (w.drewN n) := ⟨h.os, h.tape, h.output, h.size, h.block⟩

set_option maxRecDepth 100000 in
set_option maxHeartbeats 1000000 in
theorem passes_later (b g n cap k : Nat) (c x bad op : Int) (w : World) (h : Wy w b g n cap k x bad op) (hx : x ≠ 0) :
    Calls Tryz.prog 65 #[.pointer (some ⟨b, 0, none⟩), .int .u8 c] w fun e w' => e = .returned (.bool false) ∧ Wy w' b g n cap k x bad op ∧ Fr [b] w w' := by
  obtain ⟨c0, c1, c2, c3, c4⟩ := h.cells
  have q : (x != 0) = true := by rw [bne_iff_ne]; exact hx
  have H := hideR h
  clear hx h
  go_enter Tryz.func65, Tryz.ntmps65
  go_wp2
  go_quiet (fail)
  go_wp2
  go_ret
  exact ⟨rfl, H.out, (Fr.refl [b] w).drewN _⟩

set_option maxRecDepth 100000 in
set_option maxHeartbeats 1000000 in
theorem passes_no (b g n cap k : Nat) (f : Nat → Tok) (c bad op : Int) (w : World) (h : Wy w b g n cap k 0 bad op) (ht : Tk w g n f) (hk : k < n) (_hn : n ≤ 2000) (hc0 : 0 ≤ c) (hc1 : c ≤ 255) (hne : rk (f k).c ≠ c) :
    Calls Tryz.prog 65 #[.pointer (some ⟨b, 0, none⟩), .int .u8 c] w fun e w' => e = .returned (.bool false) ∧ Wy w' b g n cap k 0 bad op ∧ Fr [b] w w' := by
  obtain ⟨c0, c1, c2, c3, c4⟩ := h.cells
  obtain ⟨d0, d1, d2, d3⟩ := ht.cells hk
  have q : (rk (f k).c != c) = true := by rw [bne_iff_ne]; exact hne
  have i0 : (0 : Int) ≤ (k : Int) := by omega
  have i1 : (k : Int) < (n : Int) := by omega
  have H := hideR h
  clear hne h ht
  go_enter Tryz.func65, Tryz.ntmps65
  go_wp2
  go_quiet (fail)
  go_wp2
  go_ret
  exact ⟨rfl, H.out, (Fr.refl [b] w).drewN _⟩

set_option maxRecDepth 100000 in
set_option maxHeartbeats 1000000 in
theorem passes_yes (b g n cap k : Nat) (f : Nat → Tok) (c bad op : Int) (w : World) (h : Wy w b g n cap k 0 bad op) (ht : Tk w g n f) (hk : k < n) (_hn : n ≤ 2000) (hc0 : 0 ≤ c) (hc1 : c ≤ 255) (he : rk (f k).c = c) :
    Calls Tryz.prog 65 #[.pointer (some ⟨b, 0, none⟩), .int .u8 c] w fun e w' => e = .returned (.bool true) ∧ Wy w' b g n cap (k + 1) 0 bad op ∧ Fr [b] w w' := by
  obtain ⟨c0, c1, c2, c3, c4⟩ := h.cells
  obtain ⟨f0, f1, f2, f3, f4⟩ := h.free
  obtain ⟨d0, d1, d2, d3⟩ := ht.cells hk
  rw [he] at d0
  have i0 : (0 : Int) ≤ (k : Int) := by omega
  have i1 : (k : Int) < (n : Int) := by omega
  have H := hideR h
  clear he h ht
  go_enter Tryz.func65, Tryz.ntmps65
  go_wp2
  go_quiet (fail)
  go_wp2
  go_ret
  refine ⟨rfl, ?_, ((Fr.refl [b] w).drewN _).setCell _ _ (by simp)⟩
  have e : (((k + 1 : Nat) : Int)) = (k : Int) + 1 := by omega
  unfold Wy
  rw [e]
  exact Blk.set (by exact H.out) 1 _

set_option maxRecDepth 100000 in
set_option maxHeartbeats 1000000 in
theorem wend_ok (b g n cap k : Nat) (f : Nat → Tok) (x bad op : Int) (w : World) (h : Wy w b g n cap k x bad op) (ht : Tk w g n f) (hk : k < n) (_hn : n ≤ 2000) (he : rk (f k).c = 6) :
    Calls Tryz.prog 42 #[.pointer (some ⟨b, 0, none⟩)] w fun e w' => e = .returned (.tuple #[]) ∧ Wy w' b g n cap k x bad op ∧ Fr [b] w w' := by
  obtain ⟨c0, c1, c2, c3, c4⟩ := h.cells
  obtain ⟨d0, d1, d2, d3⟩ := ht.cells hk
  rw [he] at d0
  have i0 : (0 : Int) ≤ (k : Int) := by omega
  have i1 : (k : Int) < (n : Int) := by omega
  have H := hideR h
  clear he h ht
  go_enter Tryz.func42, Tryz.ntmps42
  go_wp2
  go_quiet (fail)
  go_wp2
  go_end0
  exact ⟨rfl, H.out, (Fr.refl [b] w).drewN _⟩

set_option maxRecDepth 100000 in
set_option maxHeartbeats 1000000 in
theorem wend_first (b g n cap k : Nat) (f : Nat → Tok) (bad op : Int) (w : World) (h : Wy w b g n cap k 0 bad op) (ht : Tk w g n f) (hk : k < n) (_hn : n ≤ 2000) (he : rk (f k).c ≠ 6) :
    Calls Tryz.prog 42 #[.pointer (some ⟨b, 0, none⟩)] w fun e w' => e = .returned (.tuple #[]) ∧ Wy w' b g n cap k 4 (f k).at' op ∧ Fr [b] w w' := by
  obtain ⟨c0, c1, c2, c3, c4⟩ := h.cells
  obtain ⟨d0, d1, d2, d3⟩ := ht.cells hk
  have q : (rk (f k).c != 6) = true := by rw [bne_iff_ne]; exact he
  have i0 : (0 : Int) ≤ (k : Int) := by omega
  have i1 : (k : Int) < (n : Int) := by omega
  have H := hideR h
  clear he h ht
  go_enter Tryz.func42, Tryz.ntmps42
  go_wp2
  go_quiet (fail)
  go_wp2
  refine region_quiet_tail 12 (by kernel_rfl) (by kernel_rfl) ?_
  simp only [List.take_succ_cons, List.take_zero, List.drop_succ_cons, List.drop_zero]
  repeat (first | go_big_quiet_step ((fail)) | quiet_step ((fail)))
  refine wpQuiet_nil ?_
  rintro _ ⟨nr, rfl⟩
  go_wp2_with fail
  refine (wrong_first b g n cap k _ _ bad op _ (by exact H.out)).mono ?_
  rintro e w1 ⟨rfl, h1, hf1⟩
  go_wp2
  go_end0
  exact ⟨rfl, h1, ((Fr.refl [b] w).drewN _).trans hf1 (by simp)⟩

set_option maxRecDepth 100000 in
set_option maxHeartbeats 1000000 in
theorem wend_later (b g n cap k : Nat) (f : Nat → Tok) (x bad op : Int) (w : World) (h : Wy w b g n cap k x bad op) (ht : Tk w g n f) (hk : k < n) (_hn : n ≤ 2000) (hx : x ≠ 0) :
    Calls Tryz.prog 42 #[.pointer (some ⟨b, 0, none⟩)] w fun e w' => e = .returned (.tuple #[]) ∧ Wy w' b g n cap k x bad op ∧ Fr [b] w w' := by
  by_cases he : rk (f k).c = 6
  · exact wend_ok b g n cap k f x bad op w h ht hk _hn he
  obtain ⟨c0, c1, c2, c3, c4⟩ := h.cells
  obtain ⟨d0, d1, d2, d3⟩ := ht.cells hk
  have q : (rk (f k).c != 6) = true := by rw [bne_iff_ne]; exact he
  have i0 : (0 : Int) ≤ (k : Int) := by omega
  have i1 : (k : Int) < (n : Int) := by omega
  have H := hideR h
  have HX := hideR hx
  clear he h ht hx
  go_enter Tryz.func42, Tryz.ntmps42
  go_wp2
  go_quiet (fail)
  go_wp2
  refine region_quiet_tail 12 (by kernel_rfl) (by kernel_rfl) ?_
  simp only [List.take_succ_cons, List.take_zero, List.drop_succ_cons, List.drop_zero]
  repeat (first | go_big_quiet_step ((fail)) | quiet_step ((fail)))
  refine wpQuiet_nil ?_
  rintro _ ⟨nr, rfl⟩
  go_wp2_with fail
  refine (wrong_later b g n cap k _ _ x bad op _ (by exact H.out) HX.out).mono ?_
  rintro e w1 ⟨rfl, rfl⟩
  go_wp2
  go_end0
  exact ⟨rfl, H.out, (Fr.refl [b] w).drewN _⟩
end Go.Proofs.YthlmgpllapccfaaGreatDoor
/- THE DOCUMENT's ANSWER: term. -/
namespace Go.Proofs.YthlmgpllapccfaaGreatDoor
open Go.RowKit

theorem rk_two {c : Nat} (h : c = 2 ∨ c = 3) : rk c = 2 := by rcases h with rfl | rfl <;> rfl
theorem rk_one {c : Nat} (h : c = 1) : rk c = 1 := by subst h; rfl
theorem sgn_big {c : Nat} (h : sgn c = true) : 38 ≤ c ∧ c ≤ 126 := by
  unfold sgn at h
  simp only [Bool.or_eq_true, beq_iff_eq] at h
  omega
theorem rk_not1 {c : Nat} (h : c ≠ 1) : rk c ≠ 1 := by
  unfold rk
  repeat' split
  all_goals first | omega | (rename_i q; have := sgn_big q; omega)
theorem rk_not2 {c : Nat} (h2 : c ≠ 2) (h3 : c ≠ 3) : rk c ≠ 2 := by
  unfold rk
  repeat' split
  all_goals first | omega | (rename_i q; have := sgn_big q; omega)
theorem rk_end {c : Nat} : rk c = 6 ↔ c = 0 := by
  unfold rk
  repeat' split
  all_goals first | omega | (rename_i q; have := sgn_big q; omega)

/-- What the reading of powers and the sum of a term end in. -/
def TermEnd (b g n cap c : Nat) (p : List Nat) (R : PwR) (a : Nat) (bad op : Int) (w w' : World) : Prop :=
  (R.e = 0 ∧ Wy w' b g n cap R.k 0 bad op ∧ Blk w' c (pv (plus p R.u R.x a)) 116 ∧ R.k < n ∧ Fr [b, c] w w') ∨ (R.e ≠ 0 ∧ (∃ k', k' < n ∧ Wy w' b g n cap k' R.e R.bad op) ∧ Blk w' c (pv p) 116 ∧ Fr [b, c] w w')
theorem Blk.cells4 {w : World} {n : Nat} {x0 x1 x2 x3 : Value} {t : TypeId} (h : Blk w n #[x0, x1, x2, x3] t) : w.cell? ⟨n, 0, none⟩ = some x0 ∧ w.cell? ⟨n, 1, none⟩ = some x1 ∧ w.cell? ⟨n, 2, none⟩ = some x2 ∧ w.cell? ⟨n, 3, none⟩ = some x3 := ⟨h.cell 0, h.cell 1, h.cell 2, h.cell 3⟩
theorem Blk.free4 {w : World} {n : Nat} {cs : Array Value} {t : TypeId} (h : Blk w n cs t) : w.frozen? ⟨n, 0, none⟩ = false ∧ w.frozen? ⟨n, 1, none⟩ = false ∧ w.frozen? ⟨n, 2, none⟩ = false ∧ w.frozen? ⟨n, 3, none⟩ = false := ⟨h.frozen 0, h.frozen 1, h.frozen 2, h.frozen 3⟩
theorem rs_two : rs 2 = ⟨#[117]⟩ := rfl
theorem rs_three : rs 3 = ⟨#[120]⟩ := rfl

set_option maxRecDepth 100000 in
set_option maxHeartbeats 8000000 in
theorem wterm_power (f : Nat → Tok) (N b g n cap c k : Nat) (p : List Nat) (sg : Nat) (bare : Bool) (bad op : Int) (w : World) (h : Wy w b g n cap k 0 bad op) (ht : Tk w g n f) (hp : Blk w c (pv p) 116) (hgp : Good p)
    (hk : k < n) (hn : n ≤ N + 1) (hN : N ≤ 1000) (hend : ∀ j, j < n → (f j).c ≠ 0 → j + 1 < n) (hv : ∀ j, (f j).v ≤ 99) (hsg : sg ≤ 6) (hbg : b ≠ g) (hbc : b ≠ c) (hgc : g ≠ c) (hc : (f k).c = 2 ∨ (f k).c = 3) :
    Calls Tryz.prog 89 #[.pointer (some ⟨b, 0, none⟩), .pointer (some ⟨c, 0, none⟩), .int .i64 sg, .bool bare] w fun e w' => e = .returned (.tuple #[]) ∧ TermEnd b g n cap c p (pw f bare (N - k) k 0 0) (sg * 1) bad op w w' := by
  have hb : b < w.heap.size := Blk.lt h
  have hcl : c < w.heap.size := Blk.lt hp
  have hg := ht.1
  have HW := hideR h
  have HT := hideR ht
  have HPP := hideR hp
  have hrk := rk_two hc
  generalize hR : pw f bare (N - k) k 0 0 = R
  have HP : Hid (pw f bare (N - k) k 0 0 = R) := hR
  have HA : Hid ((sg : Int) = ((sg * 1 : Nat) : Int)) := by unfold Hid; simp
  clear h ht hp hR hc
  go_enter Tryz.func89, Tryz.ntmps89
  go_wp2_with fail
  refine (next_any b g n cap k f 0 bad op _ HW.out HT.out hk (by omega)).mono ?_
  rintro e w1 ⟨rfl, hb1⟩
  rw [hrk]
  clear hrk
  have hz1 := hb1.size
  have hf1 : Fr [b, c] w w1 := Fr.of_below hb1
  have hw1 : Wy w1 b g n cap k 0 bad op := Blk.fr HW.out (Fr.of_below (bs := []) hb1) (by simp)
  have hp1 : Blk w1 c (pv p) 116 := HPP.out.fr (Fr.of_below (bs := []) hb1) (by simp)
  have nbd : ¬ b = w1.heap.size := by omega
  have ncd : ¬ c = w1.heap.size := by omega
  have ndb : ¬ w1.heap.size = b := by omega
  have HF1 := hideR hf1
  have HW1 := hideR hw1
  have HP1 := hideR hp1
  clear hf1 hw1 hp1 hb1
  go_wp2
  go_loopg [9, 10] (N - k) (fun m v9 v10 wr => ∃ (k' u x : Nat) (y0 y1 y2 : Int) (y3 : ByteArray), m = N - k' ∧ v9 = .int .i64 u ∧ v10 = .int .i64 x ∧ u ≤ 6 ∧ x ≤ 4 ∧ k' < n ∧ Wy wr b g n cap k' 0 bad op ∧ Blk wr c (pv p) 116 ∧ Blk wr w1.heap.size #[.int .i64 y0, .int .i64 y1, .int .i64 y2, .string y3] 91 ∧ Fr [b, c] w wr ∧ Hid (pw f bare (N - k') k' u x = R))
  case atStart => exact ⟨k, 0, 0, _, _, _, _, rfl, rfl, rfl, by omega, by omega, hk, Blk.alloc HW1.out _, Blk.alloc HP1.out _, Blk.new w1 _ _, HF1.out.alloc _, HP⟩
  case round =>
    obtain ⟨k', u, x, y0, y1, y2, y3, hm, rfl, rfl, hu, hx, hk', hw, hpb, ht8, hfw, HQ⟩ := hrel
    have hT : Tk wr g n f := HT.out.fr hfw (by simp; omega)
    obtain ⟨c0, c1, c2, c3, c4⟩ := hw.cells
    obtain ⟨f0, f1, f2, f3, f4⟩ := hw.free
    obtain ⟨t0, t1, t2, t3⟩ := ht8.cells4
    obtain ⟨z0, z1, z2, z3⟩ := ht8.free4
    obtain ⟨d0, d1, d2, d3⟩ := hT.cells hk'
    have hvk := hv k'
    have i0 : (0 : Int) ≤ (k' : Int) := by omega
    have i1 : (k' : Int) < (n : Int) := by omega
    have HWr := hideR hw
    have HPr := hideR hpb
    have HDr := hideR ht8
    clear hw hpb ht8 hT
    by_cases h2 : (f k').c = 2
    · have hlt : k' + 1 < n := hend k' hk' (by omega)
      rw [rk_two (Or.inl h2)] at d0
      rw [h2, rs_two] at d3
      have H2 := hideR h2
      clear h2
      by_cases hle : u + (f k').v ≤ 6
      · go_wp2
        go_quiet (fail)
        go_wp2
        refine region_quiet_tail 10 (by kernel_rfl) (by kernel_rfl) ?_
        simp only [List.take_succ_cons, List.take_zero, List.drop_succ_cons, List.drop_zero]
        repeat (first | go_big_quiet_step ((fail)) | quiet_step ((fail)))
        refine wpQuiet_nil ?_
        rintro _ ⟨nr, rfl⟩
        go_wp2
        go_roundg (N - (k' + 1))
        case measure => omega
        case rel =>
          refine ⟨k' + 1, u + (f k').v, x, 2, (f k').at', (f k').v, ⟨#[117]⟩, rfl, by go_num, by go_num, hle, hx, hlt, ?_, ?_, ?_, ?_, ?_⟩
          · have e : (((k' + 1 : Nat) : Int)) = (k' : Int) + 1 := by omega
            unfold Wy; rw [e]
            refine Blk.set (cs := #[.slice (some ⟨g, 0, none⟩) n cap, .int .i64 k', .int .i64 0, .int .i64 bad, .int .i64 op]) ?_ 1 _
            repeat (refine Blk.setOther ?_ _ _ nbd)
            exact HWr.out
          · exact Blk.setOther (Blk.setOther (Blk.setOther (Blk.setOther (Blk.setOther (by exact HPr.out) _ _ ncd) _ _ ncd) _ _ ncd) _ _ ncd) _ _ (Ne.symm hbc)
          · exact Blk.setOther (Blk.store4 (by exact HDr.out) _ _ _ _) _ _ (Ne.symm nbd)
          · exact Fr.setCell (Fr.setCell (Fr.setCell (Fr.setCell (Fr.setCell (hfw.drewN _) _ _ (by simp; omega)) _ _ (by simp; omega)) _ _ (by simp; omega)) _ _ (by simp; omega)) _ _ (by simp)
          · unfold Hid
            rw [← HQ.out, pw_u (by omega) H2.out hle]; congr 1
      · have HB : Hid (R = ⟨5, (f k').at', k', u, x⟩) := by unfold Hid; rw [← HQ.out, pw_u_bad (by omega) H2.out hle]
        go_wp2
        go_quiet (fail)
        go_wp2
        refine region_quiet_tail 10 (by kernel_rfl) (by kernel_rfl) ?_
        simp only [List.take_succ_cons, List.take_zero, List.drop_succ_cons, List.drop_zero]
        repeat (first | go_big_quiet_step ((fail)) | quiet_step ((fail)))
        refine wpQuiet_nil ?_
        rintro _ ⟨nr, rfl⟩
        go_wp2_with fail
        refine (wrong_first b g n cap k' _ _ bad op _ (by exact Blk.setOther (Blk.setOther (Blk.setOther (Blk.setOther (by exact HWr.out) _ _ nbd) _ _ nbd) _ _ nbd) _ _ nbd)).mono ?_
        rintro e w5 ⟨rfl, h5, hf5⟩
        go_wp2
        first | go_end0 | refine bodyPost_ret (results_none rfl _ _ _) rfl ?_
        refine ⟨rfl, Or.inr ⟨?_, ⟨k', hk', ?_⟩, ?_, ?_⟩⟩
        · rw [HB.out]; simp
        · rw [HB.out]; exact h5
        · exact Blk.fr (Blk.setOther (Blk.setOther (Blk.setOther (Blk.setOther (by exact HPr.out) _ _ ncd) _ _ ncd) _ _ ncd) _ _ ncd) hf5 (by simp; exact Ne.symm hbc)
        · exact (Fr.setCell (Fr.setCell (Fr.setCell (Fr.setCell (hfw.drewN _) _ _ (by simp; omega)) _ _ (by simp; omega)) _ _ (by simp; omega)) _ _ (by simp; omega)).trans hf5 (by simp)
    · by_cases h3 : (f k').c = 3
      · have hlt : k' + 1 < n := hend k' hk' (by omega)
        rw [rk_two (Or.inr h3)] at d0
        rw [h3, rs_three] at d3
        have H3 := hideR h3
        clear h3 h2
        cases bare
        · by_cases hle : x + (f k').v ≤ 4
          · go_wp2
            go_quiet (fail)
            go_wp2
            refine region_quiet_tail 10 (by kernel_rfl) (by kernel_rfl) ?_
            simp only [List.take_succ_cons, List.take_zero, List.drop_succ_cons, List.drop_zero]
            repeat (first | go_big_quiet_step ((fail)) | quiet_step ((fail)))
            refine wpQuiet_nil ?_
            rintro _ ⟨nr, rfl⟩
            go_wp2
            go_roundg (N - (k' + 1))
            case measure => omega
            case rel =>
              refine ⟨k' + 1, u, x + (f k').v, 2, (f k').at', (f k').v, ⟨#[120]⟩, rfl, by go_num, by go_num, hu, hle, hlt, ?_, ?_, ?_, ?_, ?_⟩
              · have e : (((k' + 1 : Nat) : Int)) = (k' : Int) + 1 := by omega
                unfold Wy; rw [e]
                refine Blk.set (cs := #[.slice (some ⟨g, 0, none⟩) n cap, .int .i64 k', .int .i64 0, .int .i64 bad, .int .i64 op]) ?_ 1 _
                repeat (refine Blk.setOther ?_ _ _ nbd)
                exact HWr.out
              · exact Blk.setOther (Blk.setOther (Blk.setOther (Blk.setOther (Blk.setOther (by exact HPr.out) _ _ ncd) _ _ ncd) _ _ ncd) _ _ ncd) _ _ (Ne.symm hbc)
              · exact Blk.setOther (Blk.store4 (by exact HDr.out) _ _ _ _) _ _ (Ne.symm nbd)
              · exact Fr.setCell (Fr.setCell (Fr.setCell (Fr.setCell (Fr.setCell (hfw.drewN _) _ _ (by simp; omega)) _ _ (by simp; omega)) _ _ (by simp; omega)) _ _ (by simp; omega)) _ _ (by simp)
              · unfold Hid
                rw [← HQ.out, pw_x (by omega) H3.out hle]; congr 1
          · have HB : Hid (R = ⟨5, (f k').at', k', u, x⟩) := by unfold Hid; rw [← HQ.out, pw_x_bad (by omega) H3.out hle]
            go_wp2
            go_quiet (fail)
            go_wp2
            refine region_quiet_tail 10 (by kernel_rfl) (by kernel_rfl) ?_
            simp only [List.take_succ_cons, List.take_zero, List.drop_succ_cons, List.drop_zero]
            repeat (first | go_big_quiet_step ((fail)) | quiet_step ((fail)))
            refine wpQuiet_nil ?_
            rintro _ ⟨nr, rfl⟩
            go_wp2_with fail
            refine (wrong_first b g n cap k' _ _ bad op _ (by exact Blk.setOther (Blk.setOther (Blk.setOther (Blk.setOther (by exact HWr.out) _ _ nbd) _ _ nbd) _ _ nbd) _ _ nbd)).mono ?_
            rintro e w5 ⟨rfl, h5, hf5⟩
            go_wp2
            first | go_end0 | refine bodyPost_ret (results_none rfl _ _ _) rfl ?_
            refine ⟨rfl, Or.inr ⟨?_, ⟨k', hk', ?_⟩, ?_, ?_⟩⟩
            · rw [HB.out]; simp
            · rw [HB.out]; exact h5
            · exact Blk.fr (Blk.setOther (Blk.setOther (Blk.setOther (Blk.setOther (by exact HPr.out) _ _ ncd) _ _ ncd) _ _ ncd) _ _ ncd) hf5 (by simp; exact Ne.symm hbc)
            · exact (Fr.setCell (Fr.setCell (Fr.setCell (Fr.setCell (hfw.drewN _) _ _ (by simp; omega)) _ _ (by simp; omega)) _ _ (by simp; omega)) _ _ (by simp; omega)).trans hf5 (by simp)
        · have HB : Hid (R = ⟨7, (f k').at', k', u, x⟩) := by unfold Hid; rw [← HQ.out, pw_x_bare (by omega) H3.out]
          go_wp2
          go_quiet (fail)
          go_wp2
          refine region_quiet_tail 10 (by kernel_rfl) (by kernel_rfl) ?_
          simp only [List.take_succ_cons, List.take_zero, List.drop_succ_cons, List.drop_zero]
          repeat (first | go_big_quiet_step ((fail)) | quiet_step ((fail)))
          refine wpQuiet_nil ?_
          rintro _ ⟨nr, rfl⟩
          go_wp2_with fail
          refine (wrong_first b g n cap k' _ _ bad op _ (by exact Blk.setOther (Blk.setOther (Blk.setOther (Blk.setOther (by exact HWr.out) _ _ nbd) _ _ nbd) _ _ nbd) _ _ nbd)).mono ?_
          rintro e w5 ⟨rfl, h5, hf5⟩
          go_wp2
          first | go_end0 | refine bodyPost_ret (results_none rfl _ _ _) rfl ?_
          refine ⟨rfl, Or.inr ⟨?_, ⟨k', hk', ?_⟩, ?_, ?_⟩⟩
          · rw [HB.out]; simp
          · rw [HB.out]; exact h5
          · exact Blk.fr (Blk.setOther (Blk.setOther (Blk.setOther (Blk.setOther (by exact HPr.out) _ _ ncd) _ _ ncd) _ _ ncd) _ _ ncd) hf5 (by simp; exact Ne.symm hbc)
          · exact (Fr.setCell (Fr.setCell (Fr.setCell (Fr.setCell (hfw.drewN _) _ _ (by simp; omega)) _ _ (by simp; omega)) _ _ (by simp; omega)) _ _ (by simp; omega)).trans hf5 (by simp)
      · have q2 : (rk (f k').c == 2) = false := by rw [beq_eq_false_iff_ne]; exact rk_not2 h2 h3
        have HB : Hid (R = ⟨0, 0, k', u, x⟩) := by unfold Hid; rw [← HQ.out, pw_end h2 h3]
        have hx0 : (0 : Int) ≤ (x : Int) := by omega
        have hx1 : (x : Int) < 5 := by omega
        have hu0 : (0 : Int) ≤ (u : Int) := by omega
        have hu1 : (u : Int) < 7 := by omega
        have hq : x * 7 + u < p.length := by rw [hgp.1]; omega
        have hcell := pv_get hq
        have hv7 := hgp.2 (x * 7 + u)
        have HV : Hid (plus p u x (sg * 1) = p.set (x * 7 + u) ((p.getD (x * 7 + u) 0 + (sg * 1)) % 7)) := by unfold Hid plus; rw [Nat.mul_comm 7 x]
        generalize p.getD (x * 7 + u) 0 = v at *
        have e3 : wr.cell? ⟨c, x * 7 + u, none⟩ = some (.int .i64 v) := by rw [HPr.out.cell]; exact hcell
        have e4 : wr.frozen? ⟨c, x * 7 + u, none⟩ = false := HPr.out.frozen _
        clear h2 h3 hcell
        go_wp2
        go_quiet (fail)
        go_wp2
        refine region_quiet_tail 16 (by kernel_rfl) (by kernel_rfl) ?_
        simp only [List.take_succ_cons, List.take_zero, List.drop_succ_cons, List.drop_zero]
        repeat (first | go_big_quiet_step ((fail)) | quiet_step ((fail)))
        refine wpQuiet_nil ?_
        rintro _ ⟨nr, rfl⟩
        go_wp2
        go_end0
        refine ⟨rfl, Or.inl ⟨?_, ?_, ?_, ?_, ?_⟩⟩
        · rw [HB.out]
        · rw [HB.out]; exact Blk.setOther (by exact HWr.out) _ _ hbc
        · rw [HB.out]; dsimp only; rw [HV.out]; exact Blk.putN (by exact HPr.out) _ _ _ (by have := HA.out; omega)
        · rw [HB.out]; exact hk'
        · exact Fr.setCell (hfw.drewN _) _ _ (by simp)
end Go.Proofs.YthlmgpllapccfaaGreatDoor
/- THE DOCUMENT's ANSWER: term, with a number. -/
namespace Go.Proofs.YthlmgpllapccfaaGreatDoor
open Go.RowKit

set_option maxRecDepth 100000 in
set_option maxHeartbeats 8000000 in
theorem wterm_number (f : Nat → Tok) (N b g n cap c k : Nat) (p : List Nat) (sg : Nat) (bare : Bool) (bad op : Int) (w : World) (h : Wy w b g n cap k 0 bad op) (ht : Tk w g n f) (hp : Blk w c (pv p) 116) (hgp : Good p)
    (hk : k < n) (hn : n ≤ N + 1) (hN : N ≤ 1000) (hend : ∀ j, j < n → (f j).c ≠ 0 → j + 1 < n) (hv : ∀ j, (f j).v ≤ 99) (hsg : sg ≤ 6) (hbg : b ≠ g) (hbc : b ≠ c) (hgc : g ≠ c) (hc : (f k).c = 1) :
    Calls Tryz.prog 89 #[.pointer (some ⟨b, 0, none⟩), .pointer (some ⟨c, 0, none⟩), .int .i64 sg, .bool bare] w fun e w' => e = .returned (.tuple #[]) ∧ TermEnd b g n cap c p (pw f bare (N - (k + 1)) (k + 1) 0 0) (sg * (f k).v) bad op w w' := by
  have hb : b < w.heap.size := Blk.lt h
  have hcl : c < w.heap.size := Blk.lt hp
  have hg := ht.1
  have HW := hideR h
  have HT := hideR ht
  have HPP := hideR hp
  have hrk := rk_one hc
  have hlt0 : k + 1 < n := hend k hk (by omega)
  have hvv := hv k
  have hm1 : (sg : Int) * ((f k).v : Int) ≤ 594 := by
    have h := Nat.mul_le_mul hsg hvv
    have : ((sg * (f k).v : Nat) : Int) ≤ ((6 * 99 : Nat) : Int) := by exact_mod_cast h
    rw [Int.natCast_mul] at this; omega
  have hm0 : 0 ≤ (sg : Int) * ((f k).v : Int) := by
    have : (0 : Int) ≤ ((sg * (f k).v : Nat) : Int) := by omega
    rw [Int.natCast_mul] at this; omega
  generalize hR : pw f bare (N - (k + 1)) (k + 1) 0 0 = R
  have HP : Hid (pw f bare (N - (k + 1)) (k + 1) 0 0 = R) := hR
  have HA : Hid ((sg : Int) * ((f k).v : Int) = ((sg * (f k).v : Nat) : Int)) := by unfold Hid; simp
  clear h ht hp hR hc
  go_enter Tryz.func89, Tryz.ntmps89
  go_wp2_with fail
  refine (next_any b g n cap k f 0 bad op _ HW.out HT.out hk (by omega)).mono ?_
  rintro e w1 ⟨rfl, hb1⟩
  rw [hrk]
  clear hrk
  have hz1 := hb1.size
  have hf1 : Fr [b, c] w w1 := Fr.of_below hb1
  have hw1 : Wy w1 b g n cap k 0 bad op := Blk.fr HW.out (Fr.of_below (bs := []) hb1) (by simp)
  have hp1 : Blk w1 c (pv p) 116 := HPP.out.fr (Fr.of_below (bs := []) hb1) (by simp)
  have nbd : ¬ b = w1.heap.size := by omega
  have ncd : ¬ c = w1.heap.size := by omega
  have ndb : ¬ w1.heap.size = b := by omega
  have HF1 := hideR hf1
  have HW1 := hideR hw1
  have HP1 := hideR hp1
  clear hf1 hw1 hp1 hb1
  obtain ⟨a0, a1, a2, a3, a4⟩ := Wy.cells HW1.out
  obtain ⟨g0, g1, g2, g3, g4⟩ := Wy.free HW1.out
  have hb1 : b < w1.heap.size := by omega
  have x1 : (w1.alloc (.cells #[.int .i64 1, .int .i64 (f k).at', .int .i64 (f k).v, .string (rs (f k).c)] 91)).cell? ⟨b, 1, none⟩ = some (.int .i64 k) := (Blk.alloc HW1.out _).cell 1
  have x2 : (w1.alloc (.cells #[.int .i64 1, .int .i64 (f k).at', .int .i64 (f k).v, .string (rs (f k).c)] 91)).frozen? ⟨b, 1, none⟩ = false := (Blk.alloc HW1.out _).frozen 1
  go_wp2
  clear a0 a1 a2 a3 a4 g0 g1 g2 g3 g4 x1 x2
  go_loopg [9, 10] (N - (k + 1)) (fun m v9 v10 wr => ∃ (k' u x : Nat) (y0 y1 y2 : Int) (y3 : ByteArray), m = N - k' ∧ v9 = .int .i64 u ∧ v10 = .int .i64 x ∧ u ≤ 6 ∧ x ≤ 4 ∧ k' < n ∧ Wy wr b g n cap k' 0 bad op ∧ Blk wr c (pv p) 116 ∧ Blk wr w1.heap.size #[.int .i64 y0, .int .i64 y1, .int .i64 y2, .string y3] 91 ∧ Fr [b, c] w wr ∧ Hid (pw f bare (N - k') k' u x = R))
  case atStart =>
    refine ⟨k + 1, 0, 0, _, _, _, _, rfl, rfl, rfl, by omega, by omega, hlt0, ?_, Blk.alloc (HP1.out.setOther _ _ (Ne.symm hbc)) _, Blk.newAt _ _ _ (by simp), (HF1.out.setCell _ _ (by simp)).alloc _, HP⟩
    have e : (((k + 1 : Nat) : Int)) = (k : Int) + 1 := by omega
    unfold Wy; rw [e]
    exact Blk.alloc (Blk.set HW1.out 1 _) _
  case round =>
    obtain ⟨k', u, x, y0, y1, y2, y3, hm, rfl, rfl, hu, hx, hk', hw, hpb, ht8, hfw, HQ⟩ := hrel
    have hT : Tk wr g n f := HT.out.fr hfw (by simp; omega)
    obtain ⟨c0, c1, c2, c3, c4⟩ := hw.cells
    obtain ⟨f0, f1, f2, f3, f4⟩ := hw.free
    obtain ⟨t0, t1, t2, t3⟩ := ht8.cells4
    obtain ⟨z0, z1, z2, z3⟩ := ht8.free4
    obtain ⟨d0, d1, d2, d3⟩ := hT.cells hk'
    have hvk := hv k'
    have i0 : (0 : Int) ≤ (k' : Int) := by omega
    have i1 : (k' : Int) < (n : Int) := by omega
    have HWr := hideR hw
    have HPr := hideR hpb
    have HDr := hideR ht8
    clear hw hpb ht8 hT
    by_cases h2 : (f k').c = 2
    · have hlt : k' + 1 < n := hend k' hk' (by omega)
      rw [rk_two (Or.inl h2)] at d0
      rw [h2, rs_two] at d3
      have H2 := hideR h2
      clear h2
      by_cases hle : u + (f k').v ≤ 6
      · go_wp2
        go_quiet (fail)
        go_wp2
        refine region_quiet_tail 10 (by kernel_rfl) (by kernel_rfl) ?_
        simp only [List.take_succ_cons, List.take_zero, List.drop_succ_cons, List.drop_zero]
        repeat (first | go_big_quiet_step ((fail)) | quiet_step ((fail)))
        refine wpQuiet_nil ?_
        rintro _ ⟨nr, rfl⟩
        go_wp2
        go_roundg (N - (k' + 1))
        case measure => omega
        case rel =>
          refine ⟨k' + 1, u + (f k').v, x, 2, (f k').at', (f k').v, ⟨#[117]⟩, rfl, by go_num, by go_num, hle, hx, hlt, ?_, ?_, ?_, ?_, ?_⟩
          · have e : (((k' + 1 : Nat) : Int)) = (k' : Int) + 1 := by omega
            unfold Wy; rw [e]
            refine Blk.set (cs := #[.slice (some ⟨g, 0, none⟩) n cap, .int .i64 k', .int .i64 0, .int .i64 bad, .int .i64 op]) ?_ 1 _
            repeat (refine Blk.setOther ?_ _ _ nbd)
            exact HWr.out
          · exact Blk.setOther (Blk.setOther (Blk.setOther (Blk.setOther (Blk.setOther (by exact HPr.out) _ _ ncd) _ _ ncd) _ _ ncd) _ _ ncd) _ _ (Ne.symm hbc)
          · exact Blk.setOther (Blk.store4 (by exact HDr.out) _ _ _ _) _ _ (Ne.symm nbd)
          · exact Fr.setCell (Fr.setCell (Fr.setCell (Fr.setCell (Fr.setCell (hfw.drewN _) _ _ (by simp; omega)) _ _ (by simp; omega)) _ _ (by simp; omega)) _ _ (by simp; omega)) _ _ (by simp)
          · unfold Hid
            rw [← HQ.out, pw_u (by omega) H2.out hle]; congr 1
      · have HB : Hid (R = ⟨5, (f k').at', k', u, x⟩) := by unfold Hid; rw [← HQ.out, pw_u_bad (by omega) H2.out hle]
        go_wp2
        go_quiet (fail)
        go_wp2
        refine region_quiet_tail 10 (by kernel_rfl) (by kernel_rfl) ?_
        simp only [List.take_succ_cons, List.take_zero, List.drop_succ_cons, List.drop_zero]
        repeat (first | go_big_quiet_step ((fail)) | quiet_step ((fail)))
        refine wpQuiet_nil ?_
        rintro _ ⟨nr, rfl⟩
        go_wp2_with fail
        refine (wrong_first b g n cap k' _ _ bad op _ (by exact Blk.setOther (Blk.setOther (Blk.setOther (Blk.setOther (by exact HWr.out) _ _ nbd) _ _ nbd) _ _ nbd) _ _ nbd)).mono ?_
        rintro e w5 ⟨rfl, h5, hf5⟩
        go_wp2
        first | go_end0 | refine bodyPost_ret (results_none rfl _ _ _) rfl ?_
        refine ⟨rfl, Or.inr ⟨?_, ⟨k', hk', ?_⟩, ?_, ?_⟩⟩
        · rw [HB.out]; simp
        · rw [HB.out]; exact h5
        · exact Blk.fr (Blk.setOther (Blk.setOther (Blk.setOther (Blk.setOther (by exact HPr.out) _ _ ncd) _ _ ncd) _ _ ncd) _ _ ncd) hf5 (by simp; exact Ne.symm hbc)
        · exact (Fr.setCell (Fr.setCell (Fr.setCell (Fr.setCell (hfw.drewN _) _ _ (by simp; omega)) _ _ (by simp; omega)) _ _ (by simp; omega)) _ _ (by simp; omega)).trans hf5 (by simp)
    · by_cases h3 : (f k').c = 3
      · have hlt : k' + 1 < n := hend k' hk' (by omega)
        rw [rk_two (Or.inr h3)] at d0
        rw [h3, rs_three] at d3
        have H3 := hideR h3
        clear h3 h2
        cases bare
        · by_cases hle : x + (f k').v ≤ 4
          · go_wp2
            go_quiet (fail)
            go_wp2
            refine region_quiet_tail 10 (by kernel_rfl) (by kernel_rfl) ?_
            simp only [List.take_succ_cons, List.take_zero, List.drop_succ_cons, List.drop_zero]
            repeat (first | go_big_quiet_step ((fail)) | quiet_step ((fail)))
            refine wpQuiet_nil ?_
            rintro _ ⟨nr, rfl⟩
            go_wp2
            go_roundg (N - (k' + 1))
            case measure => omega
            case rel =>
              refine ⟨k' + 1, u, x + (f k').v, 2, (f k').at', (f k').v, ⟨#[120]⟩, rfl, by go_num, by go_num, hu, hle, hlt, ?_, ?_, ?_, ?_, ?_⟩
              · have e : (((k' + 1 : Nat) : Int)) = (k' : Int) + 1 := by omega
                unfold Wy; rw [e]
                refine Blk.set (cs := #[.slice (some ⟨g, 0, none⟩) n cap, .int .i64 k', .int .i64 0, .int .i64 bad, .int .i64 op]) ?_ 1 _
                repeat (refine Blk.setOther ?_ _ _ nbd)
                exact HWr.out
              · exact Blk.setOther (Blk.setOther (Blk.setOther (Blk.setOther (Blk.setOther (by exact HPr.out) _ _ ncd) _ _ ncd) _ _ ncd) _ _ ncd) _ _ (Ne.symm hbc)
              · exact Blk.setOther (Blk.store4 (by exact HDr.out) _ _ _ _) _ _ (Ne.symm nbd)
              · exact Fr.setCell (Fr.setCell (Fr.setCell (Fr.setCell (Fr.setCell (hfw.drewN _) _ _ (by simp; omega)) _ _ (by simp; omega)) _ _ (by simp; omega)) _ _ (by simp; omega)) _ _ (by simp)
              · unfold Hid
                rw [← HQ.out, pw_x (by omega) H3.out hle]; congr 1
          · have HB : Hid (R = ⟨5, (f k').at', k', u, x⟩) := by unfold Hid; rw [← HQ.out, pw_x_bad (by omega) H3.out hle]
            go_wp2
            go_quiet (fail)
            go_wp2
            refine region_quiet_tail 10 (by kernel_rfl) (by kernel_rfl) ?_
            simp only [List.take_succ_cons, List.take_zero, List.drop_succ_cons, List.drop_zero]
            repeat (first | go_big_quiet_step ((fail)) | quiet_step ((fail)))
            refine wpQuiet_nil ?_
            rintro _ ⟨nr, rfl⟩
            go_wp2_with fail
            refine (wrong_first b g n cap k' _ _ bad op _ (by exact Blk.setOther (Blk.setOther (Blk.setOther (Blk.setOther (by exact HWr.out) _ _ nbd) _ _ nbd) _ _ nbd) _ _ nbd)).mono ?_
            rintro e w5 ⟨rfl, h5, hf5⟩
            go_wp2
            first | go_end0 | refine bodyPost_ret (results_none rfl _ _ _) rfl ?_
            refine ⟨rfl, Or.inr ⟨?_, ⟨k', hk', ?_⟩, ?_, ?_⟩⟩
            · rw [HB.out]; simp
            · rw [HB.out]; exact h5
            · exact Blk.fr (Blk.setOther (Blk.setOther (Blk.setOther (Blk.setOther (by exact HPr.out) _ _ ncd) _ _ ncd) _ _ ncd) _ _ ncd) hf5 (by simp; exact Ne.symm hbc)
            · exact (Fr.setCell (Fr.setCell (Fr.setCell (Fr.setCell (hfw.drewN _) _ _ (by simp; omega)) _ _ (by simp; omega)) _ _ (by simp; omega)) _ _ (by simp; omega)).trans hf5 (by simp)
        · have HB : Hid (R = ⟨7, (f k').at', k', u, x⟩) := by unfold Hid; rw [← HQ.out, pw_x_bare (by omega) H3.out]
          go_wp2
          go_quiet (fail)
          go_wp2
          refine region_quiet_tail 10 (by kernel_rfl) (by kernel_rfl) ?_
          simp only [List.take_succ_cons, List.take_zero, List.drop_succ_cons, List.drop_zero]
          repeat (first | go_big_quiet_step ((fail)) | quiet_step ((fail)))
          refine wpQuiet_nil ?_
          rintro _ ⟨nr, rfl⟩
          go_wp2_with fail
          refine (wrong_first b g n cap k' _ _ bad op _ (by exact Blk.setOther (Blk.setOther (Blk.setOther (Blk.setOther (by exact HWr.out) _ _ nbd) _ _ nbd) _ _ nbd) _ _ nbd)).mono ?_
          rintro e w5 ⟨rfl, h5, hf5⟩
          go_wp2
          first | go_end0 | refine bodyPost_ret (results_none rfl _ _ _) rfl ?_
          refine ⟨rfl, Or.inr ⟨?_, ⟨k', hk', ?_⟩, ?_, ?_⟩⟩
          · rw [HB.out]; simp
          · rw [HB.out]; exact h5
          · exact Blk.fr (Blk.setOther (Blk.setOther (Blk.setOther (Blk.setOther (by exact HPr.out) _ _ ncd) _ _ ncd) _ _ ncd) _ _ ncd) hf5 (by simp; exact Ne.symm hbc)
          · exact (Fr.setCell (Fr.setCell (Fr.setCell (Fr.setCell (hfw.drewN _) _ _ (by simp; omega)) _ _ (by simp; omega)) _ _ (by simp; omega)) _ _ (by simp; omega)).trans hf5 (by simp)
      · have q2 : (rk (f k').c == 2) = false := by rw [beq_eq_false_iff_ne]; exact rk_not2 h2 h3
        have HB : Hid (R = ⟨0, 0, k', u, x⟩) := by unfold Hid; rw [← HQ.out, pw_end h2 h3]
        have hx0 : (0 : Int) ≤ (x : Int) := by omega
        have hx1 : (x : Int) < 5 := by omega
        have hu0 : (0 : Int) ≤ (u : Int) := by omega
        have hu1 : (u : Int) < 7 := by omega
        have hq : x * 7 + u < p.length := by rw [hgp.1]; omega
        have hcell := pv_get hq
        have hv7 := hgp.2 (x * 7 + u)
        have HV : Hid (plus p u x (sg * (f k).v) = p.set (x * 7 + u) ((p.getD (x * 7 + u) 0 + (sg * (f k).v)) % 7)) := by unfold Hid plus; rw [Nat.mul_comm 7 x]
        generalize p.getD (x * 7 + u) 0 = v at *
        have e3 : wr.cell? ⟨c, x * 7 + u, none⟩ = some (.int .i64 v) := by rw [HPr.out.cell]; exact hcell
        have e4 : wr.frozen? ⟨c, x * 7 + u, none⟩ = false := HPr.out.frozen _
        clear h2 h3 hcell
        go_wp2
        go_quiet (fail)
        go_wp2
        refine region_quiet_tail 16 (by kernel_rfl) (by kernel_rfl) ?_
        simp only [List.take_succ_cons, List.take_zero, List.drop_succ_cons, List.drop_zero]
        repeat (first | go_big_quiet_step ((fail)) | quiet_step ((fail)))
        refine wpQuiet_nil ?_
        rintro _ ⟨nr, rfl⟩
        go_wp2
        go_end0
        refine ⟨rfl, Or.inl ⟨?_, ?_, ?_, ?_, ?_⟩⟩
        · rw [HB.out]
        · rw [HB.out]; exact Blk.setOther (by exact HWr.out) _ _ hbc
        · rw [HB.out]; dsimp only; rw [HV.out]; exact Blk.putN (by exact HPr.out) _ _ _ (by have := HA.out; omega)
        · rw [HB.out]; exact hk'
        · exact Fr.setCell (hfw.drewN _) _ _ (by simp)
end Go.Proofs.YthlmgpllapccfaaGreatDoor
/- THE DOCUMENT's ANSWER: term whole; poly. -/
namespace Go.Proofs.YthlmgpllapccfaaGreatDoor
open Go.RowKit

set_option maxRecDepth 100000 in
set_option maxHeartbeats 2000000 in
theorem wterm_bad (f : Nat → Tok) (b g n cap c k : Nat) (sg : Int) (bare : Bool) (bad op : Int) (w : World) (h : Wy w b g n cap k 0 bad op) (ht : Tk w g n f) (hk : k < n) (hn : n ≤ 1001) (hc : (f k).c ≠ 1 ∧ (f k).c ≠ 2 ∧ (f k).c ≠ 3) :
    Calls Tryz.prog 89 #[.pointer (some ⟨b, 0, none⟩), .pointer (some ⟨c, 0, none⟩), .int .i64 sg, .bool bare] w fun e w' => e = .returned (.tuple #[]) ∧ Wy w' b g n cap k 4 (f k).at' op ∧ Fr [b] w w' := by
  have hb : b < w.heap.size := Blk.lt h
  have HW := hideR h
  have HT := hideR ht
  have q1 : (rk (f k).c != 1) = true := by rw [bne_iff_ne]; exact rk_not1 hc.1
  have q2 : (rk (f k).c != 2) = true := by rw [bne_iff_ne]; exact rk_not2 hc.2.1 hc.2.2
  clear h ht hc
  go_enter Tryz.func89, Tryz.ntmps89
  go_wp2_with fail
  refine (next_any b g n cap k f 0 bad op _ HW.out HT.out hk (by omega)).mono ?_
  rintro e w1 ⟨rfl, hb1⟩
  have hw1 : Wy w1 b g n cap k 0 bad op := Blk.fr HW.out (Fr.of_below (bs := []) hb1) (by simp)
  have HW1 := hideR hw1
  have HB1 := hideR hb1
  clear hw1 hb1
  go_wp2_with fail
  refine (wrong_first b g n cap k _ _ bad op _ (by exact Blk.alloc HW1.out _)).mono ?_
  rintro e w5 ⟨rfl, h5, hf5⟩
  go_wp2
  first | go_end0 | refine bodyPost_ret (results_none rfl _ _ _) rfl ?_
  exact ⟨rfl, h5, ((Fr.of_below (bs := [b]) HB1.out).alloc _).trans hf5 (by simp)⟩

theorem wterm_ok (f : Nat → Tok) (N b g n cap c k : Nat) (p : List Nat) (sg : Nat) (bare : Bool) (bad op : Int) (w : World) (h : Wy w b g n cap k 0 bad op) (ht : Tk w g n f) (hp : Blk w c (pv p) 116) (hgp : Good p)
    (hk : k < n) (hn : n ≤ N + 1) (hN : N ≤ 1000) (hend : ∀ j, j < n → (f j).c ≠ 0 → j + 1 < n) (hv : ∀ j, (f j).v ≤ 99) (hsg : sg ≤ 6) (hbg : b ≠ g) (hbc : b ≠ c) (hgc : g ≠ c) (he : (tm f bare N k).e = 0) :
    Calls Tryz.prog 89 #[.pointer (some ⟨b, 0, none⟩), .pointer (some ⟨c, 0, none⟩), .int .i64 sg, .bool bare] w fun e w' => e = .returned (.tuple #[]) ∧ Wy w' b g n cap (tm f bare N k).k 0 bad op ∧ Blk w' c (pv (plus p (tm f bare N k).u (tm f bare N k).x (sg * (tm f bare N k).n))) 116 ∧ (tm f bare N k).k < n ∧ Fr [b, c] w w' := by
  unfold tm at *
  by_cases h1 : (f k).c = 1
  · rw [if_pos h1] at *
    refine (wterm_number f N b g n cap c k p sg bare bad op w h ht hp hgp hk hn hN hend hv hsg hbg hbc hgc h1).mono ?_
    rintro e w1 ⟨rfl, q | q⟩
    · exact ⟨rfl, q.2⟩
    · exact absurd he q.1
  · rw [if_neg h1] at *
    by_cases h2 : (f k).c = 2 ∨ (f k).c = 3
    · rw [if_pos h2] at *
      refine (wterm_power f N b g n cap c k p sg bare bad op w h ht hp hgp hk hn hN hend hv hsg hbg hbc hgc h2).mono ?_
      rintro e w1 ⟨rfl, q | q⟩
      · exact ⟨rfl, q.2⟩
      · exact absurd he q.1
    · rw [if_neg h2] at he; exact absurd he (by simp)
theorem wterm_not (f : Nat → Tok) (N b g n cap c k : Nat) (p : List Nat) (sg : Nat) (bare : Bool) (bad op : Int) (w : World) (h : Wy w b g n cap k 0 bad op) (ht : Tk w g n f) (hp : Blk w c (pv p) 116) (hgp : Good p)
    (hk : k < n) (hn : n ≤ N + 1) (hN : N ≤ 1000) (hend : ∀ j, j < n → (f j).c ≠ 0 → j + 1 < n) (hv : ∀ j, (f j).v ≤ 99) (hsg : sg ≤ 6) (hbg : b ≠ g) (hbc : b ≠ c) (hgc : g ≠ c) (he : (tm f bare N k).e ≠ 0) :
    Calls Tryz.prog 89 #[.pointer (some ⟨b, 0, none⟩), .pointer (some ⟨c, 0, none⟩), .int .i64 sg, .bool bare] w fun e w' => e = .returned (.tuple #[]) ∧ (∃ k', k' < n ∧ Wy w' b g n cap k' (tm f bare N k).e (tm f bare N k).bad op) ∧ Blk w' c (pv p) 116 ∧ Fr [b, c] w w' := by
  unfold tm at *
  by_cases h1 : (f k).c = 1
  · rw [if_pos h1] at *
    refine (wterm_number f N b g n cap c k p sg bare bad op w h ht hp hgp hk hn hN hend hv hsg hbg hbc hgc h1).mono ?_
    rintro e w1 ⟨rfl, q | q⟩
    · exact absurd q.1 he
    · exact ⟨rfl, q.2⟩
  · rw [if_neg h1] at *
    by_cases h2 : (f k).c = 2 ∨ (f k).c = 3
    · rw [if_pos h2] at *
      refine (wterm_power f N b g n cap c k p sg bare bad op w h ht hp hgp hk hn hN hend hv hsg hbg hbc hgc h2).mono ?_
      rintro e w1 ⟨rfl, q | q⟩
      · exact absurd q.1 he
      · exact ⟨rfl, q.2⟩
    · rw [if_neg h2] at *
      refine (wterm_bad f b g n cap c k sg bare bad op w h ht hk (by omega) (by omega)).mono ?_
      rintro e w1 ⟨rfl, q1, q2⟩
      exact ⟨rfl, ⟨k, hk, q1⟩, hp.fr q2 (by simp; omega), q2.mono (by simp)⟩

theorem rk_43 {c : Nat} : rk c = 43 ↔ c = 47 := by
  constructor
  · intro h
    unfold rk at h
    repeat' split at h
    all_goals omega
  · intro h; subst h; rfl
theorem rk_45 {c : Nat} : rk c = 45 ↔ c = 49 := by
  constructor
  · intro h
    unfold rk at h
    repeat' split at h
    all_goals omega
  · intro h; subst h; rfl
end Go.Proofs.YthlmgpllapccfaaGreatDoor
/- THE DOCUMENT's ANSWER: poly. -/
namespace Go.Proofs.YthlmgpllapccfaaGreatDoor
open Go.RowKit

/-- What poly ends in. -/
def PolyEnd (b g n cap : Nat) (R : PlR) (bad op : Int) (w : World) (e : Ending) (w' : World) : Prop :=
  (R.e = 0 ∧ e = .returned (.agg (pv R.p)) ∧ Good R.p ∧ Wy w' b g n cap R.k 0 bad op ∧ R.k < n ∧ Fr [b] w w') ∨ (R.e ≠ 0 ∧ (∃ q, Good q ∧ e = .returned (.agg (pv q))) ∧ (∃ k', k' < n ∧ Wy w' b g n cap k' R.e R.bad op) ∧ Fr [b] w w')

set_option maxRecDepth 100000 in
set_option maxHeartbeats 8000000 in
theorem wpoly_plain (f : Nat → Tok) (N b g n cap k : Nat) (bare : Bool) (bad op : Int) (w : World) (h : Wy w b g n cap k 0 bad op) (ht : Tk w g n f)
    (hk : k < n) (hn : n ≤ N + 1) (hN : N ≤ 1000) (hend : ∀ j, j < n → (f j).c ≠ 0 → j + 1 < n) (hv : ∀ j, (f j).v ≤ 99) (hbg : b ≠ g) (hc : (f k).c ≠ 49) :
    Calls Tryz.prog 66 #[.pointer (some ⟨b, 0, none⟩), .bool bare] w (PolyEnd b g n cap (pl f bare N (N + 1) k 1 zeros) bad op w) := by
  have hb : b < w.heap.size := Blk.lt h
  have hg := ht.1
  have HW := hideR h
  have HT := hideR ht
  generalize hR : pl f bare N (N + 1) k 1 zeros = R
  have HP : Hid (pl f bare N (N + 1) k 1 zeros = R) := hR
  have HC : Hid (rk (f k).c ≠ 45) := fun q => hc (rk_45.1 q)
  have hnt : ∀ (x : Bool) (w : World), (Op.unary .not (.bool x)).run Tryz.prog w = .ok (.bool (!x)) w := fun _ _ => rfl
  clear h ht hR hc
  go_enter Tryz.func66, Tryz.ntmps66
  go_wp2_with fail
  refine (passes_no b g n cap k f 45 bad op _ (by exact Blk.alloc (Blk.alloc HW.out _) _) (by exact HT.out.fr (((Fr.refl [] w).alloc _).alloc _) (by simp)) hk (by omega) (by omega) (by omega) HC.out).mono ?_
  rintro e w0 ⟨rfl, hw0, hfr0⟩
  have hs0 : Blk w0 (w.heap.size + 1) (pv zeros) 116 := Blk.fr (by exact Blk.newAt _ _ _ (by simp)) hfr0 (by simp; omega)
  have hr0 : Blk w0 w.heap.size (pv zeros) 116 := Blk.fr (by exact Blk.alloc (Blk.new w _ _) _) hfr0 (by simp; omega)
  have hf0 : Fr [b] w w0 := (((Fr.refl [b] w).alloc _).alloc _).trans hfr0 (by simp)
  go_wp2
  go_loopg [6] (N + 1) (fun m v6 wr => (∃ (k' sg : Nat) (p : List Nat), v6 = .int .i64 sg ∧ (sg = 1 ∨ sg = 6) ∧ N + 1 ≤ m + k' ∧ k' < n ∧ Good p ∧ Wy wr b g n cap k' 0 bad op ∧ Blk wr (w.heap.size + 1) (pv p) 116 ∧ Blk wr w.heap.size (pv zeros) 116 ∧ Fr [b] w wr ∧ Hid (pl f bare N m k' sg p = R)) ∨ (∃ (k' : Nat) (q : List Nat), k' < n ∧ Good q ∧ R.e ≠ 0 ∧ Wy wr b g n cap k' R.e R.bad op ∧ Blk wr (w.heap.size + 1) (pv q) 116 ∧ Blk wr w.heap.size (pv zeros) 116 ∧ Fr [b] w wr))
  case atStart => exact Or.inl ⟨k, 1, zeros, rfl, Or.inl rfl, by omega, hk, zeros_good, hw0, hs0, hr0, hf0, HP⟩
  case round =>
    have mb : ¬ w.heap.size + 1 = b := by omega
    have mb0 : ¬ w.heap.size = b := by omega
    have mg : g ≠ w.heap.size + 1 := by omega
    rcases hrel with ⟨k', sg, p, rfl, hsg, hm, hk', hgp, hw, hp, hr, hfw, HQ⟩ | ⟨k', q, hk', hgq, hne, hw, hp, hr, hfw⟩
    · obtain ⟨c0, c1, c2, c3, c4⟩ := hw.cells
      have HTr : Hid (Tk wr g n f) := HT.out.fr hfw (by simp; omega)
      have HWr := hideR hw
      have HPr := hideR hp
      have HRr := hideR hr
      have hbr := Blk.lt hw
      clear hw hp hr
      by_cases hte : (tm f bare N k').e = 0
      · have hT := tm_facts f bare N k'
        have HTE := hideR hte
        go_wp2_with fail
        refine (wterm_ok f N b g n cap (w.heap.size + 1) k' p sg bare bad op _ HWr.out HTr.out HPr.out hgp hk' hn hN hend hv (by omega) hbg (Ne.symm mb) mg hte).mono ?_
        rintro e w1 ⟨rfl, hw1, hp1, hk1, hfr1⟩
        clear hte
        generalize hTT : tm f bare N k' = T at *
        have HTT := hideR hTT
        clear hTT
        have hg' : Good (plus p T.u T.x (sg * T.n)) := plus_good hgp _ _ _
        obtain ⟨p', HP'⟩ : ∃ p', Hid (plus p T.u T.x (sg * T.n) = p') := ⟨_, rfl⟩
        rw [HP'.out] at hp1 hg'
        have hr1 : Blk w1 w.heap.size (pv zeros) 116 := HRr.out.fr hfr1 (by simp; omega)
        have hf1 : Fr [b] w w1 := hfw.trans hfr1 (by simp)
        have ht1 : Tk w1 g n f := HT.out.fr hf1 (by simp; omega)
        obtain ⟨e0, e1, e2, e3, e4⟩ := hw1.cells
        have HW1 := hideR hw1
        have HP1 := hideR hp1
        have HR1 := hideR hr1
        have HT1 := hideR ht1
        clear hw1 hp1 hr1 ht1 c0 c1 c2 c3 c4
        by_cases h4 : (f T.k).c = 47
        · have hlt : T.k + 1 < n := hend T.k hk1 (by omega)
          have HN' : Hid (pl f bare N (gk - 1) (T.k + 1) 1 p' = R) := by
            have q := HQ.out
            rw [pl_plus (by omega) (by rw [HTT.out]; exact HTE.out) (by rw [HTT.out]; exact h4), HTT.out, HP'.out] at q
            exact q
          have h4r := rk_43.2 h4
          have H4 := hideR h4r
          clear h4 h4r
          go_wp2_with fail
          refine (passes_yes b g n cap T.k f 43 bad op _ HW1.out HT1.out hk1 (by omega) (by omega) (by omega) H4.out).mono ?_
          rintro e w2 ⟨rfl, hw2, hfr2⟩
          have hf2 : Fr [b] w w2 := hf1.trans hfr2 (by simp)
          have HT2 : Hid (Tk w2 g n f) := HT.out.fr hf2 (by simp; omega)
          have HP2 : Hid (Blk w2 (w.heap.size + 1) (pv p') 116) := HP1.out.fr hfr2 (by simp [mb])
          have HR2 : Hid (Blk w2 w.heap.size (pv zeros) 116) := HR1.out.fr hfr2 (by simp [mb0])
          have HW2 := hideR hw2
          clear hw2
          by_cases h5 : (f (T.k + 1)).c = 49
          · have hlt2 : T.k + 1 + 1 < n := hend (T.k + 1) hlt (by omega)
            have h5r := rk_45.2 h5
            have H5 := hideR h5r
            have HRR : Hid (R.e = 4 ∧ R.bad = (f (T.k + 1)).at') := by
              have q : tm f bare N (T.k + 1) = ⟨4, (f (T.k + 1)).at', T.k + 1, 0, 0, 0⟩ := by
                unfold tm; rw [if_neg (by omega), if_neg (by omega)]
              unfold Hid
              rw [← HN'.out, pl_bad (by omega) (by rw [q]; simp), q]
              exact ⟨rfl, rfl⟩
            clear h5 h5r HN'
            generalize T.k + 1 = m at *
            go_wp2_with fail
            refine (passes_yes b g n cap m f 45 bad op _ HW2.out HT2.out hlt (by omega) (by omega) (by omega) H5.out).mono ?_
            rintro e w3 ⟨rfl, hw3, hfr3⟩
            have hf3 : Fr [b] w w3 := hf2.trans hfr3 (by simp)
            have ht3 : Tk w3 g n f := HT.out.fr hf3 (by simp; omega)
            have HP3 : Hid (Blk w3 (w.heap.size + 1) (pv p') 116) := HP2.out.fr hfr3 (by simp [mb])
            have HR3 : Hid (Blk w3 w.heap.size (pv zeros) 116) := HR2.out.fr hfr3 (by simp [mb0])
            obtain ⟨s0, s1, s2, s3, s4⟩ := hw3.cells
            obtain ⟨d0, d1, d2, d3⟩ := ht3.cells hlt
            have HW3 := hideR hw3
            have es : ((m + 1 : Nat) : Int) = (m : Int) + 1 := by omega
            rw [es] at s1
            have i0 : (0 : Int) ≤ (m : Int) := by omega
            have i1 : (m : Int) < (n : Int) := by omega
            clear es hw3 ht3
            go_wp2
            refine region_quiet_tail 13 (by kernel_rfl) (by kernel_rfl) ?_
            simp only [List.take_succ_cons, List.take_zero, List.drop_succ_cons, List.drop_zero]
            repeat (first | go_big_quiet_step ((fail)) | quiet_step ((fail)))
            refine wpQuiet_nil ?_
            rintro _ ⟨nr, rfl⟩
            go_wp2_with fail
            refine (wrong_first b g n cap (m + 1) _ _ bad op _ (by exact HW3.out)).mono ?_
            rintro e w4 ⟨rfl, hw4, hfr4⟩
            have hfr4' : Fr [b] w3 w4 := ((Fr.refl [b] w3).drewN nr).trans hfr4 (by simp)
            go_wp2
            go_roundg (gk - 1)
            case measure => omega
            case rel =>
              refine Or.inr ⟨m + 1, p', hlt2, hg', ?_, ?_, HP3.out.fr hfr4' (by simp [mb]), HR3.out.fr hfr4' (by simp [mb0]), hf3.trans hfr4' (by simp)⟩
              · rw [HRR.out.1]; simp
              · rw [HRR.out.1, HRR.out.2]; exact hw4
          · have H5 : Hid (rk (f (T.k + 1)).c ≠ 45) := fun q => h5 (rk_45.1 q)
            clear h5
            go_wp2_with fail
            refine (passes_no b g n cap (T.k + 1) f 45 bad op _ HW2.out HT2.out hlt (by omega) (by omega) (by omega) H5.out).mono ?_
            rintro e w3 ⟨rfl, hw3, hfr3⟩
            have hf3 : Fr [b] w w3 := hf2.trans hfr3 (by simp)
            go_wp2
            go_roundg (gk - 1)
            case measure => omega
            case rel => exact Or.inl ⟨T.k + 1, 1, p', rfl, Or.inl rfl, by omega, hlt, hg', hw3, HP2.out.fr hfr3 (by simp [mb]), HR2.out.fr hfr3 (by simp [mb0]), hf3, HN'⟩
        · have H4 : Hid (rk (f T.k).c ≠ 43) := fun q => h4 (rk_43.1 q)
          go_wp2_with fail
          refine (passes_no b g n cap T.k f 43 bad op _ HW1.out HT1.out hk1 (by omega) (by omega) (by omega) H4.out).mono ?_
          rintro e w2 ⟨rfl, hw2, hfr2⟩
          have hf2 : Fr [b] w w2 := hf1.trans hfr2 (by simp)
          have HT2 : Hid (Tk w2 g n f) := HT.out.fr hf2 (by simp; omega)
          have HP2 : Hid (Blk w2 (w.heap.size + 1) (pv p') 116) := HP1.out.fr hfr2 (by simp [mb])
          have HR2 : Hid (Blk w2 w.heap.size (pv zeros) 116) := HR1.out.fr hfr2 (by simp [mb0])
          have HW2 := hideR hw2
          clear hw2
          by_cases h5 : (f T.k).c = 49
          · have hlt : T.k + 1 < n := hend T.k hk1 (by omega)
            have HN' : Hid (pl f bare N (gk - 1) (T.k + 1) 6 p' = R) := by
              have q := HQ.out
              rw [pl_minus (by omega) (by rw [HTT.out]; exact HTE.out) (by rw [HTT.out]; exact h5), HTT.out, HP'.out] at q
              exact q
            have h5r := rk_45.2 h5
            have H5 := hideR h5r
            clear h4 h5 h5r
            go_wp2_with fail
            refine (passes_yes b g n cap T.k f 45 bad op _ HW2.out HT2.out hk1 (by omega) (by omega) (by omega) H5.out).mono ?_
            rintro e w3 ⟨rfl, hw3, hfr3⟩
            have hf3 : Fr [b] w w3 := hf2.trans hfr3 (by simp)
            go_wp2
            go_roundg (gk - 1)
            case measure => omega
            case rel => exact Or.inl ⟨T.k + 1, 6, p', rfl, Or.inr rfl, by omega, hlt, hg', hw3, HP2.out.fr hfr3 (by simp [mb]), HR2.out.fr hfr3 (by simp [mb0]), hf3, HN'⟩
          · have HB : Hid (R = ⟨0, 0, T.k, p'⟩) := by
              unfold Hid
              rw [← HQ.out, pl_done (by omega) (by rw [HTT.out]; exact HTE.out) (by rw [HTT.out]; exact h4) (by rw [HTT.out]; exact h5), HTT.out, HP'.out]
            have H5 : Hid (rk (f T.k).c ≠ 45) := fun q => h5 (rk_45.1 q)
            clear h4 h5
            go_wp2_with fail
            refine (passes_no b g n cap T.k f 45 bad op _ HW2.out HT2.out hk1 (by omega) (by omega) (by omega) H5.out).mono ?_
            rintro e w3 ⟨rfl, hw3, hfr3⟩
            have hf3 : Fr [b] w w3 := hf2.trans hfr3 (by simp)
            have HW3 := hideR hw3
            have HP3 : Hid (Blk w3 (w.heap.size + 1) (pv p') 116) := HP2.out.fr hfr3 (by simp [mb])
            have HR3 : Hid (Blk w3 w.heap.size (pv zeros) 116) := HR2.out.fr hfr3 (by simp [mb0])
            clear hw3
            go_wp2_with (first | (refine wpList_load_row (by rfl) 116 _ (by rfl) (w.heap.size + 1) (by rfl) 116 (pv p') (0, 0) _ HP3.out Tryz.underlying116 (by rfl) (size_rPoly hg') ?_) | (refine wpList_store_mid (by rfl) 116 _ (.tmp 55) (by rfl) w.heap.size 0 (pv p') (by rfl) (by rfl) (Blk.there HR3.out (by rw [pv_size, pv_size, hg'.1]; exact Nat.le_refl _)) (size_rPoly hg') (pv_one _) ?_))
            refine bodyPost_ret (results_cell_row Tryz.results66 _ _ w.heap.size 116 (pv p') (0, 0) _ (by rfl) (Blk.setAll HR3.out _ (by rw [pv_size, pv_size, hg'.1]; rfl)) Tryz.underlying116 rfl (size_rPoly hg')) rfl ?_
            refine Or.inl ⟨?_, ?_, ?_, ?_, ?_, ?_⟩
            · rw [HB.out]
            · rw [HB.out]
            · rw [HB.out]; exact hg'
            · rw [HB.out]; exact Blk.setCellsOther HW3.out _ _ _ (by omega)
            · rw [HB.out]; exact hk1
            · exact Fr.setCells hf3 _ _ _ (by simp)
      · have HB : Hid (R.e ≠ 0 ∧ R.e = (tm f bare N k').e ∧ R.bad = (tm f bare N k').bad) := by
          unfold Hid
          rw [← HQ.out, pl_bad (by omega) hte]; exact ⟨hte, rfl, rfl⟩
        go_wp2_with fail
        refine (wterm_not f N b g n cap (w.heap.size + 1) k' p sg bare bad op _ HWr.out HTr.out HPr.out hgp hk' hn hN hend hv (by omega) hbg (Ne.symm mb) mg hte).mono ?_
        rintro e w1 ⟨rfl, ⟨k1, hk1, hw1⟩, hp1, hfr1⟩
        obtain ⟨g1, g2, g3⟩ := HB.out
        rw [← g2, ← g3] at hw1
        have hr1 : Blk w1 w.heap.size (pv zeros) 116 := HRr.out.fr hfr1 (by simp; omega)
        have hf1 : Fr [b] w w1 := hfw.trans hfr1 (by simp)
        obtain ⟨e0, e1, e2, e3, e4⟩ := hw1.cells
        have qe : ((R.e : Int) != 0) = true := by rw [bne_iff_ne]; omega
        have HW1 := hideR hw1
        have HP1 := hideR hp1
        have HR1 := hideR hr1
        have HG1 := hideR g1
        clear hw1 hp1 hr1 c0 c1 c2 c3 c4 g1 g2 g3 hte
        go_wp2_with (first | (refine wpList_load_row (by rfl) 116 _ (by rfl) (w.heap.size + 1) (by rfl) 116 (pv p) (0, 0) _ HP1.out Tryz.underlying116 (by rfl) (size_rPoly hgp) ?_) | (refine wpList_store_mid (by rfl) 116 _ (.tmp 55) (by rfl) w.heap.size 0 (pv p) (by rfl) (by rfl) (Blk.there HR1.out (by rw [pv_size, pv_size, hgp.1]; exact Nat.le_refl _)) (size_rPoly hgp) (pv_one _) ?_))
        refine bodyPost_ret (results_cell_row Tryz.results66 _ _ w.heap.size 116 (pv p) (0, 0) _ (by rfl) (Blk.setAll HR1.out _ (by rw [pv_size, pv_size, hgp.1]; rfl)) Tryz.underlying116 rfl (size_rPoly hgp)) rfl ?_
        exact Or.inr ⟨HG1.out, ⟨p, hgp, rfl⟩, ⟨k1, hk1, Blk.setCellsOther HW1.out _ _ _ (by omega)⟩, Fr.setCells hf1 _ _ _ (by simp)⟩
    · obtain ⟨c0, c1, c2, c3, c4⟩ := hw.cells
      have qe : ((R.e : Int) == 0) = false := by rw [beq_eq_false_iff_ne]; omega
      have HW1 := hideR hw
      have HP1 := hideR hp
      have HR1 := hideR hr
      have HG1 := hideR hne
      clear hw hp hr hne
      go_wp2_with (first | (refine wpList_load_row (by rfl) 116 _ (by rfl) (w.heap.size + 1) (by rfl) 116 (pv q) (0, 0) _ HP1.out Tryz.underlying116 (by rfl) (size_rPoly hgq) ?_) | (refine wpList_store_mid (by rfl) 116 _ (.tmp 55) (by rfl) w.heap.size 0 (pv q) (by rfl) (by rfl) (Blk.there HR1.out (by rw [pv_size, pv_size, hgq.1]; exact Nat.le_refl _)) (size_rPoly hgq) (pv_one _) ?_))
      refine bodyPost_ret (results_cell_row Tryz.results66 _ _ w.heap.size 116 (pv q) (0, 0) _ (by rfl) (Blk.setAll HR1.out _ (by rw [pv_size, pv_size, hgq.1]; rfl)) Tryz.underlying116 rfl (size_rPoly hgq)) rfl ?_
      exact Or.inr ⟨HG1.out, ⟨q, hgq, rfl⟩, ⟨k', hk', Blk.setCellsOther HW1.out _ _ _ (by omega)⟩, Fr.setCells hfw _ _ _ (by simp)⟩
end Go.Proofs.YthlmgpllapccfaaGreatDoor
/- THE DOCUMENT's ANSWER: poly, with a minus ahead; whole. -/
namespace Go.Proofs.YthlmgpllapccfaaGreatDoor
open Go.RowKit

set_option maxRecDepth 100000 in
set_option maxHeartbeats 8000000 in
theorem wpoly_minus (f : Nat → Tok) (N b g n cap k : Nat) (bare : Bool) (bad op : Int) (w : World) (h : Wy w b g n cap k 0 bad op) (ht : Tk w g n f)
    (hk : k < n) (hn : n ≤ N + 1) (hN : N ≤ 1000) (hend : ∀ j, j < n → (f j).c ≠ 0 → j + 1 < n) (hv : ∀ j, (f j).v ≤ 99) (hbg : b ≠ g) (hc : (f k).c = 49) :
    Calls Tryz.prog 66 #[.pointer (some ⟨b, 0, none⟩), .bool bare] w (PolyEnd b g n cap (pl f bare N (N + 1) (k + 1) 6 zeros) bad op w) := by
  have hb : b < w.heap.size := Blk.lt h
  have hg := ht.1
  have HW := hideR h
  have HT := hideR ht
  generalize hR : pl f bare N (N + 1) (k + 1) 6 zeros = R
  have HP : Hid (pl f bare N (N + 1) (k + 1) 6 zeros = R) := hR
  have HC : Hid (rk (f k).c = 45) := rk_45.2 hc
  have hlt0 : k + 1 < n := hend k hk (by omega)
  have hnt : ∀ (x : Bool) (w : World), (Op.unary .not (.bool x)).run Tryz.prog w = .ok (.bool (!x)) w := fun _ _ => rfl
  clear h ht hR hc
  go_enter Tryz.func66, Tryz.ntmps66
  go_wp2_with fail
  refine (passes_yes b g n cap k f 45 bad op _ (by exact Blk.alloc (Blk.alloc HW.out _) _) (by exact HT.out.fr (((Fr.refl [] w).alloc _).alloc _) (by simp)) hk (by omega) (by omega) (by omega) HC.out).mono ?_
  rintro e w0 ⟨rfl, hw0, hfr0⟩
  have hs0 : Blk w0 (w.heap.size + 1) (pv zeros) 116 := Blk.fr (by exact Blk.newAt _ _ _ (by simp)) hfr0 (by simp; omega)
  have hr0 : Blk w0 w.heap.size (pv zeros) 116 := Blk.fr (by exact Blk.alloc (Blk.new w _ _) _) hfr0 (by simp; omega)
  have hf0 : Fr [b] w w0 := (((Fr.refl [b] w).alloc _).alloc _).trans hfr0 (by simp)
  go_wp2
  go_loopg [6] (N + 1) (fun m v6 wr => (∃ (k' sg : Nat) (p : List Nat), v6 = .int .i64 sg ∧ (sg = 1 ∨ sg = 6) ∧ N + 1 ≤ m + k' ∧ k' < n ∧ Good p ∧ Wy wr b g n cap k' 0 bad op ∧ Blk wr (w.heap.size + 1) (pv p) 116 ∧ Blk wr w.heap.size (pv zeros) 116 ∧ Fr [b] w wr ∧ Hid (pl f bare N m k' sg p = R)) ∨ (∃ (k' : Nat) (q : List Nat), k' < n ∧ Good q ∧ R.e ≠ 0 ∧ Wy wr b g n cap k' R.e R.bad op ∧ Blk wr (w.heap.size + 1) (pv q) 116 ∧ Blk wr w.heap.size (pv zeros) 116 ∧ Fr [b] w wr))
  case atStart => exact Or.inl ⟨k + 1, 6, zeros, rfl, Or.inr rfl, by omega, hlt0, zeros_good, hw0, hs0, hr0, hf0, HP⟩
  case round =>
    have mb : ¬ w.heap.size + 1 = b := by omega
    have mb0 : ¬ w.heap.size = b := by omega
    have mg : g ≠ w.heap.size + 1 := by omega
    rcases hrel with ⟨k', sg, p, rfl, hsg, hm, hk', hgp, hw, hp, hr, hfw, HQ⟩ | ⟨k', q, hk', hgq, hne, hw, hp, hr, hfw⟩
    · obtain ⟨c0, c1, c2, c3, c4⟩ := hw.cells
      have HTr : Hid (Tk wr g n f) := HT.out.fr hfw (by simp; omega)
      have HWr := hideR hw
      have HPr := hideR hp
      have HRr := hideR hr
      have hbr := Blk.lt hw
      clear hw hp hr
      by_cases hte : (tm f bare N k').e = 0
      · have hT := tm_facts f bare N k'
        have HTE := hideR hte
        go_wp2_with fail
        refine (wterm_ok f N b g n cap (w.heap.size + 1) k' p sg bare bad op _ HWr.out HTr.out HPr.out hgp hk' hn hN hend hv (by omega) hbg (Ne.symm mb) mg hte).mono ?_
        rintro e w1 ⟨rfl, hw1, hp1, hk1, hfr1⟩
        clear hte
        generalize hTT : tm f bare N k' = T at *
        have HTT := hideR hTT
        clear hTT
        have hg' : Good (plus p T.u T.x (sg * T.n)) := plus_good hgp _ _ _
        obtain ⟨p', HP'⟩ : ∃ p', Hid (plus p T.u T.x (sg * T.n) = p') := ⟨_, rfl⟩
        rw [HP'.out] at hp1 hg'
        have hr1 : Blk w1 w.heap.size (pv zeros) 116 := HRr.out.fr hfr1 (by simp; omega)
        have hf1 : Fr [b] w w1 := hfw.trans hfr1 (by simp)
        have ht1 : Tk w1 g n f := HT.out.fr hf1 (by simp; omega)
        obtain ⟨e0, e1, e2, e3, e4⟩ := hw1.cells
        have HW1 := hideR hw1
        have HP1 := hideR hp1
        have HR1 := hideR hr1
        have HT1 := hideR ht1
        clear hw1 hp1 hr1 ht1 c0 c1 c2 c3 c4
        by_cases h4 : (f T.k).c = 47
        · have hlt : T.k + 1 < n := hend T.k hk1 (by omega)
          have HN' : Hid (pl f bare N (gk - 1) (T.k + 1) 1 p' = R) := by
            have q := HQ.out
            rw [pl_plus (by omega) (by rw [HTT.out]; exact HTE.out) (by rw [HTT.out]; exact h4), HTT.out, HP'.out] at q
            exact q
          have h4r := rk_43.2 h4
          have H4 := hideR h4r
          clear h4 h4r
          go_wp2_with fail
          refine (passes_yes b g n cap T.k f 43 bad op _ HW1.out HT1.out hk1 (by omega) (by omega) (by omega) H4.out).mono ?_
          rintro e w2 ⟨rfl, hw2, hfr2⟩
          have hf2 : Fr [b] w w2 := hf1.trans hfr2 (by simp)
          have HT2 : Hid (Tk w2 g n f) := HT.out.fr hf2 (by simp; omega)
          have HP2 : Hid (Blk w2 (w.heap.size + 1) (pv p') 116) := HP1.out.fr hfr2 (by simp [mb])
          have HR2 : Hid (Blk w2 w.heap.size (pv zeros) 116) := HR1.out.fr hfr2 (by simp [mb0])
          have HW2 := hideR hw2
          clear hw2
          by_cases h5 : (f (T.k + 1)).c = 49
          · have hlt2 : T.k + 1 + 1 < n := hend (T.k + 1) hlt (by omega)
            have h5r := rk_45.2 h5
            have H5 := hideR h5r
            have HRR : Hid (R.e = 4 ∧ R.bad = (f (T.k + 1)).at') := by
              have q : tm f bare N (T.k + 1) = ⟨4, (f (T.k + 1)).at', T.k + 1, 0, 0, 0⟩ := by
                unfold tm; rw [if_neg (by omega), if_neg (by omega)]
              unfold Hid
              rw [← HN'.out, pl_bad (by omega) (by rw [q]; simp), q]
              exact ⟨rfl, rfl⟩
            clear h5 h5r HN'
            generalize T.k + 1 = m at *
            go_wp2_with fail
            refine (passes_yes b g n cap m f 45 bad op _ HW2.out HT2.out hlt (by omega) (by omega) (by omega) H5.out).mono ?_
            rintro e w3 ⟨rfl, hw3, hfr3⟩
            have hf3 : Fr [b] w w3 := hf2.trans hfr3 (by simp)
            have ht3 : Tk w3 g n f := HT.out.fr hf3 (by simp; omega)
            have HP3 : Hid (Blk w3 (w.heap.size + 1) (pv p') 116) := HP2.out.fr hfr3 (by simp [mb])
            have HR3 : Hid (Blk w3 w.heap.size (pv zeros) 116) := HR2.out.fr hfr3 (by simp [mb0])
            obtain ⟨s0, s1, s2, s3, s4⟩ := hw3.cells
            obtain ⟨d0, d1, d2, d3⟩ := ht3.cells hlt
            have HW3 := hideR hw3
            have es : ((m + 1 : Nat) : Int) = (m : Int) + 1 := by omega
            rw [es] at s1
            have i0 : (0 : Int) ≤ (m : Int) := by omega
            have i1 : (m : Int) < (n : Int) := by omega
            clear es hw3 ht3
            go_wp2
            refine region_quiet_tail 13 (by kernel_rfl) (by kernel_rfl) ?_
            simp only [List.take_succ_cons, List.take_zero, List.drop_succ_cons, List.drop_zero]
            repeat (first | go_big_quiet_step ((fail)) | quiet_step ((fail)))
            refine wpQuiet_nil ?_
            rintro _ ⟨nr, rfl⟩
            go_wp2_with fail
            refine (wrong_first b g n cap (m + 1) _ _ bad op _ (by exact HW3.out)).mono ?_
            rintro e w4 ⟨rfl, hw4, hfr4⟩
            have hfr4' : Fr [b] w3 w4 := ((Fr.refl [b] w3).drewN nr).trans hfr4 (by simp)
            go_wp2
            go_roundg (gk - 1)
            case measure => omega
            case rel =>
              refine Or.inr ⟨m + 1, p', hlt2, hg', ?_, ?_, HP3.out.fr hfr4' (by simp [mb]), HR3.out.fr hfr4' (by simp [mb0]), hf3.trans hfr4' (by simp)⟩
              · rw [HRR.out.1]; simp
              · rw [HRR.out.1, HRR.out.2]; exact hw4
          · have H5 : Hid (rk (f (T.k + 1)).c ≠ 45) := fun q => h5 (rk_45.1 q)
            clear h5
            go_wp2_with fail
            refine (passes_no b g n cap (T.k + 1) f 45 bad op _ HW2.out HT2.out hlt (by omega) (by omega) (by omega) H5.out).mono ?_
            rintro e w3 ⟨rfl, hw3, hfr3⟩
            have hf3 : Fr [b] w w3 := hf2.trans hfr3 (by simp)
            go_wp2
            go_roundg (gk - 1)
            case measure => omega
            case rel => exact Or.inl ⟨T.k + 1, 1, p', rfl, Or.inl rfl, by omega, hlt, hg', hw3, HP2.out.fr hfr3 (by simp [mb]), HR2.out.fr hfr3 (by simp [mb0]), hf3, HN'⟩
        · have H4 : Hid (rk (f T.k).c ≠ 43) := fun q => h4 (rk_43.1 q)
          go_wp2_with fail
          refine (passes_no b g n cap T.k f 43 bad op _ HW1.out HT1.out hk1 (by omega) (by omega) (by omega) H4.out).mono ?_
          rintro e w2 ⟨rfl, hw2, hfr2⟩
          have hf2 : Fr [b] w w2 := hf1.trans hfr2 (by simp)
          have HT2 : Hid (Tk w2 g n f) := HT.out.fr hf2 (by simp; omega)
          have HP2 : Hid (Blk w2 (w.heap.size + 1) (pv p') 116) := HP1.out.fr hfr2 (by simp [mb])
          have HR2 : Hid (Blk w2 w.heap.size (pv zeros) 116) := HR1.out.fr hfr2 (by simp [mb0])
          have HW2 := hideR hw2
          clear hw2
          by_cases h5 : (f T.k).c = 49
          · have hlt : T.k + 1 < n := hend T.k hk1 (by omega)
            have HN' : Hid (pl f bare N (gk - 1) (T.k + 1) 6 p' = R) := by
              have q := HQ.out
              rw [pl_minus (by omega) (by rw [HTT.out]; exact HTE.out) (by rw [HTT.out]; exact h5), HTT.out, HP'.out] at q
              exact q
            have h5r := rk_45.2 h5
            have H5 := hideR h5r
            clear h4 h5 h5r
            go_wp2_with fail
            refine (passes_yes b g n cap T.k f 45 bad op _ HW2.out HT2.out hk1 (by omega) (by omega) (by omega) H5.out).mono ?_
            rintro e w3 ⟨rfl, hw3, hfr3⟩
            have hf3 : Fr [b] w w3 := hf2.trans hfr3 (by simp)
            go_wp2
            go_roundg (gk - 1)
            case measure => omega
            case rel => exact Or.inl ⟨T.k + 1, 6, p', rfl, Or.inr rfl, by omega, hlt, hg', hw3, HP2.out.fr hfr3 (by simp [mb]), HR2.out.fr hfr3 (by simp [mb0]), hf3, HN'⟩
          · have HB : Hid (R = ⟨0, 0, T.k, p'⟩) := by
              unfold Hid
              rw [← HQ.out, pl_done (by omega) (by rw [HTT.out]; exact HTE.out) (by rw [HTT.out]; exact h4) (by rw [HTT.out]; exact h5), HTT.out, HP'.out]
            have H5 : Hid (rk (f T.k).c ≠ 45) := fun q => h5 (rk_45.1 q)
            clear h4 h5
            go_wp2_with fail
            refine (passes_no b g n cap T.k f 45 bad op _ HW2.out HT2.out hk1 (by omega) (by omega) (by omega) H5.out).mono ?_
            rintro e w3 ⟨rfl, hw3, hfr3⟩
            have hf3 : Fr [b] w w3 := hf2.trans hfr3 (by simp)
            have HW3 := hideR hw3
            have HP3 : Hid (Blk w3 (w.heap.size + 1) (pv p') 116) := HP2.out.fr hfr3 (by simp [mb])
            have HR3 : Hid (Blk w3 w.heap.size (pv zeros) 116) := HR2.out.fr hfr3 (by simp [mb0])
            clear hw3
            go_wp2_with (first | (refine wpList_load_row (by rfl) 116 _ (by rfl) (w.heap.size + 1) (by rfl) 116 (pv p') (0, 0) _ HP3.out Tryz.underlying116 (by rfl) (size_rPoly hg') ?_) | (refine wpList_store_mid (by rfl) 116 _ (.tmp 55) (by rfl) w.heap.size 0 (pv p') (by rfl) (by rfl) (Blk.there HR3.out (by rw [pv_size, pv_size, hg'.1]; exact Nat.le_refl _)) (size_rPoly hg') (pv_one _) ?_))
            refine bodyPost_ret (results_cell_row Tryz.results66 _ _ w.heap.size 116 (pv p') (0, 0) _ (by rfl) (Blk.setAll HR3.out _ (by rw [pv_size, pv_size, hg'.1]; rfl)) Tryz.underlying116 rfl (size_rPoly hg')) rfl ?_
            refine Or.inl ⟨?_, ?_, ?_, ?_, ?_, ?_⟩
            · rw [HB.out]
            · rw [HB.out]
            · rw [HB.out]; exact hg'
            · rw [HB.out]; exact Blk.setCellsOther HW3.out _ _ _ (by omega)
            · rw [HB.out]; exact hk1
            · exact Fr.setCells hf3 _ _ _ (by simp)
      · have HB : Hid (R.e ≠ 0 ∧ R.e = (tm f bare N k').e ∧ R.bad = (tm f bare N k').bad) := by
          unfold Hid
          rw [← HQ.out, pl_bad (by omega) hte]; exact ⟨hte, rfl, rfl⟩
        go_wp2_with fail
        refine (wterm_not f N b g n cap (w.heap.size + 1) k' p sg bare bad op _ HWr.out HTr.out HPr.out hgp hk' hn hN hend hv (by omega) hbg (Ne.symm mb) mg hte).mono ?_
        rintro e w1 ⟨rfl, ⟨k1, hk1, hw1⟩, hp1, hfr1⟩
        obtain ⟨g1, g2, g3⟩ := HB.out
        rw [← g2, ← g3] at hw1
        have hr1 : Blk w1 w.heap.size (pv zeros) 116 := HRr.out.fr hfr1 (by simp; omega)
        have hf1 : Fr [b] w w1 := hfw.trans hfr1 (by simp)
        obtain ⟨e0, e1, e2, e3, e4⟩ := hw1.cells
        have qe : ((R.e : Int) != 0) = true := by rw [bne_iff_ne]; omega
        have HW1 := hideR hw1
        have HP1 := hideR hp1
        have HR1 := hideR hr1
        have HG1 := hideR g1
        clear hw1 hp1 hr1 c0 c1 c2 c3 c4 g1 g2 g3 hte
        go_wp2_with (first | (refine wpList_load_row (by rfl) 116 _ (by rfl) (w.heap.size + 1) (by rfl) 116 (pv p) (0, 0) _ HP1.out Tryz.underlying116 (by rfl) (size_rPoly hgp) ?_) | (refine wpList_store_mid (by rfl) 116 _ (.tmp 55) (by rfl) w.heap.size 0 (pv p) (by rfl) (by rfl) (Blk.there HR1.out (by rw [pv_size, pv_size, hgp.1]; exact Nat.le_refl _)) (size_rPoly hgp) (pv_one _) ?_))
        refine bodyPost_ret (results_cell_row Tryz.results66 _ _ w.heap.size 116 (pv p) (0, 0) _ (by rfl) (Blk.setAll HR1.out _ (by rw [pv_size, pv_size, hgp.1]; rfl)) Tryz.underlying116 rfl (size_rPoly hgp)) rfl ?_
        exact Or.inr ⟨HG1.out, ⟨p, hgp, rfl⟩, ⟨k1, hk1, Blk.setCellsOther HW1.out _ _ _ (by omega)⟩, Fr.setCells hf1 _ _ _ (by simp)⟩
    · obtain ⟨c0, c1, c2, c3, c4⟩ := hw.cells
      have qe : ((R.e : Int) == 0) = false := by rw [beq_eq_false_iff_ne]; omega
      have HW1 := hideR hw
      have HP1 := hideR hp
      have HR1 := hideR hr
      have HG1 := hideR hne
      clear hw hp hr hne
      go_wp2_with (first | (refine wpList_load_row (by rfl) 116 _ (by rfl) (w.heap.size + 1) (by rfl) 116 (pv q) (0, 0) _ HP1.out Tryz.underlying116 (by rfl) (size_rPoly hgq) ?_) | (refine wpList_store_mid (by rfl) 116 _ (.tmp 55) (by rfl) w.heap.size 0 (pv q) (by rfl) (by rfl) (Blk.there HR1.out (by rw [pv_size, pv_size, hgq.1]; exact Nat.le_refl _)) (size_rPoly hgq) (pv_one _) ?_))
      refine bodyPost_ret (results_cell_row Tryz.results66 _ _ w.heap.size 116 (pv q) (0, 0) _ (by rfl) (Blk.setAll HR1.out _ (by rw [pv_size, pv_size, hgq.1]; rfl)) Tryz.underlying116 rfl (size_rPoly hgq)) rfl ?_
      exact Or.inr ⟨HG1.out, ⟨q, hgq, rfl⟩, ⟨k', hk', Blk.setCellsOther HW1.out _ _ _ (by omega)⟩, Fr.setCells hfw _ _ _ (by simp)⟩

theorem wpoly_any (f : Nat → Tok) (N b g n cap k : Nat) (bare : Bool) (bad op : Int) (w : World) (h : Wy w b g n cap k 0 bad op) (ht : Tk w g n f)
    (hk : k < n) (hn : n ≤ N + 1) (hN : N ≤ 1000) (hend : ∀ j, j < n → (f j).c ≠ 0 → j + 1 < n) (hv : ∀ j, (f j).v ≤ 99) (hbg : b ≠ g) :
    Calls Tryz.prog 66 #[.pointer (some ⟨b, 0, none⟩), .bool bare] w (PolyEnd b g n cap (poly f bare N k) bad op w) := by
  unfold poly
  by_cases hc : (f k).c = 49
  · rw [if_pos hc]; exact wpoly_minus f N b g n cap k bare bad op w h ht hk hn hN hend hv hbg hc
  · rw [if_neg hc]; exact wpoly_plain f N b g n cap k bare bad op w h ht hk hn hN hend hv hbg hc
theorem wpoly_ok (f : Nat → Tok) (N b g n cap k : Nat) (bare : Bool) (bad op : Int) (w : World) (h : Wy w b g n cap k 0 bad op) (ht : Tk w g n f)
    (hk : k < n) (hn : n ≤ N + 1) (hN : N ≤ 1000) (hend : ∀ j, j < n → (f j).c ≠ 0 → j + 1 < n) (hv : ∀ j, (f j).v ≤ 99) (hbg : b ≠ g) (he : (poly f bare N k).e = 0) :
    Calls Tryz.prog 66 #[.pointer (some ⟨b, 0, none⟩), .bool bare] w fun e w' => e = .returned (.agg (pv (poly f bare N k).p)) ∧ Good (poly f bare N k).p ∧ Wy w' b g n cap (poly f bare N k).k 0 bad op ∧ (poly f bare N k).k < n ∧ Fr [b] w w' :=
  (wpoly_any f N b g n cap k bare bad op w h ht hk hn hN hend hv hbg).mono (by rintro e w1 (q | q); exact q.2; exact absurd he q.1)
theorem wpoly_not (f : Nat → Tok) (N b g n cap k : Nat) (bare : Bool) (bad op : Int) (w : World) (h : Wy w b g n cap k 0 bad op) (ht : Tk w g n f)
    (hk : k < n) (hn : n ≤ N + 1) (hN : N ≤ 1000) (hend : ∀ j, j < n → (f j).c ≠ 0 → j + 1 < n) (hv : ∀ j, (f j).v ≤ 99) (hbg : b ≠ g) (he : (poly f bare N k).e ≠ 0) :
    Calls Tryz.prog 66 #[.pointer (some ⟨b, 0, none⟩), .bool bare] w fun e w' => (∃ q, Good q ∧ e = .returned (.agg (pv q))) ∧ (∃ k', k' < n ∧ Wy w' b g n cap k' (poly f bare N k).e (poly f bare N k).bad op) ∧ Fr [b] w w' :=
  (wpoly_any f N b g n cap k bare bad op w h ht hk hn hN hend hv hbg).mono (by rintro e w1 (q | q); exact absurd q.1 he; exact q.2)
end Go.Proofs.YthlmgpllapccfaaGreatDoor
/- PLAIN: a polynomial's text. -/
namespace Go.Proofs.YthlmgpllapccfaaGreatDoor

def bs (l : List UInt8) : ByteArray := ⟨l.toArray⟩
theorem bs_append (a b : List UInt8) : bs a ++ bs b = bs (a ++ b) := by
  apply ByteArray.ext
  simp [bs]
theorem bs_inj {a b : List UInt8} (h : bs a = bs b) : a = b := by
  have := congrArg (fun x : ByteArray => x.data.toList) h
  simpa [bs] using this
theorem bs_list (a : List UInt8) : (bs a).data.toList = a := rfl
def dgt (n : Nat) : UInt8 := UInt8.ofNat (48 + n)
def ptx (c : UInt8) (n : Nat) : List UInt8 := if n = 0 then [] else if n = 1 then [c] else [c, dgt n]
def pws (u x : Nat) : List UInt8 := ptx 117 u ++ ptx 120 x
def tmx (n u x : Nat) : List UInt8 := if n = 1 ∧ (u ≠ 0 ∨ x ≠ 0) then pws u x else dgt n :: pws u x
/-- The first k terms, from the top. -/
def tms (p : List Nat) : Nat → List (List UInt8)
  | 0 => []
  | k + 1 => if p.getD (34 - k) 0 = 0 then tms p k else tms p k ++ [tmx (p.getD (34 - k) 0) ((34 - k) % 7) ((34 - k) / 7)]
/-- The text so far, as the document writes it. -/
def wrt (p : List Nat) : Nat → List UInt8
  | 0 => []
  | k + 1 => if p.getD (34 - k) 0 = 0 then wrt p k else (if wrt p k = [] then [] else wrt p k ++ [43]) ++ tmx (p.getD (34 - k) 0) ((34 - k) % 7) ((34 - k) / 7)
def txt (p : List Nat) : List UInt8 := if wrt p 35 = [] then [48] else wrt p 35

theorem ptx_nil {c : UInt8} {n : Nat} : ptx c n = [] ↔ n = 0 := by
  unfold ptx; split
  · simp [*]
  · split <;> simp [*]
theorem pws_nil {u x : Nat} : pws u x = [] ↔ u = 0 ∧ x = 0 := by
  unfold pws; rw [List.append_eq_nil_iff, ptx_nil, ptx_nil]
theorem tmx_ne (n u x : Nat) : tmx n u x ≠ [] := by
  unfold tmx; split
  · rename_i h; intro q; rw [pws_nil] at q; omega
  · simp
theorem tms_ne (p : List Nat) : ∀ k, ∀ t ∈ tms p k, t ≠ []
  | 0, t, h => by simp [tms] at h
  | k + 1, t, h => by
    unfold tms at h
    split at h
    · exact tms_ne p k t h
    · rw [List.mem_append] at h
      rcases h with h | h
      · exact tms_ne p k t h
      · rw [List.mem_singleton] at h; subst h; exact tmx_ne _ _ _
theorem join_snoc (xs : List (List UInt8)) (x sep : List UInt8) (h : xs ≠ []) : Lib.join (xs ++ [x]) sep = Lib.join xs sep ++ sep ++ x := by
  cases xs with
  | nil => exact absurd rfl h
  | cons y r =>
    rw [List.cons_append, Lib.join_cons, Lib.join_cons]
    unfold Lib.joinTail
    simp [List.append_assoc]
theorem join_ne {xs : List (List UInt8)} {sep : List UInt8} (h : ∀ t ∈ xs, t ≠ []) : Lib.join xs sep = [] ↔ xs = [] := by
  cases xs with
  | nil => simp [Lib.join_nil]
  | cons y r =>
    rw [Lib.join_cons]
    have := h y (by simp)
    simp [this]
theorem wrt_join (p : List Nat) : ∀ k, wrt p k = Lib.join (tms p k) [43]
  | 0 => rfl
  | k + 1 => by
    unfold wrt tms
    split
    · exact wrt_join p k
    · rw [wrt_join p k]
      by_cases h : tms p k = []
      · rw [h]
        simp [Lib.join_nil, Lib.join_one]
      · rw [if_neg (fun q => h ((join_ne (tms_ne p k)).1 q)), join_snoc _ _ _ h]
theorem txt_join (p : List Nat) (h : tms p 35 ≠ []) : txt p = Lib.join (tms p 35) [43] := by
  unfold txt; rw [if_neg (by rw [wrt_join]; exact fun q => h ((join_ne (tms_ne p 35)).1 q)), wrt_join]
theorem tms_nil (p : List Nat) : ∀ k, k ≤ 35 → (tms p k = [] ↔ ∀ j, j < k → p.getD (34 - j) 0 = 0)
  | 0, _ => by simp [tms]
  | k + 1, hk => by
    unfold tms
    have ih := tms_nil p k (by omega)
    split
    · rename_i h
      rw [ih]
      constructor
      · intro q j hj
        by_cases e : j = k
        · subst e; exact h
        · exact q j (by omega)
      · intro q j hj; exact q j (by omega)
    · rename_i h
      constructor
      · intro q; simp at q
      · intro q; exact absurd (q k (by omega)) h
theorem txt_zero (p : List Nat) (h : tms p 35 = []) : txt p = [48] := by
  unfold txt; rw [wrt_join, h]; rfl
theorem good_zeros {p : List Nat} (hp : Good p) : tms p 35 = [] ↔ p = zeros := by
  rw [tms_nil p 35 (Nat.le_refl _)]
  constructor
  · intro q
    apply List.ext_getElem
    · rw [hp.1]; rfl
    · intro i h1 h2
      have e := q (34 - i) (by rw [hp.1] at h1; omega)
      rw [show 34 - (34 - i) = i by rw [hp.1] at h1; omega] at e
      rw [List.getD_eq_getElem?_getD, List.getElem?_eq_getElem h1] at e
      simp only [Option.getD_some] at e
      rw [e]
      unfold zeros at h2 ⊢
      rw [List.getElem_replicate]
  · intro q j hj
    subst q
    unfold zeros
    rw [List.getD_eq_getElem?_getD, List.getElem?_replicate]
    split <;> rfl
theorem tmx_len (n u x : Nat) : (tmx n u x).length ≤ 5 := by
  have h : ∀ c m, (ptx c m).length ≤ 2 := by
    intro c m; unfold ptx; split
    · simp
    · split <;> simp
  have h1 := h 117 u
  have h2 := h 120 x
  unfold tmx pws
  split <;> simp <;> omega
theorem tms_len (p : List Nat) : ∀ k, (tms p k).length ≤ k
  | 0 => by simp [tms]
  | k + 1 => by
    have := tms_len p k
    unfold tms; split
    · omega
    · simp; omega
theorem wrt_len (p : List Nat) : ∀ k, (wrt p k).length ≤ 6 * k
  | 0 => by simp [wrt]
  | k + 1 => by
    have := wrt_len p k
    have := tmx_len (p.getD (34 - k) 0) ((34 - k) % 7) ((34 - k) / 7)
    unfold wrt; split
    · omega
    · split <;> simp only [List.length_append, List.length_cons, List.length_nil] <;> omega
theorem dec_small {n : Nat} (h : n < 10) : Lib.decDigits n = [dgt n] := by
  match n, h with
  | 0, _ => decide +kernel
  | 1, _ => decide +kernel
  | 2, _ => decide +kernel
  | 3, _ => decide +kernel
  | 4, _ => decide +kernel
  | 5, _ => decide +kernel
  | 6, _ => decide +kernel
  | 7, _ => decide +kernel
  | 8, _ => decide +kernel
  | 9, _ => decide +kernel
theorem dgt_int {n : Nat} (h : n < 10) : ((dgt n).toNat : Int) = 48 + (n : Int) := by
  unfold dgt
  rw [UInt8.toNat_ofNat']
  omega
theorem bs_size (l : List UInt8) : (bs l).size = l.length := by simp [bs, ByteArray.size]
theorem ptx_len (c : UInt8) (n : Nat) : (ptx c n).length ≤ 2 := by
  unfold ptx; split
  · simp
  · split <;> simp
theorem pws_len (u x : Nat) : (pws u x).length ≤ 4 := by
  have := ptx_len 117 u; have := ptx_len 120 x
  unfold pws; simp; omega
theorem pws_eq (u x : Nat) : bs (ptx 117 u) ++ bs (ptx 120 x) = bs (pws u x) := bs_append _ _
theorem bs_empty (l : List UInt8) : (bs l).toList.isEmpty = l.isEmpty := by rw [ByteArray.toList_eq]; rfl
end Go.Proofs.YthlmgpllapccfaaGreatDoor
/- PLAIN: what a polynomial comes to: from the top (the program), by powers (the document). -/
namespace Go.Proofs.YthlmgpllapccfaaGreatDoor

/-- From the top, k of n numbers. -/
def horn (c : Nat → Nat) (n u : Nat) : Nat → Nat
  | 0 => 0
  | k + 1 => (horn c n u k * u + c (n - 1 - k)) % 7
/-- By powers, k numbers. -/
def pows (c : Nat → Nat) (u : Nat) : Nat → Nat
  | 0 => 0
  | k + 1 => (pows c u k + c k * pw7 u k) % 7
theorem horn_lt (c : Nat → Nat) (n u k : Nat) : horn c n u k < 7 := by cases k <;> simp [horn]; omega
theorem pows_lt (c : Nat → Nat) (u k : Nat) : pows c u k < 7 := by cases k <;> simp [pows]; omega

/-- The sum itself. -/
def sumI (c : Nat → Nat) (u : Nat) : Nat → Nat
  | 0 => 0
  | k + 1 => sumI c u k + c k * u ^ k
theorem sumI_front (u : Nat) : ∀ (k : Nat) (c : Nat → Nat), sumI c u (k + 1) = c 0 + u * sumI (fun j => c (j + 1)) u k
  | 0, c => by simp [sumI]
  | k + 1, c => by
    rw [sumI, sumI_front u k c, sumI, Nat.mul_add, ← Nat.add_assoc]
    congr 1
    rw [Nat.pow_succ, Nat.mul_comm (u ^ k) u, ← Nat.mul_assoc, ← Nat.mul_assoc, Nat.mul_comm (c (k + 1)) u]
theorem pw7_pow (u : Nat) : ∀ k, pw7 u k = u ^ k % 7
  | 0 => rfl
  | k + 1 => by rw [pw7, pw7_pow u k, Nat.pow_succ, Nat.mod_mul_mod]
theorem pows_sum (c : Nat → Nat) (u : Nat) : ∀ k, pows c u k = sumI c u k % 7
  | 0 => rfl
  | k + 1 => by
    rw [pows, pows_sum c u k, pw7_pow, sumI]
    rw [Nat.add_mod (sumI c u k % 7), Nat.mod_mod, Nat.mul_mod_mod, ← Nat.add_mod]
theorem horn_sum (c : Nat → Nat) (n u : Nat) : ∀ k, k ≤ n → horn c n u k = sumI (fun j => c (n - k + j)) u k % 7
  | 0, _ => rfl
  | k + 1, h => by
    rw [horn, horn_sum c n u k (by omega), sumI_front]
    have e : (fun j => c (n - (k + 1) + (j + 1))) = fun j => c (n - k + j) := by
      funext j; congr 1; omega
    rw [e, show n - (k + 1) + 0 = n - 1 - k by omega, Nat.add_mod, Nat.mod_mul_mod, ← Nat.add_mod, Nat.add_comm, Nat.mul_comm u]
theorem horn_pows (c : Nat → Nat) (n u : Nat) : horn c n u n = pows c u n := by
  rw [horn_sum c n u n (Nat.le_refl _), pows_sum]
  congr 1
  have e : (fun j => c (n - n + j)) = c := by funext j; congr 1; omega
  rw [e]

/-- What the polynomial p comes to. -/
def valP (p : List Nat) (u x : Nat) : Nat := horn (fun i => horn (fun j => p.getD (i * 7 + j) 0) 7 u 7) 5 x 5
def lineR (p : List Nat) (u : Nat) : List Nat := [pows (fun j => p.getD (0 * 7 + j) 0) u 7, pows (fun j => p.getD (1 * 7 + j) 0) u 7, pows (fun j => p.getD (2 * 7 + j) 0) u 7, pows (fun j => p.getD (3 * 7 + j) 0) u 7, pows (fun j => p.getD (4 * 7 + j) 0) u 7]
def valL (l : List Nat) (x : Nat) : Nat := pows (fun i => l.getD i 0) x 5
theorem pows_congr {c d : Nat → Nat} {u : Nat} : ∀ k, (∀ j, j < k → c j = d j) → pows c u k = pows d u k
  | 0, _ => rfl
  | k + 1, h => by rw [pows, pows, pows_congr k (fun j hj => h j (by omega)), h k (by omega)]
theorem lineR_get (p : List Nat) (u i : Nat) (h : i < 5) : (lineR p u).getD i 0 = pows (fun j => p.getD (i * 7 + j) 0) u 7 := by
  match i, h with
  | 0, _ => rfl
  | 1, _ => rfl
  | 2, _ => rfl
  | 3, _ => rfl
  | 4, _ => rfl
theorem val_same (p : List Nat) (u x : Nat) : valL (lineR p u) x = valP p u x := by
  unfold valP valL
  rw [horn_pows]
  exact pows_congr 5 (fun i hi => by rw [lineR_get p u i hi, horn_pows])
end Go.Proofs.YthlmgpllapccfaaGreatDoor
