/- THE READER: take, fail, finish. -/
import Derived.Test.YtaajdcaciofmaaaDoorFrame
namespace Go.Proofs.YtaajdcaciofmaaaDoor
open Go.RowKit

/-- A reader in memory: its text and its next token. -/
def Rd (w : World) (b : Nat) (s : ByteArray) (t : Tok) : Prop := Blk w b #[.string s, .int .i64 (pk t.c), .int .i64 t.at', .int .i64 t.to, .int .i64 t.v] 91
theorem Rd.cells {w : World} {b : Nat} {s : ByteArray} {t : Tok} (h : Rd w b s t) : w.cell? ⟨b, 0, none⟩ = some (.string s) ∧ w.cell? ⟨b, 1, none⟩ = some (.int .i64 (pk t.c)) ∧ w.cell? ⟨b, 2, none⟩ = some (.int .i64 t.at') ∧ w.cell? ⟨b, 3, none⟩ = some (.int .i64 t.to) ∧ w.cell? ⟨b, 4, none⟩ = some (.int .i64 t.v) :=
  ⟨Blk.cell h 0, Blk.cell h 1, Blk.cell h 2, Blk.cell h 3, Blk.cell h 4⟩
theorem Rd.free {w : World} {b : Nat} {s : ByteArray} {t : Tok} (h : Rd w b s t) : w.frozen? ⟨b, 0, none⟩ = false ∧ w.frozen? ⟨b, 1, none⟩ = false ∧ w.frozen? ⟨b, 2, none⟩ = false ∧ w.frozen? ⟨b, 3, none⟩ = false ∧ w.frozen? ⟨b, 4, none⟩ = false :=
  ⟨Blk.frozen h 0, Blk.frozen h 1, Blk.frozen h 2, Blk.frozen h 3, Blk.frozen h 4⟩

theorem Rd.store {w : World} {b : Nat} {s : ByteArray} {t : Tok} (h : Rd w b s t) (u : Tok) : Rd ((((w.setCell ⟨b, 1, none⟩ (.int .i64 (pk u.c))).setCell ⟨b, 2, none⟩ (.int .i64 u.at')).setCell ⟨b, 3, none⟩ (.int .i64 u.to)).setCell ⟨b, 4, none⟩ (.int .i64 u.v)) b s u :=
  Blk.set (Blk.set (Blk.set (Blk.set h 1 _) 2 _) 3 _) 4 _
theorem Rd.setOther {w : World} {b : Nat} {s : ByteArray} {t : Tok} (h : Rd w b s t) (p : Addr) (v : Value) (hn : b ≠ p.block) : Rd (w.setCell p v) b s t := Blk.setOther h p v hn

set_option maxHeartbeats 400000 in
theorem fail_any (s : ByteArray) (t : Tok) (b : Nat) (n : Int) (w : World) (hr : Rd w b s t) :
    Calls Tryd.prog 45 #[.pointer (some ⟨b, 0, none⟩), .int .i64 n] w fun e w' => e = .panicked [{ v := .iface 55 (.agg #[.int .i64 n, .int .i64 t.at']), recovered := false }] ∧ w' = w := by
  obtain ⟨c0, c1, c2, c3, c4⟩ := hr.cells
  go_enter Tryd.func45, Tryd.ntmps45
  go_wp2
  exact ⟨rfl, rfl, rfl⟩

set_option maxHeartbeats 1000000 in
theorem take_any (s : ByteArray) (a k b : Nat) (w : World) (hs : s.size ≤ 1000) (ha : a ≤ s.size) (hr : Rd w b s (tk s a k)) :
    Calls Tryd.prog 42 #[.pointer (some ⟨b, 0, none⟩)] w fun e w' => e = .returned (.agg #[.int .i64 (pk (tk s a k).c), .int .i64 (tk s a k).at', .int .i64 (tk s a k).to, .int .i64 (tk s a k).v]) ∧ Rd w' b s (tk s a (k + 1)) ∧ Fr [b] w w' := by
  obtain ⟨c0, c1, c2, c3, c4⟩ := hr.cells
  obtain ⟨f0, f1, f2, f3, f4⟩ := hr.free
  have hb : b < w.heap.size := Blk.lt hr
  have hf := tk_facts ha k
  have n0 : ¬ b = w.heap.size := by omega
  have n1 : ¬ b = w.heap.size + 1 := by omega
  have HR : Hid (Rd w b s (tk s a k)) := hr
  have HK : Hid (tok s (tk s a k).to = tk s a (k + 1)) := rfl
  clear hr
  generalize tk s a k = t at *
  generalize tk s a (k + 1) = t1 at *
  go_enter Tryd.func42, Tryd.ntmps42
  go_wp2
  go_region_held3 (fun w' => w'.cell? ⟨b, 0, none⟩ = some (.string s) ∧ w'.cell? ⟨w.heap.size + 1, 2, none⟩ = some (.int .i64 t.to)) (first | (go_keep; done) | (simp [*, World.cell?_setCell_far, cell_set_off]; done)) (first | (go_at_call 41; refine (tokenAt_any s t.to _ _ (by omega) (by omega) (by omega)).mono ?_; rintro e w1 ⟨rfl, hbel⟩; obtain ⟨hc1, hf1⟩ := bcell hbel; have HR1 : Hid (Rd w1 b s t) := Blk.fr (by exact Blk.alloc (Blk.alloc HR.out _) _) (Fr.of_below (bs := []) hbel) (by simp); obtain ⟨d0, d1, d2, d3, d4⟩ := Rd.cells HR1.out; obtain ⟨g0, g1, g2, g3, g4⟩ := Rd.free HR1.out))
  go_wp2
  have hn : Blk w1 w.heap.size #[.int .i64 0, .int .i64 0, .int .i64 0, .int .i64 0] 88 := Blk.fr (by exact Blk.alloc (Blk.new w _ _) _) (Fr.of_below (bs := []) hbel) (by simp)
  have n0' : ¬ w.heap.size = b := fun e => n0 e.symm
  refine bodyPost_ret (results_cell_row Tryd.results42 _ _ w.heap.size 88 #[.int .i64 (pk t.c), .int .i64 t.at', .int .i64 t.to, .int .i64 t.v] (0, 0) _ (by rfl) (Blk.store4 (Blk.setOther (Blk.setOther (Blk.setOther (Blk.setOther hn _ _ n0') _ _ n0') _ _ n0') _ _ n0') _ _ _ _) Tryd.underlying88 rfl (by kernel_rfl)) rfl ⟨rfl, ?_, ?_⟩
  · rw [← HK.out]
    exact ((((Rd.store HR1.out (tok s t.to)).setOther _ _ n0).setOther _ _ n0).setOther _ _ n0).setOther _ _ n0
  · have h1 : Fr [b] w w1 := ((((Fr.refl [b] w).alloc _).alloc _).drew).trans (Fr.of_below (bs := []) hbel) (by simp)
    repeat (refine Fr.setCell ?_ _ _ (by simp))
    exact h1
end Go.Proofs.YtaajdcaciofmaaaDoor
