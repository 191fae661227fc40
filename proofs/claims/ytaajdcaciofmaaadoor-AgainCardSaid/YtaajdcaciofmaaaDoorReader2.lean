/- THE READER: power. -/
import Derived.Test.YtaajdcaciofmaaaDoorReader1
namespace Go.Proofs.YtaajdcaciofmaaaDoor
open Go.RowKit

set_option maxHeartbeats 1000000 in
theorem power_u (s : ByteArray) (a k b : Nat) (u x : Nat) (N : Int) (w : World) (hs : s.size ≤ 1000) (ha : a ≤ s.size) (hr : Rd w b s (tk s a k)) (hc : (tk s a k).c = 2) (hu : u ≤ 6) (hx : x ≤ 4) :
    Calls Tryd.prog 66 #[.pointer (some ⟨b, 0, none⟩), .agg #[.int .i64 N, .int .i64 u, .int .i64 x]] w fun e w' =>
      (u + (tk s a k).v ≤ 6 ∧ e = .returned (.agg #[.int .i64 N, .int .i64 ((u + (tk s a k).v : Nat) : Int), .int .i64 (x : Int)]) ∧ Rd w' b s (tk s a (k + 1)) ∧ Fr [b] w w') ∨
      (¬ u + (tk s a k).v ≤ 6 ∧ e = .panicked [{ v := .iface 55 (.agg #[.int .i64 5, .int .i64 (tk s a k).at']), recovered := false }] ∧ Fr [b] w w') := by
  obtain ⟨c0, c1, c2, c3, c4⟩ := hr.cells
  obtain ⟨f0, f1, f2, f3, f4⟩ := hr.free
  have hb : b < w.heap.size := Blk.lt hr
  have hf := tk_facts ha k
  have n0 : ¬ b = w.heap.size := by omega
  have n1 : ¬ b = w.heap.size + 1 := by omega
  have m0 : ¬ w.heap.size = b := by omega
  have m1 : ¬ w.heap.size + 1 = b := by omega
  have HR : Hid (Rd w b s (tk s a k)) := hr
  have hpk : pk (tk s a k).c = 2 := by rw [hc]; rfl
  rw [hpk] at c1
  clear hr hpk hc
  by_cases hle : u + (tk s a k).v ≤ 6
  · go_enter Tryd.func66, Tryd.ntmps66
    go_wp2
    go_region
    go_wp2_with fail
    refine (take_any s a k b _ (by omega) (by omega) (by exact Blk.alloc (Blk.alloc HR.out _) _)).mono ?_
    rintro e w1 ⟨rfl, hr1, hfr⟩
    have ht : Blk w1 w.heap.size #[.int .i64 N, .int .i64 ((u : Int) + ((tk s a k).v : Int)), .int .i64 (x : Int)] 64 := Blk.fr (by exact Blk.alloc (Blk.new w _ _) _) hfr (by simp [m0])
    have hq : Blk w1 (w.heap.size + 1) #[.int .i64 0, .int .i64 0, .int .i64 0] 64 := Blk.fr (by exact Blk.newAt _ _ _ (by simp)) hfr (by simp [m1])
    obtain ⟨p0, p1, p2⟩ := ht.cells3
    obtain ⟨q0, q1, q2⟩ := hq.cells3
    obtain ⟨g0, g1, g2⟩ := hq.free3
    go_wp2
    refine bodyPost_ret (results_cell_row Tryd.results66 _ _ (w.heap.size + 1) 64 #[.int .i64 N, .int .i64 ((u : Int) + ((tk s a k).v : Int)), .int .i64 (x : Int)] (0, 0) _ (by rfl) (Blk.store3 hq _ _ _) Tryd.underlying64 rfl (by kernel_rfl)) rfl (Or.inl ⟨hle, ?_, ?_, ?_⟩)
    · exact ret3 rfl (by omega) (by omega)
    · exact ((hr1.setOther _ _ n1).setOther _ _ n1).setOther _ _ n1
    · repeat (refine Fr.setCell ?_ _ _ (by simp))
      exact ((((Fr.refl [b] w).alloc _).alloc _).drew).trans hfr (by simp)
  · go_enter Tryd.func66, Tryd.ntmps66
    go_wp2
    go_region
    go_wp2_with (go_at_call 45; refine (fail_any s (tk s a k) b _ _ (by exact Blk.alloc (Blk.alloc HR.out _) _)).mono ?_; rintro e w1 ⟨rfl, rfl⟩)
    refine ⟨rfl, Or.inr ⟨hle, rfl, ?_⟩⟩
    exact (((Fr.refl [b] w).alloc _).alloc _).drew

set_option maxHeartbeats 1000000 in
theorem power_x (s : ByteArray) (a k b : Nat) (u x : Nat) (N : Int) (w : World) (hs : s.size ≤ 1000) (ha : a ≤ s.size) (hr : Rd w b s (tk s a k)) (hc : (tk s a k).c = 3) (hu : u ≤ 6) (hx : x ≤ 4) :
    Calls Tryd.prog 66 #[.pointer (some ⟨b, 0, none⟩), .agg #[.int .i64 N, .int .i64 u, .int .i64 x]] w fun e w' =>
      (x + (tk s a k).v ≤ 4 ∧ e = .returned (.agg #[.int .i64 N, .int .i64 (u : Int), .int .i64 ((x + (tk s a k).v : Nat) : Int)]) ∧ Rd w' b s (tk s a (k + 1)) ∧ Fr [b] w w') ∨
      (¬ x + (tk s a k).v ≤ 4 ∧ e = .panicked [{ v := .iface 55 (.agg #[.int .i64 5, .int .i64 (tk s a k).at']), recovered := false }] ∧ Fr [b] w w') := by
  obtain ⟨c0, c1, c2, c3, c4⟩ := hr.cells
  obtain ⟨f0, f1, f2, f3, f4⟩ := hr.free
  have hb : b < w.heap.size := Blk.lt hr
  have hf := tk_facts ha k
  have n0 : ¬ b = w.heap.size := by omega
  have n1 : ¬ b = w.heap.size + 1 := by omega
  have m0 : ¬ w.heap.size = b := by omega
  have m1 : ¬ w.heap.size + 1 = b := by omega
  have HR : Hid (Rd w b s (tk s a k)) := hr
  have hpk : pk (tk s a k).c = 3 := by rw [hc]; rfl
  rw [hpk] at c1
  clear hr hpk hc
  by_cases hle : x + (tk s a k).v ≤ 4
  · go_enter Tryd.func66, Tryd.ntmps66
    go_wp2
    go_region
    go_wp2_with fail
    refine (take_any s a k b _ (by omega) (by omega) (by exact Blk.alloc (Blk.alloc HR.out _) _)).mono ?_
    rintro e w1 ⟨rfl, hr1, hfr⟩
    have ht : Blk w1 w.heap.size #[.int .i64 N, .int .i64 (u : Int), .int .i64 ((x : Int) + ((tk s a k).v : Int))] 64 := Blk.fr (by exact Blk.alloc (Blk.new w _ _) _) hfr (by simp [m0])
    have hq : Blk w1 (w.heap.size + 1) #[.int .i64 0, .int .i64 0, .int .i64 0] 64 := Blk.fr (by exact Blk.newAt _ _ _ (by simp)) hfr (by simp [m1])
    obtain ⟨p0, p1, p2⟩ := ht.cells3
    obtain ⟨q0, q1, q2⟩ := hq.cells3
    obtain ⟨g0, g1, g2⟩ := hq.free3
    go_wp2
    refine bodyPost_ret (results_cell_row Tryd.results66 _ _ (w.heap.size + 1) 64 #[.int .i64 N, .int .i64 (u : Int), .int .i64 ((x : Int) + ((tk s a k).v : Int))] (0, 0) _ (by rfl) (Blk.store3 hq _ _ _) Tryd.underlying64 rfl (by kernel_rfl)) rfl (Or.inl ⟨hle, ?_, ?_, ?_⟩)
    · exact ret3 rfl (by omega) (by omega)
    · exact ((hr1.setOther _ _ n1).setOther _ _ n1).setOther _ _ n1
    · repeat (refine Fr.setCell ?_ _ _ (by simp))
      exact ((((Fr.refl [b] w).alloc _).alloc _).drew).trans hfr (by simp)
  · go_enter Tryd.func66, Tryd.ntmps66
    go_wp2
    go_region
    go_wp2_with (go_at_call 45; refine (fail_any s (tk s a k) b _ _ (by exact Blk.alloc (Blk.alloc HR.out _) _)).mono ?_; rintro e w1 ⟨rfl, rfl⟩)
    refine ⟨rfl, Or.inr ⟨hle, rfl, ?_⟩⟩
    exact (((Fr.refl [b] w).alloc _).alloc _).drew
end Go.Proofs.YtaajdcaciofmaaaDoor
