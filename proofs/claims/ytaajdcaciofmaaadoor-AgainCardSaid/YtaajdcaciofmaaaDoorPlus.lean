/- THE PROGRAM's POLYNOMIALS: Plus. -/
import Derived.Test.YtaajdcaciofmaaaDoorArr
namespace Go.Proofs.YtaajdcaciofmaaaDoor
open Go.RowKit

set_option maxRecDepth 100000 in
set_option maxHeartbeats 1000000 in
theorem Plus_any (p : List Nat) (u x a : Nat) (N : Int) (w : World) (hp : Good p) (hu : u ≤ 6) (hx : x ≤ 4) (hN : N % 7 = ((a % 7 : Nat) : Int)) :
    Calls Tryd.prog 44 #[.agg (pv p), .agg #[.int .i64 N, .int .i64 u, .int .i64 x]] w fun e w' => e = .returned (.agg (pv (plus p u x a))) ∧ Below w.heap.size w w' := by
  have hx0 : (0 : Int) ≤ (x : Int) := by omega
  have hx1 : (x : Int) < 5 := by omega
  have hu0 : (0 : Int) ≤ (u : Int) := by omega
  have hu1 : (u : Int) < 7 := by omega
  have hq : x * 7 + u < p.length := by rw [hp.1]; omega
  have hcell := pv_get hq
  have hv7 := hp.2 (x * 7 + u)
  have HV : Hid (plus p u x a = p.set (x * 7 + u) ((p.getD (x * 7 + u) 0 + a) % 7)) := by unfold Hid plus; rw [Nat.mul_comm 7 x]
  generalize p.getD (x * 7 + u) 0 = v at *
  go_enter Tryd.func44, Tryd.ntmps44
  go_wp2
  refine wp_forget (fun W => Blk W w.heap.size (pv p) 37 ∧ Blk W (w.heap.size + 1) #[.int .i64 N, .int .i64 u, .int .i64 x] 64 ∧ Blk W (w.heap.size + 1 + 1) (pv zeros) 37 ∧ Below w.heap.size w W) ⟨Blk.alloc (Blk.alloc (Blk.new w _ _) _) _, Blk.alloc (Blk.newAt _ _ _ (by simp)) _, Blk.newAt _ _ _ (by simp), by go_grown⟩ ?_
  rintro W ⟨b1, b2, b3, hbel⟩
  have B1 : Hid (Blk W w.heap.size (pv p) 37) := b1
  have B3 : Hid (Blk W (w.heap.size + 1 + 1) (pv zeros) 37) := b3
  obtain ⟨e0, e1, e2⟩ := b2.cells3
  have e3 : W.cell? ⟨w.heap.size, x * 7 + u, none⟩ = some (.int .i64 v) := by rw [b1.cell]; exact hcell
  have e4 : W.frozen? ⟨w.heap.size, x * 7 + u, none⟩ = false := b1.frozen _
  clear b1 b2 b3 hcell
  refine region_quiet_tail 18 (by kernel_rfl) (by kernel_rfl) ?_
  simp only [List.take_succ_cons, List.take_zero, List.drop_succ_cons, List.drop_zero]
  repeat (first | go_big_quiet_step ((go_at_call 35; exact Calls.quiet_of_same (Mod_any _ _))) | quiet_step ((go_at_call 35; exact Calls.quiet_of_same (Mod_any _ _))))
  refine wpQuiet_nil ?_
  rintro _ ⟨nq, rfl⟩
  have hg : Good (plus p u x a) := plus_good hp u x a
  go_wp2_with (first | (refine wpList_load_row (by rfl) 37 _ (by rfl) w.heap.size (by rfl) 37 (pv (plus p u x a)) (0, 0) _ (by rw [HV.out]; exact Blk.putN B1.out _ _ _ (by omega)) Tryd.underlying37 (by rfl) (size_poly hg) ?_) | (refine wpList_store_mid (by rfl) 37 _ _ (by rfl) (w.heap.size + 1 + 1) 0 (pv (plus p u x a)) (by rfl) (by rfl) (by exact Blk.there (Blk.setOther B3.out _ _ (by show ¬ w.heap.size + 1 + 1 = w.heap.size; omega)) (by rw [pv_size, pv_size, hg.1]; simp [zeros])) (size_poly hg) (pv_one _) ?_))
  refine bodyPost_ret (results_cell_row Tryd.results44 _ _ (w.heap.size + 1 + 1) 37 (pv (plus p u x a)) (0, 0) _ (by rfl) (Blk.setAll (Blk.setOther (by exact B3.out) _ _ (by show ¬ w.heap.size + 1 + 1 = w.heap.size; omega)) _ (by rw [pv_size, pv_size, hg.1]; rfl)) Tryd.underlying37 rfl (size_poly hg)) rfl ⟨rfl, ?_⟩
  exact Below.setCells (Below.setCell (below_drewN hbel nq) (Nat.le_refl _) _) _ _ _ (by omega)
end Go.Proofs.YtaajdcaciofmaaaDoor
