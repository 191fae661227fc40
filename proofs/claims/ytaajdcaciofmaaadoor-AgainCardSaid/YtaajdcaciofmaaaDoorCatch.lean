/- THE READER: the deferred function. -/
import Derived.Test.YtaajdcaciofmaaaDoorReader6
namespace Go.Proofs.YtaajdcaciofmaaaDoor
open Go.RowKit

theorem wp_named {P : Program} {c : Code} {Q : Exit → Act → World → Prop} {a : Act} {w : World} (a' : Act) (h : a = a') (k : ∀ Q' : Exit → Act → World → Prop, Q' = Q → Code.wp P c Q' a' w) : Code.wp P c Q a w := h ▸ k Q rfl

set_option maxRecDepth 100000 in
set_option maxHeartbeats 1000000 in
theorem catch_panicking (p q r : Nat) (x y : Int) (p0 : List Nat) (q0 r0 : Int) (w : World) (hp : Blk w p (pv p0) 37) (hp0 : Good p0) (hq : Blk w q #[.int .i64 q0] 22) (hr : Blk w r #[.int .i64 r0] 3) (hpq : p ≠ q) (hpr : p ≠ r) (hqr : q ≠ r)
    (hg : w.cell? ⟨0, 0, none⟩ = some (.iface 111 (.agg #[.pointer (some ⟨5, 52, none⟩)]))) :
    CallsD Tryd.prog 24 #[.pointer (some ⟨p, 0, none⟩), .pointer (some ⟨q, 0, none⟩), .pointer (some ⟨r, 0, none⟩)] (.panicking (faulty x y)) w fun e u' w' =>
      e = .returned (.tuple #[]) ∧ u' = .panicking [{ v := .iface 55 (.agg #[.int .i64 x, .int .i64 y]), recovered := true }] ∧ Blk w' p (pv zeros) 37 ∧ Blk w' q #[.int .i64 x] 22 ∧ Blk w' r #[.int .i64 y] 3 ∧ Fr [p, q, r] w w' := by
  have ta : ∀ (v : Value) (w : World), (Instr.typeAssert (.iface 55 v) 20 52 true).run Tryd.prog w = .ok (.tuple #[.iface 55 v, .bool true]) w := fun _ _ => by kernel_rfl
  refine callsD_of_wpS Tryd.func24 rfl fun c₀ cs hu => ?_
  apply wpS_seq
  apply wpS_region
  simp [wpOpsS, go_sem, recoverD, hu, Tryd.ntmps24, Exit.thenS, faulty]
  refine wpS_of_wp ?_
  refine wp_named ⟨#[Value.pointer (some ⟨p, 0, none⟩), Value.pointer (some ⟨q, 0, none⟩), Value.pointer (some ⟨r, 0, none⟩), Value.iface 55 (Value.agg #[Value.int IntKind.i64 x, Value.int IntKind.i64 y]), undef, undef, undef, Value.iface 55 (Value.agg #[Value.int IntKind.i64 x, Value.int IntKind.i64 y]), undef, undef, undef, undef, undef, undef, undef, undef, undef, undef, undef, undef, undef, undef, undef, undef, undef], []⟩ (by kernel_rfl) ?_
  intro Q' hQ
  have HQ := hide' hQ
  clear hQ
  have hb0 : 0 < w.heap.size := by have := Blk.lt hp; omega
  have hpl := Blk.lt hp
  have hql := Blk.lt hq
  have hrl := Blk.lt hr
  have HP := hide' hp
  have HQQ := hide' hq
  have HRR := hide' hr
  clear hp hq hr hu
  go_wp2_with fail
  refine (as_hit x y 0 0 w.heap.size _ (by rw [World.cell?_alloc_lt _ _ ⟨0, 0, none⟩ hb0]; exact hg) (Blk.new w _ _)).mono ?_
  rintro e w1 ⟨rfl, ht1, hf1⟩
  have hp1 : Blk w1 p (pv p0) 37 := Blk.fr (Blk.alloc HP.out _) hf1 (by simp; omega)
  have hq1 : Blk w1 q #[.int .i64 q0] 22 := Blk.fr (Blk.alloc HQQ.out _) hf1 (by simp; omega)
  have hr1 : Blk w1 r #[.int .i64 r0] 3 := Blk.fr (Blk.alloc HRR.out _) hf1 (by simp; omega)
  have hfw : Fr [p, q, r] w w1 := ((Fr.refl [p, q, r] w).alloc _).trans hf1 (by simp)
  have t0 : w1.cell? ⟨w.heap.size, 0, none⟩ = some (.int .i64 x) := ht1.cell 0
  have t1 : w1.cell? ⟨w.heap.size, 1, none⟩ = some (.int .i64 y) := ht1.cell 1
  obtain ⟨z, HZ⟩ : ∃ z, Hid (z = pv zeros) := ⟨_, rfl⟩
  have hzs : z.size = 35 := by rw [HZ.out]; rfl
  have hq2 : Blk (w1.setCells p 0 z.toList) q #[.int .i64 q0] 22 := Blk.setCellsOther hq1 _ _ _ (Ne.symm hpq)
  have hr2 : Blk (w1.setCells p 0 z.toList) r #[.int .i64 r0] 3 := Blk.setCellsOther hr1 _ _ _ (Ne.symm hpr)
  have hp2 : Blk (w1.setCells p 0 z.toList) p z 37 := Blk.setAll hp1 _ (by rw [hzs, pv_size, hp0.1])
  have u0 : (w1.setCells p 0 z.toList).cell? ⟨q, 0, none⟩ = some (.int .i64 q0) := hq2.cell 0
  have u1 : (w1.setCells p 0 z.toList).cell? ⟨r, 0, none⟩ = some (.int .i64 r0) := hr2.cell 0
  have u2 := hq2.frozen 0
  have u3 := hr2.frozen 0
  have HTH := hide' (Blk.there hp1 (show z.size ≤ (pv p0).size by rw [hzs, pv_size, hp0.1]; exact Nat.le_refl _))
  have H1 := hide' hp2
  have H2 := hide' hq2
  have H3 := hide' hr2
  have nqr : ¬ q = r := hqr
  clear hp1 hq1 hr1 hq2 hr2 hp2 ht1
  have hsz : (Tryd.prog.info? 37).map (·.size) = some z.size := by rw [HZ.out]; exact size_poly zeros_good
  have hon : z.all (·.oneCell') = true := by rw [HZ.out]; exact pv_one _
  go_wp2_with (refine wpList_store_mid (by rfl) 37 _ _ (by rfl) p 0 z (by rfl) (by rw [HZ.out]; rfl) HTH.out hsz hon ?_)
  rw [HQ.out]
  have P1 : Blk (((w1.setCells p 0 z.toList).setCell ⟨q, 0, none⟩ (.int .i64 x)).setCell ⟨r, 0, none⟩ (.int .i64 y)) p (pv zeros) 37 := by
    rw [← HZ.out]; exact (H1.out.setOther _ _ hpq).setOther _ _ hpr
  have P2 : Blk (((w1.setCells p 0 z.toList).setCell ⟨q, 0, none⟩ (.int .i64 x)).setCell ⟨r, 0, none⟩ (.int .i64 y)) q #[.int .i64 x] 22 := (H2.out.set 0 _).setOther _ _ hqr
  have P3 : Blk (((w1.setCells p 0 z.toList).setCell ⟨q, 0, none⟩ (.int .i64 x)).setCell ⟨r, 0, none⟩ (.int .i64 y)) r #[.int .i64 y] 3 := (H3.out.setOther _ _ (Ne.symm hqr)).set 0 _
  have P4 : Fr [p, q, r] w (((w1.setCells p 0 z.toList).setCell ⟨q, 0, none⟩ (.int .i64 x)).setCell ⟨r, 0, none⟩ (.int .i64 y)) := ((hfw.setCells _ _ _ (by simp)).setCell _ _ (by simp)).setCell _ _ (by simp)
  generalize (((w1.setCells p 0 z.toList).setCell ⟨q, 0, none⟩ (.int .i64 x)).setCell ⟨r, 0, none⟩ (.int .i64 y)) = W at *
  simp [bodyPostS, results, Tryd.results24]
  exact ⟨P1, P2, P3, P4⟩
end Go.Proofs.YtaajdcaciofmaaaDoor
