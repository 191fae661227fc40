import Derived.Test.YthlmgpllapccfaaGreatDoorPack12
/- THE PROGRAM's PACKAGE set: what a tree comes to: two sets. -/
namespace Go.Proofs.YthlmgpllapccfaaGreatDoor
open Go.RowKit

set_option maxRecDepth 100000 in
set_option maxHeartbeats 2000000 in
theorem setOf_both {v u : Value} {b c : Nat → Bool} (h : Tree v b) (g : Tree u c) (ih : ∀ w, Calls Tryz.prog 177 #[v] w fun e w' => e = .returned (.agg (bv b)) ∧ Below w.heap.size w w') (ig : ∀ w, Calls Tryz.prog 177 #[u] w fun e w' => e = .returned (.agg (bv c)) ∧ Below w.heap.size w w') (w : World) : Calls Tryz.prog 177 #[.iface 211 (.agg #[v, u])] w fun e w' => e = .returned (.agg (bv (fun i => b i && c i))) ∧ Below w.heap.size w w' := by
  have hmf : ∀ (fn : Fn) (first cap : Array Value) (w : World), (Instr.makeFunc fn first cap).run Tryz.prog w = .ok (.func fn first cap) w := fun _ _ _ _ => rfl
  have tSet : ∀ (v : Value) (w : World), (Instr.typeAssert (.iface 211 v) 151 155 true).run Tryz.prog w = .ok (.tuple #[.agg #[.bool false, .bool false, .bool false, .bool false, .bool false, .bool false, .bool false], .bool false]) w := fun _ _ => by kernel_rfl
  have tZeros : ∀ (v : Value) (w : World), (Instr.typeAssert (.iface 211 v) 151 217 true).run Tryz.prog w = .ok (.tuple #[.agg #[.int .i64 0, .int .i64 0, .int .i64 0, .int .i64 0, .int .i64 0, .int .i64 0, .int .i64 0, .int .i64 0, .int .i64 0, .int .i64 0, .int .i64 0, .int .i64 0, .int .i64 0, .int .i64 0, .int .i64 0, .int .i64 0, .int .i64 0, .int .i64 0, .int .i64 0, .int .i64 0, .int .i64 0, .int .i64 0, .int .i64 0, .int .i64 0, .int .i64 0, .int .i64 0, .int .i64 0, .int .i64 0, .int .i64 0, .int .i64 0, .int .i64 0, .int .i64 0, .int .i64 0, .int .i64 0, .int .i64 0], .bool false]) w := fun _ _ => by kernel_rfl
  have tNot : ∀ (v : Value) (w : World), (Instr.typeAssert (.iface 211 v) 151 215 true).run Tryz.prog w = .ok (.tuple #[.agg #[.nilIface], .bool false]) w := fun _ _ => by kernel_rfl
  have tBoth : ∀ (v : Value) (w : World), (Instr.typeAssert (.iface 211 v) 151 211 true).run Tryz.prog w = .ok (.tuple #[v, .bool true]) w := fun _ _ => by kernel_rfl
  obtain ⟨T, x, hvx⟩ := h.form
  subst hvx
  obtain ⟨T2, x2, hux⟩ := g.form
  subst hux
  obtain ⟨yb, HYb⟩ : ∃ y, Hid (bv b = y) := ⟨_, hidV rfl⟩
  obtain ⟨yc, HYc⟩ : ∃ y, Hid (bv c = y) := ⟨_, hidV rfl⟩
  have HIH : Hid (∀ w, Calls Tryz.prog 177 #[.iface T x] w fun e w' => e = .returned (.agg yb) ∧ Below w.heap.size w w') := by rw [HYb.out] at ih; exact ih
  have HIG : Hid (∀ w, Calls Tryz.prog 177 #[.iface T2 x2] w fun e w' => e = .returned (.agg yc) ∧ Below w.heap.size w w') := by rw [HYc.out] at ig; exact ig
  clear ih ig h g
  have HCF : Hid (∀ (args : Array Value) (w : World), (callFunc 180 args).run Tryz.prog w = .ok (.enter 180 args) w) := fun _ _ => by kernel_rfl
  have HSB : Hid ((Tryz.prog.info? 155).map (·.size) = some yb.size ∧ yb.all (·.oneCell') = true ∧ yb.size = (bv fun _ => false).size) := by rw [← HYb.out]; exact ⟨size_bv b, bv_one b, rfl⟩
  have HSC : Hid ((Tryz.prog.info? 155).map (·.size) = some yc.size ∧ yc.all (·.oneCell') = true ∧ yc.size = (bv fun _ => false).size) := by rw [← HYc.out]; exact ⟨size_bv c, bv_one c, rfl⟩
  go_enter Tryz.func177, Tryz.ntmps177
  go_wp2_with fail
  refine wp_forget (fun V => Blk V (w.heap.size + 1) #[.iface T x, .iface T2 x2] 211 ∧ Blk V w.heap.size (bv fun _ => false) 155 ∧ Fr [] w V) ⟨Blk.newAt _ _ _ (by simp), Blk.alloc (Blk.new w _ _) _, ((Fr.refl [] w).alloc _).alloc _⟩ ?_
  rintro V gV
  have HV := hidV gV
  clear gV
  refine region_two_blocks #[.bool false, .bool false, .bool false, .bool false, .bool false, .bool false, .bool false] 155 6 { dst := some 8, op := .alloc 155, type := 0, pos := "tree.go:54", after := #[], guard := none } { dst := some 9, op := .alloc 155, type := 0, pos := "tree.go:54", after := #[], guard := none } (by kernel_rfl) (by kernel_rfl) (by rfl) (by rfl) (by rfl) (by rfl) (fun a w => by go_simp) (fun a w => by go_simp) ?_
  simp only [List.take_succ_cons, List.take_zero, List.drop_succ_cons, List.drop_zero]
  refine walkG_val (by rfl) (.pointer (some ⟨w.heap.size + 1, 0, none⟩)) (fun w _ => by go_simp) ?_
  go_frame
  refine walkG_val (by rfl) (.iface T x) (fun w' hw' => by have k : w'.cell? ⟨w.heap.size + 1, 0, none⟩ = some (.iface T x) := (HV.out.1.fr hw' (by simp)).cell 0
                                                           go_simp) ?_
  go_frame
  refine walkG_calls (by rfl) 177 #[.iface T x] (.agg yb) (fun w => by go_simp) (fun w' _ => (HIH.out w').mono (fun e w'' h => ⟨h.1, Fr.of_below h.2⟩)) ?_
  go_frame
  refine walkG_val (by rfl) (.pointer (some ⟨w.heap.size + 1, 1, none⟩)) (fun w _ => by go_simp) ?_
  go_frame
  refine walkG_val (by rfl) (.iface T2 x2) (fun w' hw' => by have k : w'.cell? ⟨w.heap.size + 1, 1, none⟩ = some (.iface T2 x2) := (HV.out.1.fr hw' (by simp)).cell 1
                                                             go_simp) ?_
  go_frame
  refine walkG_calls (by rfl) 177 #[.iface T2 x2] (.agg yc) (fun w => by go_simp) (fun w' _ => (HIG.out w').mono (fun e w'' h => ⟨h.1, Fr.of_below h.2⟩)) ?_
  go_frame
  refine walkG_nil ?_
  intro b1 c1 w1 hE
  obtain ⟨hb, hc, hne, k1, k2, f1⟩ := hE
  have k1' : Blk w1 b1 (bv fun _ => false) 155 := k1
  have k2' : Blk w1 c1 (bv fun _ => false) 155 := k2
  have f2 : Fr [b1] w1 (w1.setCells b1 0 yb.toList) := Fr.setCells (Fr.refl _ _) _ _ _ (Or.inl (by simp))
  have f3 : Fr [c1] (w1.setCells b1 0 yb.toList) ((w1.setCells b1 0 yb.toList).setCells c1 0 yc.toList) := Fr.setCells (Fr.refl _ _) _ _ _ (Or.inl (by simp))
  have f4 : Fr [] V ((w1.setCells b1 0 yb.toList).setCells c1 0 yc.toList) := Fr.setCells (Fr.setCells f1 _ _ _ (Or.inr hb)) _ _ _ (Or.inr hc)
  have k3 : Blk (w1.setCells b1 0 yb.toList) c1 (bv fun _ => false) 155 := k2'.fr f2 (by simp; exact fun q => hne q.symm)
  have HT1 : Hid (w1.there b1 0 yb.size) := Blk.there k1' (Nat.le_of_eq HSB.out.2.2)
  have HT2 : Hid ((w1.setCells b1 0 yb.toList).there c1 0 yc.size) := Blk.there k3 (Nat.le_of_eq HSC.out.2.2)
  have HW : Hid (Blk ((w1.setCells b1 0 yb.toList).setCells c1 0 yc.toList) b1 (bv b) 155 ∧ Blk ((w1.setCells b1 0 yb.toList).setCells c1 0 yc.toList) c1 (bv c) 155 ∧ Blk ((w1.setCells b1 0 yb.toList).setCells c1 0 yc.toList) w.heap.size (bv fun _ => false) 155 ∧ Fr [] w ((w1.setCells b1 0 yb.toList).setCells c1 0 yc.toList)) :=
    ⟨by rw [HYb.out]; exact (Blk.setAll k1' yb HSB.out.2.2).fr f3 (by simp; exact hne), by rw [HYc.out]; exact Blk.setAll k3 yc HSC.out.2.2, HV.out.2.1.fr f4 (by simp), HV.out.2.2.trans f4 (by simp)⟩
  clear k1 k2 k1' k2' k3 f1 f2 f3 f4 hne
  go_wp2_with (first | (refine wpList_store_mid (by rfl) 155 _ _ (by rfl) b1 0 yb (by rfl) (by rfl) HT1.out HSB.out.1 HSB.out.2.1 ?_) | (refine wpList_store_mid (by rfl) 155 _ _ (by rfl) c1 0 yc (by rfl) (by rfl) HT2.out HSC.out.1 HSC.out.2.1 ?_))
  generalize (w1.setCells b1 0 yb.toList).setCells c1 0 yc.toList = W at *
  refine (Where_any 180 #[.pointer (some ⟨b1, 0, none⟩), .pointer (some ⟨c1, 0, none⟩)] (fun i => b i && c i) W HCF.out (fun v w' hv hb => Of3_any b c v b1 c1 w' hv (HW.out.1.fr (Fr.of_below (bs := []) hb) (by simp)) (HW.out.2.1.fr (Fr.of_below (bs := []) hb) (by simp)))).mono ?_
  have hbl := HW.out.2.2.2.below (Nat.le_refl _) (by simp)
  rintro e w9 ⟨rfl, b9⟩
  have HR9 : Hid (Blk w9 w.heap.size (bv fun _ => false) 155 ∧ Below w.heap.size w w9) := ⟨HW.out.2.2.1.fr (Fr.of_below (bs := []) b9) (by simp), hbl.trans (b9.mono hbl.size)⟩
  clear b9
  have HTH := hidV (set_there (d := (fun i => b i && c i)) HR9.out.1)
  have HSZ := hidV (size_bv (fun i => b i && c i))
  have HON := hidV (bv_one (fun i => b i && c i))
  have HYS : Hid ((bv (fun i => b i && c i)).size = (bv fun _ => false).size) := rfl
  obtain ⟨y, HY⟩ : ∃ y, Hid (bv (fun i => b i && c i) = y) := ⟨_, hidV rfl⟩
  rw [HY.out] at HTH HSZ HON HYS ⊢
  go_wp2_with (first | (refine wpList_store_mid (by rfl) 155 _ _ (by rfl) w.heap.size 0 y (by rfl) (by rfl) HTH.out HSZ.out HON.out ?_))
  refine bodyPost_ret (results_cell_row Tryz.results177 _ _ w.heap.size 155 y (0, 0) _ (by rfl) (Blk.setAll HR9.out.1 _ HYS.out) Tryz.underlying155 rfl HSZ.out) rfl ⟨by rw [HY.out], Below.setCells HR9.out.2 _ _ _ (Nat.le_refl _)⟩
set_option maxRecDepth 100000 in
set_option maxHeartbeats 2000000 in
theorem setOf_without {v u : Value} {b c : Nat → Bool} (h : Tree v b) (g : Tree u c) (ih : ∀ w, Calls Tryz.prog 177 #[v] w fun e w' => e = .returned (.agg (bv b)) ∧ Below w.heap.size w w') (ig : ∀ w, Calls Tryz.prog 177 #[u] w fun e w' => e = .returned (.agg (bv c)) ∧ Below w.heap.size w w') (w : World) : Calls Tryz.prog 177 #[.iface 212 (.agg #[v, u])] w fun e w' => e = .returned (.agg (bv (fun i => b i && !c i))) ∧ Below w.heap.size w w' := by
  have hmf : ∀ (fn : Fn) (first cap : Array Value) (w : World), (Instr.makeFunc fn first cap).run Tryz.prog w = .ok (.func fn first cap) w := fun _ _ _ _ => rfl
  have tSet : ∀ (v : Value) (w : World), (Instr.typeAssert (.iface 212 v) 151 155 true).run Tryz.prog w = .ok (.tuple #[.agg #[.bool false, .bool false, .bool false, .bool false, .bool false, .bool false, .bool false], .bool false]) w := fun _ _ => by kernel_rfl
  have tZeros : ∀ (v : Value) (w : World), (Instr.typeAssert (.iface 212 v) 151 217 true).run Tryz.prog w = .ok (.tuple #[.agg #[.int .i64 0, .int .i64 0, .int .i64 0, .int .i64 0, .int .i64 0, .int .i64 0, .int .i64 0, .int .i64 0, .int .i64 0, .int .i64 0, .int .i64 0, .int .i64 0, .int .i64 0, .int .i64 0, .int .i64 0, .int .i64 0, .int .i64 0, .int .i64 0, .int .i64 0, .int .i64 0, .int .i64 0, .int .i64 0, .int .i64 0, .int .i64 0, .int .i64 0, .int .i64 0, .int .i64 0, .int .i64 0, .int .i64 0, .int .i64 0, .int .i64 0, .int .i64 0, .int .i64 0, .int .i64 0, .int .i64 0], .bool false]) w := fun _ _ => by kernel_rfl
  have tNot : ∀ (v : Value) (w : World), (Instr.typeAssert (.iface 212 v) 151 215 true).run Tryz.prog w = .ok (.tuple #[.agg #[.nilIface], .bool false]) w := fun _ _ => by kernel_rfl
  have tBoth : ∀ (v : Value) (w : World), (Instr.typeAssert (.iface 212 v) 151 211 true).run Tryz.prog w = .ok (.tuple #[.agg #[.nilIface, .nilIface], .bool false]) w := fun _ _ => by kernel_rfl
  have tWithout : ∀ (v : Value) (w : World), (Instr.typeAssert (.iface 212 v) 151 212 true).run Tryz.prog w = .ok (.tuple #[v, .bool true]) w := fun _ _ => by kernel_rfl
  obtain ⟨T, x, hvx⟩ := h.form
  subst hvx
  obtain ⟨T2, x2, hux⟩ := g.form
  subst hux
  obtain ⟨yb, HYb⟩ : ∃ y, Hid (bv b = y) := ⟨_, hidV rfl⟩
  obtain ⟨yc, HYc⟩ : ∃ y, Hid (bv c = y) := ⟨_, hidV rfl⟩
  have HIH : Hid (∀ w, Calls Tryz.prog 177 #[.iface T x] w fun e w' => e = .returned (.agg yb) ∧ Below w.heap.size w w') := by rw [HYb.out] at ih; exact ih
  have HIG : Hid (∀ w, Calls Tryz.prog 177 #[.iface T2 x2] w fun e w' => e = .returned (.agg yc) ∧ Below w.heap.size w w') := by rw [HYc.out] at ig; exact ig
  clear ih ig h g
  have HCF : Hid (∀ (args : Array Value) (w : World), (callFunc 181 args).run Tryz.prog w = .ok (.enter 181 args) w) := fun _ _ => by kernel_rfl
  have HSB : Hid ((Tryz.prog.info? 155).map (·.size) = some yb.size ∧ yb.all (·.oneCell') = true ∧ yb.size = (bv fun _ => false).size) := by rw [← HYb.out]; exact ⟨size_bv b, bv_one b, rfl⟩
  have HSC : Hid ((Tryz.prog.info? 155).map (·.size) = some yc.size ∧ yc.all (·.oneCell') = true ∧ yc.size = (bv fun _ => false).size) := by rw [← HYc.out]; exact ⟨size_bv c, bv_one c, rfl⟩
  go_enter Tryz.func177, Tryz.ntmps177
  go_wp2_with fail
  refine wp_forget (fun V => Blk V (w.heap.size + 1) #[.iface T x, .iface T2 x2] 212 ∧ Blk V w.heap.size (bv fun _ => false) 155 ∧ Fr [] w V) ⟨Blk.newAt _ _ _ (by simp), Blk.alloc (Blk.new w _ _) _, ((Fr.refl [] w).alloc _).alloc _⟩ ?_
  rintro V gV
  have HV := hidV gV
  clear gV
  refine region_two_blocks #[.bool false, .bool false, .bool false, .bool false, .bool false, .bool false, .bool false] 155 6 { dst := some 11, op := .alloc 155, type := 0, pos := "tree.go:57", after := #[], guard := none } { dst := some 12, op := .alloc 155, type := 0, pos := "tree.go:57", after := #[], guard := none } (by kernel_rfl) (by kernel_rfl) (by rfl) (by rfl) (by rfl) (by rfl) (fun a w => by go_simp) (fun a w => by go_simp) ?_
  simp only [List.take_succ_cons, List.take_zero, List.drop_succ_cons, List.drop_zero]
  refine walkG_val (by rfl) (.pointer (some ⟨w.heap.size + 1, 0, none⟩)) (fun w _ => by go_simp) ?_
  go_frame
  refine walkG_val (by rfl) (.iface T x) (fun w' hw' => by have k : w'.cell? ⟨w.heap.size + 1, 0, none⟩ = some (.iface T x) := (HV.out.1.fr hw' (by simp)).cell 0
                                                           go_simp) ?_
  go_frame
  refine walkG_calls (by rfl) 177 #[.iface T x] (.agg yb) (fun w => by go_simp) (fun w' _ => (HIH.out w').mono (fun e w'' h => ⟨h.1, Fr.of_below h.2⟩)) ?_
  go_frame
  refine walkG_val (by rfl) (.pointer (some ⟨w.heap.size + 1, 1, none⟩)) (fun w _ => by go_simp) ?_
  go_frame
  refine walkG_val (by rfl) (.iface T2 x2) (fun w' hw' => by have k : w'.cell? ⟨w.heap.size + 1, 1, none⟩ = some (.iface T2 x2) := (HV.out.1.fr hw' (by simp)).cell 1
                                                             go_simp) ?_
  go_frame
  refine walkG_calls (by rfl) 177 #[.iface T2 x2] (.agg yc) (fun w => by go_simp) (fun w' _ => (HIG.out w').mono (fun e w'' h => ⟨h.1, Fr.of_below h.2⟩)) ?_
  go_frame
  refine walkG_nil ?_
  intro b1 c1 w1 hE
  obtain ⟨hb, hc, hne, k1, k2, f1⟩ := hE
  have k1' : Blk w1 b1 (bv fun _ => false) 155 := k1
  have k2' : Blk w1 c1 (bv fun _ => false) 155 := k2
  have f2 : Fr [b1] w1 (w1.setCells b1 0 yb.toList) := Fr.setCells (Fr.refl _ _) _ _ _ (Or.inl (by simp))
  have f3 : Fr [c1] (w1.setCells b1 0 yb.toList) ((w1.setCells b1 0 yb.toList).setCells c1 0 yc.toList) := Fr.setCells (Fr.refl _ _) _ _ _ (Or.inl (by simp))
  have f4 : Fr [] V ((w1.setCells b1 0 yb.toList).setCells c1 0 yc.toList) := Fr.setCells (Fr.setCells f1 _ _ _ (Or.inr hb)) _ _ _ (Or.inr hc)
  have k3 : Blk (w1.setCells b1 0 yb.toList) c1 (bv fun _ => false) 155 := k2'.fr f2 (by simp; exact fun q => hne q.symm)
  have HT1 : Hid (w1.there b1 0 yb.size) := Blk.there k1' (Nat.le_of_eq HSB.out.2.2)
  have HT2 : Hid ((w1.setCells b1 0 yb.toList).there c1 0 yc.size) := Blk.there k3 (Nat.le_of_eq HSC.out.2.2)
  have HW : Hid (Blk ((w1.setCells b1 0 yb.toList).setCells c1 0 yc.toList) b1 (bv b) 155 ∧ Blk ((w1.setCells b1 0 yb.toList).setCells c1 0 yc.toList) c1 (bv c) 155 ∧ Blk ((w1.setCells b1 0 yb.toList).setCells c1 0 yc.toList) w.heap.size (bv fun _ => false) 155 ∧ Fr [] w ((w1.setCells b1 0 yb.toList).setCells c1 0 yc.toList)) :=
    ⟨by rw [HYb.out]; exact (Blk.setAll k1' yb HSB.out.2.2).fr f3 (by simp; exact hne), by rw [HYc.out]; exact Blk.setAll k3 yc HSC.out.2.2, HV.out.2.1.fr f4 (by simp), HV.out.2.2.trans f4 (by simp)⟩
  clear k1 k2 k1' k2' k3 f1 f2 f3 f4 hne
  go_wp2_with (first | (refine wpList_store_mid (by rfl) 155 _ _ (by rfl) b1 0 yb (by rfl) (by rfl) HT1.out HSB.out.1 HSB.out.2.1 ?_) | (refine wpList_store_mid (by rfl) 155 _ _ (by rfl) c1 0 yc (by rfl) (by rfl) HT2.out HSC.out.1 HSC.out.2.1 ?_))
  generalize (w1.setCells b1 0 yb.toList).setCells c1 0 yc.toList = W at *
  refine (Where_any 181 #[.pointer (some ⟨b1, 0, none⟩), .pointer (some ⟨c1, 0, none⟩)] (fun i => b i && !c i) W HCF.out (fun v w' hv hb => Of4_any b c v b1 c1 w' hv (HW.out.1.fr (Fr.of_below (bs := []) hb) (by simp)) (HW.out.2.1.fr (Fr.of_below (bs := []) hb) (by simp)))).mono ?_
  have hbl := HW.out.2.2.2.below (Nat.le_refl _) (by simp)
  rintro e w9 ⟨rfl, b9⟩
  have HR9 : Hid (Blk w9 w.heap.size (bv fun _ => false) 155 ∧ Below w.heap.size w w9) := ⟨HW.out.2.2.1.fr (Fr.of_below (bs := []) b9) (by simp), hbl.trans (b9.mono hbl.size)⟩
  clear b9
  have HTH := hidV (set_there (d := (fun i => b i && !c i)) HR9.out.1)
  have HSZ := hidV (size_bv (fun i => b i && !c i))
  have HON := hidV (bv_one (fun i => b i && !c i))
  have HYS : Hid ((bv (fun i => b i && !c i)).size = (bv fun _ => false).size) := rfl
  obtain ⟨y, HY⟩ : ∃ y, Hid (bv (fun i => b i && !c i) = y) := ⟨_, hidV rfl⟩
  rw [HY.out] at HTH HSZ HON HYS ⊢
  go_wp2_with (first | (refine wpList_store_mid (by rfl) 155 _ _ (by rfl) w.heap.size 0 y (by rfl) (by rfl) HTH.out HSZ.out HON.out ?_))
  refine bodyPost_ret (results_cell_row Tryz.results177 _ _ w.heap.size 155 y (0, 0) _ (by rfl) (Blk.setAll HR9.out.1 _ HYS.out) Tryz.underlying155 rfl HSZ.out) rfl ⟨by rw [HY.out], Below.setCells HR9.out.2 _ _ _ (Nat.le_refl _)⟩
set_option maxRecDepth 100000 in
set_option maxHeartbeats 2000000 in
theorem setOf_either {v u : Value} {b c : Nat → Bool} (h : Tree v b) (g : Tree u c) (ih : ∀ w, Calls Tryz.prog 177 #[v] w fun e w' => e = .returned (.agg (bv b)) ∧ Below w.heap.size w w') (ig : ∀ w, Calls Tryz.prog 177 #[u] w fun e w' => e = .returned (.agg (bv c)) ∧ Below w.heap.size w w') (w : World) : Calls Tryz.prog 177 #[.iface 191 (.agg #[v, u])] w fun e w' => e = .returned (.agg (bv (fun i => b i || c i))) ∧ Below w.heap.size w w' := by
  have hmf : ∀ (fn : Fn) (first cap : Array Value) (w : World), (Instr.makeFunc fn first cap).run Tryz.prog w = .ok (.func fn first cap) w := fun _ _ _ _ => rfl
  have tSet : ∀ (v : Value) (w : World), (Instr.typeAssert (.iface 191 v) 151 155 true).run Tryz.prog w = .ok (.tuple #[.agg #[.bool false, .bool false, .bool false, .bool false, .bool false, .bool false, .bool false], .bool false]) w := fun _ _ => by kernel_rfl
  have tZeros : ∀ (v : Value) (w : World), (Instr.typeAssert (.iface 191 v) 151 217 true).run Tryz.prog w = .ok (.tuple #[.agg #[.int .i64 0, .int .i64 0, .int .i64 0, .int .i64 0, .int .i64 0, .int .i64 0, .int .i64 0, .int .i64 0, .int .i64 0, .int .i64 0, .int .i64 0, .int .i64 0, .int .i64 0, .int .i64 0, .int .i64 0, .int .i64 0, .int .i64 0, .int .i64 0, .int .i64 0, .int .i64 0, .int .i64 0, .int .i64 0, .int .i64 0, .int .i64 0, .int .i64 0, .int .i64 0, .int .i64 0, .int .i64 0, .int .i64 0, .int .i64 0, .int .i64 0, .int .i64 0, .int .i64 0, .int .i64 0, .int .i64 0], .bool false]) w := fun _ _ => by kernel_rfl
  have tNot : ∀ (v : Value) (w : World), (Instr.typeAssert (.iface 191 v) 151 215 true).run Tryz.prog w = .ok (.tuple #[.agg #[.nilIface], .bool false]) w := fun _ _ => by kernel_rfl
  have tBoth : ∀ (v : Value) (w : World), (Instr.typeAssert (.iface 191 v) 151 211 true).run Tryz.prog w = .ok (.tuple #[.agg #[.nilIface, .nilIface], .bool false]) w := fun _ _ => by kernel_rfl
  have tWithout : ∀ (v : Value) (w : World), (Instr.typeAssert (.iface 191 v) 151 212 true).run Tryz.prog w = .ok (.tuple #[.agg #[.nilIface, .nilIface], .bool false]) w := fun _ _ => by kernel_rfl
  have tEither : ∀ (v : Value) (w : World), (Instr.typeAssert (.iface 191 v) 151 191 true).run Tryz.prog w = .ok (.tuple #[v, .bool true]) w := fun _ _ => by kernel_rfl
  obtain ⟨T, x, hvx⟩ := h.form
  subst hvx
  obtain ⟨T2, x2, hux⟩ := g.form
  subst hux
  obtain ⟨yb, HYb⟩ : ∃ y, Hid (bv b = y) := ⟨_, hidV rfl⟩
  obtain ⟨yc, HYc⟩ : ∃ y, Hid (bv c = y) := ⟨_, hidV rfl⟩
  have HIH : Hid (∀ w, Calls Tryz.prog 177 #[.iface T x] w fun e w' => e = .returned (.agg yb) ∧ Below w.heap.size w w') := by rw [HYb.out] at ih; exact ih
  have HIG : Hid (∀ w, Calls Tryz.prog 177 #[.iface T2 x2] w fun e w' => e = .returned (.agg yc) ∧ Below w.heap.size w w') := by rw [HYc.out] at ig; exact ig
  clear ih ig h g
  have HCF : Hid (∀ (args : Array Value) (w : World), (callFunc 182 args).run Tryz.prog w = .ok (.enter 182 args) w) := fun _ _ => by kernel_rfl
  have HSB : Hid ((Tryz.prog.info? 155).map (·.size) = some yb.size ∧ yb.all (·.oneCell') = true ∧ yb.size = (bv fun _ => false).size) := by rw [← HYb.out]; exact ⟨size_bv b, bv_one b, rfl⟩
  have HSC : Hid ((Tryz.prog.info? 155).map (·.size) = some yc.size ∧ yc.all (·.oneCell') = true ∧ yc.size = (bv fun _ => false).size) := by rw [← HYc.out]; exact ⟨size_bv c, bv_one c, rfl⟩
  go_enter Tryz.func177, Tryz.ntmps177
  go_wp2_with fail
  refine wp_forget (fun V => Blk V (w.heap.size + 1) #[.iface T x, .iface T2 x2] 191 ∧ Blk V w.heap.size (bv fun _ => false) 155 ∧ Fr [] w V) ⟨Blk.newAt _ _ _ (by simp), Blk.alloc (Blk.new w _ _) _, ((Fr.refl [] w).alloc _).alloc _⟩ ?_
  rintro V gV
  have HV := hidV gV
  clear gV
  refine region_two_blocks #[.bool false, .bool false, .bool false, .bool false, .bool false, .bool false, .bool false] 155 6 { dst := some 14, op := .alloc 155, type := 0, pos := "tree.go:60", after := #[], guard := none } { dst := some 15, op := .alloc 155, type := 0, pos := "tree.go:60", after := #[], guard := none } (by kernel_rfl) (by kernel_rfl) (by rfl) (by rfl) (by rfl) (by rfl) (fun a w => by go_simp) (fun a w => by go_simp) ?_
  simp only [List.take_succ_cons, List.take_zero, List.drop_succ_cons, List.drop_zero]
  refine walkG_val (by rfl) (.pointer (some ⟨w.heap.size + 1, 0, none⟩)) (fun w _ => by go_simp) ?_
  go_frame
  refine walkG_val (by rfl) (.iface T x) (fun w' hw' => by have k : w'.cell? ⟨w.heap.size + 1, 0, none⟩ = some (.iface T x) := (HV.out.1.fr hw' (by simp)).cell 0
                                                           go_simp) ?_
  go_frame
  refine walkG_calls (by rfl) 177 #[.iface T x] (.agg yb) (fun w => by go_simp) (fun w' _ => (HIH.out w').mono (fun e w'' h => ⟨h.1, Fr.of_below h.2⟩)) ?_
  go_frame
  refine walkG_val (by rfl) (.pointer (some ⟨w.heap.size + 1, 1, none⟩)) (fun w _ => by go_simp) ?_
  go_frame
  refine walkG_val (by rfl) (.iface T2 x2) (fun w' hw' => by have k : w'.cell? ⟨w.heap.size + 1, 1, none⟩ = some (.iface T2 x2) := (HV.out.1.fr hw' (by simp)).cell 1
                                                             go_simp) ?_
  go_frame
  refine walkG_calls (by rfl) 177 #[.iface T2 x2] (.agg yc) (fun w => by go_simp) (fun w' _ => (HIG.out w').mono (fun e w'' h => ⟨h.1, Fr.of_below h.2⟩)) ?_
  go_frame
  refine walkG_nil ?_
  intro b1 c1 w1 hE
  obtain ⟨hb, hc, hne, k1, k2, f1⟩ := hE
  have k1' : Blk w1 b1 (bv fun _ => false) 155 := k1
  have k2' : Blk w1 c1 (bv fun _ => false) 155 := k2
  have f2 : Fr [b1] w1 (w1.setCells b1 0 yb.toList) := Fr.setCells (Fr.refl _ _) _ _ _ (Or.inl (by simp))
  have f3 : Fr [c1] (w1.setCells b1 0 yb.toList) ((w1.setCells b1 0 yb.toList).setCells c1 0 yc.toList) := Fr.setCells (Fr.refl _ _) _ _ _ (Or.inl (by simp))
  have f4 : Fr [] V ((w1.setCells b1 0 yb.toList).setCells c1 0 yc.toList) := Fr.setCells (Fr.setCells f1 _ _ _ (Or.inr hb)) _ _ _ (Or.inr hc)
  have k3 : Blk (w1.setCells b1 0 yb.toList) c1 (bv fun _ => false) 155 := k2'.fr f2 (by simp; exact fun q => hne q.symm)
  have HT1 : Hid (w1.there b1 0 yb.size) := Blk.there k1' (Nat.le_of_eq HSB.out.2.2)
  have HT2 : Hid ((w1.setCells b1 0 yb.toList).there c1 0 yc.size) := Blk.there k3 (Nat.le_of_eq HSC.out.2.2)
  have HW : Hid (Blk ((w1.setCells b1 0 yb.toList).setCells c1 0 yc.toList) b1 (bv b) 155 ∧ Blk ((w1.setCells b1 0 yb.toList).setCells c1 0 yc.toList) c1 (bv c) 155 ∧ Blk ((w1.setCells b1 0 yb.toList).setCells c1 0 yc.toList) w.heap.size (bv fun _ => false) 155 ∧ Fr [] w ((w1.setCells b1 0 yb.toList).setCells c1 0 yc.toList)) :=
    ⟨by rw [HYb.out]; exact (Blk.setAll k1' yb HSB.out.2.2).fr f3 (by simp; exact hne), by rw [HYc.out]; exact Blk.setAll k3 yc HSC.out.2.2, HV.out.2.1.fr f4 (by simp), HV.out.2.2.trans f4 (by simp)⟩
  clear k1 k2 k1' k2' k3 f1 f2 f3 f4 hne
  go_wp2_with (first | (refine wpList_store_mid (by rfl) 155 _ _ (by rfl) b1 0 yb (by rfl) (by rfl) HT1.out HSB.out.1 HSB.out.2.1 ?_) | (refine wpList_store_mid (by rfl) 155 _ _ (by rfl) c1 0 yc (by rfl) (by rfl) HT2.out HSC.out.1 HSC.out.2.1 ?_))
  generalize (w1.setCells b1 0 yb.toList).setCells c1 0 yc.toList = W at *
  refine (Where_any 182 #[.pointer (some ⟨b1, 0, none⟩), .pointer (some ⟨c1, 0, none⟩)] (fun i => b i || c i) W HCF.out (fun v w' hv hb => Of5_any b c v b1 c1 w' hv (HW.out.1.fr (Fr.of_below (bs := []) hb) (by simp)) (HW.out.2.1.fr (Fr.of_below (bs := []) hb) (by simp)))).mono ?_
  have hbl := HW.out.2.2.2.below (Nat.le_refl _) (by simp)
  rintro e w9 ⟨rfl, b9⟩
  have HR9 : Hid (Blk w9 w.heap.size (bv fun _ => false) 155 ∧ Below w.heap.size w w9) := ⟨HW.out.2.2.1.fr (Fr.of_below (bs := []) b9) (by simp), hbl.trans (b9.mono hbl.size)⟩
  clear b9
  have HTH := hidV (set_there (d := (fun i => b i || c i)) HR9.out.1)
  have HSZ := hidV (size_bv (fun i => b i || c i))
  have HON := hidV (bv_one (fun i => b i || c i))
  have HYS : Hid ((bv (fun i => b i || c i)).size = (bv fun _ => false).size) := rfl
  obtain ⟨y, HY⟩ : ∃ y, Hid (bv (fun i => b i || c i) = y) := ⟨_, hidV rfl⟩
  rw [HY.out] at HTH HSZ HON HYS ⊢
  go_wp2_with (first | (refine wpList_store_mid (by rfl) 155 _ _ (by rfl) w.heap.size 0 y (by rfl) (by rfl) HTH.out HSZ.out HON.out ?_))
  refine bodyPost_ret (results_cell_row Tryz.results177 _ _ w.heap.size 155 y (0, 0) _ (by rfl) (Blk.setAll HR9.out.1 _ HYS.out) Tryz.underlying155 rfl HSZ.out) rfl ⟨by rw [HY.out], Below.setCells HR9.out.2 _ _ _ (Nat.le_refl _)⟩
theorem setOf_any {v : Value} {b : Nat → Bool} (h : Tree v b) : ∀ w, Calls Tryz.prog 177 #[v] w fun e w' => e = .returned (.agg (bv b)) ∧ Below w.heap.size w w' := by
  induction h with
  | set b => exact setOf_set b
  | zeros p h hx => exact setOf_zeros p h hx
  | not h ih => exact setOf_not h ih
  | both h g ih ig => exact setOf_both h g ih ig
  | without h g ih ig => exact setOf_without h g ih ig
  | either h g ih ig => exact setOf_either h g ih ig
end Go.Proofs.YthlmgpllapccfaaGreatDoor
/- A QUIET OPERATION WITH A KNOWN VALUE. -/
namespace Go.Proofs.YthlmgpllapccfaaGreatDoor
open Go.RowKit

theorem wpQuiet_val {P : Program} {ops : Array Oper} {C : World → Prop} {Q : Act → Prop} {a : Act} {o : Oper} {rest : List Oper} (hgd : o.guard = none) (v : Value) (hr : ∀ w, (execOp a.eval o).run P w = .ok (.value v) w)
    (h : wpQuiet P ops C Q rest (a.put o.dst v)) : wpQuiet P ops C Q (o :: rest) a :=
  BigFrame.wpQuiet_want (by unfold Region.wanted; rw [hgd]) (fun K hK => ⟨v, fun w _ => by
    unfold Oper.quietAt
    rw [hr w]
    exact ⟨rfl, rfl⟩, hK _ h⟩)
end Go.Proofs.YthlmgpllapccfaaGreatDoor
/- THE PROGRAM's COMMANDS OF SETS. -/
namespace Go.Proofs.YthlmgpllapccfaaGreatDoor
open Go.RowKit

theorem wpQuiet_valC {P : Program} {ops : Array Oper} {C : World → Prop} {Q : Act → Prop} {a : Act} {o : Oper} {rest : List Oper} (hgd : o.guard = none) (v : Value) (hr : ∀ w, C w → (execOp a.eval o).run P w = .ok (.value v) w)
    (h : wpQuiet P ops C Q rest (a.put o.dst v)) : wpQuiet P ops C Q (o :: rest) a :=
  BigFrame.wpQuiet_want (by unfold Region.wanted; rw [hgd]) (fun K hK => ⟨v, fun w hw => by
    unfold Oper.quietAt
    rw [hr w hw]
    exact ⟨rfl, rfl⟩, hK _ h⟩)
theorem yesOrNo_any (y : Bool) (w : World) : Calls Tryz.prog 185 #[.bool y] w fun e w' => e = .returned (.string (bs (yesno y))) ∧ w' = w := by
  cases y <;> (go_enter Tryz.func185, Tryz.ntmps185) <;> go_wp2 <;> go_ret <;> exact ⟨rfl, rfl⟩
set_option maxRecDepth 100000 in
set_option maxHeartbeats 1000000 in
theorem TellDo_set (c : Nat → Bool) (M : Value) (w : World) :
    Calls Tryz.prog 136 #[.agg #[.iface 155 (.agg (bv c))], M] w fun e w' => e = .returned (.string (bs (lsd c 7))) ∧ Below w.heap.size w w' := by
  have HTX := hidV (fun (w' : World) => SetText_any c w')
  go_enter Tryz.func136, Tryz.ntmps136
  go_wp2_with fail
  refine (HTX.out _).mono ?_
  rintro e w1 ⟨rfl, hb1⟩
  go_wp2
  go_ret
  exact ⟨rfl, below_alloc hb1⟩
set_option maxRecDepth 100000 in
set_option maxHeartbeats 1000000 in
theorem SetHas_any (c : Nat → Bool) (n : Nat) (w : World) :
    Calls Tryz.prog 186 #[.agg (bv c), .int .i64 n] w fun e w' => e = .returned (.bool (c (n % 7))) ∧ Below w.heap.size w w' := by
  have hm : n % 7 < 7 := by omega
  have HB : Hid (Blk (w.alloc (.cells (bv c) 155)) w.heap.size (bv c) 155 ∧ Below w.heap.size w (w.alloc (.cells (bv c) 155))) := ⟨Blk.new w _ _, by go_grown⟩
  have HMD : Hid (∀ w', Calls Tryz.prog 48 #[.int .i64 n] w' fun e w'' => e = .returned (.int .i64 ((n % 7 : Nat) : Int)) ∧ w'' = w') := fun w' => by
    have h := Mod_any n w'
    rw [show ((n : Int) % 7) = ((n % 7 : Nat) : Int) by omega] at h
    exact h
  generalize n % 7 = m at *
  go_enter Tryz.func186, Tryz.ntmps186
  go_wp2_with fail
  generalize w.alloc (.cells (bv c) 155) = V at *
  refine (HMD.out _).mono ?_
  rintro e w1 ⟨rfl, rfl⟩
  have k0 : (0 : Int) ≤ (m : Int) := by omega
  have k1 : (m : Int) < 7 := by omega
  have cc : w1.cell? ⟨w.heap.size, m, none⟩ = some (.bool (c m)) := by rw [HB.out.1.cell]; exact bv_get c hm
  go_wp2
  go_ret
  exact ⟨rfl, HB.out.2⟩
theorem sets_eq (a b : Nat → Bool) (w : World) : (Op.equalIn 10000 155 (.agg (bv a)) (.agg (bv b))).run Tryz.prog w = .ok ((List.range 7).all fun j => a j == b j) w := by
  obtain ⟨i, hi⟩ := info_some (P := Tryz.prog) (t := 4) (by kernel_rfl)
  have hc : Tryz.prog.cellsOf 4 = 1 := by kernel_rfl
  have hk : Tryz.prog.plainKey 4 = true := by kernel_rfl
  refine (run_equalIn_array w 9999 (bv a) (bv b) Tryz.underlying155 hi).trans ?_
  rw [hc]
  refine eqItems_all w 9999 4 1 (bv a) (bv b) _ _ ?_
  intro j hj
  rw [List.mem_range] at hj
  refine ⟨_, _, run_part_plain w hk (by rw [Nat.mul_one]; exact bv_get a hj), run_part_plain w hk (by rw [Nat.mul_one]; exact bv_get b hj), ?_⟩
  exact run_equalIn_bool w 9998 4 _ _ Tryz.underlying4
theorem within_eq (c d : Nat → Bool) : ((List.range 7).all fun j => (c j && d j) == c j) = withB c d := by
  unfold withB
  congr 1
  funext j
  cases c j <;> cases d j <;> rfl
set_option maxRecDepth 100000 in
set_option maxHeartbeats 1000000 in
theorem Within_any (c d : Nat → Bool) (w : World) :
    Calls Tryz.prog 188 #[.agg (bv c), .agg (bv d)] w fun e w' => e = .returned (.bool (withB c d)) ∧ Below w.heap.size w w' := by
  have HOF := hidV (fun w' => setOf_any (Tree.both (Tree.set c) (Tree.set d)) w')
  have HEQ := hidV (fun w' => sets_eq (fun i => c i && d i) c w')
  rw [within_eq] at HEQ
  have HSC := hidV (size_bv c)
  have HSD := hidV (size_bv d)
  have HV0 : Hid (Blk ((w.alloc (.cells (bv c) 155)).alloc (.cells (bv d) 155)) w.heap.size (bv c) 155 ∧ Blk ((w.alloc (.cells (bv c) 155)).alloc (.cells (bv d) 155)) (w.heap.size + 1) (bv d) 155 ∧ Fr [] w ((w.alloc (.cells (bv c) 155)).alloc (.cells (bv d) 155))) := ⟨Blk.alloc (Blk.new w _ _) _, Blk.newAt _ _ _ (by simp), ((Fr.refl [] w).alloc _).alloc _⟩
  obtain ⟨X, HX⟩ : ∃ X, Hid (bv (fun i => c i && d i) = X) := ⟨_, hidV rfl⟩
  rw [HX.out] at HOF HEQ
  generalize bv c = y at *
  generalize bv d = z at *
  generalize withB c d = R at *
  go_enter Tryz.func188, Tryz.ntmps188
  go_wp2_with fail
  generalize (w.alloc (.cells y 155)).alloc (.cells z 155) = V at *
  refine region_class_tail (fun w' => Fr [] V w') ((Fr.refl [] V).drew) 9 (by kernel_rfl) (by kernel_rfl) ?_
  simp only [List.take_succ_cons, List.take_zero, List.drop_succ_cons, List.drop_zero]
  refine wpQuiet_ld (by rfl) 155 _ (by rfl) w.heap.size (by rfl) y _ (fun w' hw' => HV0.out.1.fr hw' (by simp)) Tryz.underlying155 rfl HSC.out ?_
  go_frame
  refine wpQuiet_val (by rfl) (.iface 155 (.agg y)) (fun w' => by go_simp) ?_
  go_frame
  refine wpQuiet_ld (by rfl) 155 _ (by rfl) (w.heap.size + 1) (by rfl) z _ (fun w' hw' => HV0.out.2.1.fr hw' (by simp)) Tryz.underlying155 rfl HSD.out ?_
  go_frame
  refine wpQuiet_val (by rfl) (.iface 155 (.agg z)) (fun w' => by go_simp) ?_
  go_frame
  refine wpQuiet_val (by rfl) (.agg #[.iface 155 (.agg y), .iface 155 (.agg z)]) (fun w' => by go_simp) ?_
  go_frame
  refine wpQuiet_val (by rfl) (.iface 211 (.agg #[.iface 155 (.agg y), .iface 155 (.agg z)])) (fun w' => by go_simp) ?_
  go_frame
  refine wpQuiet_calls (by rfl) 177 #[.iface 211 (.agg #[.iface 155 (.agg y), .iface 155 (.agg z)])] (.agg X) (fun w' => by go_simp) (fun w' hw' => (HOF.out w').mono (fun e w'' h => ⟨h.1, hw'.trans (Fr.of_below (bs := []) h.2) (by simp)⟩)) ?_
  go_frame
  refine wpQuiet_ld (by rfl) 155 _ (by rfl) w.heap.size (by rfl) y _ (fun w' hw' => HV0.out.1.fr hw' (by simp)) Tryz.underlying155 rfl HSC.out ?_
  go_frame
  refine wpQuiet_val (by rfl) (.bool R) (fun w' => by have he := HEQ.out w'
                                                      go_simp) ?_
  go_frame
  refine wpQuiet_nil ?_
  intro w5 hw5
  have HF : Hid (Fr [] w w5) := HV0.out.2.2.trans hw5 (by simp)
  clear hw5
  go_wp2
  go_ret
  exact ⟨rfl, HF.out.below (Nat.le_refl _) (by simp)⟩
set_option maxRecDepth 100000 in
set_option maxHeartbeats 1000000 in
theorem HasDo_any (c : Nat → Bool) (n : Nat) (M : Value) (w : World) :
    Calls Tryz.prog 184 #[.agg #[.bool (c 0), .bool (c 1), .bool (c 2), .bool (c 3), .bool (c 4), .bool (c 5), .bool (c 6), .int .i64 n], M] w fun e w' => e = .returned (.string (bs (yesno (c (n % 7))))) ∧ Below w.heap.size w w' := by
  have HSH := hidV (fun w' => SetHas_any c n w')
  rw [bv_lit c] at HSH
  go_enter Tryz.func184, Tryz.ntmps184
  go_wp2_with fail
  refine (HSH.out _).mono ?_
  rintro e w1 ⟨rfl, hb1⟩
  have HB1 := hidV hb1
  clear hb1
  go_wp2_with fail
  refine (yesOrNo_any _ _).mono ?_
  rintro e w2 ⟨rfl, rfl⟩
  go_wp2
  go_ret
  exact ⟨rfl, below_alloc HB1.out⟩
set_option maxRecDepth 100000 in
set_option maxHeartbeats 1000000 in
theorem WithinDo_any (c d : Nat → Bool) (M : Value) (w : World) :
    Calls Tryz.prog 187 #[.agg #[.bool (c 0), .bool (c 1), .bool (c 2), .bool (c 3), .bool (c 4), .bool (c 5), .bool (c 6), .bool (d 0), .bool (d 1), .bool (d 2), .bool (d 3), .bool (d 4), .bool (d 5), .bool (d 6)], M] w fun e w' => e = .returned (.string (bs (yesno (withB c d)))) ∧ Below w.heap.size w w' := by
  have HSH := hidV (fun w' => Within_any c d w')
  rw [bv_lit c, bv_lit d] at HSH
  go_enter Tryz.func187, Tryz.ntmps187
  go_wp2_with fail
  refine (HSH.out _).mono ?_
  rintro e w1 ⟨rfl, hb1⟩
  have HB1 := hidV hb1
  clear hb1
  go_wp2_with fail
  refine (yesOrNo_any _ _).mono ?_
  rintro e w2 ⟨rfl, rfl⟩
  go_wp2
  go_ret
  exact ⟨rfl, below_alloc HB1.out⟩
set_option maxRecDepth 100000 in
set_option maxHeartbeats 1000000 in
theorem CollectDo_any (bm n : Nat) (Ms : List Nat) (st : Nat → Mng) (b : Nat → Bool) (tr : Value) (C : Int) (w : World) (hn : n < 26) (hC : C = ((n + 65 : Nat) : Int)) (hm : Nm w Ms bm st) (htr : Tree tr b) :
    Calls Tryz.prog 176 #[.agg #[.int .u8 C, tr], .map (some bm)] w fun e w' => e = .returned (.string ⟨#[]⟩) ∧ Nm w' Ms bm (upd st n (.set b)) ∧ Fr [bm] w w' := by
  have HOF := hidV (setOf_any htr)
  obtain ⟨T, x, hx⟩ := htr.form
  subst hx
  have HM := hidV hm
  have HG := hidV (fun w' h => GiveDo_any bm n Ms st (.set b) 155 (.agg (bv b)) C w' hn hC h rfl)
  clear htr hm
  generalize bv b = y at *
  have HV0 : Hid (Blk (w.alloc (.cells #[.int .u8 C, .iface T x] 154)) w.heap.size #[.int .u8 C, .iface T x] 154 ∧ Fr [] w (w.alloc (.cells #[.int .u8 C, .iface T x] 154))) := ⟨Blk.new w _ _, (Fr.refl [] w).alloc _⟩
  have HCC := hidV hC
  clear hC
  go_enter Tryz.func176, Tryz.ntmps176
  go_wp2_with fail
  generalize w.alloc (.cells #[.int .u8 C, .iface T x] 154) = V at *
  refine region_class_tail (fun w' => Fr [] V w') ((Fr.refl [] V).drew) 8 (by kernel_rfl) (by kernel_rfl) ?_
  simp only [List.take_succ_cons, List.take_zero, List.drop_succ_cons, List.drop_zero]
  refine wpQuiet_val (by rfl) (.pointer (some ⟨w.heap.size, 0, none⟩)) (fun w' => by go_simp) ?_
  go_frame
  refine wpQuiet_valC (by rfl) (.int .u8 C) (fun w' hw' => by have c : w'.cell? ⟨w.heap.size, 0, none⟩ = some (.int .u8 C) := (HV0.out.1.fr hw' (by simp)).cell 0
                                                              go_simp) ?_
  go_frame
  refine wpQuiet_val (by rfl) (.pointer (some ⟨w.heap.size, 1, none⟩)) (fun w' => by go_simp) ?_
  go_frame
  refine wpQuiet_valC (by rfl) (.iface T x) (fun w' hw' => by have c : w'.cell? ⟨w.heap.size, 1, none⟩ = some (.iface T x) := (HV0.out.1.fr hw' (by simp)).cell 1
                                                              go_simp) ?_
  go_frame
  refine wpQuiet_calls (by rfl) 177 #[.iface T x] (.agg y) (fun w' => by go_simp) (fun w' hw' => (HOF.out w').mono (fun e w'' h => ⟨h.1, hw'.trans (Fr.of_below (bs := []) h.2) (by simp)⟩)) ?_
  go_frame
  refine wpQuiet_val (by rfl) (.iface 155 (.agg y)) (fun w' => by go_simp) ?_
  go_frame
  refine wpQuiet_val (by rfl) (.agg #[.int .u8 C, .iface 155 (.agg y)]) (fun w' => by go_simp) ?_
  go_frame
  refine wpQuiet_mv (by rfl) _ (by rfl) ?_
  go_frame
  refine wpQuiet_nil ?_
  intro w5 hw5
  have HF : Hid (Fr [] w w5) := HV0.out.2.trans hw5 (by simp)
  clear hw5
  go_wp2_with fail
  refine (HG.out _ (HM.out.fr HF.out (by simp) (by simp))).mono ?_
  rintro e w6 ⟨rfl, hn6, hf6⟩
  have HI6 : Hid (Nm w6 Ms bm (upd st n (.set b)) ∧ Fr [bm] w w6) := ⟨hn6, (HF.out.mono (by simp)).trans hf6 (by simp)⟩
  clear hn6 hf6
  go_wp2
  go_ret
  exact ⟨rfl, HI6.out.1, HI6.out.2⟩
end Go.Proofs.YthlmgpllapccfaaGreatDoor
/- THE PROGRAM: a session's Do, any line. -/
namespace Go.Proofs.YthlmgpllapccfaaGreatDoor
open Go.RowKit

theorem nilAhead_CHas (fuel : Nat) (v : Value) (w : World) : (nilAhead (fuel + 1) 158 v "Do").run Tryz.prog w = .ok (some false) w := by kernel_rfl
theorem nilAhead_CWithin (fuel : Nat) (v : Value) (w : World) : (nilAhead (fuel + 1) 160 v "Do").run Tryz.prog w = .ok (some false) w := by kernel_rfl
theorem nilAhead_Collect (fuel : Nat) (v : Value) (w : World) : (nilAhead (fuel + 1) 154 v "Do").run Tryz.prog w = .ok (some false) w := by kernel_rfl
theorem stS_ok {f : Nat → Tok} {N : Nat} {st : Nat → Mng} {s : WS} (h : (stS f N st s).e = 0) : s.e = 0 := by
  unfold stS at h
  split at h
  · rename_i q; exact absurd h q
  · rename_i q; omega
set_option maxRecDepth 100000 in
set_option maxHeartbeats 1000000 in
theorem pDo_show (s : ByteArray) (b bm : Nat) (Ms : List Nat) (st : Nat → Mng) (w : World) (hP : Ps w Ms b bm st) (hg : ErrT w) (hl : ¬ 90 < s.size) (hsm : sml s (w0 s) = true) (hw : wd s = [115, 104, 111, 119]) :
    Calls Tryz.prog 16 #[.pointer (some ⟨b, 0, none⟩), .string s] w (DoPost w Ms bm (ans (enS (lf s) (nmS (lf s) (okSt st) ws1)) (lsd (st (nm1 (lf s))).bit 7) st st)) := by
  have hlt := hP.nm.lt
  have HL := hidV (LineRead_short s bm w (lf s) (nmS (lf s) (okSt st) ws1) (fun v _ => ∃ c, st ((lf s 1).c - 69) = .set c ∧ v = .iface 144 (.agg #[.iface 155 (.agg (bv c))])) hg hl (strLf s)
    (fun w' h1 h2 h3 => rline_show s w.heap.size bm (mw w.heap.size Ms) st w' (by omega) h1 (hP.nm.mw.fr h2 (by simp) (by simp)) (by omega) (by simp [mw]) hsm hw)
    (fun v w' h => by obtain ⟨c, _, rfl⟩ := h; exact ⟨_, _, rfl⟩)
    (fun v w1 w2 h _ => h))
  have c0 : w.cell? ⟨b, 0, none⟩ = some (.map (some bm)) := hP.blk.cell 0
  have HN := hidV hP.nm
  have HB := hidV hP.blk
  have HT : Hid (∀ c, st ((lf s 1).c - 69) = .set c → lsd (st (nm1 (lf s))).bit 7 = lsd c 7) := fun c h => by unfold nm1; rw [h]; rfl
  clear hP hg hw
  unfold ans
  obtain ⟨E, HE⟩ : ∃ E, Hid (enS (lf s) (nmS (lf s) (okSt st) ws1) = E) := ⟨_, hidV rfl⟩
  rw [HE.out] at HL ⊢
  by_cases he : E.e = 0
  · rw [if_neg (by omega)]
    obtain ⟨TX, HTX⟩ : ∃ TX, Hid (lsd (st (nm1 (lf s))).bit 7 = TX) := ⟨_, hidV rfl⟩
    rw [HTX.out] at HT ⊢
    have HE0 := hidV he
    clear he
    go_enter Tryz.func16, Tryz.ntmps16
    go_wp2_with fail
    refine HL.out.mono ?_
    rintro x w1 (⟨_, v, rfl, ⟨c, hst, rfl⟩, hf1⟩ | ⟨h, _⟩)
    · have HTT := hidV (HT.out c hst)
      have c1 : w1.cell? ⟨b, 0, none⟩ = some (.map (some bm)) := (HB.out.fr hf1 (by simp)).cell 0
      have HF1 := hidV hf1
      have HC := hidV (fun (nr : Nat) => TellDo_set c (.map (some bm)) (w1.drewN nr))
      clear hf1 hst
      have hna := nilAhead_Tell
      go_wp2
      refine region_quiet_tail 8 (by kernel_rfl) (by kernel_rfl) ?_
      simp only [List.take_succ_cons, List.take_zero, List.drop_succ_cons, List.drop_zero]
      repeat (first | go_big_quiet_step ((fail)) | quiet_step ((fail)))
      refine wpQuiet_nil ?_
      rintro _ ⟨nr, rfl⟩
      go_wp2_with fail
      refine (HC.out nr).mono ?_
      rintro x w2 ⟨rfl, hb2⟩
      have HF2 : Hid (Fr [] w w2) := (HF1.out.drewN nr).trans (Fr.of_below (bs := []) hb2) (by simp)
      clear hb2
      go_wp2
      go_ret3
      refine ⟨by rw [HTT.out]; rfl, HN.out.fr HF2.out (by simp) (by simp), HF2.out.mono (by simp)⟩
    · exact absurd HE0.out h
  · rw [if_pos he]
    refine (pDo_bad s b bm E.e E.bad w HB.out he (HL.out.mono ?_)).mono ?_
    · rintro x w1 (⟨h, _⟩ | ⟨_, rfl, hf⟩)
      · exact absurd h he
      · exact ⟨rfl, hf⟩
    · rintro x w1 ⟨rfl, hf⟩
      exact ⟨rfl, HN.out.fr hf (by simp) (by simp), hf.mono (by simp)⟩

set_option maxRecDepth 100000 in
set_option maxHeartbeats 1000000 in
theorem pDo_has (s : ByteArray) (b bm : Nat) (Ms : List Nat) (st : Nat → Mng) (w : World) (hP : Ps w Ms b bm st) (hg : ErrT w) (hl : ¬ 90 < s.size) (hsm : sml s (w0 s) = true) (hw : wd s = [104, 97, 115]) :
    Calls Tryz.prog 16 #[.pointer (some ⟨b, 0, none⟩), .string s] w (DoPost w Ms bm (ans (enS (lf s) (ctS (lf s) (nmS (lf s) (okSt st) ws1))) (yesno ((st (nm1 (lf s))).bit ((lf s 2).v % 7))) st st)) := by
  have hlt := hP.nm.lt
  have HL := hidV (LineRead_short s bm w (lf s) (ctS (lf s) (nmS (lf s) (okSt st) ws1)) (fun v _ => ∃ c, st ((lf s 1).c - 69) = .set c ∧ v = .iface 158 (.agg #[.bool (c 0), .bool (c 1), .bool (c 2), .bool (c 3), .bool (c 4), .bool (c 5), .bool (c 6), .int .i64 (lf s 2).v])) hg hl (strLf s)
    (fun w' h1 h2 h3 => rline_has s w.heap.size bm (mw w.heap.size Ms) st w' (by omega) h1 (hP.nm.mw.fr h2 (by simp) (by simp)) (by omega) (by simp [mw]) hsm hw)
    (fun v w' h => by obtain ⟨c, _, rfl⟩ := h; exact ⟨_, _, rfl⟩)
    (fun v w1 w2 h _ => h))
  have c0 : w.cell? ⟨b, 0, none⟩ = some (.map (some bm)) := hP.blk.cell 0
  have HN := hidV hP.nm
  have HB := hidV hP.blk
  have HT : Hid (∀ c, st ((lf s 1).c - 69) = .set c → yesno ((st (nm1 (lf s))).bit ((lf s 2).v % 7)) = yesno (c ((lf s 2).v % 7))) := fun c h => by unfold nm1; rw [h]; rfl
  clear hP hg hw
  unfold ans
  obtain ⟨E, HE⟩ : ∃ E, Hid (enS (lf s) (ctS (lf s) (nmS (lf s) (okSt st) ws1)) = E) := ⟨_, hidV rfl⟩
  rw [HE.out] at HL ⊢
  by_cases he : E.e = 0
  · rw [if_neg (by omega)]
    obtain ⟨TX, HTX⟩ : ∃ TX, Hid (yesno ((st (nm1 (lf s))).bit ((lf s 2).v % 7)) = TX) := ⟨_, hidV rfl⟩
    rw [HTX.out] at HT ⊢
    have HE0 := hidV he
    clear he
    go_enter Tryz.func16, Tryz.ntmps16
    go_wp2_with fail
    refine HL.out.mono ?_
    rintro x w1 (⟨_, v, rfl, ⟨c, hst, rfl⟩, hf1⟩ | ⟨h, _⟩)
    · have HTT := hidV (HT.out c hst)
      have c1 : w1.cell? ⟨b, 0, none⟩ = some (.map (some bm)) := (HB.out.fr hf1 (by simp)).cell 0
      have HF1 := hidV hf1
      have HC := hidV (fun (nr : Nat) => HasDo_any c (lf s 2).v (.map (some bm)) (w1.drewN nr))
      clear hf1 hst
      have hna := nilAhead_CHas
      go_wp2
      refine region_quiet_tail 8 (by kernel_rfl) (by kernel_rfl) ?_
      simp only [List.take_succ_cons, List.take_zero, List.drop_succ_cons, List.drop_zero]
      repeat (first | go_big_quiet_step ((fail)) | quiet_step ((fail)))
      refine wpQuiet_nil ?_
      rintro _ ⟨nr, rfl⟩
      go_wp2_with fail
      refine (HC.out nr).mono ?_
      rintro x w2 ⟨rfl, hb2⟩
      have HF2 : Hid (Fr [] w w2) := (HF1.out.drewN nr).trans (Fr.of_below (bs := []) hb2) (by simp)
      clear hb2
      go_wp2
      go_ret3
      refine ⟨by rw [HTT.out]; rfl, HN.out.fr HF2.out (by simp) (by simp), HF2.out.mono (by simp)⟩
    · exact absurd HE0.out h
  · rw [if_pos he]
    refine (pDo_bad s b bm E.e E.bad w HB.out he (HL.out.mono ?_)).mono ?_
    · rintro x w1 (⟨h, _⟩ | ⟨_, rfl, hf⟩)
      · exact absurd h he
      · exact ⟨rfl, hf⟩
    · rintro x w1 ⟨rfl, hf⟩
      exact ⟨rfl, HN.out.fr hf (by simp) (by simp), hf.mono (by simp)⟩

set_option maxRecDepth 100000 in
set_option maxHeartbeats 1000000 in
theorem pDo_sub (s : ByteArray) (b bm : Nat) (Ms : List Nat) (st : Nat → Mng) (w : World) (hP : Ps w Ms b bm st) (hg : ErrT w) (hl : ¬ 90 < s.size) (hsm : sml s (w0 s) = true) (hw : wd s = [115, 117, 98]) :
    Calls Tryz.prog 16 #[.pointer (some ⟨b, 0, none⟩), .string s] w (DoPost w Ms bm (ans (enS (lf s) (nmS (lf s) (okSt st) (nmS (lf s) (okSt st) ws1))) (yesno (withB (st (nm1 (lf s))).bit (st (nm2 (lf s))).bit)) st st)) := by
  have hlt := hP.nm.lt
  have HL := hidV (LineRead_short s bm w (lf s) (nmS (lf s) (okSt st) (nmS (lf s) (okSt st) ws1)) (fun v _ => ∃ c d, st ((lf s 1).c - 69) = .set c ∧ st ((lf s 2).c - 69) = .set d ∧ v = .iface 160 (.agg #[.bool (c 0), .bool (c 1), .bool (c 2), .bool (c 3), .bool (c 4), .bool (c 5), .bool (c 6), .bool (d 0), .bool (d 1), .bool (d 2), .bool (d 3), .bool (d 4), .bool (d 5), .bool (d 6)])) hg hl (strLf s)
    (fun w' h1 h2 h3 => rline_sub s w.heap.size bm (mw w.heap.size Ms) st w' (by omega) h1 (hP.nm.mw.fr h2 (by simp) (by simp)) (by omega) (by simp [mw]) hsm hw)
    (fun v w' h => by obtain ⟨c, d, _, _, rfl⟩ := h; exact ⟨_, _, rfl⟩)
    (fun v w1 w2 h _ => h))
  have c0 : w.cell? ⟨b, 0, none⟩ = some (.map (some bm)) := hP.blk.cell 0
  have HN := hidV hP.nm
  have HB := hidV hP.blk
  have HT : Hid (∀ c d, st ((lf s 1).c - 69) = .set c → st ((lf s 2).c - 69) = .set d → yesno (withB (st (nm1 (lf s))).bit (st (nm2 (lf s))).bit) = yesno (withB c d)) := fun c d h g => by unfold nm1 nm2; rw [h, g]; rfl
  clear hP hg hw
  unfold ans
  obtain ⟨E, HE⟩ : ∃ E, Hid (enS (lf s) (nmS (lf s) (okSt st) (nmS (lf s) (okSt st) ws1)) = E) := ⟨_, hidV rfl⟩
  rw [HE.out] at HL ⊢
  by_cases he : E.e = 0
  · rw [if_neg (by omega)]
    obtain ⟨TX, HTX⟩ : ∃ TX, Hid (yesno (withB (st (nm1 (lf s))).bit (st (nm2 (lf s))).bit) = TX) := ⟨_, hidV rfl⟩
    rw [HTX.out] at HT ⊢
    have HE0 := hidV he
    clear he
    go_enter Tryz.func16, Tryz.ntmps16
    go_wp2_with fail
    refine HL.out.mono ?_
    rintro x w1 (⟨_, v, rfl, ⟨c, d, hst, hst2, rfl⟩, hf1⟩ | ⟨h, _⟩)
    · have HTT := hidV (HT.out c d hst hst2)
      have c1 : w1.cell? ⟨b, 0, none⟩ = some (.map (some bm)) := (HB.out.fr hf1 (by simp)).cell 0
      have HF1 := hidV hf1
      have HC := hidV (fun (nr : Nat) => WithinDo_any c d (.map (some bm)) (w1.drewN nr))
      clear hf1 hst hst2
      have hna := nilAhead_CWithin
      go_wp2
      refine region_quiet_tail 8 (by kernel_rfl) (by kernel_rfl) ?_
      simp only [List.take_succ_cons, List.take_zero, List.drop_succ_cons, List.drop_zero]
      repeat (first | go_big_quiet_step ((fail)) | quiet_step ((fail)))
      refine wpQuiet_nil ?_
      rintro _ ⟨nr, rfl⟩
      go_wp2_with fail
      refine (HC.out nr).mono ?_
      rintro x w2 ⟨rfl, hb2⟩
      have HF2 : Hid (Fr [] w w2) := (HF1.out.drewN nr).trans (Fr.of_below (bs := []) hb2) (by simp)
      clear hb2
      go_wp2
      go_ret3
      refine ⟨by rw [HTT.out]; rfl, HN.out.fr HF2.out (by simp) (by simp), HF2.out.mono (by simp)⟩
    · exact absurd HE0.out h
  · rw [if_pos he]
    refine (pDo_bad s b bm E.e E.bad w HB.out he (HL.out.mono ?_)).mono ?_
    · rintro x w1 (⟨h, _⟩ | ⟨_, rfl, hf⟩)
      · exact absurd h he
      · exact ⟨rfl, hf⟩
    · rintro x w1 ⟨rfl, hf⟩
      exact ⟨rfl, HN.out.fr hf (by simp) (by simp), hf.mono (by simp)⟩

set_option maxRecDepth 100000 in
set_option maxHeartbeats 1000000 in
theorem pDo_set (s : ByteArray) (b bm : Nat) (Ms : List Nat) (st : Nat → Mng) (w : World) (hP : Ps w Ms b bm st) (hg : ErrT w) (hl : ¬ 90 < s.size) (hsm : sml s (w0 s) = true) (hw : wd s = [115, 101, 116]) :
    Calls Tryz.prog 16 #[.pointer (some ⟨b, 0, none⟩), .string s] w (DoPost w Ms bm (ans (setS st (lf s) s.size) [] (upd st (nm1 (lf s)) (.set (stR (lf s) s.size st 6 3).b)) st)) := by
  have hlt := hP.nm.lt
  have HL := hidV (LineRead_short s bm w (lf s) (stS (lf s) s.size st (wtS (lf s) 65 (nmS (lf s) (ok0 st) ws1))) (fun v _ => ∃ tr, v = .iface 154 (.agg #[.int .u8 ((lf s 1).c - 4 : Nat), tr]) ∧ Tree tr (stR (lf s) s.size st 6 3).b) hg hl (strLf s)
    (fun w' h1 h2 h3 => rline_set s w.heap.size bm (mw w.heap.size Ms) st w' (by omega) h1 (hP.nm.mw.fr h2 (by simp) (by simp)) (by omega) (by simp [mw]) hsm hw)
    (fun v w' h => by obtain ⟨tr, rfl, _⟩ := h; exact ⟨_, _, rfl⟩)
    (fun v w1 w2 h _ => h))
  have c0 : w.cell? ⟨b, 0, none⟩ = some (.map (some bm)) := hP.blk.cell 0
  have HN := hidV hP.nm
  have HB := hidV hP.blk
  have HMW := hidV hP.nm.mw
  have HNM : Hid ((setS st (lf s) s.size).e = 0 → (lf s 1).c - 69 < 26 ∧ (((lf s 1).c - 4 : Nat) : Int) = (((lf s 1).c - 69 + 65 : Nat) : Int)) := fun h => by
    obtain ⟨_, h6, _⟩ := nmS_ok (wtS_ok (stS_ok (enS_ok h))).1
    have h7 := (isN_iff _).1 h6
    have e1 : (ws1 : WS).k = 1 := rfl
    rw [e1] at h7
    omega
  clear hP hg hw
  unfold ans
  unfold nm1
  obtain ⟨E, HE⟩ : ∃ E, Hid (setS st (lf s) s.size = E) := ⟨_, hidV rfl⟩
  unfold setS at HE HNM ⊢
  rw [HE.out] at HL HNM ⊢
  by_cases he : E.e = 0
  · rw [if_neg (by omega)]
    have HE0 := hidV he
    clear he
    obtain ⟨PS, HPS⟩ : ∃ PS, Hid ((stR (lf s) s.size st 6 3).b = PS) := ⟨_, hidV rfl⟩
    rw [HPS.out] at HL ⊢
    go_enter Tryz.func16, Tryz.ntmps16
    go_wp2_with fail
    refine HL.out.mono ?_
    rintro x w1 (⟨_, v, rfl, ⟨tr, rfl, hu⟩, hf1⟩ | ⟨h, _⟩)
    · have c1 : w1.cell? ⟨b, 0, none⟩ = some (.map (some bm)) := (HB.out.fr hf1 (by simp)).cell 0
      have HF1 := hidV hf1
      have HC := hidV (fun (nr : Nat) => CollectDo_any bm ((lf s 1).c - 69) (mw w.heap.size Ms) st PS tr (((lf s 1).c - 4 : Nat) : Int) (w1.drewN nr) (HNM.out HE0.out).1 (HNM.out HE0.out).2 (HMW.out.fr (hf1.drewN nr) (by simp) (by simp)) hu)
      clear hf1 hu
      have hna := nilAhead_Collect
      go_wp2
      refine region_quiet_tail 8 (by kernel_rfl) (by kernel_rfl) ?_
      simp only [List.take_succ_cons, List.take_zero, List.drop_succ_cons, List.drop_zero]
      repeat (first | go_big_quiet_step ((fail)) | quiet_step ((fail)))
      refine wpQuiet_nil ?_
      rintro _ ⟨nr, rfl⟩
      go_wp2_with fail
      refine (HC.out nr).mono ?_
      rintro x w2 ⟨rfl, hn2, hf2⟩
      have HN2 := hidV (hn2.less (Ms := Ms) (by intro x hx; simp [mw, hx]) HN.out.mem)
      have HF2 : Hid (Fr [bm] w w2) := ((HF1.out.drewN nr).mono (by simp)).trans hf2 (by simp)
      clear hn2 hf2
      go_wp2
      go_ret3
      exact ⟨rfl, HN2.out, HF2.out⟩
    · exact absurd HE0.out h
  · rw [if_pos he]
    refine (pDo_bad s b bm E.e E.bad w HB.out he (HL.out.mono ?_)).mono ?_
    · rintro x w1 (⟨h, _⟩ | ⟨_, rfl, hf⟩)
      · exact absurd h he
      · exact ⟨rfl, hf⟩
    · rintro x w1 ⟨rfl, hf⟩
      exact ⟨rfl, HN.out.fr hf (by simp) (by simp), hf.mono (by simp)⟩
/-- DO. -/
theorem pDo_all (s : ByteArray) (b bm : Nat) (Ms : List Nat) (st : Nat → Mng) (w : World) (hP : Ps w Ms b bm st) (hM : ∀ x ∈ Ms, x < w.heap.size) (hg : ErrT w) (hm : s.size ≤ 1000000000000000) :
    Calls Tryz.prog 16 #[.pointer (some ⟨b, 0, none⟩), .string s] w (DoPost w Ms bm (lnA st s)) := by
  unfold lnA
  by_cases hl : 90 < s.size
  · rw [if_pos hl]; exact pDo_far s b bm Ms st w hP hg hl hm
  · rw [if_neg hl]
    cases hsm : sml s (w0 s) with
    | false =>
      have hw := wd_none hsm
      rw [if_pos rfl]
      exact pDo_other s b bm Ms st w hP hg hl (by rw [hw]; simp) (by rw [hw]; simp) (by rw [hw]; simp) (by rw [hw]; simp) (by rw [hw]; simp) (by rw [hw]; simp) (by rw [hw]; simp) (by rw [hw]; simp) (by rw [hw]; simp)
    | true =>
      rw [if_neg (by simp)]
      by_cases c1 : wd s = [115, 101, 116]
      · rw [if_pos c1]; exact pDo_set s b bm Ms st w hP hg hl hsm c1
      · rw [if_neg c1]
        by_cases c2 : wd s = [115, 104, 111, 119]
        · rw [if_pos c2]; exact pDo_show s b bm Ms st w hP hg hl hsm c2
        · rw [if_neg c2]
          by_cases c3 : wd s = [104, 97, 115]
          · rw [if_pos c3]; exact pDo_has s b bm Ms st w hP hg hl hsm c3
          · rw [if_neg c3]
            by_cases c4 : wd s = [115, 117, 98]
            · rw [if_pos c4]; exact pDo_sub s b bm Ms st w hP hg hl hsm c4
            · rw [if_neg c4]; exact pDo_any s b bm Ms st w hP hM hg (by omega) c1 c2 c3 c4
end Go.Proofs.YthlmgpllapccfaaGreatDoor
/- THE DOCUMENT's ANSWER: sets: one thing more is open. -/
namespace Go.Proofs.YthlmgpllapccfaaGreatDoor
open Go.RowKit

set_option maxRecDepth 100000 in
set_option maxHeartbeats 1000000 in
theorem opens_ok (b g n cap k : Nat) (op : Int) (w : World) (h : Wy w b g n cap k 0 0 op) (h0 : 0 ≤ op) (h6 : op < 6) :
    Calls Tryz.prog 101 #[.pointer (some ⟨b, 0, none⟩)] w fun e w' => e = .returned (.tuple #[]) ∧ Wy w' b g n cap k 0 0 (op + 1) ∧ Fr [b] w w' := by
  obtain ⟨c0, c1, c2, c3, c4⟩ := h.cells
  obtain ⟨f0, f1, f2, f3, f4⟩ := h.free
  have H := hidV h
  clear h
  go_enter Tryz.func101, Tryz.ntmps101
  go_wp2
  go_end0
  exact ⟨rfl, Blk.set H.out 4 _, (Fr.refl [b] w).setCell _ _ (by simp)⟩
set_option maxRecDepth 100000 in
set_option maxHeartbeats 1000000 in
theorem opens_deep (b g n cap k : Nat) (f : Nat → Tok) (w : World) (h : Wy w b g n cap (k + 1) 0 0 6) (ht : Tk w g n f) (hk : k + 1 < n) (_hn : n ≤ 2000) :
    Calls Tryz.prog 101 #[.pointer (some ⟨b, 0, none⟩)] w fun e w' => e = .returned (.tuple #[]) ∧ Wy w' b g n cap (k + 1) 8 (f k).at' 7 ∧ Fr [b] w w' := by
  obtain ⟨c0, c1, c2, c3, c4⟩ := h.cells
  obtain ⟨d0, d1, d2, d3⟩ := ht.cells (k := k) (by omega)
  have H := hidV h
  have i0 : (0 : Int) ≤ (k : Int) := by omega
  have i1 : (k : Int) < (n : Int) := by omega
  have e1 : ((k + 1 : Nat) : Int) = (k : Int) + 1 := by omega
  rw [e1] at c1
  have HW := hidV (fun nr => wrong_first b g n cap (k + 1) 8 (f k).at' 0 6 (w.drewN nr) (by exact h))
  clear h ht
  go_enter Tryz.func101, Tryz.ntmps101
  go_wp2_with fail
  refine region_quiet_tail 13 (by kernel_rfl) (by kernel_rfl) ?_
  simp only [List.take_succ_cons, List.take_zero, List.drop_succ_cons, List.drop_zero]
  repeat (first | go_big_quiet_step ((fail)) | quiet_step ((fail)))
  refine wpQuiet_nil ?_
  rintro _ ⟨nr, rfl⟩
  go_wp2_with fail
  refine (HW.out nr).mono ?_
  rintro e w1 ⟨rfl, h1, f1⟩
  obtain ⟨d0, d1, d2, d3, d4⟩ := h1.cells
  have y4 := h1.free.2.2.2.2
  have H1 : Hid (Wy w1 b g n cap (k + 1) 8 (f k).at' 6 ∧ Fr [b] w w1) := ⟨h1, ((Fr.refl [b] w).drewN nr).trans f1 (by simp)⟩
  clear h1 f1
  go_wp2
  go_end0
  exact ⟨rfl, Blk.set H1.out.1 4 _, H1.out.2.setCell _ _ (by simp)⟩
end Go.Proofs.YthlmgpllapccfaaGreatDoor
/- THE DOCUMENT's ANSWER: sets: sets out of parts. -/
namespace Go.Proofs.YthlmgpllapccfaaGreatDoor
open Go.RowKit

theorem rk_124 {c : Nat} : rk c = 124 ↔ c = 128 := by
  constructor
  · intro h
    unfold rk at h
    repeat' split at h
    all_goals first | omega | (rename_i q; have := sgn_big q; omega)
  · intro h; subst h; rfl
theorem rk_38 {c : Nat} : rk c = 38 ↔ c = 42 := by
  constructor
  · intro h
    unfold rk at h
    repeat' split at h
    all_goals first | omega | (rename_i q; have := sgn_big q; omega)
  · intro h; subst h; rfl
theorem bv_inj {a b : Nat → Bool} (h : bv a = bv b) : ∀ i, i < 7 → a i = b i := fun i hi => by
  have h1 := bv_get a hi
  rw [h, bv_get b hi] at h1
  injection h1 with h1
  injection h1 with h1
  exact h1.symm
def afR (pc : Nat → StR) (s : WS) : WS := if s.e ≠ 0 then s else ⟨(pc s.k).k, (pc s.k).e, (pc s.k).bad⟩
/-- What the reading of a set ends in. -/
def SP (b g n cap : Nat) (pc : Nat → StR) (s : WS) (op : Int) (w : World) (e : Ending) (w' : World) : Prop :=
  (∃ c, e = .returned (.agg (bv c)) ∧ (s.e = 0 → (pc s.k).e = 0 → bv c = bv (pc s.k).b)) ∧ WyS w' b g n cap (afR pc s) op ∧ Fr [b] w w'
theorem SP_end {b g n cap ib : Nat} {pc : Nat → StR} {s : WS} {op : Int} {w : World} {T : StR} (hT : Hid (pc s.k = T)) (hbl : b < w.heap.size) : ∀ (S : WS) (wr : World) (c : Nat → Bool), Hid (Blk wr ib (bv c) 45 ∧ Blk wr w.heap.size (bv fun _ => false) 45 ∧ WyS wr b g n cap S op ∧ Fr [b] w wr) →
    Hid ((s.e ≠ 0 → S = s) ∧ (s.e = 0 → S.e = T.e ∧ (S.e ≠ 0 → S.bad = T.bad) ∧ (T.e = 0 → S.k = T.k ∧ bv c = bv T.b))) →
    Hid (SP b g n cap pc s op w (.returned (.agg (bv c))) (wr.setCells w.heap.size 0 (bv c).toList)) := fun S wr c H1 H2 => by
  have f9 : Fr [w.heap.size] wr (wr.setCells w.heap.size 0 (bv c).toList) := Fr.setCells (Fr.refl _ _) _ _ _ (Or.inl (by simp))
  refine ⟨⟨c, rfl, fun h1 h2 => ?_⟩, ?_, Fr.setCells H1.out.2.2.2 _ _ _ (Or.inr (Nat.le_refl _))⟩
  · rw [hT.out] at h2 ⊢
    exact ((H2.out.2 h1).2.2 h2).2
  · have hw := H1.out.2.2.1.fr f9 (by simp; omega)
    unfold afR
    by_cases h1 : s.e = 0
    · rw [if_neg (by omega), hT.out]
      obtain ⟨q1, q2, q3⟩ := H2.out.2 h1
      rcases hw with ⟨k1, k2, k3⟩ | ⟨k1, k2⟩
      · have e0 : T.e = 0 := by omega
        obtain ⟨q4, _⟩ := q3 e0
        refine Or.inl ⟨e0, ?_, ?_⟩
        · show Wy _ b g n cap T.k 0 0 op
          rw [← q4]; exact k2
        · show T.k < n
          rw [← q4]; exact k3
      · refine Or.inr ⟨by show T.e ≠ 0; omega, ?_⟩
        show ∃ k', k' < n ∧ Wy _ b g n cap k' T.e T.bad op
        rw [← q1, ← q2 k1]; exact k2
    · rw [if_pos h1, ← H2.out.1 h1]; exact hw

set_option maxRecDepth 100000 in
set_option maxHeartbeats 2000000 in
theorem wset_any (b g n cap N bd : Nat) (f : Nat → Tok) (op : Int) (D : World → Prop) (pt : Nat → StR) (hgr : Grow pt) (hDf : ∀ w w', D w → Fr [b] w w' → D w')
    (s : WS) (hpt : ∀ s' w, (s.e ≠ 0 → s'.e ≠ 0) → WyS w b g n cap s' op → TkS w b g n N f → D w → Calls Tryz.prog 67 #[.pointer (some ⟨b, 0, none⟩), .pointer (some ⟨bd, 0, none⟩)] w (SP b g n cap pt s' op w))
    (w : World) (h : WyS w b g n cap s op) (ht : TkS w b g n N f) (hD : D w) :
    Calls Tryz.prog 41 #[.pointer (some ⟨b, 0, none⟩), .pointer (some ⟨bd, 0, none⟩)] w (SP b g n cap (seG f pt N) s op w) := by
  have hn : n ≤ N + 1 := ht.le
  have hN : N ≤ 1000 := ht.N
  have HP := hidV hpt
  have HDF := hidV hDf
  have HW := hidV h
  have HT := hidV ht
  have HD := hidV hD
  have hbl : b < w.heap.size := by rcases h with ⟨_, q, _⟩ | ⟨_, _, _, q⟩ <;> exact Blk.lt q
  clear hpt hDf h ht hD
  have HTF : Hid (∀ w', Fr [b] w w' → TkS w' b g n N f ∧ D w') := fun w' hf => ⟨HT.out.fr hf (by simp; exact fun q => HT.out.ne q.symm), HDF.out _ _ HD.out hf⟩
  obtain ⟨T, HTT⟩ : ∃ T, Hid (seG f pt N s.k = T) := ⟨_, hidV rfl⟩
  go_enter Tryz.func41, Tryz.ntmps41
  go_wp2_with fail
  have f0 : Fr [b] w (w.alloc (.cells #[.bool false, .bool false, .bool false, .bool false, .bool false, .bool false, .bool false] 45)) := (Fr.refl [b] w).alloc _
  refine (HP.out s _ (fun q => q) (HW.out.fr ((Fr.refl [] w).alloc _) (by simp)) (HTF.out _ f0).1 (HTF.out _ f0).2).mono ?_
  rintro e w1 ⟨⟨c, rfl, hcc⟩, hw1, hf1⟩
  have HI1 : Hid (WyS w1 b g n cap (afR pt s) op ∧ Fr [b] w w1 ∧ Blk w1 w.heap.size (bv fun _ => false) 45) := ⟨hw1, f0.trans hf1 (by simp), (Blk.new w _ _).fr hf1 (by simp; omega)⟩
  have HCC := hidV hcc
  clear hw1 hf1 hcc f0
  rw [bv_lit c]
  go_wp2_with fail
  refine wp_forget (fun V => Blk V w1.heap.size (bv c) 45 ∧ Blk V w.heap.size (bv fun _ => false) 45 ∧ WyS V b g n cap (afR pt s) op ∧ Fr [b] w V) ⟨Blk.new w1 _ _, Blk.alloc HI1.out.2.2 _, HI1.out.1.fr ((Fr.refl [] w1).alloc _) (by simp), HI1.out.2.1.alloc _⟩ ?_
  rintro V gV
  have HV := hidV gV
  have hib : w.heap.size < w1.heap.size := HI1.out.2.2.lt
  clear gV HI1
  generalize w1.heap.size = ib at *
  have HEND := hidV (SP_end (ib := ib) (g := g) (n := n) (cap := cap) (op := op) HTT hbl)
  by_cases hA : (afR pt s).e = 0
  · have hs0 : s.e = 0 := by
      unfold afR at hA
      split at hA
      · rename_i q; exact absurd hA q
      · rename_i q; omega
    have eaf : afR pt s = ⟨(pt s.k).k, (pt s.k).e, (pt s.k).bad⟩ := by unfold afR; rw [if_neg (by omega)]
    have hp0 : (pt s.k).e = 0 := by rw [eaf] at hA; exact hA
    have HT0 : Hid (T = seF f pt (N + 1) (afR pt s).k (pt s.k).b) := by unfold Hid; rw [← HTT.out, eaf]; unfold seG; rw [if_pos hp0]
    have hbb := HCC.out hs0 hp0
    rw [hbb] at HV
    clear hbb eaf hp0 HCC
    generalize (pt s.k).b = c0 at *
    obtain ⟨S0, HS0⟩ : ∃ S, Hid (afR pt s = S) := ⟨_, hidV rfl⟩
    rw [HS0.out] at HV hA HT0
    clear HS0
    go_loopg [6] (n + 1 - S0.k) (fun gm _ wr => ∃ S : WS, ∃ m : Nat, ∃ c : Nat → Bool, gm = (if S.e = 0 then n + 1 - S.k else 0) ∧ Hid ((S.e = 0 → T = seF f pt m S.k c ∧ N < S.k + m) ∧ (S.e ≠ 0 → S.e = T.e ∧ S.bad = T.bad)) ∧ Hid (Blk wr ib (bv c) 45 ∧ Blk wr w.heap.size (bv fun _ => false) 45 ∧ WyS wr b g n cap S op ∧ Fr [b] w wr))
    case atStart => exact ⟨S0, N + 1, c0, by rw [if_pos hA], ⟨fun _ => ⟨HT0.out, by omega⟩, fun q => absurd hA q⟩, HV⟩
    case round =>
      obtain ⟨S, m, c', hgm, HREL, HI⟩ := hrel
      clear HV HT0 hA
      have hwy := HI.out.2.2.1
      rcases hwy with ⟨k1, k2, k3⟩ | ⟨k1, k', hk', k2⟩
      · obtain ⟨hTS, hNm⟩ := HREL.out.1 k1
        have c2 := k2.cells.2.2.1
        have HK2 := hidV k2
        have HFR := hidV HI.out.2.2.2
        clear k2
        by_cases hc : (f S.k).c = 128
        · have hk1 : S.k + 1 < n := HT.out.fin S.k k3 (by omega)
          have HPY := hidV (passes_yes b g n cap S.k f 124 0 op wr HK2.out (HTF.out _ HFR.out).1.tk k3 (by omega) (by omega) (by omega) (rk_124.2 hc))
          go_wp2_with fail
          refine HPY.out.mono ?_
          rintro e w2 ⟨rfl, hw2, hf2⟩
          have HI2 : Hid (Blk w2 ib (bv c') 45 ∧ Blk w2 w.heap.size (bv fun _ => false) 45 ∧ Wy w2 b g n cap (S.k + 1) 0 0 op ∧ Fr [b] w w2) := ⟨HI.out.1.fr hf2 (by simp; omega), HI.out.2.1.fr hf2 (by simp; omega), hw2, HFR.out.trans hf2 (by simp)⟩
          clear hw2 hf2 HPY c2
          have HPP := hidV (HP.out ⟨S.k + 1, 0, 0⟩ w2 (fun q => absurd hs0 q) (Or.inl ⟨rfl, HI2.out.2.2.1, hk1⟩) (HTF.out _ HI2.out.2.2.2).1 (HTF.out _ HI2.out.2.2.2).2)
          go_wp2_with fail
          refine HPP.out.mono ?_
          rintro e w3 ⟨⟨c3, rfl, hc3⟩, hw3, hf3⟩
          have HI3 : Hid (Blk w3 ib (bv c') 45 ∧ Blk w3 w.heap.size (bv fun _ => false) 45 ∧ WyS w3 b g n cap (afR pt ⟨S.k + 1, 0, 0⟩) op ∧ Fr [b] w w3) := ⟨HI2.out.1.fr hf3 (by simp; omega), HI2.out.2.1.fr hf3 (by simp; omega), hw3, HI2.out.2.2.2.trans hf3 (by simp)⟩
          have HC3 := hidV (hc3 rfl)
          have HS3 : Hid (afR pt ⟨S.k + 1, 0, 0⟩ = ⟨(pt (S.k + 1)).k, (pt (S.k + 1)).e, (pt (S.k + 1)).bad⟩) := by unfold Hid afR; rw [if_neg (by simp)]
          rw [HS3.out] at HI3
          clear hc3 hw3 hf3 HPP HI2 HS3
          rw [bv_lit c3]
          go_wp2_with fail
          refine wp_forget (fun X => Blk X ib (bv c') 45 ∧ Blk X w.heap.size (bv fun _ => false) 45 ∧ WyS X b g n cap ⟨(pt (S.k + 1)).k, (pt (S.k + 1)).e, (pt (S.k + 1)).bad⟩ op ∧ Fr [b] w X ∧ Blk X w3.heap.size (bv c3) 45) ⟨Blk.alloc HI3.out.1 _, Blk.alloc HI3.out.2.1 _, HI3.out.2.2.1.fr ((Fr.refl [] w3).alloc _) (by simp), HI3.out.2.2.2.alloc _, Blk.new w3 _ _⟩ ?_
          rintro X gX
          have HX := hidV gX
          have hmb : w.heap.size < w3.heap.size ∧ ib < w3.heap.size := ⟨HI3.out.2.1.lt, HI3.out.1.lt⟩
          clear gX HI3
          generalize w3.heap.size = mb at *
          go_loopg [8] 7 (fun gm v8 ws => ∃ v : Nat, gm = 7 - v ∧ v ≤ 7 ∧ v8 = .int .i64 v ∧ Hid (Blk ws ib (bv fun j => if j < v then c' j || c3 j else c' j) 45 ∧ Blk ws w.heap.size (bv fun _ => false) 45 ∧ WyS ws b g n cap ⟨(pt (S.k + 1)).k, (pt (S.k + 1)).e, (pt (S.k + 1)).bad⟩ op ∧ Fr [b] w ws ∧ Blk ws mb (bv c3) 45))
          case atStart => exact ⟨0, rfl, by omega, rfl, by rw [bv_congr (b := fun j => if j < 0 then c' j || c3 j else c' j) (c := c') (fun j _ => by rw [if_neg (by omega)])]; exact HX.out.1, HX.out.2⟩
          case round =>
            obtain ⟨v, hgv, hv, rfl, HY⟩ := hrel
            clear HX
            by_cases hv7 : v < 7
            · have v0 : (0 : Int) ≤ (v : Int) := by omega
              have v1 : (v : Int) < 7 := by omega
              have ci : wr.cell? ⟨ib, v, none⟩ = some (.bool (c' v)) := by rw [HY.out.1.cell, bv_get _ hv7, if_neg (by omega)]
              have cm : wr.cell? ⟨mb, v, none⟩ = some (.bool (c3 v)) := by rw [HY.out.2.2.2.2.cell, bv_get _ hv7]
              have fz : wr.frozen? ⟨ib, v, none⟩ = false := HY.out.1.frozen _
              have key : ∀ x : Bool, x = (c' v || c3 v) → Hid (Blk (wr.setCell ⟨ib, v, none⟩ (.bool x)) ib (bv fun j => if j < v + 1 then c' j || c3 j else c' j) 45 ∧ Blk (wr.setCell ⟨ib, v, none⟩ (.bool x)) w.heap.size (bv fun _ => false) 45 ∧ WyS (wr.setCell ⟨ib, v, none⟩ (.bool x)) b g n cap ⟨(pt (S.k + 1)).k, (pt (S.k + 1)).e, (pt (S.k + 1)).bad⟩ op ∧ Fr [b] w (wr.setCell ⟨ib, v, none⟩ (.bool x)) ∧ Blk (wr.setCell ⟨ib, v, none⟩ (.bool x)) mb (bv c3) 45) := fun x hx => by
                have f9 : Fr [ib] wr (wr.setCell ⟨ib, v, none⟩ (.bool x)) := Fr.setCell (Fr.refl _ _) _ _ (Or.inl (by simp))
                refine ⟨?_, HY.out.2.1.setOther _ _ (by simp; omega), HY.out.2.2.1.fr f9 (by simp; omega), HY.out.2.2.2.1.setCell _ _ (Or.inr (by simp; omega)), HY.out.2.2.2.2.setOther _ _ (by simp; omega)⟩
                have h9 := HY.out.1.set v (.bool x)
                rw [bv_upd _ _ hv7] at h9
                rw [bv_congr (b := fun j => if j < v + 1 then c' j || c3 j else c' j) (c := fun j => if j = v then x else if j < v then c' j || c3 j else c' j) (fun j hj => by
                  by_cases e1 : j = v
                  · rw [if_pos e1, if_pos (by omega), e1, hx]
                  · rw [if_neg e1]
                    by_cases e2 : j < v
                    · rw [if_pos e2, if_pos (by omega)]
                    · rw [if_neg e2, if_neg (by omega)])]
                exact h9
              cases hcv : c' v with
              | true =>
                rw [hcv] at ci
                have KEY := key true (by rw [hcv]; rfl)
                clear key
                go_wp2
                go_roundg (7 - (v + 1))
                case measure => omega
                case rel => exact ⟨v + 1, rfl, by omega, by go_num, KEY⟩
              | false =>
                rw [hcv] at ci
                have KEY := key (c3 v) (by rw [hcv]; rfl)
                clear key
                go_wp2
                go_roundg (7 - (v + 1))
                case measure => omega
                case rel => exact ⟨v + 1, rfl, by omega, by go_num, KEY⟩
            · have ev : v = 7 := by omega
              subst ev
              have hgrk := hgr (S.k + 1)
              go_wp2
              go_roundg (if (pt (S.k + 1)).e = 0 then n + 1 - (pt (S.k + 1)).k else 0)
              case measure =>
                rw [hgm, if_pos k1]
                split
                · rename_i q; have := hgrk q; omega
                · omega
              case rel =>
                by_cases h3 : (pt (S.k + 1)).e = 0
                · have hb3 := bv_inj (HC3.out h3)
                  refine ⟨⟨(pt (S.k + 1)).k, (pt (S.k + 1)).e, (pt (S.k + 1)).bad⟩, m - 1, fun j => c' j || (pt (S.k + 1)).b j, rfl, ⟨fun _ => ⟨by rw [hTS, seF_or (by omega) hc h3], by have := hgrk h3; show N < (pt (S.k + 1)).k + (m - 1); omega⟩, fun q => absurd h3 q⟩, ?_, HY.out.2.1, HY.out.2.2.1, HY.out.2.2.2.1⟩
                  rw [bv_congr (b := fun j => c' j || (pt (S.k + 1)).b j) (c := fun j => if j < 7 then c' j || c3 j else c' j) (fun j hj => by rw [if_pos hj, hb3 j hj])]
                  exact HY.out.1
                · exact ⟨⟨(pt (S.k + 1)).k, (pt (S.k + 1)).e, (pt (S.k + 1)).bad⟩, 0, _, rfl, ⟨fun q => absurd q h3, fun _ => by rw [hTS, seF_bad (by omega) hc h3]; exact ⟨rfl, rfl⟩⟩, HY.out.1, HY.out.2.1, HY.out.2.2.1, HY.out.2.2.2.1⟩
        · have HPN := hidV (passes_no b g n cap S.k f 124 0 op wr HK2.out (HTF.out _ HFR.out).1.tk k3 (by omega) (by omega) (by omega) (fun q => hc (rk_124.1 q)))
          go_wp2_with fail
          refine HPN.out.mono ?_
          rintro e w2 ⟨rfl, hw2, hf2⟩
          have HI2 : Hid (Blk w2 ib (bv c') 45 ∧ Blk w2 w.heap.size (bv fun _ => false) 45 ∧ WyS w2 b g n cap S op ∧ Fr [b] w w2) := ⟨HI.out.1.fr hf2 (by simp; omega), HI.out.2.1.fr hf2 (by simp; omega), Or.inl ⟨k1, hw2, k3⟩, HFR.out.trans hf2 (by simp)⟩
          have HRR : Hid ((s.e ≠ 0 → S = s) ∧ (s.e = 0 → S.e = T.e ∧ (S.e ≠ 0 → S.bad = T.bad) ∧ (T.e = 0 → S.k = T.k ∧ bv c' = bv T.b))) := by
            rw [seF_end hc] at hTS
            rw [hTS]
            exact ⟨fun q => absurd hs0 q, fun _ => ⟨k1, fun q => absurd k1 q, fun _ => ⟨rfl, rfl⟩⟩⟩
          have HQ := hidV (HEND.out S w2 c' HI2 HRR)
          have HTH := hidV (show World.there w2 w.heap.size 0 (bv c').size from Blk.there HI2.out.2.1 (Nat.le_refl _))
          have HSZ := hidV (size_bool7 c')
          have HON := hidV (bv_one c')
          have HBB := hidV HI2.out.1
          have HRB := hidV HI2.out.2.1
          obtain ⟨y, HY⟩ : ∃ y, Hid (bv c' = y) := ⟨_, hidV rfl⟩
          have HYS : Hid (y.size = (bv fun _ => false).size) := by unfold Hid; rw [← HY.out]; rfl
          rw [HY.out] at HTH HSZ HON HBB HQ
          go_wp2_with (first | (refine wpList_load_row (by rfl) 45 _ (by rfl) ib (by rfl) 45 y (0, 0) _ HBB.out Tryz.underlying45 (by rfl) HSZ.out ?_) | (refine wpList_store_mid (by rfl) 45 _ _ (by rfl) w.heap.size 0 y (by rfl) (by rfl) HTH.out HSZ.out HON.out ?_))
          refine bodyPost_ret (results_cell_row Tryz.results41 _ _ w.heap.size 45 y (0, 0) _ (by rfl) (Blk.setAll HRB.out _ HYS.out) Tryz.underlying45 rfl HSZ.out) rfl HQ.out
      · have c2 := k2.cells.2.2.1
        have ne : (((S.e : Nat) : Int) == 0) = false := by rw [beq_eq_false_iff_ne]; omega
        obtain ⟨q1, q2⟩ := HREL.out.2 k1
        have HRR : Hid ((s.e ≠ 0 → S = s) ∧ (s.e = 0 → S.e = T.e ∧ (S.e ≠ 0 → S.bad = T.bad) ∧ (T.e = 0 → S.k = T.k ∧ bv c' = bv T.b))) := ⟨fun q => absurd hs0 q, fun _ => ⟨q1, fun _ => q2, fun q => by omega⟩⟩
        clear k2
        have HQ := hidV (HEND.out S wr c' HI HRR)
        have HTH := hidV (show World.there wr w.heap.size 0 (bv c').size from Blk.there HI.out.2.1 (Nat.le_refl _))
        have HSZ := hidV (size_bool7 c')
        have HON := hidV (bv_one c')
        have HBB := hidV HI.out.1
        have HRB := hidV HI.out.2.1
        obtain ⟨y, HY⟩ : ∃ y, Hid (bv c' = y) := ⟨_, hidV rfl⟩
        have HYS : Hid (y.size = (bv fun _ => false).size) := by unfold Hid; rw [← HY.out]; rfl
        rw [HY.out] at HTH HSZ HON HBB HQ
        go_wp2_with (first | (refine wpList_load_row (by rfl) 45 _ (by rfl) ib (by rfl) 45 y (0, 0) _ HBB.out Tryz.underlying45 (by rfl) HSZ.out ?_) | (refine wpList_store_mid (by rfl) 45 _ _ (by rfl) w.heap.size 0 y (by rfl) (by rfl) HTH.out HSZ.out HON.out ?_))
        refine bodyPost_ret (results_cell_row Tryz.results41 _ _ w.heap.size 45 y (0, 0) _ (by rfl) (Blk.setAll HRB.out _ HYS.out) Tryz.underlying45 rfl HSZ.out) rfl HQ.out
  · have HR : Hid ((s.e ≠ 0 → afR pt s = s) ∧ (s.e = 0 → (afR pt s).e = T.e ∧ ((afR pt s).e ≠ 0 → (afR pt s).bad = T.bad) ∧ (T.e = 0 → (afR pt s).k = T.k ∧ bv c = bv T.b))) := by
      refine ⟨fun h1 => by unfold afR; rw [if_pos h1], fun h1 => ?_⟩
      unfold afR at hA ⊢
      rw [if_neg (by omega)] at hA ⊢
      have hA' : ¬ (pt s.k).e = 0 := hA
      have e0 : T = pt s.k := by rw [← HTT.out]; unfold seG; rw [if_neg hA']
      rw [e0]
      exact ⟨rfl, fun _ => rfl, fun q => absurd q hA'⟩
    obtain ⟨S, HSS⟩ : ∃ S, Hid (afR pt s = S) := ⟨_, hidV rfl⟩
    rw [HSS.out] at HR HV hA
    have hq := HV.out.2.2.1
    rcases hq with ⟨k1, _⟩ | ⟨_, k', hk', hwy⟩
    · exact absurd k1 hA
    · have c2 := hwy.cells.2.2.1
      have ne : (((S.e : Nat) : Int) == 0) = false := by rw [beq_eq_false_iff_ne]; omega
      clear hwy
      refine wp_loop_rounds 1 ?_
      rw [rounds_succ]
      have HQ := hidV (HEND.out S V c HV HR)
      have HTH := hidV (show World.there V w.heap.size 0 (bv c).size from Blk.there HV.out.2.1 (Nat.le_refl _))
      have HSZ := hidV (size_bool7 c)
      have HON := hidV (bv_one c)
      have HBB := hidV HV.out.1
      have HRB := hidV HV.out.2.1
      obtain ⟨y, HY⟩ : ∃ y, Hid (bv c = y) := ⟨_, hidV rfl⟩
      have HYS : Hid (y.size = (bv fun _ => false).size) := by unfold Hid; rw [← HY.out]; rfl
      rw [HY.out] at HTH HSZ HON HBB HQ
      go_wp2_with (first | (refine wpList_load_row (by rfl) 45 _ (by rfl) ib (by rfl) 45 y (0, 0) _ HBB.out Tryz.underlying45 (by rfl) HSZ.out ?_) | (refine wpList_store_mid (by rfl) 45 _ _ (by rfl) w.heap.size 0 y (by rfl) (by rfl) HTH.out HSZ.out HON.out ?_))
      refine bodyPost_ret (results_cell_row Tryz.results41 _ _ w.heap.size 45 y (0, 0) _ (by rfl) (Blk.setAll HRB.out _ HYS.out) Tryz.underlying45 rfl HSZ.out) rfl HQ.out
end Go.Proofs.YthlmgpllapccfaaGreatDoor
