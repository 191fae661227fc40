/- THE READER: Polynomial. -/
import Derived.Test.YtaajdcaciofmaaaDoorCatch
namespace Go.Proofs.YtaajdcaciofmaaaDoor
open Go.RowKit

set_option maxRecDepth 100000 in
set_option maxHeartbeats 1000000 in
theorem catch_idle (p q r : Nat) (w : World) :
    CallsD Tryd.prog 24 #[.pointer (some ⟨p, 0, none⟩), .pointer (some ⟨q, 0, none⟩), .pointer (some ⟨r, 0, none⟩)] .returning w fun e u' w' =>
      e = .returned (.tuple #[]) ∧ u' = .returning ∧ w' = w := by
  refine callsD_of_wpS Tryd.func24 rfl fun c₀ cs hu => ?_
  apply wpS_seq
  apply wpS_region
  simp [wpOpsS, go_sem, recoverD, hu, Tryd.ntmps24, Exit.thenS]
  refine wpS_of_wp ?_
  refine wp_named ⟨#[Value.pointer (some ⟨p, 0, none⟩), Value.pointer (some ⟨q, 0, none⟩), Value.pointer (some ⟨r, 0, none⟩), .nilIface, undef, undef, undef, .nilIface, undef, undef, undef, undef, undef, undef, undef, undef, undef, undef, undef, undef, undef, undef, undef, undef, undef], []⟩ (by kernel_rfl) ?_
  intro Q' hQ
  have HQ := hide' hQ
  clear hQ
  have he : ∀ w : World, (binOp .eql 20 .nilIface .nilIface).run Tryd.prog w = .ok (.bool true) w := fun _ => by kernel_rfl
  go_wp2
  rw [HQ.out]
  cases c₀
  simp_all [bodyPostS, results, Tryd.results24]

theorem results_poly (tmps : Array Value) (w : World) (g1 g2 g3 : Nat) (p : List Nat) (e b : Int) (h1 : tmps.getD 2 undef = .pointer (some ⟨g1, 0, none⟩)) (h2 : tmps.getD 3 undef = .pointer (some ⟨g2, 0, none⟩)) (h3 : tmps.getD 4 undef = .pointer (some ⟨g3, 0, none⟩))
    (hp : Good p) (b1 : Blk w g1 (pv p) 37) (b2 : Blk w g2 #[.int .i64 e] 22) (b3 : Blk w g3 #[.int .i64 b] 3) :
    (results Tryd.f15 tmps).run Tryd.prog w = .ok (.tuple #[.agg (pv p), .int .i64 e, .int .i64 b]) w := by
  have l1 := run_loadVar_row (P := Tryd.prog) w g1 37 37 (pv p) (0, 0) _ b1 Tryd.underlying37 rfl (size_poly hp)
  have e2 : w.cell? ⟨g2, 0, none⟩ = some (.int .i64 e) := b2.cell 0
  have e3 : w.cell? ⟨g3, 0, none⟩ = some (.int .i64 b) := b3.cell 0
  have l2 : (loadVar 22 ⟨g2, 0, none⟩).run Tryd.prog w = .ok (.int .i64 e) w := by simp [loadVar, isAgg, underlying, Tryd.underlying22, e2]
  have l3 : (loadVar 3 ⟨g3, 0, none⟩).run Tryd.prog w = .ok (.int .i64 b) w := by simp [loadVar, isAgg, underlying, Tryd.underlying3, e3]
  have h1' : tmps[2]?.getD undef = .pointer (some ⟨g1, 0, none⟩) := by simpa using h1
  have h2' : tmps[3]?.getD undef = .pointer (some ⟨g2, 0, none⟩) := by simpa using h2
  have h3' : tmps[4]?.getD undef = .pointer (some ⟨g3, 0, none⟩) := by simpa using h3
  simp [results, Tryd.results15, h1', h2', h3', asAddr, l1, l2, l3]

/-- The blocks of the results, while nothing has been read. -/
def Three (w0 w : World) (p : List Nat) (e b : Int) : Prop := Blk w w0.heap.size (pv p) 37 ∧ Blk w (w0.heap.size + 1) #[.int .i64 e] 22 ∧ Blk w (w0.heap.size + 1 + 1) #[.int .i64 b] 3
theorem Three.fr {bs : List Nat} {w0 w w' : World} {p : List Nat} {e b : Int} (h : Three w0 w p e b) (f : Fr bs w w') (hb : ∀ x ∈ bs, x ≠ w0.heap.size ∧ x ≠ w0.heap.size + 1 ∧ x ≠ w0.heap.size + 1 + 1) : Three w0 w' p e b :=
  ⟨h.1.fr f (fun q => (hb _ q).1 rfl), h.2.1.fr f (fun q => (hb _ q).2.1 rfl), h.2.2.fr f (fun q => (hb _ q).2.2 rfl)⟩

/-- The cell that errors.errorType holds. -/
def ErrT (w : World) : Prop := w.cell? ⟨0, 0, none⟩ = some (.iface 111 (.agg #[.pointer (some ⟨5, 52, none⟩)]))
theorem ErrT.lt {w : World} (h : ErrT w) : 0 < w.heap.size := by
  rcases Nat.eq_zero_or_pos w.heap.size with h0 | g
  · unfold ErrT at h; simp [World.cell?, h0] at h
  · exact g
theorem ErrT.fr {bs : List Nat} {w w' : World} (h : ErrT w) (f : Fr bs w w') (hb : 0 ∉ bs) : ErrT w' := by
  unfold ErrT at *
  rw [f.cell 0 (ErrT.lt h) hb]; exact h

/-- Where the reading ended in a panic, the deferred function has caught it. -/
theorem caught (w W : World) (tmps : Array Value) (p0 : List Nat) (x y : Int) (R : Ending → World → Prop) (h1 : tmps.getD 2 undef = .pointer (some ⟨w.heap.size, 0, none⟩)) (h2 : tmps.getD 3 undef = .pointer (some ⟨w.heap.size + 1, 0, none⟩)) (h3 : tmps.getD 4 undef = .pointer (some ⟨w.heap.size + 1 + 1, 0, none⟩))
    (ht : Three w W p0 0 0) (hp0 : Good p0) (hg : ErrT W) (hw : Fr [] w W)
    (hR : ∀ W', Below w.heap.size w W' → R (.returned (.tuple #[.agg (pv zeros), .int .i64 x, .int .i64 y])) W') :
    Leaves Tryd.prog Tryd.f15 tmps R [{ target := .fn (.func 24) #[.pointer (some ⟨w.heap.size, 0, none⟩), .pointer (some ⟨w.heap.size + 1, 0, none⟩), .pointer (some ⟨w.heap.size + 1 + 1, 0, none⟩)], args := #[] }] (.panicking (faulty x y)) W := by
  refine leaves_cons (f := 24) (args := #[.pointer (some ⟨w.heap.size, 0, none⟩), .pointer (some ⟨w.heap.size + 1, 0, none⟩), .pointer (some ⟨w.heap.size + 1 + 1, 0, none⟩)]) (by simp) (by simp [go_sem]) ?_
  refine (catch_panicking w.heap.size (w.heap.size + 1) (w.heap.size + 1 + 1) x y p0 0 0 W ht.1 hp0 ht.2.1 ht.2.2 (by omega) (by omega) (by omega) hg).mono ?_
  rintro e u' W' ⟨rfl, rfl, b1, b2, b3, hf⟩
  refine ⟨_, results_poly tmps W' _ _ _ zeros x y h1 h2 h3 zeros_good b1 b2 b3, hR W' ?_⟩
  exact (hw.trans hf (by simp; omega)).below (Nat.le_refl _) (by simp)
theorem idle (w W : World) (tmps : Array Value) (p : List Nat) (R : Ending → World → Prop) (h1 : tmps.getD 2 undef = .pointer (some ⟨w.heap.size, 0, none⟩)) (h2 : tmps.getD 3 undef = .pointer (some ⟨w.heap.size + 1, 0, none⟩)) (h3 : tmps.getD 4 undef = .pointer (some ⟨w.heap.size + 1 + 1, 0, none⟩))
    (ht : Three w W p 0 0) (hp : Good p) (hR : R (.returned (.tuple #[.agg (pv p), .int .i64 0, .int .i64 0])) W) :
    Leaves Tryd.prog Tryd.f15 tmps R [{ target := .fn (.func 24) #[.pointer (some ⟨w.heap.size, 0, none⟩), .pointer (some ⟨w.heap.size + 1, 0, none⟩), .pointer (some ⟨w.heap.size + 1 + 1, 0, none⟩)], args := #[] }] .returning W := by
  refine leaves_cons (f := 24) (args := #[.pointer (some ⟨w.heap.size, 0, none⟩), .pointer (some ⟨w.heap.size + 1, 0, none⟩), .pointer (some ⟨w.heap.size + 1 + 1, 0, none⟩)]) (by simp) (by simp [go_sem]) ?_
  refine (catch_idle w.heap.size (w.heap.size + 1) (w.heap.size + 1 + 1) W).mono ?_
  rintro e u' W' ⟨rfl, rfl, rfl⟩
  exact ⟨_, results_poly tmps _ _ _ _ p 0 0 h1 h2 h3 hp ht.1 ht.2.1 ht.2.2, hR⟩

theorem three0 (w : World) : Three w (((w.alloc (.cells #[.int .i64 0, .int .i64 0, .int .i64 0, .int .i64 0, .int .i64 0, .int .i64 0, .int .i64 0, .int .i64 0, .int .i64 0, .int .i64 0, .int .i64 0, .int .i64 0, .int .i64 0, .int .i64 0, .int .i64 0, .int .i64 0, .int .i64 0, .int .i64 0, .int .i64 0, .int .i64 0, .int .i64 0, .int .i64 0, .int .i64 0, .int .i64 0, .int .i64 0, .int .i64 0, .int .i64 0, .int .i64 0, .int .i64 0, .int .i64 0, .int .i64 0, .int .i64 0, .int .i64 0, .int .i64 0, .int .i64 0] 37)).alloc (.cells #[.int .i64 0] 22)).alloc (.cells #[.int .i64 0] 3)) zeros 0 0 :=
  ⟨Blk.alloc (Blk.alloc (Blk.new w _ _) _) _, Blk.alloc (Blk.newAt _ _ _ (by simp)) _, Blk.newAt _ _ _ (by simp)⟩

set_option maxRecDepth 100000 in
set_option maxHeartbeats 1000000 in
theorem Polynomial_long (s : ByteArray) (w : World) (hg : ErrT w) (hl : 90 < s.size) (hm : s.size ≤ 140737488351232) :
    Calls Tryd.prog 15 #[.string s] w fun e w' => e = .returned (.tuple #[.agg (pv zeros), .int .i64 2, .int .i64 0]) ∧ Below w.heap.size w w' := by
  have hmf : ∀ (fn : Fn) (first cap : Array Value) (w : World), (Instr.makeFunc fn first cap).run Tryd.prog w = .ok (.func fn first cap) w := fun _ _ _ _ => rfl
  have HG := hide' hg
  clear hg
  go_enter_defers Tryd.func15, Tryd.ntmps15
  go_wp2_with fail
  refine (begin_long s _ hl hm).mono ?_
  rintro e w1 ⟨rfl, rfl⟩
  go_wp2
  exact caught w _ _ zeros 2 0 _ rfl rfl rfl (three0 w) zeros_good (HG.out.fr (bs := []) ((((Fr.refl [] w).alloc _).alloc _).alloc _) (by simp)) ((((Fr.refl [] w).alloc _).alloc _).alloc _) (fun W' h => ⟨rfl, h⟩)

theorem polynomial_ok (s : ByteArray) (b : Nat) (w : World) (hs : s.size ≤ 1000) (hr : Rd w b s (tk s 0 0)) (h : (poly (tk s 0) false s.size 0).e = 0) :
    Calls Tryd.prog 27 #[.pointer (some ⟨b, 0, none⟩)] w fun e w' => e = .returned (.agg (pv (poly (tk s 0) false s.size 0).p)) ∧ Good (poly (tk s 0) false s.size 0).p ∧ Rd w' b s (tk s 0 (poly (tk s 0) false s.size 0).k) ∧ Fr [b] w w' :=
  (polynomial_any s 0 0 b w hs (Nat.zero_le _) (Nat.zero_le _) hr).mono (by rintro e w1 (g | g); exact g.2; exact absurd h g.1)
theorem polynomial_not (s : ByteArray) (b : Nat) (w : World) (hs : s.size ≤ 1000) (hr : Rd w b s (tk s 0 0)) (h : (poly (tk s 0) false s.size 0).e ≠ 0) :
    Calls Tryd.prog 27 #[.pointer (some ⟨b, 0, none⟩)] w fun e w' => e = .panicked (faulty (poly (tk s 0) false s.size 0).e (poly (tk s 0) false s.size 0).bad) ∧ Fr [b] w w' :=
  (polynomial_any s 0 0 b w hs (Nat.zero_le _) (Nat.zero_le _) hr).mono (by rintro e w1 (g | g); exact absurd g.1 h; exact g.2)

set_option maxRecDepth 100000 in
set_option maxHeartbeats 2000000 in
theorem Polynomial_short (s : ByteArray) (w : World) (hg : ErrT w) (hl : ¬ 90 < s.size) :
    Calls Tryd.prog 15 #[.string s] w fun e w' => e = .returned (.tuple #[.agg (pv (rd s).p), .int .i64 (rd s).e, .int .i64 (rd s).bad]) ∧ Good (rd s).p ∧ Below w.heap.size w w' := by
  have hmf : ∀ (fn : Fn) (first cap : Array Value) (w : World), (Instr.makeFunc fn first cap).run Tryd.prog w = .ok (.func fn first cap) w := fun _ _ _ _ => rfl
  have HG := hide' hg
  have h3 := hide' (three0 w)
  generalize hrr : rd s = RR
  have HRR := hide' hrr
  clear hg hrr
  go_enter_defers Tryd.func15, Tryd.ntmps15
  go_wp2_with fail
  refine (begin_short s _ hl).mono ?_
  rintro e w1 ⟨b, rfl, hb, hr1, hbel⟩
  have hf1 : Fr [] w w1 := ((((Fr.refl [] w).alloc _).alloc _).alloc _).trans (Fr.of_below (bs := []) hbel) (by simp)
  have h31 : Three w w1 zeros 0 0 := h3.out.fr (Fr.of_below (bs := []) hbel) (by simp)
  have hb' : w.heap.size + 1 + 1 < b := by simp at hb; omega
  have HF1 := hide' hf1
  have H31 := hide' h31
  have HR1 := hide' hr1
  clear hf1 h31 hr1 hbel hb
  by_cases he : (poly (tk s 0) false s.size 0).e = 0
  · go_wp2_with fail
    refine (polynomial_ok s b _ (by omega) HR1.out he).mono ?_
    rintro e w2 ⟨rfl, hgp, hr2, hf2⟩
    have HF2 : Hid (Fr [] w w2) := HF1.out.trans hf2 (by simp; omega)
    have H32 : Three w w2 zeros 0 0 := H31.out.fr hf2 (by simp; omega)
    have hs2 : w2.there w.heap.size 0 (pv (poly (tk s 0) false s.size 0).p).size := Blk.there H32.1 (by rw [pv_size, pv_size, hgp.1]; exact Nat.le_refl _)
    have H33 : Hid (Three w (w2.setCells w.heap.size 0 (pv (poly (tk s 0) false s.size 0).p).toList) (poly (tk s 0) false s.size 0).p 0 0) := ⟨Blk.setAll H32.1 _ (by rw [pv_size, pv_size, hgp.1]; rfl), Blk.setCellsOther H32.2.1 _ _ _ (by omega), Blk.setCellsOther H32.2.2 _ _ _ (by omega)⟩
    have HR3 : Hid (Rd (w2.setCells w.heap.size 0 (pv (poly (tk s 0) false s.size 0).p).toList) b s (tk s 0 (poly (tk s 0) false s.size 0).k)) := Blk.setCellsOther hr2 _ _ _ (by omega)
    have HF3 : Hid (Fr [] w (w2.setCells w.heap.size 0 (pv (poly (tk s 0) false s.size 0).p).toList)) := HF2.out.setCells _ _ _ (by simp)
    have HS := hide' hs2
    clear hs2 H32 hr2
    by_cases hc : (tk s 0 (poly (tk s 0) false s.size 0).k).c = 0
    · have HE : Hid (RR = ⟨0, 0, (poly (tk s 0) false s.size 0).p⟩) := by unfold Hid; rw [← HRR.out]; unfold rd; rw [if_neg hl, if_pos he, if_pos hc]
      generalize poly (tk s 0) false s.size 0 = PP at *
      go_wp2_with (refine wpList_store_mid (by rfl) 37 _ (.tmp 10) (by rfl) w.heap.size 0 (pv PP.p) (by rfl) (by rfl) HS.out (size_poly hgp) (pv_one _) ?_)
      refine (finish_ok s _ b _ HR3.out hc).mono ?_
      rintro e w3 ⟨rfl, rfl⟩
      obtain ⟨W, HW⟩ : ∃ W, Hid (W = w2.setCells w.heap.size 0 (pv PP.p).toList) := ⟨_, rfl⟩
      rw [← HW.out]
      rw [← HW.out] at H33 HF3
      clear HS HR3
      have HS : Hid (W.there w.heap.size 0 (pv PP.p).size) := Blk.there H33.out.1 (Nat.le_refl _)
      have b1 : Blk (W.setCells w.heap.size 0 (pv PP.p).toList) w.heap.size (pv PP.p) 37 := Blk.setAll H33.out.1 _ rfl
      have b2 : Blk (W.setCells w.heap.size 0 (pv PP.p).toList) (w.heap.size + 1) #[.int .i64 0] 22 := Blk.setCellsOther H33.out.2.1 _ _ _ (by omega)
      have b3 : Blk (W.setCells w.heap.size 0 (pv PP.p).toList) (w.heap.size + 1 + 1) #[.int .i64 0] 3 := Blk.setCellsOther H33.out.2.2 _ _ _ (by omega)
      have e0 : (W.setCells w.heap.size 0 (pv PP.p).toList).cell? ⟨w.heap.size + 1, 0, none⟩ = some (.int .i64 0) := b2.cell 0
      have e1 : (W.setCells w.heap.size 0 (pv PP.p).toList).cell? ⟨w.heap.size + 1 + 1, 0, none⟩ = some (.int .i64 0) := b3.cell 0
      have e2 := b2.frozen 0
      have e3 := b3.frozen 0
      have B1 := hide' b1
      have B2 := hide' b2
      have B3 := hide' b3
      clear b1 b2 b3
      go_wp2_with (first | (refine wpList_load_row (by rfl) 37 _ (by rfl) w.heap.size (by rfl) 37 (pv PP.p) (0, 0) _ H33.out.1 Tryd.underlying37 (by rfl) (size_poly hgp) ?_) | (refine wpList_store_mid (by rfl) 37 _ (.tmp 13) (by rfl) w.heap.size 0 (pv PP.p) (by rfl) (by rfl) HS.out (size_poly hgp) (pv_one _) ?_))
      refine idle w _ _ PP.p _ rfl rfl rfl ⟨(B1.out.setOther _ _ (by simp)).setOther _ _ (by simp; omega), (B2.out.set 0 _).setOther _ _ (by simp), (B3.out.setOther _ _ (by simp)).set 0 _⟩ hgp ⟨?_, ?_, ?_⟩
      · rw [HE.out]; rfl
      · rw [HE.out]; exact hgp
      · exact (((HF3.out.setCells _ _ _ (by simp)).setCell _ _ (by simp)).setCell _ _ (by simp; omega)).below (Nat.le_refl _) (by simp)
    · have HE : Hid (RR = ⟨4, (tk s 0 (poly (tk s 0) false s.size 0).k).at', zeros⟩) := by unfold Hid; rw [← HRR.out]; unfold rd; rw [if_neg hl, if_pos he, if_neg hc]
      generalize poly (tk s 0) false s.size 0 = PP at *
      go_wp2_with (refine wpList_store_mid (by rfl) 37 _ (.tmp 10) (by rfl) w.heap.size 0 (pv PP.p) (by rfl) (by rfl) HS.out (size_poly hgp) (pv_one _) ?_)
      refine (finish_not s _ b _ HR3.out hc).mono ?_
      rintro e w3 ⟨rfl, rfl⟩
      go_wp2
      refine caught w _ _ PP.p _ _ _ rfl rfl rfl H33.out hgp (HG.out.fr HF3.out (by simp)) HF3.out (fun W' h => ⟨?_, ?_, h⟩)
      · rw [HE.out]; rfl
      · rw [HE.out]; exact zeros_good
  · have HE : Hid (RR = ⟨(poly (tk s 0) false s.size 0).e, (poly (tk s 0) false s.size 0).bad, zeros⟩) := by unfold Hid; rw [← HRR.out]; unfold rd; rw [if_neg hl, if_neg he]
    go_wp2_with fail
    refine (polynomial_not s b _ (by omega) HR1.out he).mono ?_
    rintro e w2 ⟨rfl, hf2⟩
    have HF2 : Hid (Fr [] w w2) := HF1.out.trans hf2 (by simp; omega)
    have H32 : Hid (Three w w2 zeros 0 0) := H31.out.fr hf2 (by simp; omega)
    generalize poly (tk s 0) false s.size 0 = PP at *
    go_wp2
    refine caught w _ _ zeros _ _ _ rfl rfl rfl H32.out zeros_good (HG.out.fr HF2.out (by simp)) HF2.out (fun W' h => ⟨?_, ?_, h⟩)
    · rw [HE.out]
    · rw [HE.out]; exact zeros_good

/-- The program reads a text as 'rd' does. -/
theorem Polynomial_any (s : ByteArray) (w : World) (hg : ErrT w) (hm : s.size ≤ 140737488351232) :
    Calls Tryd.prog 15 #[.string s] w fun e w' => e = .returned (.tuple #[.agg (pv (rd s).p), .int .i64 (rd s).e, .int .i64 (rd s).bad]) ∧ Good (rd s).p ∧ Below w.heap.size w w' := by
  by_cases hl : 90 < s.size
  · refine (Polynomial_long s w hg hl hm).mono ?_
    rintro e w' ⟨rfl, h⟩
    have : rd s = ⟨2, 0, zeros⟩ := by unfold rd; rw [if_pos hl]
    rw [this]
    exact ⟨rfl, zeros_good, h⟩
  · exact Polynomial_short s w hg hl
end Go.Proofs.YtaajdcaciofmaaaDoor
