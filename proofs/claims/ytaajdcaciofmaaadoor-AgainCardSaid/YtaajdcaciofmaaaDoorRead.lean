/- THE DOCUMENT's ANSWER: read. -/
import Derived.Test.YtaajdcaciofmaaaDoorWay7
namespace Go.Proofs.YtaajdcaciofmaaaDoor
open Go.RowKit

theorem run_st0 (w : World) (b n : Nat) (cells : Array Value) (l : List Value) (hl : cells.toList = l) (hn : cells.size = n) (h : w.there b 0 n) (hi : (Tryd.prog.info? 41).map (·.size) = some n) (h1 : cells.all (·.oneCell') = true) :
    (Instr.storeAt 41 (.pointer (some ⟨b, 0, none⟩)) (.agg cells)).run Tryd.prog w = .ok () (w.setCells b 0 l) := by
  subst hl hn
  exact run_storeAt_mid w b 0 41 cells h hi h1
/-- The store of a whole polynomial, under a name that the walk does not open. -/
def stPoly (x y : Value) : Sem Unit := Instr.storeAt 41 x y
theorem stPoly_eq (x y : Value) : Instr.storeAt 41 x y = stPoly x y := rfl
set_option maxRecDepth 100000 in
theorem lit_zeros : (#[.int .i64 0, .int .i64 0, .int .i64 0, .int .i64 0, .int .i64 0, .int .i64 0, .int .i64 0, .int .i64 0, .int .i64 0, .int .i64 0, .int .i64 0, .int .i64 0, .int .i64 0, .int .i64 0, .int .i64 0, .int .i64 0, .int .i64 0, .int .i64 0, .int .i64 0, .int .i64 0, .int .i64 0, .int .i64 0, .int .i64 0, .int .i64 0, .int .i64 0, .int .i64 0, .int .i64 0, .int .i64 0, .int .i64 0, .int .i64 0, .int .i64 0, .int .i64 0, .int .i64 0, .int .i64 0, .int .i64 0] : Array Value).toList = (pv zeros).toList := by kernel_rfl
theorem run_st (w : World) (b : Nat) (z : Array Value) (hz : z = pv zeros) (h : w.there b 0 35) : (stPoly (.pointer (some ⟨b, 0, none⟩)) (.agg #[.int .i64 0, .int .i64 0, .int .i64 0, .int .i64 0, .int .i64 0, .int .i64 0, .int .i64 0, .int .i64 0, .int .i64 0, .int .i64 0, .int .i64 0, .int .i64 0, .int .i64 0, .int .i64 0, .int .i64 0, .int .i64 0, .int .i64 0, .int .i64 0, .int .i64 0, .int .i64 0, .int .i64 0, .int .i64 0, .int .i64 0, .int .i64 0, .int .i64 0, .int .i64 0, .int .i64 0, .int .i64 0, .int .i64 0, .int .i64 0, .int .i64 0, .int .i64 0, .int .i64 0, .int .i64 0, .int .i64 0])).run Tryd.prog w = .ok () (w.setCells b 0 z.toList) := by
  rw [hz]
  exact run_st0 w b 35 _ _ lit_zeros (by kernel_rfl) h (by kernel_rfl) (by kernel_rfl)
attribute [local go_sem ↓] stPoly_eq

theorem results_read (tmps : Array Value) (w : World) (g1 : Nat) (p : List Nat) (h1 : tmps.getD 2 undef = .pointer (some ⟨g1, 0, none⟩)) (hp : Good p) (b1 : Blk w g1 (pv p) 41) :
    (results Tryd.f17 tmps).run Tryd.prog w = .ok (.tuple #[.agg (pv p), tmps.getD 3 undef, tmps.getD 4 undef]) w := by
  have l1 := run_loadVar_row (P := Tryd.prog) w g1 41 41 (pv p) (0, 0) _ b1 Tryd.underlying41 rfl (size_rPoly hp)
  have h1' : tmps[2]?.getD undef = .pointer (some ⟨g1, 0, none⟩) := by simpa using h1
  simp [results, Tryd.results17, h1', asAddr, l1]

set_option maxRecDepth 100000 in
set_option maxHeartbeats 2000000 in
theorem read_long (s : ByteArray) (w : World) (hl : 90 < s.size) (hm : s.size ≤ 140737488351232) :
    Calls Tryd.prog 17 #[.string s] w fun e w' => e = .returned (.tuple #[.agg (pv zeros), .int .i64 2, .int .i64 0]) ∧ Below w.heap.size w w' := by
  have h' : ((s.size : Nat) : Int) > 90 := by omega
  obtain ⟨z, HZ⟩ : ∃ z, Hid (z = pv zeros) := ⟨_, rfl⟩
  have hzs : z.size = 35 := by rw [HZ.out]; rfl
  have hsz : (Tryd.prog.info? 41).map (·.size) = some z.size := by rw [HZ.out]; exact size_rPoly zeros_good
  have hon : z.all (·.oneCell') = true := by rw [HZ.out]; exact pv_one _
  go_enter Tryd.func17, Tryd.ntmps17
  go_upto_region 2 with fail
  refine wp_forget (fun W => Blk W w.heap.size (pv zeros) 41 ∧ Below w.heap.size w W) ⟨Blk.new w _ _, by go_grown⟩ ?_
  rintro W ⟨b1, hb⟩
  have HTH := hideR (Blk.there b1 (show z.size ≤ (pv zeros).size by rw [hzs]; decide))
  have B1 := hideR b1
  clear b1
  go_wp2_with (refine wpList_store_mid (by rfl) 41 _ (.tmp 10) (by rfl) w.heap.size 0 z (by rfl) (by rw [HZ.out]; rfl) HTH.out hsz hon ?_)
  have b2 : Blk (W.setCells w.heap.size 0 z.toList) w.heap.size (pv zeros) 41 := by rw [← HZ.out]; exact Blk.setAll B1.out _ (by rw [hzs]; rfl)
  refine bodyPost_ret (results_read _ _ w.heap.size zeros (by rfl) zeros_good b2) rfl ⟨rfl, ?_⟩
  exact Below.setCells hb _ _ _ (Nat.le_refl _)

set_option maxRecDepth 100000 in
set_option maxHeartbeats 4000000 in
theorem read_short (s : ByteArray) (w : World) (hl : ¬ 90 < s.size) :
    Calls Tryd.prog 17 #[.string s] w fun e w' => e = .returned (.tuple #[.agg (pv (rd s).p), .int .i64 (rd s).e, .int .i64 (rd s).bad]) ∧ Good (rd s).p ∧ Below w.heap.size w w' := by
  generalize hrr : rd s = RR
  have HRR := hideR hrr
  clear hrr
  obtain ⟨z, HZ⟩ : ∃ z, Hid (z = pv zeros) := ⟨_, rfl⟩
  have hzs : z.size = 35 := by rw [HZ.out]; rfl
  have hsz : (Tryd.prog.info? 41).map (·.size) = some z.size := by rw [HZ.out]; exact size_rPoly zeros_good
  have hon : z.all (·.oneCell') = true := by rw [HZ.out]; exact pv_one _
  have hl' : ¬ (90 : Int) < ((s.size : Nat) : Int) := by omega
  go_enter Tryd.func17, Tryd.ntmps17
  go_upto_region 3 with fail
  refine wp_forget (fun W => Blk W w.heap.size (pv zeros) 41 ∧ Below w.heap.size w W) ⟨Blk.new w _ _, by go_grown⟩ ?_
  rintro W ⟨b1, hbW⟩
  have hwl := Blk.lt b1
  have B1 := hideR b1
  have BW := hideR hbW
  clear b1 hbW
  go_wp2_with fail
  refine (cut_plain s _ (by omega)).mono ?_
  rintro e w1 ⟨n, g, cap, rfl, hn, hc1, hc2, hown, hgb, hbel⟩
  have HT1 := hideR (Tk.of_owns hown)
  have hg1 : g < w1.heap.size := HT1.out.1
  have BR1 : Hid (Blk w1 w.heap.size (pv zeros) 41) := B1.out.fr (Fr.of_below (bs := []) hbel) (by simp)
  have F1 : Hid (Fr [] W w1) := Fr.of_below hbel
  have hwl1 := Blk.lt BR1.out
  have hend : ∀ j, j < n + 1 → (tk s 0 j).c ≠ 0 → j + 1 < n + 1 := fun j hj hne => by
    by_cases q : j = n
    · subst q; exact absurd hc2 hne
    · omega
  have hv : ∀ j, (tk s 0 j).v ≤ 99 := fun j => (tk_facts (Nat.zero_le _) j).2.2.1
  clear hown hbel hc1 hc2
  have HEND := hideR hend
  have HV := hideR hv
  clear hend hv
  have HW1 : Hid (Wy (w1.alloc (.cells #[.slice (some ⟨g, 0, none⟩) (n + 1) cap, .int .i64 0, .int .i64 0, .int .i64 0, .int .i64 0] 70)) w1.heap.size g (n + 1) cap 0 0 0 0) := Blk.new w1 _ _
  have HT2 : Hid (Tk (w1.alloc (.cells #[.slice (some ⟨g, 0, none⟩) (n + 1) cap, .int .i64 0, .int .i64 0, .int .i64 0, .int .i64 0] 70)) g (n + 1) (tk s 0)) := HT1.out.fr ((Fr.refl [] w1).alloc _) (by simp)
  have BR2 : Hid (Blk (w1.alloc (.cells #[.slice (some ⟨g, 0, none⟩) (n + 1) cap, .int .i64 0, .int .i64 0, .int .i64 0, .int .i64 0] 70)) w.heap.size (pv zeros) 41) := Blk.alloc BR1.out _
  have F2 : Hid (Fr [] W (w1.alloc (.cells #[.slice (some ⟨g, 0, none⟩) (n + 1) cap, .int .i64 0, .int .i64 0, .int .i64 0, .int .i64 0] 70))) := F1.out.alloc _
  have nrb : ¬ w.heap.size = w1.heap.size := by omega
  by_cases he : (poly (tk s 0) false s.size 0).e = 0
  · go_wp2_with fail
    refine (wpoly_ok (tk s 0) s.size w1.heap.size g (n + 1) cap 0 false 0 0 _ HW1.out HT2.out (by omega) (by omega) (by omega) HEND.out HV.out (by omega) he).mono ?_
    rintro e w2 ⟨rfl, hgp, hw2, hkk, hfr2⟩
    have BR3 : Hid (Blk w2 w.heap.size (pv zeros) 41) := BR2.out.fr hfr2 (by simp [nrb])
    have HT3 : Hid (Tk w2 g (n + 1) (tk s 0)) := HT2.out.fr hfr2 (by simp; omega)
    have HW3 := hideR hw2
    have F3 : Hid (Fr [] W w2) := F2.out.trans hfr2 (by have := F1.out.size; simp; omega)
    have hs2 := hfr2.size
    simp at hs2
    clear hw2 hfr2
    generalize hPP : poly (tk s 0) false s.size 0 = PP at *
    have HPP := hideR hPP
    have HE := hideR he
    clear hPP he
    have HTH : Hid ((w2.alloc (.cells #[.int .i64 0, .int .i64 0, .int .i64 0, .int .i64 0, .int .i64 0, .int .i64 0, .int .i64 0, .int .i64 0, .int .i64 0, .int .i64 0, .int .i64 0, .int .i64 0, .int .i64 0, .int .i64 0, .int .i64 0, .int .i64 0, .int .i64 0, .int .i64 0, .int .i64 0, .int .i64 0, .int .i64 0, .int .i64 0, .int .i64 0, .int .i64 0, .int .i64 0, .int .i64 0, .int .i64 0, .int .i64 0, .int .i64 0, .int .i64 0, .int .i64 0, .int .i64 0, .int .i64 0, .int .i64 0, .int .i64 0] 41)).there w2.heap.size 0 (pv PP.p).size) := Blk.there (Blk.new w2 _ _) (by rw [pv_size, hgp.1]; decide)
    go_wp2_with (refine wpList_store_mid (by rfl) 41 _ (.tmp 16) (by rfl) w2.heap.size 0 (pv PP.p) (by rfl) (by rfl) HTH.out (size_rPoly hgp) (pv_one _) ?_)
    have HW5 : Hid (Wy ((w2.alloc (.cells #[.int .i64 0, .int .i64 0, .int .i64 0, .int .i64 0, .int .i64 0, .int .i64 0, .int .i64 0, .int .i64 0, .int .i64 0, .int .i64 0, .int .i64 0, .int .i64 0, .int .i64 0, .int .i64 0, .int .i64 0, .int .i64 0, .int .i64 0, .int .i64 0, .int .i64 0, .int .i64 0, .int .i64 0, .int .i64 0, .int .i64 0, .int .i64 0, .int .i64 0, .int .i64 0, .int .i64 0, .int .i64 0, .int .i64 0, .int .i64 0, .int .i64 0, .int .i64 0, .int .i64 0, .int .i64 0, .int .i64 0] 41)).setCells w2.heap.size 0 (pv PP.p).toList) w1.heap.size g (n + 1) cap PP.k 0 0 0) := Blk.setCellsOther (Blk.alloc HW3.out _) _ _ _ (by omega)
    have FF : Hid (Fr [] w2 ((w2.alloc (.cells #[.int .i64 0, .int .i64 0, .int .i64 0, .int .i64 0, .int .i64 0, .int .i64 0, .int .i64 0, .int .i64 0, .int .i64 0, .int .i64 0, .int .i64 0, .int .i64 0, .int .i64 0, .int .i64 0, .int .i64 0, .int .i64 0, .int .i64 0, .int .i64 0, .int .i64 0, .int .i64 0, .int .i64 0, .int .i64 0, .int .i64 0, .int .i64 0, .int .i64 0, .int .i64 0, .int .i64 0, .int .i64 0, .int .i64 0, .int .i64 0, .int .i64 0, .int .i64 0, .int .i64 0, .int .i64 0, .int .i64 0] 41)).setCells w2.heap.size 0 (pv PP.p).toList)) := ((Fr.refl [] w2).alloc _).setCells _ _ _ (by simp)
    have HT5 : Hid (Tk ((w2.alloc (.cells #[.int .i64 0, .int .i64 0, .int .i64 0, .int .i64 0, .int .i64 0, .int .i64 0, .int .i64 0, .int .i64 0, .int .i64 0, .int .i64 0, .int .i64 0, .int .i64 0, .int .i64 0, .int .i64 0, .int .i64 0, .int .i64 0, .int .i64 0, .int .i64 0, .int .i64 0, .int .i64 0, .int .i64 0, .int .i64 0, .int .i64 0, .int .i64 0, .int .i64 0, .int .i64 0, .int .i64 0, .int .i64 0, .int .i64 0, .int .i64 0, .int .i64 0, .int .i64 0, .int .i64 0, .int .i64 0, .int .i64 0] 41)).setCells w2.heap.size 0 (pv PP.p).toList) g (n + 1) (tk s 0)) := HT3.out.fr FF.out (by simp)
    have BR5 : Hid (Blk ((w2.alloc (.cells #[.int .i64 0, .int .i64 0, .int .i64 0, .int .i64 0, .int .i64 0, .int .i64 0, .int .i64 0, .int .i64 0, .int .i64 0, .int .i64 0, .int .i64 0, .int .i64 0, .int .i64 0, .int .i64 0, .int .i64 0, .int .i64 0, .int .i64 0, .int .i64 0, .int .i64 0, .int .i64 0, .int .i64 0, .int .i64 0, .int .i64 0, .int .i64 0, .int .i64 0, .int .i64 0, .int .i64 0, .int .i64 0, .int .i64 0, .int .i64 0, .int .i64 0, .int .i64 0, .int .i64 0, .int .i64 0, .int .i64 0] 41)).setCells w2.heap.size 0 (pv PP.p).toList) w.heap.size (pv zeros) 41) := BR3.out.fr FF.out (by simp)
    have BS5 : Hid (Blk ((w2.alloc (.cells #[.int .i64 0, .int .i64 0, .int .i64 0, .int .i64 0, .int .i64 0, .int .i64 0, .int .i64 0, .int .i64 0, .int .i64 0, .int .i64 0, .int .i64 0, .int .i64 0, .int .i64 0, .int .i64 0, .int .i64 0, .int .i64 0, .int .i64 0, .int .i64 0, .int .i64 0, .int .i64 0, .int .i64 0, .int .i64 0, .int .i64 0, .int .i64 0, .int .i64 0, .int .i64 0, .int .i64 0, .int .i64 0, .int .i64 0, .int .i64 0, .int .i64 0, .int .i64 0, .int .i64 0, .int .i64 0, .int .i64 0] 41)).setCells w2.heap.size 0 (pv PP.p).toList) w2.heap.size (pv PP.p) 41) := Blk.setAll (Blk.new w2 _ _) _ (by rw [pv_size, hgp.1]; rfl)
    have F5 : Hid (Fr [] W ((w2.alloc (.cells #[.int .i64 0, .int .i64 0, .int .i64 0, .int .i64 0, .int .i64 0, .int .i64 0, .int .i64 0, .int .i64 0, .int .i64 0, .int .i64 0, .int .i64 0, .int .i64 0, .int .i64 0, .int .i64 0, .int .i64 0, .int .i64 0, .int .i64 0, .int .i64 0, .int .i64 0, .int .i64 0, .int .i64 0, .int .i64 0, .int .i64 0, .int .i64 0, .int .i64 0, .int .i64 0, .int .i64 0, .int .i64 0, .int .i64 0, .int .i64 0, .int .i64 0, .int .i64 0, .int .i64 0, .int .i64 0, .int .i64 0] 41)).setCells w2.heap.size 0 (pv PP.p).toList)) := F3.out.trans FF.out (by simp)
    by_cases hc : (tk s 0 PP.k).c = 0
    · have HFIN : Hid (RR = ⟨0, 0, PP.p⟩) := by
        unfold Hid; rw [← HRR.out]; unfold rd; rw [if_neg hl, HPP.out, if_pos HE.out, if_pos hc]
      refine (wend_ok w1.heap.size g (n + 1) cap PP.k (tk s 0) 0 0 0 _ HW5.out HT5.out hkk (by omega) (rk_end.2 hc)).mono ?_
      rintro e w4 ⟨rfl, hw4, hfr4⟩
      have BR4 : Hid (Blk w4 w.heap.size (pv zeros) 41) := BR5.out.fr hfr4 (by simp [nrb])
      have BS4 : Hid (Blk w4 w2.heap.size (pv PP.p) 41) := BS5.out.fr hfr4 (by simp; omega)
      have F4 : Hid (Fr [] W w4) := F5.out.trans hfr4 (by have := F1.out.size; simp; omega)
      obtain ⟨e0, e1, e2, e3, e4⟩ := hw4.cells
      clear hw4 hfr4 HW5 HT5 BR5 BS5 F5 FF HTH
      go_wp2_with (first | (refine wpList_load_row (by rfl) 41 _ (by rfl) w2.heap.size (by rfl) 41 (pv PP.p) (0, 0) _ BS4.out Tryd.underlying41 (by rfl) (size_rPoly hgp) ?_) | (refine wpList_store_mid (by rfl) 41 _ (.tmp 33) (by rfl) w.heap.size 0 (pv PP.p) (by rfl) (by rfl) (Blk.there BR4.out (by rw [pv_size, pv_size, hgp.1]; exact Nat.le_refl _)) (size_rPoly hgp) (pv_one _) ?_))
      refine bodyPost_ret (results_read _ _ w.heap.size PP.p (by rfl) hgp (Blk.setAll BR4.out _ (by rw [pv_size, pv_size, hgp.1]; rfl))) rfl ⟨?_, ?_, ?_⟩
      · rw [HFIN.out]; rfl
      · rw [HFIN.out]; exact hgp
      · exact Below.setCells (BW.out.trans (F4.out.below (by omega) (by simp))) _ _ _ (Nat.le_refl _)
    · have HFIN : Hid (RR = ⟨4, (tk s 0 PP.k).at', zeros⟩) := by
        unfold Hid; rw [← HRR.out]; unfold rd; rw [if_neg hl, HPP.out, if_pos HE.out, if_neg hc]
      refine (wend_first w1.heap.size g (n + 1) cap PP.k (tk s 0) 0 0 _ HW5.out HT5.out hkk (by omega) (fun q => hc (rk_end.1 q))).mono ?_
      rintro e w4 ⟨rfl, hw4, hfr4⟩
      have BR4 : Hid (Blk w4 w.heap.size (pv zeros) 41) := BR5.out.fr hfr4 (by simp [nrb])
      have F4 : Hid (Fr [] W w4) := F5.out.trans hfr4 (by have := F1.out.size; simp; omega)
      clear hfr4 HW5 HT5 BR5 BS5 F5 FF HTH hc
      obtain ⟨e0, e1, e2, e3, e4⟩ := hw4.cells
      have HW4 := hideR hw4
      have HTH4 : Hid (w4.there w.heap.size 0 z.size) := Blk.there BR4.out (by rw [hzs]; decide)
      clear hw4
      go_wp2
      have hst := fun (w' : World) (b : Nat) => run_st w' b z HZ.out
      have hth41 : w4.there w.heap.size 0 35 := Blk.there BR4.out (by decide)
      go_region_held3 (fun w' => w'.cell? ⟨w1.heap.size, 2, none⟩ = some (.int .i64 4) ∧ w'.cell? ⟨w1.heap.size, 3, none⟩ = some (.int .i64 (tk s 0 PP.k).at') ∧ w'.there w.heap.size 0 35) (first | (go_keep; done) | (refine ⟨?_, ?_, ?_⟩ <;> first | (rw [World.cell?_setCells_out _ _ _ _ _ (fun e _ => absurd e (by simp; omega))]; simp [*]; done) | (exact World.there_setCells (by simp [*]) _ _ _))) (fail)
      go_wp2
      have b9 : Blk (w4.drew.setCells w.heap.size 0 z.toList) w.heap.size (pv zeros) 41 := by rw [← HZ.out]; exact Blk.setAll (by exact BR4.out) _ (by rw [hzs]; rfl)
      refine bodyPost_ret (results_read _ _ w.heap.size zeros (by rfl) zeros_good b9) rfl ⟨?_, ?_, ?_⟩
      · rw [HFIN.out]; rfl
      · rw [HFIN.out]; exact zeros_good
      · exact Below.setCells ((BW.out.trans (F4.out.below (by omega) (by simp))).drew) _ _ _ (Nat.le_refl _)
  · go_wp2_with fail
    refine (wpoly_not (tk s 0) s.size w1.heap.size g (n + 1) cap 0 false 0 0 _ HW1.out HT2.out (by omega) (by omega) (by omega) HEND.out HV.out (by omega) he).mono ?_
    rintro e w2 ⟨⟨q, hgp, rfl⟩, ⟨kk, hkk, hw2⟩, hfr2⟩
    have BR3 : Hid (Blk w2 w.heap.size (pv zeros) 41) := BR2.out.fr hfr2 (by simp [nrb])
    have HT3 : Hid (Tk w2 g (n + 1) (tk s 0)) := HT2.out.fr hfr2 (by simp; omega)
    have HW3 := hideR hw2
    have F3 : Hid (Fr [] W w2) := F2.out.trans hfr2 (by have := F1.out.size; simp; omega)
    have hs2 := hfr2.size
    simp at hs2
    clear hw2 hfr2
    have HFIN : Hid (RR = ⟨(poly (tk s 0) false s.size 0).e, (poly (tk s 0) false s.size 0).bad, zeros⟩) := by
      unfold Hid; rw [← HRR.out]; unfold rd; rw [if_neg hl, if_neg he]
    have HEE : Hid (((poly (tk s 0) false s.size 0).e : Int) ≠ 0) := by unfold Hid; omega
    have qe : (((poly (tk s 0) false s.size 0).e : Int) != 0) = true := by rw [bne_iff_ne]; exact HEE.out
    clear he
    generalize poly (tk s 0) false s.size 0 = PP at *
    have HTH : Hid ((w2.alloc (.cells #[.int .i64 0, .int .i64 0, .int .i64 0, .int .i64 0, .int .i64 0, .int .i64 0, .int .i64 0, .int .i64 0, .int .i64 0, .int .i64 0, .int .i64 0, .int .i64 0, .int .i64 0, .int .i64 0, .int .i64 0, .int .i64 0, .int .i64 0, .int .i64 0, .int .i64 0, .int .i64 0, .int .i64 0, .int .i64 0, .int .i64 0, .int .i64 0, .int .i64 0, .int .i64 0, .int .i64 0, .int .i64 0, .int .i64 0, .int .i64 0, .int .i64 0, .int .i64 0, .int .i64 0, .int .i64 0, .int .i64 0] 41)).there w2.heap.size 0 (pv q).size) := Blk.there (Blk.new w2 _ _) (by rw [pv_size, hgp.1]; decide)
    go_wp2_with (refine wpList_store_mid (by rfl) 41 _ (.tmp 16) (by rfl) w2.heap.size 0 (pv q) (by rfl) (by rfl) HTH.out (size_rPoly hgp) (pv_one _) ?_)
    have HW5 : Hid (Wy ((w2.alloc (.cells #[.int .i64 0, .int .i64 0, .int .i64 0, .int .i64 0, .int .i64 0, .int .i64 0, .int .i64 0, .int .i64 0, .int .i64 0, .int .i64 0, .int .i64 0, .int .i64 0, .int .i64 0, .int .i64 0, .int .i64 0, .int .i64 0, .int .i64 0, .int .i64 0, .int .i64 0, .int .i64 0, .int .i64 0, .int .i64 0, .int .i64 0, .int .i64 0, .int .i64 0, .int .i64 0, .int .i64 0, .int .i64 0, .int .i64 0, .int .i64 0, .int .i64 0, .int .i64 0, .int .i64 0, .int .i64 0, .int .i64 0] 41)).setCells w2.heap.size 0 (pv q).toList) w1.heap.size g (n + 1) cap kk PP.e PP.bad 0) := Blk.setCellsOther (Blk.alloc HW3.out _) _ _ _ (by omega)
    have FF : Hid (Fr [] w2 ((w2.alloc (.cells #[.int .i64 0, .int .i64 0, .int .i64 0, .int .i64 0, .int .i64 0, .int .i64 0, .int .i64 0, .int .i64 0, .int .i64 0, .int .i64 0, .int .i64 0, .int .i64 0, .int .i64 0, .int .i64 0, .int .i64 0, .int .i64 0, .int .i64 0, .int .i64 0, .int .i64 0, .int .i64 0, .int .i64 0, .int .i64 0, .int .i64 0, .int .i64 0, .int .i64 0, .int .i64 0, .int .i64 0, .int .i64 0, .int .i64 0, .int .i64 0, .int .i64 0, .int .i64 0, .int .i64 0, .int .i64 0, .int .i64 0] 41)).setCells w2.heap.size 0 (pv q).toList)) := ((Fr.refl [] w2).alloc _).setCells _ _ _ (by simp)
    have HT5 : Hid (Tk ((w2.alloc (.cells #[.int .i64 0, .int .i64 0, .int .i64 0, .int .i64 0, .int .i64 0, .int .i64 0, .int .i64 0, .int .i64 0, .int .i64 0, .int .i64 0, .int .i64 0, .int .i64 0, .int .i64 0, .int .i64 0, .int .i64 0, .int .i64 0, .int .i64 0, .int .i64 0, .int .i64 0, .int .i64 0, .int .i64 0, .int .i64 0, .int .i64 0, .int .i64 0, .int .i64 0, .int .i64 0, .int .i64 0, .int .i64 0, .int .i64 0, .int .i64 0, .int .i64 0, .int .i64 0, .int .i64 0, .int .i64 0, .int .i64 0] 41)).setCells w2.heap.size 0 (pv q).toList) g (n + 1) (tk s 0)) := HT3.out.fr FF.out (by simp)
    have BR5 : Hid (Blk ((w2.alloc (.cells #[.int .i64 0, .int .i64 0, .int .i64 0, .int .i64 0, .int .i64 0, .int .i64 0, .int .i64 0, .int .i64 0, .int .i64 0, .int .i64 0, .int .i64 0, .int .i64 0, .int .i64 0, .int .i64 0, .int .i64 0, .int .i64 0, .int .i64 0, .int .i64 0, .int .i64 0, .int .i64 0, .int .i64 0, .int .i64 0, .int .i64 0, .int .i64 0, .int .i64 0, .int .i64 0, .int .i64 0, .int .i64 0, .int .i64 0, .int .i64 0, .int .i64 0, .int .i64 0, .int .i64 0, .int .i64 0, .int .i64 0] 41)).setCells w2.heap.size 0 (pv q).toList) w.heap.size (pv zeros) 41) := BR3.out.fr FF.out (by simp)
    have F5 : Hid (Fr [] W ((w2.alloc (.cells #[.int .i64 0, .int .i64 0, .int .i64 0, .int .i64 0, .int .i64 0, .int .i64 0, .int .i64 0, .int .i64 0, .int .i64 0, .int .i64 0, .int .i64 0, .int .i64 0, .int .i64 0, .int .i64 0, .int .i64 0, .int .i64 0, .int .i64 0, .int .i64 0, .int .i64 0, .int .i64 0, .int .i64 0, .int .i64 0, .int .i64 0, .int .i64 0, .int .i64 0, .int .i64 0, .int .i64 0, .int .i64 0, .int .i64 0, .int .i64 0, .int .i64 0, .int .i64 0, .int .i64 0, .int .i64 0, .int .i64 0] 41)).setCells w2.heap.size 0 (pv q).toList)) := F3.out.trans FF.out (by simp)
    refine (wend_later w1.heap.size g (n + 1) cap kk (tk s 0) PP.e PP.bad 0 _ HW5.out HT5.out hkk (by omega) HEE.out).mono ?_
    rintro e w4 ⟨rfl, hw4, hfr4⟩
    have BR4 : Hid (Blk w4 w.heap.size (pv zeros) 41) := BR5.out.fr hfr4 (by simp [nrb])
    have F4 : Hid (Fr [] W w4) := F5.out.trans hfr4 (by have := F1.out.size; simp; omega)
    clear hfr4 HW5 HT5 BR5 F5 FF HTH
    obtain ⟨e0, e1, e2, e3, e4⟩ := hw4.cells
    have HW4 := hideR hw4
    have HTH4 : Hid (w4.there w.heap.size 0 z.size) := Blk.there BR4.out (by rw [hzs]; decide)
    clear hw4
    go_wp2
    have hst := fun (w' : World) (b : Nat) => run_st w' b z HZ.out
    have hth41 : w4.there w.heap.size 0 35 := Blk.there BR4.out (by decide)
    go_region_held3 (fun w' => w'.cell? ⟨w1.heap.size, 2, none⟩ = some (.int .i64 PP.e) ∧ w'.cell? ⟨w1.heap.size, 3, none⟩ = some (.int .i64 PP.bad) ∧ w'.there w.heap.size 0 35) (first | (go_keep; done) | (refine ⟨?_, ?_, ?_⟩ <;> first | (rw [World.cell?_setCells_out _ _ _ _ _ (fun e _ => absurd e (by simp; omega))]; simp [*]; done) | (exact World.there_setCells (by simp [*]) _ _ _))) (fail)
    go_wp2
    have b9 : Blk (w4.drew.setCells w.heap.size 0 z.toList) w.heap.size (pv zeros) 41 := by rw [← HZ.out]; exact Blk.setAll (by exact BR4.out) _ (by rw [hzs]; rfl)
    refine bodyPost_ret (results_read _ _ w.heap.size zeros (by rfl) zeros_good b9) rfl ⟨?_, ?_, ?_⟩
    · rw [HFIN.out]; rfl
    · rw [HFIN.out]; exact zeros_good
    · exact Below.setCells ((BW.out.trans (F4.out.below (by omega) (by simp))).drew) _ _ _ (Nat.le_refl _)

/-- The document's answer reads a text as 'rd' does. -/
theorem read_any (s : ByteArray) (w : World) (hm : s.size ≤ 140737488351232) :
    Calls Tryd.prog 17 #[.string s] w fun e w' => e = .returned (.tuple #[.agg (pv (rd s).p), .int .i64 (rd s).e, .int .i64 (rd s).bad]) ∧ Good (rd s).p ∧ Below w.heap.size w w' := by
  by_cases hl : 90 < s.size
  · refine (read_long s w hl hm).mono ?_
    rintro e w' ⟨rfl, h⟩
    have : rd s = ⟨2, 0, zeros⟩ := by unfold rd; rw [if_pos hl]
    rw [this]
    exact ⟨rfl, zeros_good, h⟩
  · exact read_short s w hl
end Go.Proofs.YtaajdcaciofmaaaDoor
