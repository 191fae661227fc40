import Derived.Test.YtaajdcaciofmaaaDoorPack3
import Derived.ChangeKeysEq
import Derived.Deep.LoopGhost
/- THE DOCUMENT's ANSWER: read. -/
namespace Go.Proofs.YtaajdcaciofmaaaDoor
open Go.RowKit

theorem run_st0 (w : World) (b n : Nat) (cells : Array Value) (l : List Value) (hl : cells.toList = l) (hn : cells.size = n) (h : w.there b 0 n) (hi : (Tryd.prog.info? 41).map (·.size) = some n) (h1 : cells.all (·.oneCell') = true) :
    (Instr.storeAt 41 (.pointer (some ⟨b, 0, none⟩)) (.agg cells)).run Tryd.prog w = .ok () (w.setCells b 0 l) := by
  subst hl hn
  exact run_storeAt_mid w b 0 41 cells h hi h1
/-- The store of a whole polynomial, under a name that the walk does not open. -/
def stPoly (x y : Value) : Sem Unit := Instr.storeAt 41 x y
theorem stPoly_eq (x y : Value) : Instr.storeAt 41 x y = stPoly x y := rfl
set_option maxRecDepth 100000 in
theorem lit_zeros : (#[.int .i64 0, .int .i64 0, .int .i64 0, .int .i64 0, .int .i64 0, .int .i64 0, .int .i64 0, .int .i64 0, .int .i64 0, .int .i64 0, .int .i64 0, .int .i64 0, .int .i64 0, .int .i64 0, .int .i64 0, .int .i64 0, .int .i64 0, .int .i64 0, .int .i64 0, .int .i64 0, .int .i64 0, .int .i64 0, .int .i64 0, .int .i64 0, .int .i64 0, .int .i64 0, .int .i64 0, .int .i64 0, .int .i64 0, .int .i64 0, .int .i64 0, .int .i64 0, .int .i64 0, .int .i64 0, .int .i64 0] : Array Value).toList = (pv zeros).toList := by kernel_rfl
theorem run_st (w : World) (b : Nat) (z : Array Value) (hz : z = pv zeros) (h : w.there b 0 35) : (stPoly (.pointer (some ⟨b, 0, none⟩)) (.agg #[.int .i64 0, .int .i64 0, .int .i64 0, .int .i64 0, .int .i64 0, .int .i64 0, .int .i64 0, .int .i64 0, .int .i64 0, .int .i64 0, .int .i64 0, .int .i64 0, .int .i64 0, .int .i64 0, .int .i64 0, .int .i64 0, .int .i64 0, .int .i64 0, .int .i64 0, .int .i64 0, .int .i64 0, .int .i64 0, .int .i64 0, .int .i64 0, .int .i64 0, .int .i64 0, .int .i64 0, .int .i64 0, .int .i64 0, .int .i64 0, .int .i64 0, .int .i64 0, .int .i64 0, .int .i64 0, .int .i64 0])).run Tryd.prog w = .ok () (w.setCells b 0 z.toList) := by
  rw [hz]
  exact run_st0 w b 35 _ _ lit_zeros (by kernel_rfl) h (by kernel_rfl) (by kernel_rfl)
attribute [local go_sem ↓] stPoly_eq

theorem results_read (tmps : Array Value) (w : World) (g1 : Nat) (p : List Nat) (h1 : tmps.getD 2 undef = .pointer (some ⟨g1, 0, none⟩)) (hp : Good p) (b1 : Blk w g1 (pv p) 41) :
    (results Tryd.f17 tmps).run Tryd.prog w = .ok (.tuple #[.agg (pv p), tmps.getD 3 undef, tmps.getD 4 undef]) w := by
  have l1 := run_loadVar_row (P := Tryd.prog) w g1 41 41 (pv p) (0, 0) _ b1 Tryd.underlying41 rfl (size_rPoly hp)
  have h1' : tmps[2]?.getD undef = .pointer (some ⟨g1, 0, none⟩) := by simpa using h1
  simp [results, Tryd.results17, h1', asAddr, l1]

set_option maxRecDepth 100000 in
set_option maxHeartbeats 2000000 in
theorem read_long (s : ByteArray) (w : World) (hl : 90 < s.size) (hm : s.size ≤ 140737488351232) :
    Calls Tryd.prog 17 #[.string s] w fun e w' => e = .returned (.tuple #[.agg (pv zeros), .int .i64 2, .int .i64 0]) ∧ Below w.heap.size w w' := by
  have h' : ((s.size : Nat) : Int) > 90 := by omega
  obtain ⟨z, HZ⟩ : ∃ z, Hid (z = pv zeros) := ⟨_, rfl⟩
  have hzs : z.size = 35 := by rw [HZ.out]; rfl
  have hsz : (Tryd.prog.info? 41).map (·.size) = some z.size := by rw [HZ.out]; exact size_rPoly zeros_good
  have hon : z.all (·.oneCell') = true := by rw [HZ.out]; exact pv_one _
  go_enter Tryd.func17, Tryd.ntmps17
  go_upto_region 2 with fail
  refine wp_forget (fun W => Blk W w.heap.size (pv zeros) 41 ∧ Below w.heap.size w W) ⟨Blk.new w _ _, by go_grown⟩ ?_
  rintro W ⟨b1, hb⟩
  have HTH := hideR (Blk.there b1 (show z.size ≤ (pv zeros).size by rw [hzs]; decide))
  have B1 := hideR b1
  clear b1
  go_wp2_with (refine wpList_store_mid (by rfl) 41 _ (.tmp 10) (by rfl) w.heap.size 0 z (by rfl) (by rw [HZ.out]; rfl) HTH.out hsz hon ?_)
  have b2 : Blk (W.setCells w.heap.size 0 z.toList) w.heap.size (pv zeros) 41 := by rw [← HZ.out]; exact Blk.setAll B1.out _ (by rw [hzs]; rfl)
  refine bodyPost_ret (results_read _ _ w.heap.size zeros (by rfl) zeros_good b2) rfl ⟨rfl, ?_⟩
  exact Below.setCells hb _ _ _ (Nat.le_refl _)

set_option maxRecDepth 100000 in
set_option maxHeartbeats 4000000 in
theorem read_short (s : ByteArray) (w : World) (hl : ¬ 90 < s.size) :
    Calls Tryd.prog 17 #[.string s] w fun e w' => e = .returned (.tuple #[.agg (pv (rd s).p), .int .i64 (rd s).e, .int .i64 (rd s).bad]) ∧ Good (rd s).p ∧ Below w.heap.size w w' := by
  generalize hrr : rd s = RR
  have HRR := hideR hrr
  clear hrr
  obtain ⟨z, HZ⟩ : ∃ z, Hid (z = pv zeros) := ⟨_, rfl⟩
  have hzs : z.size = 35 := by rw [HZ.out]; rfl
  have hsz : (Tryd.prog.info? 41).map (·.size) = some z.size := by rw [HZ.out]; exact size_rPoly zeros_good
  have hon : z.all (·.oneCell') = true := by rw [HZ.out]; exact pv_one _
  have hl' : ¬ (90 : Int) < ((s.size : Nat) : Int) := by omega
  go_enter Tryd.func17, Tryd.ntmps17
  go_upto_region 3 with fail
  refine wp_forget (fun W => Blk W w.heap.size (pv zeros) 41 ∧ Below w.heap.size w W) ⟨Blk.new w _ _, by go_grown⟩ ?_
  rintro W ⟨b1, hbW⟩
  have hwl := Blk.lt b1
  have B1 := hideR b1
  have BW := hideR hbW
  clear b1 hbW
  go_wp2_with fail
  refine (cut_plain s _ (by omega)).mono ?_
  rintro e w1 ⟨n, g, cap, rfl, hn, hc1, hc2, hown, hgb, hbel⟩
  have HT1 := hideR (Tk.of_owns hown)
  have hg1 : g < w1.heap.size := HT1.out.1
  have BR1 : Hid (Blk w1 w.heap.size (pv zeros) 41) := B1.out.fr (Fr.of_below (bs := []) hbel) (by simp)
  have F1 : Hid (Fr [] W w1) := Fr.of_below hbel
  have hwl1 := Blk.lt BR1.out
  have hend : ∀ j, j < n + 1 → (tk s 0 j).c ≠ 0 → j + 1 < n + 1 := fun j hj hne => by
    by_cases q : j = n
    · subst q; exact absurd hc2 hne
    · omega
  have hv : ∀ j, (tk s 0 j).v ≤ 99 := fun j => (tk_facts (Nat.zero_le _) j).2.2.1
  clear hown hbel hc1 hc2
  have HEND := hideR hend
  have HV := hideR hv
  clear hend hv
  have HW1 : Hid (Wy (w1.alloc (.cells #[.slice (some ⟨g, 0, none⟩) (n + 1) cap, .int .i64 0, .int .i64 0, .int .i64 0, .int .i64 0] 70)) w1.heap.size g (n + 1) cap 0 0 0 0) := Blk.new w1 _ _
  have HT2 : Hid (Tk (w1.alloc (.cells #[.slice (some ⟨g, 0, none⟩) (n + 1) cap, .int .i64 0, .int .i64 0, .int .i64 0, .int .i64 0] 70)) g (n + 1) (tk s 0)) := HT1.out.fr ((Fr.refl [] w1).alloc _) (by simp)
  have BR2 : Hid (Blk (w1.alloc (.cells #[.slice (some ⟨g, 0, none⟩) (n + 1) cap, .int .i64 0, .int .i64 0, .int .i64 0, .int .i64 0] 70)) w.heap.size (pv zeros) 41) := Blk.alloc BR1.out _
  have F2 : Hid (Fr [] W (w1.alloc (.cells #[.slice (some ⟨g, 0, none⟩) (n + 1) cap, .int .i64 0, .int .i64 0, .int .i64 0, .int .i64 0] 70))) := F1.out.alloc _
  have nrb : ¬ w.heap.size = w1.heap.size := by omega
  by_cases he : (poly (tk s 0) false s.size 0).e = 0
  · go_wp2_with fail
    refine (wpoly_ok (tk s 0) s.size w1.heap.size g (n + 1) cap 0 false 0 0 _ HW1.out HT2.out (by omega) (by omega) (by omega) HEND.out HV.out (by omega) he).mono ?_
    rintro e w2 ⟨rfl, hgp, hw2, hkk, hfr2⟩
    have BR3 : Hid (Blk w2 w.heap.size (pv zeros) 41) := BR2.out.fr hfr2 (by simp [nrb])
    have HT3 : Hid (Tk w2 g (n + 1) (tk s 0)) := HT2.out.fr hfr2 (by simp; omega)
    have HW3 := hideR hw2
    have F3 : Hid (Fr [] W w2) := F2.out.trans hfr2 (by have := F1.out.size; simp; omega)
    have hs2 := hfr2.size
    simp at hs2
    clear hw2 hfr2
    generalize hPP : poly (tk s 0) false s.size 0 = PP at *
    have HPP := hideR hPP
    have HE := hideR he
    clear hPP he
    have HTH : Hid ((w2.alloc (.cells #[.int .i64 0, .int .i64 0, .int .i64 0, .int .i64 0, .int .i64 0, .int .i64 0, .int .i64 0, .int .i64 0, .int .i64 0, .int .i64 0, .int .i64 0, .int .i64 0, .int .i64 0, .int .i64 0, .int .i64 0, .int .i64 0, .int .i64 0, .int .i64 0, .int .i64 0, .int .i64 0, .int .i64 0, .int .i64 0, .int .i64 0, .int .i64 0, .int .i64 0, .int .i64 0, .int .i64 0, .int .i64 0, .int .i64 0, .int .i64 0, .int .i64 0, .int .i64 0, .int .i64 0, .int .i64 0, .int .i64 0] 41)).there w2.heap.size 0 (pv PP.p).size) := Blk.there (Blk.new w2 _ _) (by rw [pv_size, hgp.1]; decide)
    go_wp2_with (refine wpList_store_mid (by rfl) 41 _ (.tmp 16) (by rfl) w2.heap.size 0 (pv PP.p) (by rfl) (by rfl) HTH.out (size_rPoly hgp) (pv_one _) ?_)
    have HW5 : Hid (Wy ((w2.alloc (.cells #[.int .i64 0, .int .i64 0, .int .i64 0, .int .i64 0, .int .i64 0, .int .i64 0, .int .i64 0, .int .i64 0, .int .i64 0, .int .i64 0, .int .i64 0, .int .i64 0, .int .i64 0, .int .i64 0, .int .i64 0, .int .i64 0, .int .i64 0, .int .i64 0, .int .i64 0, .int .i64 0, .int .i64 0, .int .i64 0, .int .i64 0, .int .i64 0, .int .i64 0, .int .i64 0, .int .i64 0, .int .i64 0, .int .i64 0, .int .i64 0, .int .i64 0, .int .i64 0, .int .i64 0, .int .i64 0, .int .i64 0] 41)).setCells w2.heap.size 0 (pv PP.p).toList) w1.heap.size g (n + 1) cap PP.k 0 0 0) := Blk.setCellsOther (Blk.alloc HW3.out _) _ _ _ (by omega)
    have FF : Hid (Fr [] w2 ((w2.alloc (.cells #[.int .i64 0, .int .i64 0, .int .i64 0, .int .i64 0, .int .i64 0, .int .i64 0, .int .i64 0, .int .i64 0, .int .i64 0, .int .i64 0, .int .i64 0, .int .i64 0, .int .i64 0, .int .i64 0, .int .i64 0, .int .i64 0, .int .i64 0, .int .i64 0, .int .i64 0, .int .i64 0, .int .i64 0, .int .i64 0, .int .i64 0, .int .i64 0, .int .i64 0, .int .i64 0, .int .i64 0, .int .i64 0, .int .i64 0, .int .i64 0, .int .i64 0, .int .i64 0, .int .i64 0, .int .i64 0, .int .i64 0] 41)).setCells w2.heap.size 0 (pv PP.p).toList)) := ((Fr.refl [] w2).alloc _).setCells _ _ _ (by simp)
    have HT5 : Hid (Tk ((w2.alloc (.cells #[.int .i64 0, .int .i64 0, .int .i64 0, .int .i64 0, .int .i64 0, .int .i64 0, .int .i64 0, .int .i64 0, .int .i64 0, .int .i64 0, .int .i64 0, .int .i64 0, .int .i64 0, .int .i64 0, .int .i64 0, .int .i64 0, .int .i64 0, .int .i64 0, .int .i64 0, .int .i64 0, .int .i64 0, .int .i64 0, .int .i64 0, .int .i64 0, .int .i64 0, .int .i64 0, .int .i64 0, .int .i64 0, .int .i64 0, .int .i64 0, .int .i64 0, .int .i64 0, .int .i64 0, .int .i64 0, .int .i64 0] 41)).setCells w2.heap.size 0 (pv PP.p).toList) g (n + 1) (tk s 0)) := HT3.out.fr FF.out (by simp)
    have BR5 : Hid (Blk ((w2.alloc (.cells #[.int .i64 0, .int .i64 0, .int .i64 0, .int .i64 0, .int .i64 0, .int .i64 0, .int .i64 0, .int .i64 0, .int .i64 0, .int .i64 0, .int .i64 0, .int .i64 0, .int .i64 0, .int .i64 0, .int .i64 0, .int .i64 0, .int .i64 0, .int .i64 0, .int .i64 0, .int .i64 0, .int .i64 0, .int .i64 0, .int .i64 0, .int .i64 0, .int .i64 0, .int .i64 0, .int .i64 0, .int .i64 0, .int .i64 0, .int .i64 0, .int .i64 0, .int .i64 0, .int .i64 0, .int .i64 0, .int .i64 0] 41)).setCells w2.heap.size 0 (pv PP.p).toList) w.heap.size (pv zeros) 41) := BR3.out.fr FF.out (by simp)
    have BS5 : Hid (Blk ((w2.alloc (.cells #[.int .i64 0, .int .i64 0, .int .i64 0, .int .i64 0, .int .i64 0, .int .i64 0, .int .i64 0, .int .i64 0, .int .i64 0, .int .i64 0, .int .i64 0, .int .i64 0, .int .i64 0, .int .i64 0, .int .i64 0, .int .i64 0, .int .i64 0, .int .i64 0, .int .i64 0, .int .i64 0, .int .i64 0, .int .i64 0, .int .i64 0, .int .i64 0, .int .i64 0, .int .i64 0, .int .i64 0, .int .i64 0, .int .i64 0, .int .i64 0, .int .i64 0, .int .i64 0, .int .i64 0, .int .i64 0, .int .i64 0] 41)).setCells w2.heap.size 0 (pv PP.p).toList) w2.heap.size (pv PP.p) 41) := Blk.setAll (Blk.new w2 _ _) _ (by rw [pv_size, hgp.1]; rfl)
    have F5 : Hid (Fr [] W ((w2.alloc (.cells #[.int .i64 0, .int .i64 0, .int .i64 0, .int .i64 0, .int .i64 0, .int .i64 0, .int .i64 0, .int .i64 0, .int .i64 0, .int .i64 0, .int .i64 0, .int .i64 0, .int .i64 0, .int .i64 0, .int .i64 0, .int .i64 0, .int .i64 0, .int .i64 0, .int .i64 0, .int .i64 0, .int .i64 0, .int .i64 0, .int .i64 0, .int .i64 0, .int .i64 0, .int .i64 0, .int .i64 0, .int .i64 0, .int .i64 0, .int .i64 0, .int .i64 0, .int .i64 0, .int .i64 0, .int .i64 0, .int .i64 0] 41)).setCells w2.heap.size 0 (pv PP.p).toList)) := F3.out.trans FF.out (by simp)
    by_cases hc : (tk s 0 PP.k).c = 0
    · have HFIN : Hid (RR = ⟨0, 0, PP.p⟩) := by
        unfold Hid; rw [← HRR.out]; unfold rd; rw [if_neg hl, HPP.out, if_pos HE.out, if_pos hc]
      refine (wend_ok w1.heap.size g (n + 1) cap PP.k (tk s 0) 0 0 0 _ HW5.out HT5.out hkk (by omega) (rk_end.2 hc)).mono ?_
      rintro e w4 ⟨rfl, hw4, hfr4⟩
      have BR4 : Hid (Blk w4 w.heap.size (pv zeros) 41) := BR5.out.fr hfr4 (by simp [nrb])
      have BS4 : Hid (Blk w4 w2.heap.size (pv PP.p) 41) := BS5.out.fr hfr4 (by simp; omega)
      have F4 : Hid (Fr [] W w4) := F5.out.trans hfr4 (by have := F1.out.size; simp; omega)
      obtain ⟨e0, e1, e2, e3, e4⟩ := hw4.cells
      clear hw4 hfr4 HW5 HT5 BR5 BS5 F5 FF HTH
      go_wp2_with (first | (refine wpList_load_row (by rfl) 41 _ (by rfl) w2.heap.size (by rfl) 41 (pv PP.p) (0, 0) _ BS4.out Tryd.underlying41 (by rfl) (size_rPoly hgp) ?_) | (refine wpList_store_mid (by rfl) 41 _ (.tmp 33) (by rfl) w.heap.size 0 (pv PP.p) (by rfl) (by rfl) (Blk.there BR4.out (by rw [pv_size, pv_size, hgp.1]; exact Nat.le_refl _)) (size_rPoly hgp) (pv_one _) ?_))
      refine bodyPost_ret (results_read _ _ w.heap.size PP.p (by rfl) hgp (Blk.setAll BR4.out _ (by rw [pv_size, pv_size, hgp.1]; rfl))) rfl ⟨?_, ?_, ?_⟩
      · rw [HFIN.out]; rfl
      · rw [HFIN.out]; exact hgp
      · exact Below.setCells (BW.out.trans (F4.out.below (by omega) (by simp))) _ _ _ (Nat.le_refl _)
    · have HFIN : Hid (RR = ⟨4, (tk s 0 PP.k).at', zeros⟩) := by
        unfold Hid; rw [← HRR.out]; unfold rd; rw [if_neg hl, HPP.out, if_pos HE.out, if_neg hc]
      refine (wend_first w1.heap.size g (n + 1) cap PP.k (tk s 0) 0 0 _ HW5.out HT5.out hkk (by omega) (fun q => hc (rk_end.1 q))).mono ?_
      rintro e w4 ⟨rfl, hw4, hfr4⟩
      have BR4 : Hid (Blk w4 w.heap.size (pv zeros) 41) := BR5.out.fr hfr4 (by simp [nrb])
      have F4 : Hid (Fr [] W w4) := F5.out.trans hfr4 (by have := F1.out.size; simp; omega)
      clear hfr4 HW5 HT5 BR5 BS5 F5 FF HTH hc
      obtain ⟨e0, e1, e2, e3, e4⟩ := hw4.cells
      have HW4 := hideR hw4
      have HTH4 : Hid (w4.there w.heap.size 0 z.size) := Blk.there BR4.out (by rw [hzs]; decide)
      clear hw4
      go_wp2
      have hst := fun (w' : World) (b : Nat) => run_st w' b z HZ.out
      have hth41 : w4.there w.heap.size 0 35 := Blk.there BR4.out (by decide)
      go_region_held3 (fun w' => w'.cell? ⟨w1.heap.size, 2, none⟩ = some (.int .i64 4) ∧ w'.cell? ⟨w1.heap.size, 3, none⟩ = some (.int .i64 (tk s 0 PP.k).at') ∧ w'.there w.heap.size 0 35) (first | (go_keep; done) | (refine ⟨?_, ?_, ?_⟩ <;> first | (rw [World.cell?_setCells_out _ _ _ _ _ (fun e _ => absurd e (by simp; omega))]; simp [*]; done) | (exact World.there_setCells (by simp [*]) _ _ _))) (fail)
      go_wp2
      have b9 : Blk (w4.drew.setCells w.heap.size 0 z.toList) w.heap.size (pv zeros) 41 := by rw [← HZ.out]; exact Blk.setAll (by exact BR4.out) _ (by rw [hzs]; rfl)
      refine bodyPost_ret (results_read _ _ w.heap.size zeros (by rfl) zeros_good b9) rfl ⟨?_, ?_, ?_⟩
      · rw [HFIN.out]; rfl
      · rw [HFIN.out]; exact zeros_good
      · exact Below.setCells ((BW.out.trans (F4.out.below (by omega) (by simp))).drew) _ _ _ (Nat.le_refl _)
  · go_wp2_with fail
    refine (wpoly_not (tk s 0) s.size w1.heap.size g (n + 1) cap 0 false 0 0 _ HW1.out HT2.out (by omega) (by omega) (by omega) HEND.out HV.out (by omega) he).mono ?_
    rintro e w2 ⟨⟨q, hgp, rfl⟩, ⟨kk, hkk, hw2⟩, hfr2⟩
    have BR3 : Hid (Blk w2 w.heap.size (pv zeros) 41) := BR2.out.fr hfr2 (by simp [nrb])
    have HT3 : Hid (Tk w2 g (n + 1) (tk s 0)) := HT2.out.fr hfr2 (by simp; omega)
    have HW3 := hideR hw2
    have F3 : Hid (Fr [] W w2) := F2.out.trans hfr2 (by have := F1.out.size; simp; omega)
    have hs2 := hfr2.size
    simp at hs2
    clear hw2 hfr2
    have HFIN : Hid (RR = ⟨(poly (tk s 0) false s.size 0).e, (poly (tk s 0) false s.size 0).bad, zeros⟩) := by
      unfold Hid; rw [← HRR.out]; unfold rd; rw [if_neg hl, if_neg he]
    have HEE : Hid (((poly (tk s 0) false s.size 0).e : Int) ≠ 0) := by unfold Hid; omega
    have qe : (((poly (tk s 0) false s.size 0).e : Int) != 0) = true := by rw [bne_iff_ne]; exact HEE.out
    clear he
    generalize poly (tk s 0) false s.size 0 = PP at *
    have HTH : Hid ((w2.alloc (.cells #[.int .i64 0, .int .i64 0, .int .i64 0, .int .i64 0, .int .i64 0, .int .i64 0, .int .i64 0, .int .i64 0, .int .i64 0, .int .i64 0, .int .i64 0, .int .i64 0, .int .i64 0, .int .i64 0, .int .i64 0, .int .i64 0, .int .i64 0, .int .i64 0, .int .i64 0, .int .i64 0, .int .i64 0, .int .i64 0, .int .i64 0, .int .i64 0, .int .i64 0, .int .i64 0, .int .i64 0, .int .i64 0, .int .i64 0, .int .i64 0, .int .i64 0, .int .i64 0, .int .i64 0, .int .i64 0, .int .i64 0] 41)).there w2.heap.size 0 (pv q).size) := Blk.there (Blk.new w2 _ _) (by rw [pv_size, hgp.1]; decide)
    go_wp2_with (refine wpList_store_mid (by rfl) 41 _ (.tmp 16) (by rfl) w2.heap.size 0 (pv q) (by rfl) (by rfl) HTH.out (size_rPoly hgp) (pv_one _) ?_)
    have HW5 : Hid (Wy ((w2.alloc (.cells #[.int .i64 0, .int .i64 0, .int .i64 0, .int .i64 0, .int .i64 0, .int .i64 0, .int .i64 0, .int .i64 0, .int .i64 0, .int .i64 0, .int .i64 0, .int .i64 0, .int .i64 0, .int .i64 0, .int .i64 0, .int .i64 0, .int .i64 0, .int .i64 0, .int .i64 0, .int .i64 0, .int .i64 0, .int .i64 0, .int .i64 0, .int .i64 0, .int .i64 0, .int .i64 0, .int .i64 0, .int .i64 0, .int .i64 0, .int .i64 0, .int .i64 0, .int .i64 0, .int .i64 0, .int .i64 0, .int .i64 0] 41)).setCells w2.heap.size 0 (pv q).toList) w1.heap.size g (n + 1) cap kk PP.e PP.bad 0) := Blk.setCellsOther (Blk.alloc HW3.out _) _ _ _ (by omega)
    have FF : Hid (Fr [] w2 ((w2.alloc (.cells #[.int .i64 0, .int .i64 0, .int .i64 0, .int .i64 0, .int .i64 0, .int .i64 0, .int .i64 0, .int .i64 0, .int .i64 0, .int .i64 0, .int .i64 0, .int .i64 0, .int .i64 0, .int .i64 0, .int .i64 0, .int .i64 0, .int .i64 0, .int .i64 0, .int .i64 0, .int .i64 0, .int .i64 0, .int .i64 0, .int .i64 0, .int .i64 0, .int .i64 0, .int .i64 0, .int .i64 0, .int .i64 0, .int .i64 0, .int .i64 0, .int .i64 0, .int .i64 0, .int .i64 0, .int .i64 0, .int .i64 0] 41)).setCells w2.heap.size 0 (pv q).toList)) := ((Fr.refl [] w2).alloc _).setCells _ _ _ (by simp)
    have HT5 : Hid (Tk ((w2.alloc (.cells #[.int .i64 0, .int .i64 0, .int .i64 0, .int .i64 0, .int .i64 0, .int .i64 0, .int .i64 0, .int .i64 0, .int .i64 0, .int .i64 0, .int .i64 0, .int .i64 0, .int .i64 0, .int .i64 0, .int .i64 0, .int .i64 0, .int .i64 0, .int .i64 0, .int .i64 0, .int .i64 0, .int .i64 0, .int .i64 0, .int .i64 0, .int .i64 0, .int .i64 0, .int .i64 0, .int .i64 0, .int .i64 0, .int .i64 0, .int .i64 0, .int .i64 0, .int .i64 0, .int .i64 0, .int .i64 0, .int .i64 0] 41)).setCells w2.heap.size 0 (pv q).toList) g (n + 1) (tk s 0)) := HT3.out.fr FF.out (by simp)
    have BR5 : Hid (Blk ((w2.alloc (.cells #[.int .i64 0, .int .i64 0, .int .i64 0, .int .i64 0, .int .i64 0, .int .i64 0, .int .i64 0, .int .i64 0, .int .i64 0, .int .i64 0, .int .i64 0, .int .i64 0, .int .i64 0, .int .i64 0, .int .i64 0, .int .i64 0, .int .i64 0, .int .i64 0, .int .i64 0, .int .i64 0, .int .i64 0, .int .i64 0, .int .i64 0, .int .i64 0, .int .i64 0, .int .i64 0, .int .i64 0, .int .i64 0, .int .i64 0, .int .i64 0, .int .i64 0, .int .i64 0, .int .i64 0, .int .i64 0, .int .i64 0] 41)).setCells w2.heap.size 0 (pv q).toList) w.heap.size (pv zeros) 41) := BR3.out.fr FF.out (by simp)
    have F5 : Hid (Fr [] W ((w2.alloc (.cells #[.int .i64 0, .int .i64 0, .int .i64 0, .int .i64 0, .int .i64 0, .int .i64 0, .int .i64 0, .int .i64 0, .int .i64 0, .int .i64 0, .int .i64 0, .int .i64 0, .int .i64 0, .int .i64 0, .int .i64 0, .int .i64 0, .int .i64 0, .int .i64 0, .int .i64 0, .int .i64 0, .int .i64 0, .int .i64 0, .int .i64 0, .int .i64 0, .int .i64 0, .int .i64 0, .int .i64 0, .int .i64 0, .int .i64 0, .int .i64 0, .int .i64 0, .int .i64 0, .int .i64 0, .int .i64 0, .int .i64 0] 41)).setCells w2.heap.size 0 (pv q).toList)) := F3.out.trans FF.out (by simp)
    refine (wend_later w1.heap.size g (n + 1) cap kk (tk s 0) PP.e PP.bad 0 _ HW5.out HT5.out hkk (by omega) HEE.out).mono ?_
    rintro e w4 ⟨rfl, hw4, hfr4⟩
    have BR4 : Hid (Blk w4 w.heap.size (pv zeros) 41) := BR5.out.fr hfr4 (by simp [nrb])
    have F4 : Hid (Fr [] W w4) := F5.out.trans hfr4 (by have := F1.out.size; simp; omega)
    clear hfr4 HW5 HT5 BR5 F5 FF HTH
    obtain ⟨e0, e1, e2, e3, e4⟩ := hw4.cells
    have HW4 := hideR hw4
    have HTH4 : Hid (w4.there w.heap.size 0 z.size) := Blk.there BR4.out (by rw [hzs]; decide)
    clear hw4
    go_wp2
    have hst := fun (w' : World) (b : Nat) => run_st w' b z HZ.out
    have hth41 : w4.there w.heap.size 0 35 := Blk.there BR4.out (by decide)
    go_region_held3 (fun w' => w'.cell? ⟨w1.heap.size, 2, none⟩ = some (.int .i64 PP.e) ∧ w'.cell? ⟨w1.heap.size, 3, none⟩ = some (.int .i64 PP.bad) ∧ w'.there w.heap.size 0 35) (first | (go_keep; done) | (refine ⟨?_, ?_, ?_⟩ <;> first | (rw [World.cell?_setCells_out _ _ _ _ _ (fun e _ => absurd e (by simp; omega))]; simp [*]; done) | (exact World.there_setCells (by simp [*]) _ _ _))) (fail)
    go_wp2
    have b9 : Blk (w4.drew.setCells w.heap.size 0 z.toList) w.heap.size (pv zeros) 41 := by rw [← HZ.out]; exact Blk.setAll (by exact BR4.out) _ (by rw [hzs]; rfl)
    refine bodyPost_ret (results_read _ _ w.heap.size zeros (by rfl) zeros_good b9) rfl ⟨?_, ?_, ?_⟩
    · rw [HFIN.out]; rfl
    · rw [HFIN.out]; exact zeros_good
    · exact Below.setCells ((BW.out.trans (F4.out.below (by omega) (by simp))).drew) _ _ _ (Nat.le_refl _)

/-- The document's answer reads a text as 'rd' does. -/
theorem read_any (s : ByteArray) (w : World) (hm : s.size ≤ 140737488351232) :
    Calls Tryd.prog 17 #[.string s] w fun e w' => e = .returned (.tuple #[.agg (pv (rd s).p), .int .i64 (rd s).e, .int .i64 (rd s).bad]) ∧ Good (rd s).p ∧ Below w.heap.size w w' := by
  by_cases hl : 90 < s.size
  · refine (read_long s w hl hm).mono ?_
    rintro e w' ⟨rfl, h⟩
    have : rd s = ⟨2, 0, zeros⟩ := by unfold rd; rw [if_pos hl]
    rw [this]
    exact ⟨rfl, zeros_good, h⟩
  · exact read_short s w hl
end Go.Proofs.YtaajdcaciofmaaaDoor
/- TWO POLYNOMIALS COMPARED: '==' on arrays of arrays. -/
namespace Go.Proofs.YtaajdcaciofmaaaDoor
open Go.RowKit

theorem eqItems_all {P : Program} (w : World) (d : Nat) (e : TypeId) (c : Nat) (xs ys : Array Value) (g : Nat → Bool) : ∀ is : List Nat,
    (∀ i ∈ is, ∃ a b, (part e xs (i * c)).run P w = .ok a w ∧ (part e ys (i * c)).run P w = .ok b w ∧ (Op.equalIn d e a b).run P w = .ok (g i) w) →
    (Op.eqItems d e c xs ys is).run P w = .ok (is.all g) w
  | [], _ => by simp [Op.eqItems]
  | i :: is, h => by
    obtain ⟨a, b, h1, h2, h3⟩ := h i (by simp)
    have ih := eqItems_all w d e c xs ys g is (fun j hj => h j (by simp [hj]))
    simp only [Op.eqItems, Sem.run_bind, h1, h2, h3, Result.andThen_ok]
    cases hg : g i
    · simp [hg]
    · simp [hg, ih]
theorem info_some {P : Program} {t : TypeId} (h : (P.info? t).isSome = true) : ∃ i, P.info? t = some i := by
  cases q : P.info? t with
  | none => rw [q] at h; cases h
  | some i => exact ⟨i, rfl⟩
theorem part_row (xs : Array Value) (off : Nat) (w : World) : (part 35 xs off).run Tryd.prog w = .ok (.agg (xs.extract off (off + 7))) w := by
  simp [part, isAgg, run_underlying Tryd.underlying35]
theorem row_eq (d : Nat) (xs ys : Array Value) (f g : Nat → Int) (w : World) (hx : ∀ j, j < 7 → xs[j]? = some (.int .i64 (f j))) (hy : ∀ j, j < 7 → ys[j]? = some (.int .i64 (g j))) :
    (Op.equalIn (d + 1 + 1) 35 (.agg xs) (.agg ys)).run Tryd.prog w = .ok ((List.range 7).all fun j => f j == g j) w := by
  obtain ⟨i, hi⟩ := info_some (P := Tryd.prog) (t := 3) (by kernel_rfl)
  have hc : Tryd.prog.cellsOf 3 = 1 := by kernel_rfl
  have hk : Tryd.prog.plainKey 3 = true := by kernel_rfl
  rw [run_equalIn_array w (d + 1) xs ys Tryd.underlying35 hi, hc]
  refine eqItems_all w (d + 1) 3 1 xs ys _ _ ?_
  intro j hj
  rw [List.mem_range] at hj
  refine ⟨_, _, run_part_plain w hk (by rw [Nat.mul_one]; exact hx j hj), run_part_plain w hk (by rw [Nat.mul_one]; exact hy j hj), ?_⟩
  exact run_equalIn_int w d 3 .i64 .i64 _ _ Tryd.underlying3
theorem ext_get (xs : Array Value) (i j : Nat) (hs : xs.size = 35) (hi : i < 5) (hj : j < 7) : (xs.extract (i * 7) (i * 7 + 7))[j]? = xs[i * 7 + j]? := by
  rw [Array.getElem?_extract]
  rw [if_pos (by omega)]
/-- Compared cell by cell. -/
theorem poly_eq (d : Nat) (p q : List Nat) (w : World) (hp : Good p) (hq : Good q) :
    (Op.equalIn (d + 1 + 1 + 1) 37 (.agg (pv p)) (.agg (pv q))).run Tryd.prog w = .ok (decide (p = q)) w := by
  obtain ⟨i, hi⟩ := info_some (P := Tryd.prog) (t := 35) (by kernel_rfl)
  have hc : Tryd.prog.cellsOf 35 = 7 := by kernel_rfl
  rw [run_equalIn_array w (d + 1 + 1) (pv p) (pv q) Tryd.underlying37 hi, hc]
  have key := eqItems_all (P := Tryd.prog) w (d + 1 + 1) 35 7 (pv p) (pv q) (fun i => (List.range 7).all fun j => (p.getD (i * 7 + j) 0 : Int) == (q.getD (i * 7 + j) 0 : Int)) (List.range 5) ?_
  · refine key.trans (congrArg (fun b => Result.ok b w) ?_)
    rw [Bool.eq_iff_iff]
    simp only [List.all_eq_true, List.mem_range, beq_iff_eq, decide_eq_true_eq]
    constructor
    · intro h
      apply List.ext_getElem
      · rw [hp.1, hq.1]
      · intro n h1 h2
        have h3 := h (n / 7) (by rw [hp.1] at h1; omega) (n % 7) (by omega)
        rw [show n / 7 * 7 + n % 7 = n by omega, List.getD_eq_getElem?_getD, List.getD_eq_getElem?_getD, List.getElem?_eq_getElem h1, List.getElem?_eq_getElem h2] at h3
        simp only [Option.getD_some] at h3
        exact Int.ofNat.inj h3
    · intro h i hi j hj; rw [h]
  · intro i hi'
    rw [List.mem_range] at hi'
    refine ⟨_, _, part_row _ _ w, part_row _ _ w, row_eq d _ _ _ _ w ?_ ?_⟩
    · intro j hj
      rw [ext_get _ i j (by rw [pv_size, hp.1]) hi' hj]
      exact pv_get (by rw [hp.1]; omega)
    · intro j hj
      rw [ext_get _ i j (by rw [pv_size, hq.1]) hi' hj]
      exact pv_get (by rw [hq.1]; omega)
theorem poly_eq_zero (p : List Nat) (w : World) (hp : Good p) :
    (Op.equalIn 10000 37 (.agg (pv p)) (.agg #[.int .i64 0, .int .i64 0, .int .i64 0, .int .i64 0, .int .i64 0, .int .i64 0, .int .i64 0, .int .i64 0, .int .i64 0, .int .i64 0, .int .i64 0, .int .i64 0, .int .i64 0, .int .i64 0, .int .i64 0, .int .i64 0, .int .i64 0, .int .i64 0, .int .i64 0, .int .i64 0, .int .i64 0, .int .i64 0, .int .i64 0, .int .i64 0, .int .i64 0, .int .i64 0, .int .i64 0, .int .i64 0, .int .i64 0, .int .i64 0, .int .i64 0, .int .i64 0, .int .i64 0, .int .i64 0, .int .i64 0])).run Tryd.prog w = .ok (decide (p = zeros)) w := by
  have e := Array.ext' lit_zeros
  rw [e]
  exact poly_eq 9997 p zeros w hp zeros_good
end Go.Proofs.YtaajdcaciofmaaaDoor
/- THE DOCUMENT's TEXT OF A POLYNOMIAL: write. -/
namespace Go.Proofs.YtaajdcaciofmaaaDoor
open Go.RowKit

theorem add_to (a b c : List UInt8) (S : ByteArray) (hS : S = bs b) (hc : a ++ b = c) (ha : a.length ≤ 1000) (hb : b.length ≤ 1000) (w : World) : (Op.stringOp .add (bs a) S).run Tryd.prog w = .ok (.string (bs c)) w := by
  subst hS hc
  rw [run_string_add_sum w (bs a) (bs b) (by rw [bs_size, bs_size]; omega), bs_append]
theorem wrt_step (p : List Nat) (k : Nat) (h : ¬ p.getD (34 - k) 0 = 0) : wrt p (k + 1) = (if wrt p k = [] then [] else wrt p k ++ [43]) ++ tmx (p.getD (34 - k) 0) ((34 - k) % 7) ((34 - k) / 7) := by rw [wrt, if_neg h]
theorem wrt_skip (p : List Nat) (k : Nat) (h : p.getD (34 - k) 0 = 0) : wrt p (k + 1) = wrt p k := by rw [wrt, if_pos h]
theorem tmx_full {v j i : Nat} (h : v > 1 ∨ i + j = 0) : tmx v j i = dgt v :: (ptx 117 j ++ ptx 120 i) := by
  unfold tmx pws; rw [if_neg (by omega)]
theorem tmx_bare {v j i : Nat} (hv : v ≠ 0) (h : ¬ (v > 1 ∨ i + j = 0)) : tmx v j i = ptx 117 j ++ ptx 120 i := by
  unfold tmx pws; rw [if_pos (by omega)]

set_option maxRecDepth 100000 in
set_option maxHeartbeats 4000000 in
theorem write_any (p : List Nat) (w : World) (hp : Good p) :
    Calls Tryd.prog 18 #[.agg (pv p)] w fun e w' => e = .returned (.string (bs (txt p))) ∧ Below w.heap.size w w' := by
  go_enter Tryd.func18, Tryd.ntmps18
  go_wp2
  refine wp_forget (fun W => Blk W w.heap.size (pv p) 41 ∧ Below w.heap.size w W) ⟨Blk.new w _ _, by go_grown⟩ ?_
  rintro W ⟨b1, hbW⟩
  have B1 := hidT b1
  have BW := hidT hbW
  clear b1 hbW
  go_loopg [3, 4] 5 (fun gm v3 v4 wr => ∃ a : Nat, gm = 5 - a ∧ a ≤ 5 ∧ v4 = .int .i64 (((5 - a : Nat) : Int) - 1) ∧ v3 = .string (bs (wrt p (a * 7))) ∧ Hid (Below W.heap.size W wr))
  case atStart => exact ⟨0, rfl, by omega, rfl, rfl, Below.refl _ _⟩
  case round =>
    obtain ⟨a, hgm, ha, rfl, rfl, HD⟩ := hrel
    by_cases h5 : a < 5
    · obtain ⟨i, hi5⟩ : ∃ i : Nat, 5 - a = i + 1 := ⟨4 - a, by omega⟩
      have hi4 : i < 5 := by omega
      have e : (((5 - a : Nat) : Int) - 1) = (i : Int) := by omega
      rw [e]
      clear e
      have i0' : (0 : Int) ≤ (i : Int) := by omega
      have i1' : (i : Int) < 5 := by omega
      have HI := hidT hi5
      clear hi5
      go_wp2
      go_loopg [3, 5] 7 (fun gm v3 v5 wr => ∃ m : Nat, gm = 7 - m ∧ m ≤ 7 ∧ v5 = .int .i64 (((7 - m : Nat) : Int) - 1) ∧ v3 = .string (bs (wrt p (a * 7 + m))) ∧ Hid (Below W.heap.size W wr))
      case atStart => exact ⟨0, rfl, by omega, rfl, rfl, HD⟩
      case round =>
        obtain ⟨m, hgm2, hm, rfl, rfl, HE⟩ := hrel
        clear HD
        by_cases h7 : m < 7
        · obtain ⟨j, hj7⟩ : ∃ j : Nat, 7 - m = j + 1 := ⟨6 - m, by omega⟩
          have hj6 : j < 7 := by omega
          have e : (((7 - m : Nat) : Int) - 1) = (j : Int) := by omega
          rw [e]
          clear e
          have j0 : (0 : Int) ≤ (j : Int) := by omega
          have j1 : (j : Int) < 7 := by omega
          have HM1 : Hid ((((7 - (m + 1) : Nat) : Int) - 1) = (j : Int) - 1) := by unfold Hid; omega
          have hidx : 34 - (a * 7 + m) = i * 7 + j := by have := HI.out; omega
          have HX : Hid ((34 - (a * 7 + m)) % 7 = j ∧ (34 - (a * 7 + m)) / 7 = i) := by unfold Hid; omega
          have HSK := hidT (wrt_skip p (a * 7 + m))
          have HST := hidT (wrt_step p (a * 7 + m))
          have HL : Hid ((wrt p (a * 7 + m)).length ≤ 210) := by unfold Hid; have := wrt_len p (a * 7 + m); omega
          rw [HX.out.1, HX.out.2, hidx] at HST
          rw [hidx] at HSK
          rw [show a * 7 + m + 1 = a * 7 + (m + 1) by omega] at HST HSK
          have hq : i * 7 + j < p.length := by rw [hp.1]; omega
          have hcell := pv_get hq
          have hv7 := hp.2 (i * 7 + j)
          have BR : Hid (Blk wr w.heap.size (pv p) 41) := Blk.fr B1.out (Fr.of_below (bs := []) HE.out) (by simp)
          have hc : wr.cell? ⟨w.heap.size, i * 7 + j, none⟩ = some (.int .i64 (p.getD (i * 7 + j) 0)) := by rw [BR.out.cell]; exact hcell
          clear hcell hidx hj7
          generalize p.getD (i * 7 + j) 0 = v at *
          by_cases hv : v = 0
          · subst hv
            have HSS := hidT (HSK.out rfl)
            clear HSK HST
            go_wp2
            go_roundg (7 - (m + 1))
            case measure => omega
            case rel => exact ⟨m + 1, rfl, by omega, by rw [HM1.out], by rw [HSS.out], HE⟩
          · have hv' : ¬ ((v : Int) = 0) := by omega
            have HV := hidT hv
            have HSS := hidT (HST.out hv)
            clear hv HST HSK
            have hpu := ptx_len 117 j
            have hpx := ptx_len 120 i
            have HPU := hidT hpu
            have HPX := hidT hpx
            clear hpu hpx
            have hcv := fun (w' : World) => conv_new v (by omega) w'
            have hc2 : ∀ o, (wr.alloc o).cell? ⟨w.heap.size, i * 7 + j, none⟩ = some (.int .i64 v) := fun o => by rw [(Blk.alloc BR.out o).cell, ← BR.out.cell]; exact hc
            generalize hwX : wrt p (a * 7 + m) = X at *
            have HWX := hidT hwX
            clear hwX
            by_cases hE : X = []
            · have hE' : (bs X).toList.isEmpty = true := by rw [bs_empty, hE]; rfl
              rw [if_pos hE] at HSS
              have HXE := hidT hE
              clear hE
              by_cases hd : v > 1 ∨ i + j = 0
              · have HDD := hidT hd
                by_cases h1 : 1 < v
                · have hd' : (1 : Int) < (v : Int) := by omega
                  obtain ⟨Y2, HY2⟩ : ∃ Y, Hid (X ++ [dgt v] = Y) := ⟨_, hidT rfl⟩
                  have HL2 : Hid (Y2.length ≤ 212) := by unfold Hid; rw [← HY2.out, List.length_append]; have := HL.out; (try simp only [List.length_cons, List.length_nil]); omega
                  have hadd2 := fun (w' : World) => add_to X [dgt v] Y2 (bs [dgt v]) rfl HY2.out (by have := HL.out; omega) (by simp) w'
                  obtain ⟨Y3, HY3⟩ : ∃ Y, Hid (Y2 ++ ptx 117 j = Y) := ⟨_, hidT rfl⟩
                  have HL3 : Hid (Y3.length ≤ 214) := by unfold Hid; rw [← HY3.out, List.length_append]; have := HPU.out; have := HL2.out; (try simp only [List.length_cons, List.length_nil]); omega
                  have hadd3 := fun (w' : World) => add_to Y2 (ptx 117 j) Y3 (bs (ptx 117 j)) rfl HY3.out (by have := HL2.out; omega) (by have := HPU.out; omega) w'
                  obtain ⟨Y4, HY4⟩ : ∃ Y, Hid (Y3 ++ ptx 120 i = Y) := ⟨_, hidT rfl⟩
                  have HL4 : Hid (Y4.length ≤ 216) := by unfold Hid; rw [← HY4.out, List.length_append]; have := HPX.out; have := HL3.out; (try simp only [List.length_cons, List.length_nil]); omega
                  have hadd4 := fun (w' : World) => add_to Y3 (ptx 120 i) Y4 (bs (ptx 120 i)) rfl HY4.out (by have := HL3.out; omega) (by have := HPX.out; omega) w'
                  go_wp2_with (go_at_call 34; first | (refine (letter_any 117 _ j _ _ (by rfl) (by rfl) (by omega)).mono ?_; rintro e w1 ⟨rfl, hb1⟩; have HB1 := hidT hb1) | (refine (letter_any 120 _ i _ _ (by rfl) (by rfl) (by omega)).mono ?_; rintro e w2 ⟨rfl, hb2⟩; have HB2 := hidT hb2))
                  go_roundg (7 - (m + 1))
                  case measure => omega
                  case rel =>
                    refine ⟨m + 1, rfl, by omega, by rw [HM1.out], ?_, ?_⟩
                    · rw [HSS.out, tmx_full HDD.out, ← HY4.out, ← HY3.out, ← HY2.out]; simp [HXE.out]
                    · exact Fr.below (bs := []) ((((Fr.of_below HE.out).alloc _).trans (Fr.of_below (bs := []) HB1.out) (by simp)).trans (Fr.of_below (bs := []) HB2.out) (by simp)) (Nat.le_refl _) (by simp)
                · have hd' : ¬ ((1 : Int) < (v : Int)) := by omega
                  have hd0 : (i : Int) + (j : Int) = 0 := by omega
                  obtain ⟨Y2, HY2⟩ : ∃ Y, Hid (X ++ [dgt v] = Y) := ⟨_, hidT rfl⟩
                  have HL2 : Hid (Y2.length ≤ 212) := by unfold Hid; rw [← HY2.out, List.length_append]; have := HL.out; (try simp only [List.length_cons, List.length_nil]); omega
                  have hadd2 := fun (w' : World) => add_to X [dgt v] Y2 (bs [dgt v]) rfl HY2.out (by have := HL.out; omega) (by simp) w'
                  obtain ⟨Y3, HY3⟩ : ∃ Y, Hid (Y2 ++ ptx 117 j = Y) := ⟨_, hidT rfl⟩
                  have HL3 : Hid (Y3.length ≤ 214) := by unfold Hid; rw [← HY3.out, List.length_append]; have := HPU.out; have := HL2.out; (try simp only [List.length_cons, List.length_nil]); omega
                  have hadd3 := fun (w' : World) => add_to Y2 (ptx 117 j) Y3 (bs (ptx 117 j)) rfl HY3.out (by have := HL2.out; omega) (by have := HPU.out; omega) w'
                  obtain ⟨Y4, HY4⟩ : ∃ Y, Hid (Y3 ++ ptx 120 i = Y) := ⟨_, hidT rfl⟩
                  have HL4 : Hid (Y4.length ≤ 216) := by unfold Hid; rw [← HY4.out, List.length_append]; have := HPX.out; have := HL3.out; (try simp only [List.length_cons, List.length_nil]); omega
                  have hadd4 := fun (w' : World) => add_to Y3 (ptx 120 i) Y4 (bs (ptx 120 i)) rfl HY4.out (by have := HL3.out; omega) (by have := HPX.out; omega) w'
                  go_wp2_with (go_at_call 34; first | (refine (letter_any 117 _ j _ _ (by rfl) (by rfl) (by omega)).mono ?_; rintro e w1 ⟨rfl, hb1⟩; have HB1 := hidT hb1) | (refine (letter_any 120 _ i _ _ (by rfl) (by rfl) (by omega)).mono ?_; rintro e w2 ⟨rfl, hb2⟩; have HB2 := hidT hb2))
                  go_roundg (7 - (m + 1))
                  case measure => omega
                  case rel =>
                    refine ⟨m + 1, rfl, by omega, by rw [HM1.out], ?_, ?_⟩
                    · rw [HSS.out, tmx_full HDD.out, ← HY4.out, ← HY3.out, ← HY2.out]; simp [HXE.out]
                    · exact Fr.below (bs := []) ((((Fr.of_below HE.out).alloc _).trans (Fr.of_below (bs := []) HB1.out) (by simp)).trans (Fr.of_below (bs := []) HB2.out) (by simp)) (Nat.le_refl _) (by simp)
              · have HDD := hidT hd
                have hd' : ¬ ((1 : Int) < (v : Int)) := by omega
                have hd0 : ¬ ((i : Int) + (j : Int) = 0) := by omega
                obtain ⟨Y3, HY3⟩ : ∃ Y, Hid (X ++ ptx 117 j = Y) := ⟨_, hidT rfl⟩
                have HL3 : Hid (Y3.length ≤ 214) := by unfold Hid; rw [← HY3.out, List.length_append]; have := HPU.out; have := HL.out; (try simp only [List.length_cons, List.length_nil]); omega
                have hadd3 := fun (w' : World) => add_to X (ptx 117 j) Y3 (bs (ptx 117 j)) rfl HY3.out (by have := HL.out; omega) (by have := HPU.out; omega) w'
                obtain ⟨Y4, HY4⟩ : ∃ Y, Hid (Y3 ++ ptx 120 i = Y) := ⟨_, hidT rfl⟩
                have HL4 : Hid (Y4.length ≤ 216) := by unfold Hid; rw [← HY4.out, List.length_append]; have := HPX.out; have := HL3.out; (try simp only [List.length_cons, List.length_nil]); omega
                have hadd4 := fun (w' : World) => add_to Y3 (ptx 120 i) Y4 (bs (ptx 120 i)) rfl HY4.out (by have := HL3.out; omega) (by have := HPX.out; omega) w'
                go_wp2_with (go_at_call 34; first | (refine (letter_any 117 _ j _ _ (by rfl) (by rfl) (by omega)).mono ?_; rintro e w1 ⟨rfl, hb1⟩; have HB1 := hidT hb1) | (refine (letter_any 120 _ i _ _ (by rfl) (by rfl) (by omega)).mono ?_; rintro e w2 ⟨rfl, hb2⟩; have HB2 := hidT hb2))
                go_roundg (7 - (m + 1))
                case measure => omega
                case rel =>
                  refine ⟨m + 1, rfl, by omega, by rw [HM1.out], ?_, ?_⟩
                  · rw [HSS.out, tmx_bare HV.out HDD.out, ← HY4.out, ← HY3.out]; simp [HXE.out]
                  · exact Fr.below (bs := []) (((Fr.of_below HE.out).trans (Fr.of_below (bs := []) HB1.out) (by simp)).trans (Fr.of_below (bs := []) HB2.out) (by simp)) (Nat.le_refl _) (by simp)
            · have hE' : (bs X).toList.isEmpty = false := by rw [bs_empty]; simp [hE]
              rw [if_neg hE] at HSS
              clear hE
              obtain ⟨Y1, HY1⟩ : ∃ Y, Hid (X ++ [43] = Y) := ⟨_, hidT rfl⟩
              have HL1 : Hid (Y1.length ≤ 211) := by unfold Hid; rw [← HY1.out, List.length_append]; have := HL.out; (try simp only [List.length_cons, List.length_nil]); omega
              have hadd1 := fun (w' : World) => add_to X [43] Y1 ⟨#[43]⟩ rfl HY1.out (by have := HL.out; omega) (by simp) w'
              by_cases hd : v > 1 ∨ i + j = 0
              · have HDD := hidT hd
                by_cases h1 : 1 < v
                · have hd' : (1 : Int) < (v : Int) := by omega
                  obtain ⟨Y2, HY2⟩ : ∃ Y, Hid (Y1 ++ [dgt v] = Y) := ⟨_, hidT rfl⟩
                  have HL2 : Hid (Y2.length ≤ 212) := by unfold Hid; rw [← HY2.out, List.length_append]; have := HL1.out; (try simp only [List.length_cons, List.length_nil]); omega
                  have hadd2 := fun (w' : World) => add_to Y1 [dgt v] Y2 (bs [dgt v]) rfl HY2.out (by have := HL1.out; omega) (by simp) w'
                  obtain ⟨Y3, HY3⟩ : ∃ Y, Hid (Y2 ++ ptx 117 j = Y) := ⟨_, hidT rfl⟩
                  have HL3 : Hid (Y3.length ≤ 214) := by unfold Hid; rw [← HY3.out, List.length_append]; have := HPU.out; have := HL2.out; (try simp only [List.length_cons, List.length_nil]); omega
                  have hadd3 := fun (w' : World) => add_to Y2 (ptx 117 j) Y3 (bs (ptx 117 j)) rfl HY3.out (by have := HL2.out; omega) (by have := HPU.out; omega) w'
                  obtain ⟨Y4, HY4⟩ : ∃ Y, Hid (Y3 ++ ptx 120 i = Y) := ⟨_, hidT rfl⟩
                  have HL4 : Hid (Y4.length ≤ 216) := by unfold Hid; rw [← HY4.out, List.length_append]; have := HPX.out; have := HL3.out; (try simp only [List.length_cons, List.length_nil]); omega
                  have hadd4 := fun (w' : World) => add_to Y3 (ptx 120 i) Y4 (bs (ptx 120 i)) rfl HY4.out (by have := HL3.out; omega) (by have := HPX.out; omega) w'
                  go_wp2_with (go_at_call 34; first | (refine (letter_any 117 _ j _ _ (by rfl) (by rfl) (by omega)).mono ?_; rintro e w1 ⟨rfl, hb1⟩; have HB1 := hidT hb1) | (refine (letter_any 120 _ i _ _ (by rfl) (by rfl) (by omega)).mono ?_; rintro e w2 ⟨rfl, hb2⟩; have HB2 := hidT hb2))
                  go_roundg (7 - (m + 1))
                  case measure => omega
                  case rel =>
                    refine ⟨m + 1, rfl, by omega, by rw [HM1.out], ?_, ?_⟩
                    · rw [HSS.out, tmx_full HDD.out, ← HY4.out, ← HY3.out, ← HY2.out, ← HY1.out]; simp
                    · exact Fr.below (bs := []) ((((Fr.of_below HE.out).alloc _).trans (Fr.of_below (bs := []) HB1.out) (by simp)).trans (Fr.of_below (bs := []) HB2.out) (by simp)) (Nat.le_refl _) (by simp)
                · have hd' : ¬ ((1 : Int) < (v : Int)) := by omega
                  have hd0 : (i : Int) + (j : Int) = 0 := by omega
                  obtain ⟨Y2, HY2⟩ : ∃ Y, Hid (Y1 ++ [dgt v] = Y) := ⟨_, hidT rfl⟩
                  have HL2 : Hid (Y2.length ≤ 212) := by unfold Hid; rw [← HY2.out, List.length_append]; have := HL1.out; (try simp only [List.length_cons, List.length_nil]); omega
                  have hadd2 := fun (w' : World) => add_to Y1 [dgt v] Y2 (bs [dgt v]) rfl HY2.out (by have := HL1.out; omega) (by simp) w'
                  obtain ⟨Y3, HY3⟩ : ∃ Y, Hid (Y2 ++ ptx 117 j = Y) := ⟨_, hidT rfl⟩
                  have HL3 : Hid (Y3.length ≤ 214) := by unfold Hid; rw [← HY3.out, List.length_append]; have := HPU.out; have := HL2.out; (try simp only [List.length_cons, List.length_nil]); omega
                  have hadd3 := fun (w' : World) => add_to Y2 (ptx 117 j) Y3 (bs (ptx 117 j)) rfl HY3.out (by have := HL2.out; omega) (by have := HPU.out; omega) w'
                  obtain ⟨Y4, HY4⟩ : ∃ Y, Hid (Y3 ++ ptx 120 i = Y) := ⟨_, hidT rfl⟩
                  have HL4 : Hid (Y4.length ≤ 216) := by unfold Hid; rw [← HY4.out, List.length_append]; have := HPX.out; have := HL3.out; (try simp only [List.length_cons, List.length_nil]); omega
                  have hadd4 := fun (w' : World) => add_to Y3 (ptx 120 i) Y4 (bs (ptx 120 i)) rfl HY4.out (by have := HL3.out; omega) (by have := HPX.out; omega) w'
                  go_wp2_with (go_at_call 34; first | (refine (letter_any 117 _ j _ _ (by rfl) (by rfl) (by omega)).mono ?_; rintro e w1 ⟨rfl, hb1⟩; have HB1 := hidT hb1) | (refine (letter_any 120 _ i _ _ (by rfl) (by rfl) (by omega)).mono ?_; rintro e w2 ⟨rfl, hb2⟩; have HB2 := hidT hb2))
                  go_roundg (7 - (m + 1))
                  case measure => omega
                  case rel =>
                    refine ⟨m + 1, rfl, by omega, by rw [HM1.out], ?_, ?_⟩
                    · rw [HSS.out, tmx_full HDD.out, ← HY4.out, ← HY3.out, ← HY2.out, ← HY1.out]; simp
                    · exact Fr.below (bs := []) ((((Fr.of_below HE.out).alloc _).trans (Fr.of_below (bs := []) HB1.out) (by simp)).trans (Fr.of_below (bs := []) HB2.out) (by simp)) (Nat.le_refl _) (by simp)
              · have HDD := hidT hd
                have hd' : ¬ ((1 : Int) < (v : Int)) := by omega
                have hd0 : ¬ ((i : Int) + (j : Int) = 0) := by omega
                obtain ⟨Y3, HY3⟩ : ∃ Y, Hid (Y1 ++ ptx 117 j = Y) := ⟨_, hidT rfl⟩
                have HL3 : Hid (Y3.length ≤ 214) := by unfold Hid; rw [← HY3.out, List.length_append]; have := HPU.out; have := HL1.out; (try simp only [List.length_cons, List.length_nil]); omega
                have hadd3 := fun (w' : World) => add_to Y1 (ptx 117 j) Y3 (bs (ptx 117 j)) rfl HY3.out (by have := HL1.out; omega) (by have := HPU.out; omega) w'
                obtain ⟨Y4, HY4⟩ : ∃ Y, Hid (Y3 ++ ptx 120 i = Y) := ⟨_, hidT rfl⟩
                have HL4 : Hid (Y4.length ≤ 216) := by unfold Hid; rw [← HY4.out, List.length_append]; have := HPX.out; have := HL3.out; (try simp only [List.length_cons, List.length_nil]); omega
                have hadd4 := fun (w' : World) => add_to Y3 (ptx 120 i) Y4 (bs (ptx 120 i)) rfl HY4.out (by have := HL3.out; omega) (by have := HPX.out; omega) w'
                go_wp2_with (go_at_call 34; first | (refine (letter_any 117 _ j _ _ (by rfl) (by rfl) (by omega)).mono ?_; rintro e w1 ⟨rfl, hb1⟩; have HB1 := hidT hb1) | (refine (letter_any 120 _ i _ _ (by rfl) (by rfl) (by omega)).mono ?_; rintro e w2 ⟨rfl, hb2⟩; have HB2 := hidT hb2))
                go_roundg (7 - (m + 1))
                case measure => omega
                case rel =>
                  refine ⟨m + 1, rfl, by omega, by rw [HM1.out], ?_, ?_⟩
                  · rw [HSS.out, tmx_bare HV.out HDD.out, ← HY4.out, ← HY3.out, ← HY1.out]; simp
                  · exact Fr.below (bs := []) (((Fr.of_below HE.out).trans (Fr.of_below (bs := []) HB1.out) (by simp)).trans (Fr.of_below (bs := []) HB2.out) (by simp)) (Nat.le_refl _) (by simp)
        · have e7 : m = 7 := by omega
          subst e7
          have HK1 : Hid ((((5 - (a + 1) : Nat) : Int) - 1) = (i : Int) - 1) := by unfold Hid; have := HI.out; omega
          go_wp2
          go_roundg (5 - (a + 1))
          case measure => omega
          case rel => exact ⟨a + 1, rfl, by omega, by rw [HK1.out], by rw [show (a + 1) * 7 = a * 7 + 7 by omega], HE⟩
    · have e5 : a = 5 := by omega
      subst e5
      have HT : Hid (txt p = if wrt p (5 * 7) = [] then [48] else wrt p (5 * 7)) := rfl
      generalize hwX : wrt p (5 * 7) = X at *
      by_cases hE : X = []
      · have hE' : (bs X).toList.isEmpty = true := by rw [bs_empty, hE]; rfl
        rw [if_pos hE] at HT
        clear hE hwX
        go_wp2
        go_ret
        exact ⟨by rw [HT.out]; rfl, Fr.below (bs := []) ((Fr.of_below BW.out).trans (Fr.of_below (bs := []) HD.out) (by simp)) (Nat.le_refl _) (by simp)⟩
      · have hE' : (bs X).toList.isEmpty = false := by rw [bs_empty]; simp [hE]
        rw [if_neg hE] at HT
        clear hE hwX
        go_wp2
        go_ret
        exact ⟨by rw [HT.out]; rfl, Fr.below (bs := []) ((Fr.of_below BW.out).trans (Fr.of_below (bs := []) HD.out) (by simp)) (Nat.le_refl _) (by simp)⟩
end Go.Proofs.YtaajdcaciofmaaaDoor
/- THE PROGRAM's TEXT OF A POLYNOMIAL: Text. -/
namespace Go.Proofs.YtaajdcaciofmaaaDoor
open Go.RowKit

def sv (ts : List (List UInt8)) : List Value := ts.map fun t => Value.string (bs t)
theorem sv_snoc (ts : List (List UInt8)) (t : List UInt8) : sv (ts ++ [t]) = sv ts ++ [.string (bs t)] := by simp [sv]
theorem str_info : (Tryd.prog.info? 9).map (fun i => (i.zero, i.size, i.bytes)) = some (some (.string ⟨#[]⟩), 1, 16) := by kernel_rfl
theorem tms_step (p : List Nat) (k : Nat) (h : ¬ p.getD (34 - k) 0 = 0) : tms p (k + 1) = tms p k ++ [tmx (p.getD (34 - k) 0) ((34 - k) % 7) ((34 - k) / 7)] := by rw [tms, if_neg h]
theorem tms_skip (p : List Nat) (k : Nat) (h : p.getD (34 - k) 0 = 0) : tms p (k + 1) = tms p k := by rw [tms, if_pos h]

theorem sv_get {ts : List (List UInt8)} {j : Nat} {x : ByteArray} (h : (ts.map bs)[j]? = some x) : (sv ts)[j]? = some (.string x) := by
  rw [List.getElem?_map, Option.map_eq_some_iff] at h
  obtain ⟨t, h1, rfl⟩ := h
  simp [sv, h1]
theorem own_slice {w : World} {base : Nat} {v : Value} {ts : List (List UInt8)} (h : w.ownsRow base 9 1 v ts.length (sv ts)) (hne : ts ≠ []) :
    ∃ g cap, v = .slice (some ⟨g, 0, none⟩) ts.length cap ∧ g < w.heap.size ∧ ts.length ≤ cap ∧ ∀ (j : Nat) x, (ts.map bs)[j]? = some x → w.cell? ⟨g, 0 + j, none⟩ = some (.string x) := by
  have h' := h
  obtain ⟨_, h1 | ⟨g, cap, cur, rfl, hb, hg, hn, hm, hs, ht⟩⟩ := h
  · exact absurd (List.length_eq_zero_iff.1 h1.2) hne
  · refine ⟨g, cap, rfl, (h'.lt g rfl).2, hn, ?_⟩
    intro j x hx
    have := h'.cells (g := g) rfl j (.string x) (sv_get hx)
    have hadd : (⟨g, 0, none⟩ : Addr).add j = ⟨g, 0 + j, none⟩ := by unfold Addr.add; split <;> simp_all
    rw [hadd] at this
    exact this
theorem join_to (ts : List (List UInt8)) (g cap : Nat) (w : World) (hcells : ∀ (j : Nat) x, (ts.map bs)[j]? = some x → w.cell? ⟨g, 0 + j, none⟩ = some (.string x)) (hg : g < w.heap.size) (hc : ts.length ≤ cap) (hl : ts.length ≤ 35) (hj : (Lib.join ts [43]).length ≤ 6 * 35) :
    Calls Tryd.prog 30 #[.slice (some ⟨g, 0, none⟩) ts.length cap, .string ⟨#[43]⟩] w fun e w' => e = .returned (.string (bs (Lib.join ts [43]))) ∧ Below w.heap.size w w' := by
  have e : (ts.map bs).map (·.data.toList) = ts := by
    rw [List.map_map]
    conv => rhs; rw [← List.map_id ts]
    exact List.map_congr_left (fun _ _ => rfl)
  have h := Tryd.strings_Join g 0 cap (ts.map bs) ⟨#[43]⟩ w hcells hg (by rw [List.length_map]; omega) (by rw [List.length_map]; exact hc) (by rw [e]; have : (Lib.join ts (⟨#[43]⟩ : ByteArray).data.toList).length ≤ 6 * 35 := hj; omega)
  rw [List.length_map, e] at h
  exact h

set_option maxRecDepth 100000 in
set_option maxHeartbeats 4000000 in
theorem Text_any (p : List Nat) (w : World) (hp : Good p) :
    Calls Tryd.prog 16 #[.agg (pv p)] w fun e w' => e = .returned (.string (bs (txt p))) ∧ Below w.heap.size w w' := by
  have hne := fun (w' : World) => poly_eq_zero p w' hp
  by_cases hz : p = zeros
  · have e : txt p = [48] := txt_zero p ((good_zeros hp).2 hz)
    rw [e]
    simp only [hz, decide_true] at hne
    obtain ⟨z, HZ⟩ : ∃ z, Hid (p = z) := ⟨_, rfl⟩
    rw [← hz] at hne
    clear hz e
    go_enter Tryd.func16, Tryd.ntmps16
    go_wp2_with (refine wpList_load_row (by rfl) 37 _ (by rfl) w.heap.size (by rfl) 37 (pv p) (0, 0) _ (by exact Blk.new w _ _) Tryd.underlying37 (by rfl) (size_poly hp) ?_)
    go_ret
    exact ⟨rfl, by go_grown⟩
  · have ht : tms p 35 ≠ [] := fun q => hz ((good_zeros hp).1 q)
    have HTX := hidT (txt_join p ht)
    have HT := hidT ht
    simp only [hz, decide_false] at hne
    clear hz ht
    obtain ⟨i0, hi, hz0, hz1, hz2⟩ := info_parts str_info
    go_enter Tryd.func16, Tryd.ntmps16
    go_wp2_with (refine wpList_load_row (by rfl) 37 _ (by rfl) w.heap.size (by rfl) 37 (pv p) (0, 0) _ (by exact Blk.new w _ _) Tryd.underlying37 (by rfl) (size_poly hp) ?_)
    refine wp_forget (fun W => Blk W w.heap.size (pv p) 37 ∧ Below w.heap.size w W) ⟨Blk.new w _ _, by go_grown⟩ ?_
    rintro W ⟨b1, hbW⟩
    have B1 := hidT b1
    have BW := hidT hbW
    clear b1 hbW hne
    go_loopg [3, 4] 5 (fun gm v3 v4 wr => ∃ a : Nat, gm = 5 - a ∧ a ≤ 5 ∧ v4 = .int .i64 (((5 - a : Nat) : Int) - 1) ∧ Hid (wr.ownsRow W.heap.size 9 1 v3 (tms p (a * 7)).length (sv (tms p (a * 7))) ∧ Below W.heap.size W wr))
    case atStart => exact ⟨0, rfl, by omega, rfl, ⟨World.ownsRow_nil _ _ _ _, Below.refl _ _⟩⟩
    case round =>
      obtain ⟨a, hgm, ha, rfl, HD⟩ := hrel
      by_cases h5 : a < 5
      · obtain ⟨i, hi5⟩ : ∃ i : Nat, 5 - a = i + 1 := ⟨4 - a, by omega⟩
        have hi4 : i < 5 := by omega
        have e : (((5 - a : Nat) : Int) - 1) = (i : Int) := by omega
        rw [e]
        clear e
        have i0' : (0 : Int) ≤ (i : Int) := by omega
        have i1' : (i : Int) < 5 := by omega
        have HI := hidT hi5
        clear hi5
        go_wp2
        go_loopg [3, 5] 7 (fun gm v3 v5 wr => ∃ m : Nat, gm = 7 - m ∧ m ≤ 7 ∧ v5 = .int .i64 (((7 - m : Nat) : Int) - 1) ∧ Hid (wr.ownsRow W.heap.size 9 1 v3 (tms p (a * 7 + m)).length (sv (tms p (a * 7 + m))) ∧ Below W.heap.size W wr))
        case atStart => exact ⟨0, rfl, by omega, rfl, HD⟩
        case round =>
          obtain ⟨m, hgm2, hm, rfl, HE⟩ := hrel
          clear HD
          by_cases h7 : m < 7
          · obtain ⟨j, hj7⟩ : ∃ j : Nat, 7 - m = j + 1 := ⟨6 - m, by omega⟩
            have hj6 : j < 7 := by omega
            have e : (((7 - m : Nat) : Int) - 1) = (j : Int) := by omega
            rw [e]
            clear e
            have j0 : (0 : Int) ≤ (j : Int) := by omega
            have j1 : (j : Int) < 7 := by omega
            have HM1 : Hid ((((7 - (m + 1) : Nat) : Int) - 1) = (j : Int) - 1) := by unfold Hid; omega
            have hidx : 34 - (a * 7 + m) = i * 7 + j := by have := HI.out; omega
            have HX : Hid ((34 - (a * 7 + m)) % 7 = j ∧ (34 - (a * 7 + m)) / 7 = i) := by unfold Hid; omega
            have HSK := hidT (tms_skip p (a * 7 + m))
            have HST := hidT (tms_step p (a * 7 + m))
            have HL := hidT (tms_len p (a * 7 + m))
            rw [HX.out.1, HX.out.2, hidx] at HST
            rw [hidx] at HSK
            have hq : i * 7 + j < p.length := by rw [hp.1]; omega
            have hcell := pv_get hq
            have hv7 := hp.2 (i * 7 + j)
            have BR : Hid (Blk wr w.heap.size (pv p) 37) := Blk.fr B1.out (Fr.of_below (bs := []) HE.out.2) (by simp)
            have hc : wr.cell? ⟨w.heap.size, i * 7 + j, none⟩ = some (.int .i64 (p.getD (i * 7 + j) 0)) := by rw [BR.out.cell]; exact hcell
            clear hcell hidx hj7
            generalize p.getD (i * 7 + j) 0 = v at *
            by_cases hv : v = 0
            · subst hv
              go_wp2
              go_roundg (7 - (m + 1))
              case measure => omega
              case rel => exact ⟨m + 1, rfl, by omega, by rw [HM1.out], by rw [show a * 7 + (m + 1) = a * 7 + m + 1 by omega, HSK.out (by trivial)]; exact HE⟩
            · have hv' : ¬ ((v : Int) = 0) := by omega
              have HV := hidT hv
              clear hv
              go_wp2_with (first | (go_at_call 29; refine (termText_any v j i _ _ _ _ rfl rfl rfl hv7 (by omega) (by omega)).mono ?_; rintro e w1 ⟨rfl, hb1⟩; have HB1 := hidT hb1; have HO1 := hidT (ownsRow_fr (c := wr.heap.size) HE.out.1 (Fr.of_below hb1) (ownsRow_ne HE.out.1 (Nat.le_refl _)))) | (at_builtin; refine wpList_append_lies _ (by rfl) (.tmp 23) (.tmp 33) 61 (by rfl) W.heap.size 9 i0 _ 1 16 Tryd.underlying61 hi hz0 hz1 hz2 (by rfl) (by decide) _ (tms p (a * 7 + m)).length (sv (tms p (a * 7 + m))) (by rfl) (by exact HO1.out.alloc _) ⟨w1.heap.size, 0, none⟩ 1 1 [.string (bs (tmx v j i))] (by rfl) (by rfl) (by exact World.news_of_block (Blk.new w1 _ _)) (by simp; rfl) (by decide) (by unfold maxLen; have := HL.out; omega) (by have := HL.out; omega) (by have := HE.out.2.size; have := HB1.out.size; simp; omega) _ rfl ?_; intro g cap w2 hown1 hgrow hat hlt1))
              go_roundg (7 - (m + 1))
              case measure => omega
              case rel =>
                refine ⟨m + 1, rfl, by omega, by rw [HM1.out], ?_, ?_⟩
                · rw [show a * 7 + (m + 1) = a * 7 + m + 1 by omega, HST.out HV.out, sv_snoc, List.length_append]
                  exact hown1
                · have hbb : Below W.heap.size W w1 := Fr.below (bs := []) ((Fr.of_below HE.out.2).trans (Fr.of_below (bs := []) HB1.out) (by simp)) (Nat.le_refl _) (by simp)
                  exact (hbb.alloc (by have := hbb.size; omega) _).grown hgrow (by have := hbb.size; simp; omega) (fun b hb => ((HO1.out).lt b hb).1)
          · have e7 : m = 7 := by omega
            subst e7
            have HK1 : Hid ((((5 - (a + 1) : Nat) : Int) - 1) = (i : Int) - 1) := by unfold Hid; have := HI.out; omega
            go_wp2
            go_roundg (5 - (a + 1))
            case measure => omega
            case rel => exact ⟨a + 1, rfl, by omega, by rw [HK1.out], by rw [show (a + 1) * 7 = a * 7 + 7 by omega]; exact HE⟩
      · have e5 : a = 5 := by omega
        subst e5
        have HO : Hid (wr.ownsRow W.heap.size 9 1 u3 (tms p 35).length (sv (tms p 35))) := HD.out.1
        have HB := hidT HD.out.2
        clear HD
        obtain ⟨g, cap, hu3, hglt, hcap, hcells⟩ := own_slice HO.out HT.out
        subst hu3
        have HJ := hidT (join_to (tms p 35) g cap wr hcells hglt hcap (tms_len p 35) (by rw [← wrt_join]; exact wrt_len p 35))
        rw [← HTX.out] at HJ
        clear HTX hcells
        generalize (tms p 35).length = N at *
        go_wp2_with (go_at_call 30; refine HJ.out.mono ?_; rintro e w1 ⟨rfl, hb1⟩)
        go_ret
        refine ⟨rfl, ?_⟩
        exact Fr.below (bs := []) (((Fr.of_below BW.out).trans (Fr.of_below (bs := []) HB.out) (by simp)).trans (Fr.of_below (bs := []) hb1) (by simp)) (Nat.le_refl _) (by simp)
end Go.Proofs.YtaajdcaciofmaaaDoor
/- THE PROGRAM's Value of a polynomial. -/
namespace Go.Proofs.YtaajdcaciofmaaaDoor
open Go.RowKit

theorem prod_bd {a b : Nat} (ha : a < 7) (hb : b < 7) : 0 ≤ (a : Int) * (b : Int) ∧ (a : Int) * (b : Int) ≤ 36 := by
  have h := Nat.mul_le_mul (show a ≤ 6 by omega) (show b ≤ 6 by omega)
  have h1 : ((a * b : Nat) : Int) ≤ ((6 * 6 : Nat) : Int) := by exact_mod_cast h
  have h2 : (0 : Int) ≤ ((a * b : Nat) : Int) := by omega
  rw [Int.natCast_mul] at h1 h2
  exact ⟨h2, by omega⟩
theorem hidV {p : Prop} (h : p) : Hid p := h

set_option maxRecDepth 100000 in
set_option maxHeartbeats 2000000 in
theorem pVal_any (p : List Nat) (U X : Int) (a b : Nat) (w : World) (hp : Good p) (hU : U % 7 = a) (hX : X % 7 = b) (ha : a < 7) (hb : b < 7) :
    Calls Tryd.prog 19 #[.agg (pv p), .int .i64 U, .int .i64 X] w fun e w' => e = .returned (.int .i64 (valP p a b)) ∧ Below w.heap.size w w' := by
  have HU := hidV hU
  have HX := hidV hX
  clear hU hX
  go_enter Tryd.func19, Tryd.ntmps19
  go_wp2_with fail
  refine (Mod_any U _).mono ?_
  rintro e w1 ⟨rfl, rfl⟩
  rw [HU.out]
  go_wp2_with fail
  refine (Mod_any X _).mono ?_
  rintro e w2 ⟨rfl, rfl⟩
  rw [HX.out]
  go_wp2
  go_loop [7, 8] (fun v7 v8 => ∃ k : Nat, k ≤ 5 ∧ v8 = .int .i64 (((5 - k : Nat) : Int) - 1) ∧ v7 = .int .i64 (horn (fun i => horn (fun j => p.getD (i * 7 + j) 0) 7 a 7) 5 b k)) (fun _ v8 => (intOf v8 + 1).toNat)
  case atStart => exact ⟨0, by omega, rfl, rfl⟩
  case round =>
    obtain ⟨k, hk, rfl, rfl⟩ := hrel
    have hlt := horn_lt (fun i => horn (fun j => p.getD (i * 7 + j) 0) 7 a 7) 5 b k
    by_cases h5 : k < 5
    · obtain ⟨i, hi⟩ : ∃ i : Nat, 5 - k = i + 1 := ⟨4 - k, by omega⟩
      have hi4 : i < 5 := by omega
      have e : (((5 - k : Nat) : Int) - 1) = (i : Int) := by omega
      rw [e]
      have HST : Hid (horn (fun i => horn (fun j => p.getD (i * 7 + j) 0) 7 a 7) 5 b (k + 1) = (horn (fun i => horn (fun j => p.getD (i * 7 + j) 0) 7 a 7) 5 b k * b + horn (fun j => p.getD (i * 7 + j) 0) 7 a 7) % 7) := by
        unfold Hid
        rw [horn, show 5 - 1 - k = i by omega]
      have HK1 : Hid ((((5 - (k + 1) : Nat) : Int) - 1) = (i : Int) - 1) := by unfold Hid; omega
      clear e hi
      generalize horn (fun i => horn (fun j => p.getD (i * 7 + j) 0) 7 a 7) 5 b k = H at *
      have hpb := prod_bd hlt hb
      go_wp2
      go_loop [9, 10] (fun v9 v10 => ∃ m : Nat, m ≤ 7 ∧ v10 = .int .i64 (((7 - m : Nat) : Int) - 1) ∧ v9 = .int .i64 (horn (fun j => p.getD (i * 7 + j) 0) 7 a m)) (fun _ v10 => (intOf v10 + 1).toNat)
      case atStart => exact ⟨0, by omega, rfl, rfl⟩
      case round =>
        obtain ⟨m, hm, rfl, rfl⟩ := hrel
        have hlt2 := horn_lt (fun j => p.getD (i * 7 + j) 0) 7 a m
        by_cases h7 : m < 7
        · obtain ⟨j, hj⟩ : ∃ j : Nat, 7 - m = j + 1 := ⟨6 - m, by omega⟩
          have hj6 : j < 7 := by omega
          have e2 : (((7 - m : Nat) : Int) - 1) = (j : Int) := by omega
          rw [e2]
          have HS2 : Hid (horn (fun j => p.getD (i * 7 + j) 0) 7 a (m + 1) = (horn (fun j => p.getD (i * 7 + j) 0) 7 a m * a + p.getD (i * 7 + j) 0) % 7) := by
            unfold Hid
            rw [horn, show 7 - 1 - m = j by omega]
          have HM1 : Hid ((((7 - (m + 1) : Nat) : Int) - 1) = (j : Int) - 1) := by unfold Hid; omega
          clear e2 hj
          generalize horn (fun j => p.getD (i * 7 + j) 0) 7 a m = G at *
          have hq : i * 7 + j < p.length := by rw [hp.1]; omega
          have hcell := pv_get hq
          have hv7 := hp.2 (i * 7 + j)
          generalize p.getD (i * 7 + j) 0 = v at *
          have hpb2 := prod_bd hlt2 ha
          have i0 : (0 : Int) ≤ (i : Int) := by omega
          have i1 : (i : Int) < 5 := by omega
          have j0 : (0 : Int) ≤ (j : Int) := by omega
          have j1 : (j : Int) < 7 := by omega
          have hc : (w.alloc (.cells (pv p) 37)).cell? ⟨w.heap.size, i * 7 + j, none⟩ = some (.int .i64 v) := by rw [(Blk.new w _ _).cell]; exact hcell
          clear hcell
          go_wp2_with fail
          refine (Mod_any _ _).mono ?_
          rintro e w3 ⟨rfl, rfl⟩
          go_wp2
          go_round
          case rel =>
            refine ⟨m + 1, by omega, ?_, ?_⟩
            · rw [HM1.out]
            · rw [HS2.out]; simp
          case measure => simp [intOf]
        · have e7 : m = 7 := by omega
          subst e7
          have hlt3 := horn_lt (fun j => p.getD (i * 7 + j) 0) 7 a 7
          generalize horn (fun j => p.getD (i * 7 + j) 0) 7 a 7 = G at *
          go_wp2_with fail
          refine (Mod_any _ _).mono ?_
          rintro e w3 ⟨rfl, rfl⟩
          go_wp2
          go_round
          case rel =>
            refine ⟨k + 1, by omega, ?_, ?_⟩
            · rw [HK1.out]
            · rw [HST.out]; simp
          case measure => simp [intOf]
    · have e5 : k = 5 := by omega
      subst e5
      go_wp2
      go_ret
      exact ⟨rfl, by go_grown⟩
end Go.Proofs.YtaajdcaciofmaaaDoor
/- THE DOCUMENT's worth and at. -/
namespace Go.Proofs.YtaajdcaciofmaaaDoor
open Go.RowKit

def lst (g : Nat → Nat) : List Nat := [g 0, g 1, g 2, g 3, g 4]
theorem lst_get (g : Nat → Nat) {i : Nat} (h : i < 5) : (lst g).getD i 0 = g i := by
  match i, h with
  | 0, _ => rfl
  | 1, _ => rfl
  | 2, _ => rfl
  | 3, _ => rfl
  | 4, _ => rfl
theorem lst_set (g d : Nat → Nat) {k v : Nat} (hk : k < 5) (hv : d k = v) (ho : ∀ i, i ≠ k → d i = g i) : (lst g).set k v = lst d := by
  subst hv
  unfold lst
  match k, hk with
  | 0, _ => simp [ho 1, ho 2, ho 3, ho 4]
  | 1, _ => simp [ho 0, ho 2, ho 3, ho 4]
  | 2, _ => simp [ho 0, ho 1, ho 3, ho 4]
  | 3, _ => simp [ho 0, ho 1, ho 2, ho 4]
  | 4, _ => simp [ho 0, ho 1, ho 2, ho 3]
theorem lst_congr {g d : Nat → Nat} (h : ∀ i, i < 5 → g i = d i) : lst g = lst d := by
  unfold lst; rw [h 0 (by omega), h 1 (by omega), h 2 (by omega), h 3 (by omega), h 4 (by omega)]
theorem size_line {l : List Nat} (hl : l.length = 5) : (Tryd.prog.info? 47).map (·.size) = some (pv l).size := by rw [pv_size, hl]; kernel_rfl

set_option maxRecDepth 100000 in
set_option maxHeartbeats 2000000 in
theorem worth_any (l : List Nat) (b : Nat) (B : Int) (w : World) (hl : l.length = 5) (hl7 : ∀ i, l.getD i 0 < 7) (hB : B = b) (hb : b < 7) :
    Calls Tryd.prog 20 #[.agg (pv l), .int .i64 B] w fun e w' => e = .returned (.int .i64 (valL l b)) ∧ Below w.heap.size w w' := by
  subst hB
  unfold valL
  go_enter Tryd.func20, Tryd.ntmps20
  go_wp2
  refine wp_forget (fun W => Blk W w.heap.size (pv l) 47 ∧ Below w.heap.size w W) ⟨Blk.new w _ _, by go_grown⟩ ?_
  rintro W ⟨b1, hbel⟩
  have B1 := hidV b1
  have BB := hidV hbel
  clear b1 hbel
  go_loopg [5, 6] 5 (fun gm v5 v6 wr => ∃ k : Nat, gm = 5 - k ∧ k ≤ 5 ∧ v6 = .int .i64 k ∧ v5 = .int .i64 (pows (fun i => l.getD i 0) b k) ∧ Hid (Blk wr w.heap.size (pv l) 47 ∧ Below w.heap.size w wr))
  case atStart => exact ⟨0, rfl, by omega, rfl, rfl, ⟨B1.out, BB.out⟩⟩
  case round =>
    obtain ⟨k, hgm, hk, rfl, rfl, HD⟩ := hrel
    have B2 := hidV HD.out.1
    have BB2 := hidV HD.out.2
    clear HD B1 BB
    clear W
    have hlt := pows_lt (fun i => l.getD i 0) b k
    by_cases h5 : k < 5
    · have HS : Hid (pows (fun i => l.getD i 0) b (k + 1) = (pows (fun i => l.getD i 0) b k + l.getD k 0 * pw7 b k) % 7) := rfl
      generalize pows (fun i => l.getD i 0) b k = G at *
      have hq : k < l.length := by omega
      have hcell := pv_get hq
      have hv7 := hl7 k
      generalize l.getD k 0 = v at *
      have hpw := pw7_lt b k
      have hpb := prod_bd hv7 hpw
      have i0 : (0 : Int) ≤ (k : Int) := by omega
      have i1 : (k : Int) < 5 := by omega
      have hc : wr.cell? ⟨w.heap.size, k, none⟩ = some (.int .i64 v) := by rw [B2.out.cell]; exact hcell
      clear hcell
      go_wp2
      go_quiet ((go_at_call 36; exact Calls.quiet_of_same (raised_any b k _ _ _ rfl rfl hb (by omega))))
      go_wp2
      go_roundg (5 - (k + 1))
      case measure => omega
      case rel => exact ⟨k + 1, rfl, by omega, by go_num, by rw [HS.out]; simp, ⟨B2.out, below_drewN BB2.out _⟩⟩
    · have e5 : k = 5 := by omega
      subst e5
      go_wp2
      go_ret
      exact ⟨rfl, BB2.out⟩
end Go.Proofs.YtaajdcaciofmaaaDoor
/- THE DOCUMENT's at. -/
namespace Go.Proofs.YtaajdcaciofmaaaDoor
open Go.RowKit

def rowN (p : List Nat) (i : Nat) : Nat → Nat := fun j => p.getD (i * 7 + j) 0
def atG (p : List Nat) (a k m i : Nat) : Nat := if i < k then pows (rowN p i) a 7 else if i = k then pows (rowN p i) a m else 0
theorem atG_lt (p : List Nat) (a k m i : Nat) : atG p a k m i < 7 := by
  unfold atG; split
  · exact pows_lt _ _ _
  · split
    · exact pows_lt _ _ _
    · omega
theorem atG_roll (p : List Nat) (a k : Nat) : lst (atG p a k 7) = lst (atG p a (k + 1) 0) := by
  apply lst_congr
  intro i _
  unfold atG
  by_cases h1 : i < k
  · rw [if_pos h1, if_pos (by omega)]
  · rw [if_neg h1]
    by_cases h2 : i = k
    · rw [if_pos h2, if_pos (by omega)]
    · rw [if_neg h2, if_neg (by omega)]
      split <;> simp [pows]
theorem atG_step (p : List Nat) (a k m : Nat) (hk : k < 5) : (lst (atG p a k m)).set k (pows (rowN p k) a (m + 1)) = lst (atG p a k (m + 1)) := by
  apply lst_set _ _ hk
  · unfold atG; rw [if_neg (by omega), if_pos rfl]
  · intro i hi; unfold atG; simp [hi]
theorem atG_end (p : List Nat) (a : Nat) : lst (atG p a 5 0) = lineR p a := rfl
theorem atG_zero (p : List Nat) (a : Nat) : lst (atG p a 0 0) = [0, 0, 0, 0, 0] := rfl
theorem atG_at (p : List Nat) (a k m : Nat) (hk : k < 5) : (lst (atG p a k m)).getD k 0 = pows (rowN p k) a m := by
  rw [lst_get _ hk]; unfold atG; rw [if_neg (by omega), if_pos rfl]
theorem lst_len (g : Nat → Nat) : (lst g).length = 5 := rfl

set_option maxRecDepth 100000 in
set_option maxHeartbeats 2000000 in
theorem at_any (p : List Nat) (a : Nat) (A : Int) (w : World) (hp : Good p) (hA : A = a) (ha : a < 7) :
    Calls Tryd.prog 21 #[.agg (pv p), .int .i64 A] w fun e w' => e = .returned (.agg (pv (lineR p a))) ∧ Below w.heap.size w w' := by
  subst hA
  rw [← atG_end]
  go_enter Tryd.func21, Tryd.ntmps21
  go_wp2
  refine wp_forget (fun W => Blk W w.heap.size (pv p) 41 ∧ Blk W (w.heap.size + 1) (pv [0, 0, 0, 0, 0]) 47 ∧ Blk W (w.heap.size + 1 + 1) (pv [0, 0, 0, 0, 0]) 47 ∧ Below w.heap.size w W) ⟨Blk.alloc (Blk.alloc (Blk.new w _ _) _) _, Blk.alloc (Blk.newAt _ _ _ (by simp)) _, Blk.newAt _ _ _ (by simp), by go_grown⟩ ?_
  rintro W ⟨b1, b2, b3, hbel⟩
  have HH := hidV (And.intro b1 (And.intro b2 (And.intro b3 hbel)))
  clear b1 b2 b3 hbel
  go_loopg [6] 5 (fun gm v6 wr => ∃ k : Nat, gm = 5 - k ∧ k ≤ 5 ∧ v6 = .int .i64 k ∧ Hid (Blk wr w.heap.size (pv p) 41 ∧ Blk wr (w.heap.size + 1) (pv [0, 0, 0, 0, 0]) 47 ∧ Blk wr (w.heap.size + 1 + 1) (pv (lst (atG p a k 0))) 47 ∧ Below w.heap.size w wr))
  case atStart => exact ⟨0, rfl, by omega, rfl, HH⟩
  case round =>
    obtain ⟨k, hgm, hk, rfl, HD⟩ := hrel
    clear HH W
    by_cases h5 : k < 5
    · have i0 : (0 : Int) ≤ (k : Int) := by omega
      have i1 : (k : Int) < 5 := by omega
      go_wp2
      go_loopg [7] 7 (fun gm v7 ws => ∃ m : Nat, gm = 7 - m ∧ m ≤ 7 ∧ v7 = .int .i64 m ∧ Hid (Blk ws w.heap.size (pv p) 41 ∧ Blk ws (w.heap.size + 1) (pv [0, 0, 0, 0, 0]) 47 ∧ Blk ws (w.heap.size + 1 + 1) (pv (lst (atG p a k m))) 47 ∧ Below w.heap.size w ws))
      case atStart => exact ⟨0, rfl, by omega, rfl, HD⟩
      case round =>
        obtain ⟨m, hgm2, hm, rfl, HE⟩ := hrel
        clear HD
        by_cases h7 : m < 7
        · have HS : Hid (pows (rowN p k) a (m + 1) = (pows (rowN p k) a m + rowN p k m * pw7 a m) % 7) := rfl
          have HST := hidV (atG_step p a k m h5)
          have hlt := pows_lt (rowN p k) a m
          have hg5 := atG_at p a k m h5
          have hq1 : k < (lst (atG p a k m)).length := by rw [lst_len]; exact h5
          have hcell1 := pv_get hq1
          rw [hg5] at hcell1
          have hq : k * 7 + m < p.length := by rw [hp.1]; omega
          have hcell := pv_get hq
          have hv7 : rowN p k m < 7 := hp.2 (k * 7 + m)
          have hc : wr.cell? ⟨w.heap.size, k * 7 + m, none⟩ = some (.int .i64 (rowN p k m)) := by rw [HE.out.1.cell]; exact hcell
          have hc1 : wr.cell? ⟨w.heap.size + 1 + 1, k, none⟩ = some (.int .i64 (pows (rowN p k) a m)) := by rw [HE.out.2.2.1.cell]; exact hcell1
          have hc2 : wr.frozen? ⟨w.heap.size + 1 + 1, k, none⟩ = false := HE.out.2.2.1.frozen _
          have hpw := pw7_lt a m
          have hpb := prod_bd hv7 hpw
          have j0 : (0 : Int) ≤ (m : Int) := by omega
          have j1 : (m : Int) < 7 := by omega
          clear hcell hcell1 hg5 hq1
          generalize rowN p k m = v at *
          generalize pows (rowN p k) a m = G at *
          go_wp2
          refine region_quiet_tail 16 (by kernel_rfl) (by kernel_rfl) ?_
          simp only [List.take_succ_cons, List.take_zero, List.drop_succ_cons, List.drop_zero]
          repeat (first | go_big_quiet_step ((go_at_call 36; exact Calls.quiet_of_same (raised_any a m _ _ _ rfl rfl ha (by omega)))) | quiet_step ((go_at_call 36; exact Calls.quiet_of_same (raised_any a m _ _ _ rfl rfl ha (by omega)))))
          refine wpQuiet_nil ?_
          rintro _ ⟨nq, rfl⟩
          go_wp2
          go_roundg (7 - (m + 1))
          case measure => omega
          case rel =>
            refine ⟨m + 1, rfl, by omega, by go_num, ⟨?_, ?_, ?_, ?_⟩⟩
            · exact Blk.setOther (by exact HE.out.1) _ _ (by show ¬ w.heap.size = w.heap.size + 1 + 1; omega)
            · exact Blk.setOther (by exact HE.out.2.1) _ _ (by show ¬ w.heap.size + 1 = w.heap.size + 1 + 1; omega)
            · rw [← HST.out, HS.out]
              exact Blk.putN (by exact HE.out.2.2.1) _ _ _ (by simp)
            · exact Below.setCell (below_drewN HE.out.2.2.2 nq) (by show w.heap.size ≤ w.heap.size + 1 + 1; omega) _
        · have e7 : m = 7 := by omega
          subst e7
          go_wp2
          go_roundg (5 - (k + 1))
          case measure => omega
          case rel => exact ⟨k + 1, rfl, by omega, by go_num, by rw [← atG_roll]; exact HE⟩
    · have e5 : k = 5 := by omega
      subst e5
      have hsz := size_line (lst_len (atG p a 5 0))
      go_wp2_with (first | (refine wpList_load_row (by rfl) 47 _ (by rfl) (w.heap.size + 1 + 1) (by rfl) 47 (pv (lst (atG p a 5 0))) (0, 0) _ (by exact HD.out.2.2.1) Tryd.underlying47 (by rfl) hsz ?_) | (refine wpList_store_mid (by rfl) 47 _ _ (by rfl) (w.heap.size + 1) 0 (pv (lst (atG p a 5 0))) (by rfl) (by rfl) (by exact Blk.there HD.out.2.1 (by rw [pv_size, pv_size, lst_len]; exact Nat.le_refl _)) hsz (pv_one _) ?_))
      refine bodyPost_ret (results_cell_row Tryd.results21 _ _ (w.heap.size + 1) 47 (pv (lst (atG p a 5 0))) (0, 0) _ (by rfl) (Blk.setAll (by exact HD.out.2.1) _ (by rw [pv_size, pv_size, lst_len]; rfl)) Tryd.underlying47 rfl hsz) rfl ⟨rfl, ?_⟩
      exact Below.setCells (by exact HD.out.2.2.2) _ _ _ (by omega)
end Go.Proofs.YtaajdcaciofmaaaDoor
