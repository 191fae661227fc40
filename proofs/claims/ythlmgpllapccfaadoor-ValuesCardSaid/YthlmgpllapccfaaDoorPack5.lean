import Derived.Test.YthlmgpllapccfaaDoorPack4
import Derived.Test.YthlmgpllapccfaaDoorRows
import Derived.ChangeSame
import Derived.ChangeVars
import Derived.JoinedOf
import Derived.RowKit
import Derived.RowKitTokens
import Derived.LaidLaws
import Derived.LaidHandle
import Derived.SizedLaws
import Derived.Stop.Joined
import Derived.Test.YthlmgpllapccfaaDoorTie
import Derived.Test.YthlmgpllapccfaaDoorCards
import Derived.SevenTiedAt
import Derived.ProofKit
import Derived.ChangeMaps5
/- THE DOCUMENT's ANSWER: read. -/
namespace Go.Proofs.YthlmgpllapccfaaDoor
open Go.RowKit

theorem run_st0 (w : World) (b n : Nat) (cells : Array Value) (l : List Value) (hl : cells.toList = l) (hn : cells.size = n) (h : w.there b 0 n) (hi : (Tryd.prog.info? 41).map (·.size) = some n) (h1 : cells.all (·.oneCell') = true) :
    (Instr.storeAt 41 (.pointer (some ⟨b, 0, none⟩)) (.agg cells)).run Tryd.prog w = .ok () (w.setCells b 0 l) := by
  subst hl hn
  exact run_storeAt_mid w b 0 41 cells h hi h1
/-- The store of a whole polynomial, under a name that the walk does not open. -/
def stPoly (x y : Value) : Sem Unit := Instr.storeAt 41 x y
theorem stPoly_eq (x y : Value) : Instr.storeAt 41 x y = stPoly x y := rfl
set_option maxRecDepth 100000 in
theorem run_st (w : World) (b : Nat) (z : Array Value) (hz : z = pv zeros) (h : w.there b 0 35) : (stPoly (.pointer (some ⟨b, 0, none⟩)) (.agg #[.int .i64 0, .int .i64 0, .int .i64 0, .int .i64 0, .int .i64 0, .int .i64 0, .int .i64 0, .int .i64 0, .int .i64 0, .int .i64 0, .int .i64 0, .int .i64 0, .int .i64 0, .int .i64 0, .int .i64 0, .int .i64 0, .int .i64 0, .int .i64 0, .int .i64 0, .int .i64 0, .int .i64 0, .int .i64 0, .int .i64 0, .int .i64 0, .int .i64 0, .int .i64 0, .int .i64 0, .int .i64 0, .int .i64 0, .int .i64 0, .int .i64 0, .int .i64 0, .int .i64 0, .int .i64 0, .int .i64 0])).run Tryd.prog w = .ok () (w.setCells b 0 z.toList) := by
  rw [hz]
  exact run_st0 w b 35 _ _ lit_zeros (by kernel_rfl) h (by kernel_rfl) (by kernel_rfl)
attribute [local go_sem ↓] stPoly_eq

theorem results_read (tmps : Array Value) (w : World) (g1 : Nat) (p : List Nat) (h1 : tmps.getD 2 undef = .pointer (some ⟨g1, 0, none⟩)) (hp : Good p) (b1 : Blk w g1 (pv p) 41) :
    (results Tryd.f17 tmps).run Tryd.prog w = .ok (.tuple #[.agg (pv p), tmps.getD 3 undef, tmps.getD 4 undef]) w := by
  have l1 := run_loadVar_row (P := Tryd.prog) w g1 41 41 (pv p) (0, 0) _ b1 Tryd.underlying41 rfl (size_rPoly hp)
  have h1' : tmps[2]?.getD undef = .pointer (some ⟨g1, 0, none⟩) := by simpa using h1
  simp [results, Tryd.results17, h1', asAddr, l1]

set_option maxRecDepth 100000 in
set_option maxHeartbeats 2000000 in
theorem read_long (s : ByteArray) (w : World) (hl : 90 < s.size) (hm : s.size ≤ 140737488351232) :
    Calls Tryd.prog 17 #[.string s] w fun e w' => e = .returned (.tuple #[.agg (pv zeros), .int .i64 2, .int .i64 0]) ∧ Below w.heap.size w w' := by
  have h' : ((s.size : Nat) : Int) > 90 := by omega
  obtain ⟨z, HZ⟩ : ∃ z, Hid (z = pv zeros) := ⟨_, rfl⟩
  have hzs : z.size = 35 := by rw [HZ.out]; rfl
  have hsz : (Tryd.prog.info? 41).map (·.size) = some z.size := by rw [HZ.out]; exact size_rPoly zeros_good
  have hon : z.all (·.oneCell') = true := by rw [HZ.out]; exact pv_one _
  go_enter Tryd.func17, Tryd.ntmps17
  go_upto_region 2 with fail
  refine wp_forget (fun W => Blk W w.heap.size (pv zeros) 41 ∧ Below w.heap.size w W) ⟨Blk.new w _ _, by go_grown⟩ ?_
  rintro W ⟨b1, hb⟩
  have HTH := hideR (Blk.there b1 (show z.size ≤ (pv zeros).size by rw [hzs]; decide))
  have B1 := hideR b1
  clear b1
  go_wp2_with (refine wpList_store_mid (by rfl) 41 _ (.tmp 10) (by rfl) w.heap.size 0 z (by rfl) (by rw [HZ.out]; rfl) HTH.out hsz hon ?_)
  have b2 : Blk (W.setCells w.heap.size 0 z.toList) w.heap.size (pv zeros) 41 := by rw [← HZ.out]; exact Blk.setAll B1.out _ (by rw [hzs]; rfl)
  refine bodyPost_ret (results_read _ _ w.heap.size zeros (by rfl) zeros_good b2) rfl ⟨rfl, ?_⟩
  exact Below.setCells hb _ _ _ (Nat.le_refl _)

set_option maxRecDepth 100000 in
set_option maxHeartbeats 4000000 in
theorem read_short (s : ByteArray) (w : World) (hl : ¬ 90 < s.size) :
    Calls Tryd.prog 17 #[.string s] w fun e w' => e = .returned (.tuple #[.agg (pv (rd s).p), .int .i64 (rd s).e, .int .i64 (rd s).bad]) ∧ Good (rd s).p ∧ Below w.heap.size w w' := by
  generalize hrr : rd s = RR
  have HRR := hideR hrr
  clear hrr
  obtain ⟨z, HZ⟩ : ∃ z, Hid (z = pv zeros) := ⟨_, rfl⟩
  have hzs : z.size = 35 := by rw [HZ.out]; rfl
  have hsz : (Tryd.prog.info? 41).map (·.size) = some z.size := by rw [HZ.out]; exact size_rPoly zeros_good
  have hon : z.all (·.oneCell') = true := by rw [HZ.out]; exact pv_one _
  have hl' : ¬ (90 : Int) < ((s.size : Nat) : Int) := by omega
  go_enter Tryd.func17, Tryd.ntmps17
  go_upto_region 3 with fail
  refine wp_forget (fun W => Blk W w.heap.size (pv zeros) 41 ∧ Below w.heap.size w W) ⟨Blk.new w _ _, by go_grown⟩ ?_
  rintro W ⟨b1, hbW⟩
  have hwl := Blk.lt b1
  have B1 := hideR b1
  have BW := hideR hbW
  clear b1 hbW
  go_wp2_with fail
  refine (cut_plain s _ (by omega)).mono ?_
  rintro e w1 ⟨n, g, cap, rfl, hn, hc1, hc2, hown, hgb, hbel⟩
  have HT1 := hideR (Tk.of_owns hown)
  have hg1 : g < w1.heap.size := HT1.out.1
  have BR1 : Hid (Blk w1 w.heap.size (pv zeros) 41) := B1.out.fr (Fr.of_below (bs := []) hbel) (by simp)
  have F1 : Hid (Fr [] W w1) := Fr.of_below hbel
  have hwl1 := Blk.lt BR1.out
  have hend : ∀ j, j < n + 1 → (tk s 0 j).c ≠ 0 → j + 1 < n + 1 := fun j hj hne => by
    by_cases q : j = n
    · subst q; exact absurd hc2 hne
    · omega
  have hv : ∀ j, (tk s 0 j).v ≤ 99 := fun j => (tk_facts (Nat.zero_le _) j).2.2.1
  clear hown hbel hc1 hc2
  have HEND := hideR hend
  have HV := hideR hv
  clear hend hv
  have HW1 : Hid (Wy (w1.alloc (.cells #[.slice (some ⟨g, 0, none⟩) (n + 1) cap, .int .i64 0, .int .i64 0, .int .i64 0, .int .i64 0] 71)) w1.heap.size g (n + 1) cap 0 0 0 0) := Blk.new w1 _ _
  have HT2 : Hid (Tk (w1.alloc (.cells #[.slice (some ⟨g, 0, none⟩) (n + 1) cap, .int .i64 0, .int .i64 0, .int .i64 0, .int .i64 0] 71)) g (n + 1) (tk s 0)) := HT1.out.fr ((Fr.refl [] w1).alloc _) (by simp)
  have BR2 : Hid (Blk (w1.alloc (.cells #[.slice (some ⟨g, 0, none⟩) (n + 1) cap, .int .i64 0, .int .i64 0, .int .i64 0, .int .i64 0] 71)) w.heap.size (pv zeros) 41) := Blk.alloc BR1.out _
  have F2 : Hid (Fr [] W (w1.alloc (.cells #[.slice (some ⟨g, 0, none⟩) (n + 1) cap, .int .i64 0, .int .i64 0, .int .i64 0, .int .i64 0] 71))) := F1.out.alloc _
  have nrb : ¬ w.heap.size = w1.heap.size := by omega
  by_cases he : (poly (tk s 0) false s.size 0).e = 0
  · go_wp2_with fail
    refine (wpoly_ok (tk s 0) s.size w1.heap.size g (n + 1) cap 0 false 0 0 _ HW1.out HT2.out (by omega) (by omega) (by omega) HEND.out HV.out (by omega) he).mono ?_
    rintro e w2 ⟨rfl, hgp, hw2, hkk, hfr2⟩
    have BR3 : Hid (Blk w2 w.heap.size (pv zeros) 41) := BR2.out.fr hfr2 (by simp [nrb])
    have HT3 : Hid (Tk w2 g (n + 1) (tk s 0)) := HT2.out.fr hfr2 (by simp; omega)
    have HW3 := hideR hw2
    have F3 : Hid (Fr [] W w2) := F2.out.trans hfr2 (by have := F1.out.size; simp; omega)
    have hs2 := hfr2.size
    simp at hs2
    clear hw2 hfr2
    generalize hPP : poly (tk s 0) false s.size 0 = PP at *
    have HPP := hideR hPP
    have HE := hideR he
    clear hPP he
    have HTH : Hid ((w2.alloc (.cells #[.int .i64 0, .int .i64 0, .int .i64 0, .int .i64 0, .int .i64 0, .int .i64 0, .int .i64 0, .int .i64 0, .int .i64 0, .int .i64 0, .int .i64 0, .int .i64 0, .int .i64 0, .int .i64 0, .int .i64 0, .int .i64 0, .int .i64 0, .int .i64 0, .int .i64 0, .int .i64 0, .int .i64 0, .int .i64 0, .int .i64 0, .int .i64 0, .int .i64 0, .int .i64 0, .int .i64 0, .int .i64 0, .int .i64 0, .int .i64 0, .int .i64 0, .int .i64 0, .int .i64 0, .int .i64 0, .int .i64 0] 41)).there w2.heap.size 0 (pv PP.p).size) := Blk.there (Blk.new w2 _ _) (by rw [pv_size, hgp.1]; decide)
    go_wp2_with (refine wpList_store_mid (by rfl) 41 _ (.tmp 16) (by rfl) w2.heap.size 0 (pv PP.p) (by rfl) (by rfl) HTH.out (size_rPoly hgp) (pv_one _) ?_)
    have HW5 : Hid (Wy ((w2.alloc (.cells #[.int .i64 0, .int .i64 0, .int .i64 0, .int .i64 0, .int .i64 0, .int .i64 0, .int .i64 0, .int .i64 0, .int .i64 0, .int .i64 0, .int .i64 0, .int .i64 0, .int .i64 0, .int .i64 0, .int .i64 0, .int .i64 0, .int .i64 0, .int .i64 0, .int .i64 0, .int .i64 0, .int .i64 0, .int .i64 0, .int .i64 0, .int .i64 0, .int .i64 0, .int .i64 0, .int .i64 0, .int .i64 0, .int .i64 0, .int .i64 0, .int .i64 0, .int .i64 0, .int .i64 0, .int .i64 0, .int .i64 0] 41)).setCells w2.heap.size 0 (pv PP.p).toList) w1.heap.size g (n + 1) cap PP.k 0 0 0) := Blk.setCellsOther (Blk.alloc HW3.out _) _ _ _ (by omega)
    have FF : Hid (Fr [] w2 ((w2.alloc (.cells #[.int .i64 0, .int .i64 0, .int .i64 0, .int .i64 0, .int .i64 0, .int .i64 0, .int .i64 0, .int .i64 0, .int .i64 0, .int .i64 0, .int .i64 0, .int .i64 0, .int .i64 0, .int .i64 0, .int .i64 0, .int .i64 0, .int .i64 0, .int .i64 0, .int .i64 0, .int .i64 0, .int .i64 0, .int .i64 0, .int .i64 0, .int .i64 0, .int .i64 0, .int .i64 0, .int .i64 0, .int .i64 0, .int .i64 0, .int .i64 0, .int .i64 0, .int .i64 0, .int .i64 0, .int .i64 0, .int .i64 0] 41)).setCells w2.heap.size 0 (pv PP.p).toList)) := ((Fr.refl [] w2).alloc _).setCells _ _ _ (by simp)
    have HT5 : Hid (Tk ((w2.alloc (.cells #[.int .i64 0, .int .i64 0, .int .i64 0, .int .i64 0, .int .i64 0, .int .i64 0, .int .i64 0, .int .i64 0, .int .i64 0, .int .i64 0, .int .i64 0, .int .i64 0, .int .i64 0, .int .i64 0, .int .i64 0, .int .i64 0, .int .i64 0, .int .i64 0, .int .i64 0, .int .i64 0, .int .i64 0, .int .i64 0, .int .i64 0, .int .i64 0, .int .i64 0, .int .i64 0, .int .i64 0, .int .i64 0, .int .i64 0, .int .i64 0, .int .i64 0, .int .i64 0, .int .i64 0, .int .i64 0, .int .i64 0] 41)).setCells w2.heap.size 0 (pv PP.p).toList) g (n + 1) (tk s 0)) := HT3.out.fr FF.out (by simp)
    have BR5 : Hid (Blk ((w2.alloc (.cells #[.int .i64 0, .int .i64 0, .int .i64 0, .int .i64 0, .int .i64 0, .int .i64 0, .int .i64 0, .int .i64 0, .int .i64 0, .int .i64 0, .int .i64 0, .int .i64 0, .int .i64 0, .int .i64 0, .int .i64 0, .int .i64 0, .int .i64 0, .int .i64 0, .int .i64 0, .int .i64 0, .int .i64 0, .int .i64 0, .int .i64 0, .int .i64 0, .int .i64 0, .int .i64 0, .int .i64 0, .int .i64 0, .int .i64 0, .int .i64 0, .int .i64 0, .int .i64 0, .int .i64 0, .int .i64 0, .int .i64 0] 41)).setCells w2.heap.size 0 (pv PP.p).toList) w.heap.size (pv zeros) 41) := BR3.out.fr FF.out (by simp)
    have BS5 : Hid (Blk ((w2.alloc (.cells #[.int .i64 0, .int .i64 0, .int .i64 0, .int .i64 0, .int .i64 0, .int .i64 0, .int .i64 0, .int .i64 0, .int .i64 0, .int .i64 0, .int .i64 0, .int .i64 0, .int .i64 0, .int .i64 0, .int .i64 0, .int .i64 0, .int .i64 0, .int .i64 0, .int .i64 0, .int .i64 0, .int .i64 0, .int .i64 0, .int .i64 0, .int .i64 0, .int .i64 0, .int .i64 0, .int .i64 0, .int .i64 0, .int .i64 0, .int .i64 0, .int .i64 0, .int .i64 0, .int .i64 0, .int .i64 0, .int .i64 0] 41)).setCells w2.heap.size 0 (pv PP.p).toList) w2.heap.size (pv PP.p) 41) := Blk.setAll (Blk.new w2 _ _) _ (by rw [pv_size, hgp.1]; rfl)
    have F5 : Hid (Fr [] W ((w2.alloc (.cells #[.int .i64 0, .int .i64 0, .int .i64 0, .int .i64 0, .int .i64 0, .int .i64 0, .int .i64 0, .int .i64 0, .int .i64 0, .int .i64 0, .int .i64 0, .int .i64 0, .int .i64 0, .int .i64 0, .int .i64 0, .int .i64 0, .int .i64 0, .int .i64 0, .int .i64 0, .int .i64 0, .int .i64 0, .int .i64 0, .int .i64 0, .int .i64 0, .int .i64 0, .int .i64 0, .int .i64 0, .int .i64 0, .int .i64 0, .int .i64 0, .int .i64 0, .int .i64 0, .int .i64 0, .int .i64 0, .int .i64 0] 41)).setCells w2.heap.size 0 (pv PP.p).toList)) := F3.out.trans FF.out (by simp)
    by_cases hc : (tk s 0 PP.k).c = 0
    · have HFIN : Hid (RR = ⟨0, 0, PP.p⟩) := by
        unfold Hid; rw [← HRR.out]; unfold rd; rw [if_neg hl, HPP.out, if_pos HE.out, if_pos hc]
      refine (wend_ok w1.heap.size g (n + 1) cap PP.k (tk s 0) 0 0 0 _ HW5.out HT5.out hkk (by omega) (rk_end.2 hc)).mono ?_
      rintro e w4 ⟨rfl, hw4, hfr4⟩
      have BR4 : Hid (Blk w4 w.heap.size (pv zeros) 41) := BR5.out.fr hfr4 (by simp [nrb])
      have BS4 : Hid (Blk w4 w2.heap.size (pv PP.p) 41) := BS5.out.fr hfr4 (by simp; omega)
      have F4 : Hid (Fr [] W w4) := F5.out.trans hfr4 (by have := F1.out.size; simp; omega)
      obtain ⟨e0, e1, e2, e3, e4⟩ := hw4.cells
      clear hw4 hfr4 HW5 HT5 BR5 BS5 F5 FF HTH
      go_wp2_with (first | (refine wpList_load_row (by rfl) 41 _ (by rfl) w2.heap.size (by rfl) 41 (pv PP.p) (0, 0) _ BS4.out Tryd.underlying41 (by rfl) (size_rPoly hgp) ?_) | (refine wpList_store_mid (by rfl) 41 _ (.tmp 33) (by rfl) w.heap.size 0 (pv PP.p) (by rfl) (by rfl) (Blk.there BR4.out (by rw [pv_size, pv_size, hgp.1]; exact Nat.le_refl _)) (size_rPoly hgp) (pv_one _) ?_))
      refine bodyPost_ret (results_read _ _ w.heap.size PP.p (by rfl) hgp (Blk.setAll BR4.out _ (by rw [pv_size, pv_size, hgp.1]; rfl))) rfl ⟨?_, ?_, ?_⟩
      · rw [HFIN.out]; rfl
      · rw [HFIN.out]; exact hgp
      · exact Below.setCells (BW.out.trans (F4.out.below (by omega) (by simp))) _ _ _ (Nat.le_refl _)
    · have HFIN : Hid (RR = ⟨4, (tk s 0 PP.k).at', zeros⟩) := by
        unfold Hid; rw [← HRR.out]; unfold rd; rw [if_neg hl, HPP.out, if_pos HE.out, if_neg hc]
      refine (wend_first w1.heap.size g (n + 1) cap PP.k (tk s 0) 0 0 _ HW5.out HT5.out hkk (by omega) (fun q => hc (rk_end.1 q))).mono ?_
      rintro e w4 ⟨rfl, hw4, hfr4⟩
      have BR4 : Hid (Blk w4 w.heap.size (pv zeros) 41) := BR5.out.fr hfr4 (by simp [nrb])
      have F4 : Hid (Fr [] W w4) := F5.out.trans hfr4 (by have := F1.out.size; simp; omega)
      clear hfr4 HW5 HT5 BR5 BS5 F5 FF HTH hc
      obtain ⟨e0, e1, e2, e3, e4⟩ := hw4.cells
      have HW4 := hideR hw4
      have HTH4 : Hid (w4.there w.heap.size 0 z.size) := Blk.there BR4.out (by rw [hzs]; decide)
      clear hw4
      go_wp2
      have hst := fun (w' : World) (b : Nat) => run_st w' b z HZ.out
      have hth41 : w4.there w.heap.size 0 35 := Blk.there BR4.out (by decide)
      go_region_held3 (fun w' => w'.cell? ⟨w1.heap.size, 2, none⟩ = some (.int .i64 4) ∧ w'.cell? ⟨w1.heap.size, 3, none⟩ = some (.int .i64 (tk s 0 PP.k).at') ∧ w'.there w.heap.size 0 35) (first | (go_keep; done) | (refine ⟨?_, ?_, ?_⟩ <;> first | (rw [World.cell?_setCells_out _ _ _ _ _ (fun e _ => absurd e (by simp; omega))]; simp [*]; done) | (exact World.there_setCells (by simp [*]) _ _ _))) (fail)
      go_wp2
      have b9 : Blk (w4.drew.setCells w.heap.size 0 z.toList) w.heap.size (pv zeros) 41 := by rw [← HZ.out]; exact Blk.setAll (by exact BR4.out) _ (by rw [hzs]; rfl)
      refine bodyPost_ret (results_read _ _ w.heap.size zeros (by rfl) zeros_good b9) rfl ⟨?_, ?_, ?_⟩
      · rw [HFIN.out]; rfl
      · rw [HFIN.out]; exact zeros_good
      · exact Below.setCells ((BW.out.trans (F4.out.below (by omega) (by simp))).drew) _ _ _ (Nat.le_refl _)
  · go_wp2_with fail
    refine (wpoly_not (tk s 0) s.size w1.heap.size g (n + 1) cap 0 false 0 0 _ HW1.out HT2.out (by omega) (by omega) (by omega) HEND.out HV.out (by omega) he).mono ?_
    rintro e w2 ⟨⟨q, hgp, rfl⟩, ⟨kk, hkk, hw2⟩, hfr2⟩
    have BR3 : Hid (Blk w2 w.heap.size (pv zeros) 41) := BR2.out.fr hfr2 (by simp [nrb])
    have HT3 : Hid (Tk w2 g (n + 1) (tk s 0)) := HT2.out.fr hfr2 (by simp; omega)
    have HW3 := hideR hw2
    have F3 : Hid (Fr [] W w2) := F2.out.trans hfr2 (by have := F1.out.size; simp; omega)
    have hs2 := hfr2.size
    simp at hs2
    clear hw2 hfr2
    have HFIN : Hid (RR = ⟨(poly (tk s 0) false s.size 0).e, (poly (tk s 0) false s.size 0).bad, zeros⟩) := by
      unfold Hid; rw [← HRR.out]; unfold rd; rw [if_neg hl, if_neg he]
    have HEE : Hid (((poly (tk s 0) false s.size 0).e : Int) ≠ 0) := by unfold Hid; omega
    have qe : (((poly (tk s 0) false s.size 0).e : Int) != 0) = true := by rw [bne_iff_ne]; exact HEE.out
    clear he
    generalize poly (tk s 0) false s.size 0 = PP at *
    have HTH : Hid ((w2.alloc (.cells #[.int .i64 0, .int .i64 0, .int .i64 0, .int .i64 0, .int .i64 0, .int .i64 0, .int .i64 0, .int .i64 0, .int .i64 0, .int .i64 0, .int .i64 0, .int .i64 0, .int .i64 0, .int .i64 0, .int .i64 0, .int .i64 0, .int .i64 0, .int .i64 0, .int .i64 0, .int .i64 0, .int .i64 0, .int .i64 0, .int .i64 0, .int .i64 0, .int .i64 0, .int .i64 0, .int .i64 0, .int .i64 0, .int .i64 0, .int .i64 0, .int .i64 0, .int .i64 0, .int .i64 0, .int .i64 0, .int .i64 0] 41)).there w2.heap.size 0 (pv q).size) := Blk.there (Blk.new w2 _ _) (by rw [pv_size, hgp.1]; decide)
    go_wp2_with (refine wpList_store_mid (by rfl) 41 _ (.tmp 16) (by rfl) w2.heap.size 0 (pv q) (by rfl) (by rfl) HTH.out (size_rPoly hgp) (pv_one _) ?_)
    have HW5 : Hid (Wy ((w2.alloc (.cells #[.int .i64 0, .int .i64 0, .int .i64 0, .int .i64 0, .int .i64 0, .int .i64 0, .int .i64 0, .int .i64 0, .int .i64 0, .int .i64 0, .int .i64 0, .int .i64 0, .int .i64 0, .int .i64 0, .int .i64 0, .int .i64 0, .int .i64 0, .int .i64 0, .int .i64 0, .int .i64 0, .int .i64 0, .int .i64 0, .int .i64 0, .int .i64 0, .int .i64 0, .int .i64 0, .int .i64 0, .int .i64 0, .int .i64 0, .int .i64 0, .int .i64 0, .int .i64 0, .int .i64 0, .int .i64 0, .int .i64 0] 41)).setCells w2.heap.size 0 (pv q).toList) w1.heap.size g (n + 1) cap kk PP.e PP.bad 0) := Blk.setCellsOther (Blk.alloc HW3.out _) _ _ _ (by omega)
    have FF : Hid (Fr [] w2 ((w2.alloc (.cells #[.int .i64 0, .int .i64 0, .int .i64 0, .int .i64 0, .int .i64 0, .int .i64 0, .int .i64 0, .int .i64 0, .int .i64 0, .int .i64 0, .int .i64 0, .int .i64 0, .int .i64 0, .int .i64 0, .int .i64 0, .int .i64 0, .int .i64 0, .int .i64 0, .int .i64 0, .int .i64 0, .int .i64 0, .int .i64 0, .int .i64 0, .int .i64 0, .int .i64 0, .int .i64 0, .int .i64 0, .int .i64 0, .int .i64 0, .int .i64 0, .int .i64 0, .int .i64 0, .int .i64 0, .int .i64 0, .int .i64 0] 41)).setCells w2.heap.size 0 (pv q).toList)) := ((Fr.refl [] w2).alloc _).setCells _ _ _ (by simp)
    have HT5 : Hid (Tk ((w2.alloc (.cells #[.int .i64 0, .int .i64 0, .int .i64 0, .int .i64 0, .int .i64 0, .int .i64 0, .int .i64 0, .int .i64 0, .int .i64 0, .int .i64 0, .int .i64 0, .int .i64 0, .int .i64 0, .int .i64 0, .int .i64 0, .int .i64 0, .int .i64 0, .int .i64 0, .int .i64 0, .int .i64 0, .int .i64 0, .int .i64 0, .int .i64 0, .int .i64 0, .int .i64 0, .int .i64 0, .int .i64 0, .int .i64 0, .int .i64 0, .int .i64 0, .int .i64 0, .int .i64 0, .int .i64 0, .int .i64 0, .int .i64 0] 41)).setCells w2.heap.size 0 (pv q).toList) g (n + 1) (tk s 0)) := HT3.out.fr FF.out (by simp)
    have BR5 : Hid (Blk ((w2.alloc (.cells #[.int .i64 0, .int .i64 0, .int .i64 0, .int .i64 0, .int .i64 0, .int .i64 0, .int .i64 0, .int .i64 0, .int .i64 0, .int .i64 0, .int .i64 0, .int .i64 0, .int .i64 0, .int .i64 0, .int .i64 0, .int .i64 0, .int .i64 0, .int .i64 0, .int .i64 0, .int .i64 0, .int .i64 0, .int .i64 0, .int .i64 0, .int .i64 0, .int .i64 0, .int .i64 0, .int .i64 0, .int .i64 0, .int .i64 0, .int .i64 0, .int .i64 0, .int .i64 0, .int .i64 0, .int .i64 0, .int .i64 0] 41)).setCells w2.heap.size 0 (pv q).toList) w.heap.size (pv zeros) 41) := BR3.out.fr FF.out (by simp)
    have F5 : Hid (Fr [] W ((w2.alloc (.cells #[.int .i64 0, .int .i64 0, .int .i64 0, .int .i64 0, .int .i64 0, .int .i64 0, .int .i64 0, .int .i64 0, .int .i64 0, .int .i64 0, .int .i64 0, .int .i64 0, .int .i64 0, .int .i64 0, .int .i64 0, .int .i64 0, .int .i64 0, .int .i64 0, .int .i64 0, .int .i64 0, .int .i64 0, .int .i64 0, .int .i64 0, .int .i64 0, .int .i64 0, .int .i64 0, .int .i64 0, .int .i64 0, .int .i64 0, .int .i64 0, .int .i64 0, .int .i64 0, .int .i64 0, .int .i64 0, .int .i64 0] 41)).setCells w2.heap.size 0 (pv q).toList)) := F3.out.trans FF.out (by simp)
    refine (wend_later w1.heap.size g (n + 1) cap kk (tk s 0) PP.e PP.bad 0 _ HW5.out HT5.out hkk (by omega) HEE.out).mono ?_
    rintro e w4 ⟨rfl, hw4, hfr4⟩
    have BR4 : Hid (Blk w4 w.heap.size (pv zeros) 41) := BR5.out.fr hfr4 (by simp [nrb])
    have F4 : Hid (Fr [] W w4) := F5.out.trans hfr4 (by have := F1.out.size; simp; omega)
    clear hfr4 HW5 HT5 BR5 F5 FF HTH
    obtain ⟨e0, e1, e2, e3, e4⟩ := hw4.cells
    have HW4 := hideR hw4
    have HTH4 : Hid (w4.there w.heap.size 0 z.size) := Blk.there BR4.out (by rw [hzs]; decide)
    clear hw4
    go_wp2
    have hst := fun (w' : World) (b : Nat) => run_st w' b z HZ.out
    have hth41 : w4.there w.heap.size 0 35 := Blk.there BR4.out (by decide)
    go_region_held3 (fun w' => w'.cell? ⟨w1.heap.size, 2, none⟩ = some (.int .i64 PP.e) ∧ w'.cell? ⟨w1.heap.size, 3, none⟩ = some (.int .i64 PP.bad) ∧ w'.there w.heap.size 0 35) (first | (go_keep; done) | (refine ⟨?_, ?_, ?_⟩ <;> first | (rw [World.cell?_setCells_out _ _ _ _ _ (fun e _ => absurd e (by simp; omega))]; simp [*]; done) | (exact World.there_setCells (by simp [*]) _ _ _))) (fail)
    go_wp2
    have b9 : Blk (w4.drew.setCells w.heap.size 0 z.toList) w.heap.size (pv zeros) 41 := by rw [← HZ.out]; exact Blk.setAll (by exact BR4.out) _ (by rw [hzs]; rfl)
    refine bodyPost_ret (results_read _ _ w.heap.size zeros (by rfl) zeros_good b9) rfl ⟨?_, ?_, ?_⟩
    · rw [HFIN.out]; rfl
    · rw [HFIN.out]; exact zeros_good
    · exact Below.setCells ((BW.out.trans (F4.out.below (by omega) (by simp))).drew) _ _ _ (Nat.le_refl _)

/-- The document's answer reads a text as 'rd' does. -/
theorem read_any (s : ByteArray) (w : World) (hm : s.size ≤ 140737488351232) :
    Calls Tryd.prog 17 #[.string s] w fun e w' => e = .returned (.tuple #[.agg (pv (rd s).p), .int .i64 (rd s).e, .int .i64 (rd s).bad]) ∧ Good (rd s).p ∧ Below w.heap.size w w' := by
  by_cases hl : 90 < s.size
  · refine (read_long s w hl hm).mono ?_
    rintro e w' ⟨rfl, h⟩
    have : rd s = ⟨2, 0, zeros⟩ := by unfold rd; rw [if_pos hl]
    rw [this]
    exact ⟨rfl, zeros_good, h⟩
  · exact read_short s w hl
end Go.Proofs.YthlmgpllapccfaaDoor
/- THE TWO Values, AND THE LAW. -/
namespace Go.Proofs.YthlmgpllapccfaaDoor
open Go.RowKit

/-- What Value answers. -/
def vv (s : ByteArray) (u x : Int) : Nat := if (rd s).e = 0 then valP (rd s).p (u % 7).toNat (x % 7).toNat else 0
def vb (s : ByteArray) : Nat := if (rd s).e = 0 then 0 else (rd s).bad
theorem m7 (u : Int) : u % 7 = ((u % 7).toNat : Int) ∧ (u % 7).toNat < 7 := by omega
theorem lineR_len (p : List Nat) (u : Nat) : (lineR p u).length = 5 := rfl
theorem lineR_lt (p : List Nat) (u i : Nat) : (lineR p u).getD i 0 < 7 := by
  by_cases h : i < 5
  · rw [lineR_get _ _ _ h]; exact pows_lt _ _ _
  · rw [List.getD_eq_getElem?_getD, List.getElem?_eq_none (by rw [lineR_len]; omega)]; simp

set_option maxRecDepth 100000 in
set_option maxHeartbeats 2000000 in
theorem pValue_any (s : ByteArray) (u x : Int) (w : World) (hg : ErrT w) (hm : s.size ≤ 140737488351232) :
    Calls Tryd.prog 9 #[.string s, .int .i64 u, .int .i64 x] w fun e w' => e = .returned (.tuple #[.int .i64 (vv s u x), .int .i64 (rd s).e, .int .i64 (vb s)]) ∧ Below w.heap.size w w' := by
  have hu := m7 u
  have hx := m7 x
  have HU := hidV hu
  have HX := hidV hx
  clear hu hx
  have HP := hidV (Polynomial_any s w hg hm)
  clear hg hm
  unfold vv vb
  generalize rd s = R at *
  by_cases he : R.e = 0
  · rw [if_pos he, if_pos he]
    rw [he] at HP ⊢
    go_enter Tryd.func9, Tryd.ntmps9
    go_wp2_with fail
    refine HP.out.mono ?_
    rintro e w1 ⟨rfl, hgd, hbel⟩
    have HB := hidV hbel
    clear hbel HP
    go_wp2_with (first | (refine wpList_store_mid (by rfl) 37 _ _ (by rfl) w1.heap.size 0 (pv R.p) (by rfl) (by rfl) (Blk.there (Blk.new w1 _ _) (by rw [pv_size, hgd.1]; decide)) (size_poly hgd) (pv_one _) ?_) | (refine wpList_load_row (by rfl) 37 _ (by rfl) w1.heap.size (by rfl) 37 (pv R.p) (0, 0) _ (by exact Blk.setAll (Blk.new w1 _ _) _ (by rw [pv_size, hgd.1]; rfl)) Tryd.underlying37 (by rfl) (size_poly hgd) ?_))
    refine (pVal_any R.p u x _ _ _ hgd HU.out.1 HX.out.1 HU.out.2 HX.out.2).mono ?_
    rintro e w2 ⟨rfl, hbel2⟩
    have HB2 := hidV hbel2
    clear hbel2
    go_wp2
    go_ret3
    refine ⟨rfl, ?_⟩
    refine Fr.below (bs := []) ((Fr.setCells (Fr.alloc (Fr.of_below HB.out) _) _ _ _ (Or.inr HB.out.size)).trans (Fr.of_below (bs := []) (by exact HB2.out)) (by simp)) (Nat.le_refl _) (by simp)
  · rw [if_neg he, if_neg he]
    have he' : ((R.e : Int) != 0) = true := by rw [bne_iff_ne]; omega
    go_enter Tryd.func9, Tryd.ntmps9
    go_wp2_with fail
    refine HP.out.mono ?_
    rintro e w1 ⟨rfl, hgd, hbel⟩
    have HB := hidV hbel
    clear hbel HP
    go_wp2_with (first | (refine wpList_store_mid (by rfl) 37 _ _ (by rfl) w1.heap.size 0 (pv R.p) (by rfl) (by rfl) (Blk.there (Blk.new w1 _ _) (by rw [pv_size, hgd.1]; decide)) (size_poly hgd) (pv_one _) ?_))
    go_ret3
    refine ⟨rfl, ?_⟩
    exact Fr.below (bs := []) (Fr.setCells (Fr.alloc (Fr.of_below HB.out) _) _ _ _ (Or.inr HB.out.size)) (Nat.le_refl _) (by simp)

/-- The load of a whole polynomial, under a name that the walk does not open. -/
def ldPoly (x : Value) : Sem Value := Instr.loadAt 41 x
theorem ldPoly_eq (x : Value) : Instr.loadAt 41 x = ldPoly x := rfl
theorem run_ld (w : World) (b : Nat) (p : List Nat) (hp : Good p) (h : Blk w b (pv p) 41) : (ldPoly (.pointer (some ⟨b, 0, none⟩))).run Tryd.prog w = .ok (.agg (pv p)) w := by
  unfold ldPoly
  simp only [Instr.loadAt, Instr.sureAddr, Sem.run_bind, Sem.run_pure, Result.andThen_ok, run_loadVar_row w b 41 41 (pv p) (0, 0) _ h Tryd.underlying41 rfl (size_rPoly hp)]
section
attribute [local go_sem ↓] ldPoly_eq
set_option maxRecDepth 100000 in
set_option maxHeartbeats 2000000 in
theorem rValue_any (s : ByteArray) (u x : Int) (w : World) (hm : s.size ≤ 140737488351232) :
    Calls Tryd.prog 10 #[.string s, .int .i64 u, .int .i64 x] w fun e w' => e = .returned (.tuple #[.int .i64 (vv s u x), .int .i64 (rd s).e, .int .i64 (vb s)]) ∧ Below w.heap.size w w' := by
  have hu := m7 u
  have hx := m7 x
  have HU := hidV hu
  have HX := hidV hx
  clear hu hx
  have HP := hidV (read_any s w hm)
  clear hm
  unfold vv vb
  rw [← val_same]
  generalize rd s = R at *
  by_cases he : R.e = 0
  · rw [if_pos he, if_pos he]
    rw [he] at HP ⊢
    go_enter Tryd.func10, Tryd.ntmps10
    go_wp2_with fail
    refine HP.out.mono ?_
    rintro e w1 ⟨rfl, hgd, hbel⟩
    have HB := hidV hbel
    clear hbel HP
    go_wp2_with (first | (refine wpList_store_mid (by rfl) 41 _ _ (by rfl) w1.heap.size 0 (pv R.p) (by rfl) (by rfl) (Blk.there (Blk.new w1 _ _) (by rw [pv_size, hgd.1]; decide)) (size_rPoly hgd) (pv_one _) ?_) | (refine wpList_load_row (by rfl) 41 _ (by rfl) w1.heap.size (by rfl) 41 (pv R.p) (0, 0) _ (by exact Blk.setAll (Blk.new w1 _ _) _ (by rw [pv_size, hgd.1]; rfl)) Tryd.underlying41 (by rfl) (size_rPoly hgd) ?_))
    refine wp_forget (fun W => Blk W w1.heap.size (pv R.p) 41 ∧ Below w.heap.size w W) ⟨by exact Blk.setAll (Blk.new w1 _ _) _ (by rw [pv_size, hgd.1]; rfl), Fr.below (bs := []) (Fr.setCells (Fr.alloc (Fr.of_below HB.out) _) _ _ _ (Or.inr HB.out.size)) (Nat.le_refl _) (by simp)⟩ ?_
    rintro W ⟨bk, hbW⟩
    have HBW := hidV hbW
    have HBK := hidV bk
    clear hbW
    generalize w1.heap.size = g at *
    have hld := fun (w' : World) (h : Blk w' g (pv R.p) 41) => run_ld w' g R.p hgd h
    go_region_held3 (fun w' => Blk w' g (pv R.p) 41) (first | assumption | exact HBK.out) (first | (go_at_call 22; refine (modulo_any _ _).mono ?_; rintro e w2 ⟨rfl, rfl⟩) | (go_at_call 21; refine (at_any R.p (u % 7).toNat _ _ hgd HU.out.1 HU.out.2).mono ?_; rintro e w3 ⟨rfl, hb3⟩; have HB3 := hidV hb3; have bk3 : Blk w3 g (pv R.p) 41 := Blk.fr (by exact HBK.out) (Fr.of_below (bs := []) hb3) (by simp)) | (go_at_call 20; refine (worth_any (lineR R.p (u % 7).toNat) (x % 7).toNat _ _ (lineR_len _ _) (lineR_lt _ _) HX.out.1 HX.out.2).mono ?_; rintro e w4 ⟨rfl, hb4⟩; have HB4 := hidV hb4; have bk4 : Blk w4 g (pv R.p) 41 := Blk.fr (by exact bk3) (Fr.of_below (bs := []) hb4) (by simp)))
    go_wp2
    go_ret3
    refine ⟨rfl, ?_⟩
    exact Fr.below (bs := []) (((Fr.of_below HBW.out).drew.trans (Fr.of_below (bs := []) HB3.out) (by simp)).trans (Fr.of_below (bs := []) HB4.out) (by simp)) (Nat.le_refl _) (by simp)
  · rw [if_neg he, if_neg he]
    have he' : ((R.e : Int) != 0) = true := by rw [bne_iff_ne]; omega
    go_enter Tryd.func10, Tryd.ntmps10
    go_wp2_with fail
    refine HP.out.mono ?_
    rintro e w1 ⟨rfl, hgd, hbel⟩
    have HB := hidV hbel
    clear hbel HP
    go_wp2_with (first | (refine wpList_store_mid (by rfl) 41 _ _ (by rfl) w1.heap.size 0 (pv R.p) (by rfl) (by rfl) (Blk.there (Blk.new w1 _ _) (by rw [pv_size, hgd.1]; decide)) (size_rPoly hgd) (pv_one _) ?_))
    go_ret3
    refine ⟨rfl, ?_⟩
    exact Fr.below (bs := []) (Fr.setCells (Fr.alloc (Fr.of_below HB.out) _) _ _ _ (Or.inr HB.out.size)) (Nat.le_refl _) (by simp)
end

theorem ErrT.below {w w' : World} (h : ErrT w) (hb : Below w.heap.size w w') : ErrT w' := by
  unfold ErrT at *
  rw [← h]
  exact (Fr.of_below (bs := []) hb).cell 0 (ErrT.lt h) (by simp)

/-- The law. -/
theorem lawValues_any (s : ByteArray) (u x : Int) (w : World) (hg : ErrT w) (hm : s.size ≤ 140737488351232) :
    Calls Tryd.prog 4 #[.string s, .int .i64 u, .int .i64 x] w fun e w' => e = .returned (.bool true) ∧ Below w.heap.size w w' := by
  go_enter Tryd.func4, Tryd.ntmps4
  go_wp2_with fail
  refine (pValue_any s u x _ hg hm).mono ?_
  rintro e w1 ⟨rfl, hb1⟩
  go_wp2_with fail
  refine (rValue_any s u x _ hm).mono ?_
  rintro e w2 ⟨rfl, hb2⟩
  generalize vv s u x = V at *
  generalize vb s = B at *
  generalize rd s = R at *
  have HB1 := hidV hb1
  have HB2 := hidV hb2
  clear hb1 hb2
  go_wp2
  go_ret
  exact ⟨rfl, Fr.below (bs := []) ((Fr.of_below HB1.out).trans (Fr.of_below (bs := []) (by exact HB2.out)) (by simp)) (Nat.le_refl _) (by simp)⟩
end Go.Proofs.YthlmgpllapccfaaDoor
/- WHAT THE ROWS' CONDITION GIVES A WALK: errors.errorType's cell; a world that meets it. -/
namespace Go.Proofs.YthlmgpllapccfaaDoor
open Go.ChangeShapes Go.WideShapes Go.RowKit

theorem Tryd.own : ownKnob Tryd.prog.godebug = none := by kernel_rfl
theorem Tryd.et : Tryd.prog.globalNamed "errors.errorType" = some 0 := by kernel_rfl
theorem Tryd.rt : (Tryd.prog.cutTypes.find? (·.1 == "internal/reflectlite.rtype")).map (·.2) = some 118 := by kernel_rfl
theorem Tryd.oneRow : ((List.range Tryd.prog.types.size).filter fun t => Tryd.prog.rowNamed t [101, 114, 114, 111, 114]) = [77] := by kernel_rfl
theorem Tryd.hand : typeHandle Tryd.prog 77 = .pointer (some ⟨5, 77, none⟩) := by kernel_rfl

theorem errT_of_handle {W : World} (h : handlesMet Tryd.prog [("errors.errorType", Rows.laid_errors_errorType)] W) : ErrT W := by
  obtain ⟨name, u, ty, e1, e2, e3, e4, e5⟩ := h _ (List.mem_singleton.2 rfl)
  have en : name = [101, 114, 114, 111, 114] := (Option.some.inj e1).symm
  subst en
  obtain rfl := Option.some.inj (Tryd.rt.symm.trans e2)
  have hm : ty ∈ (List.range Tryd.prog.types.size).filter fun t => Tryd.prog.rowNamed t [101, 114, 114, 111, 114] := List.mem_filter.2 ⟨List.mem_range.2 e3, e4⟩
  rw [Tryd.oneRow] at hm
  obtain rfl := List.mem_singleton.1 hm
  rw [Tryd.hand] at e5
  unfold ErrT
  simpa using World.var?_cell Tryd.et e5 0

/-- A world that meets the condition: the settled one, the variable's cell laid. -/
noncomputable def laidWorld (os : Os) : World :=
  let w0 := World.holding Tryd.prog os ⟨#[], #[], []⟩
  { w0 with heap := w0.heap.modify 0 fun
      | .cells _ t frozen => .cells #[.iface 118 (.agg #[.pointer (some ⟨5, 77, none⟩)])] t frozen
      | o => o }
end Go.Proofs.YthlmgpllapccfaaDoor
/- VALUES: THE ROW, AND THE TIED CARD. -/
namespace Go.Proofs.YthlmgpllapccfaaDoor
open Go.ChangeShapes Go.WideShapes Go.ChangeAt Go.RowKit
open Go.ChangeMaps (open_string shut_string)

theorem values_laid {W : World} (h : laidMetH Tryd.prog [("errors.errorType", Rows.laid_errors_errorType)] W) : ErrT W := by
  have h' : laidMet Tryd.prog [] W ∧ handlesMet Tryd.prog [("errors.errorType", Rows.laid_errors_errorType)] W := h
  exact errT_of_handle h'.2
theorem values_world (os : Os) (args : Array Value) : laidMetH Tryd.prog [("errors.errorType", Rows.laid_errors_errorType)] ((laidWorld os).forCall (fun _ _ => 0) ⟨#[], args, []⟩).memory :=
  laidMetH_of_parts (laidMet_nil _ _) (by kernel_rfl)

set_option maxRecDepth 100000 in
theorem values_lifted (os : Os) (started : os.Started) (H : Type) (enc : TypeId × Value → H) :
    ReturnsInHanded {} Tryd.checked os 4 .any (fun w args => (Rows.valuesSpec.pre enc Tryd.prog Tryd.f4 [] false w args ∧ laidMetH Tryd.prog [("errors.errorType", Rows.laid_errors_errorType)] w) ∧ sizedMet enc Tryd.prog Tryd.f4 (OpenSpec.ofChange Rows.valuesSpec) false w args)
      (Rows.valuesSpec.post enc Tryd.prog Tryd.f4 false true false false) := by
  refine returnsInHanded_of_change_and (C := Tryd.checked) (X := fun w _ => laidMetH Tryd.prog [("errors.errorType", Rows.laid_errors_errorType)] w) (fun _ _ _ hh h => h.of_heap hh) Tryd.own started (by kernel_rfl) Tryd.func4
    (ChangeSpec.witness_at (enc := enc) (C := Tryd.checked) (os := os) (X := fun w _ => laidMetH Tryd.prog [("errors.errorType", Rows.laid_errors_errorType)] w) false (laidWorld os) #[.string ByteArray.empty, .int .i64 0, .int .i64 0] 8 rfl (by kernel_rfl) (by kernel_rfl) (by kernel_rfl) (by kernel_rfl) (by kernel_rfl) (values_world os _)) ?_
  intro W base args ds gs before hval0 hW _ hsz0 hL _
  have hval : ∀ (j : Nat) t v, Tryd.f4.params[j]? = some t → args[j]? = some v → Value.okWide Tryd.prog W .any base t v := hval0
  have hsz : (DataW.weightsEach Tryd.prog (Tryd.f4.params.toList ++ Rows.valuesSpec.plain.varTypes Tryd.prog) (ds ++ gs)).all (· ≤ reachBytes) = true := hsz0
  have hW' := hW
  obtain ⟨p, q, hA0, hV0, rfl, hfz, hnd⟩ := hW
  have hA : DataW.TrodAll enc Tryd.prog W 0 (fun _ => true) true Tryd.f4.params.toList args.toList ds p := hA0
  have hV : DataW.TrodVars enc Tryd.prog W (fun _ => true) [] gs q := hV0
  rw [Tryd.params4] at hA hval hsz
  obtain ⟨v0, v1, v2, d0, d1, d2, p0, p1, p2, rfl, rfl, rfl, h0, h1, h2⟩ := trodAll_three hA
  obtain ⟨s, rfl, rfl, rfl, ws⟩ := open_string Tryd.underlying9 (hval 0 9 v0 rfl rfl) h0
  obtain ⟨u, rfl, rfl, rfl, wu⟩ := open_int Tryd.underlying3 (hval 1 3 v1 rfl rfl) h1
  obtain ⟨x, rfl, rfl, rfl, wx⟩ := open_int Tryd.underlying3 (hval 2 3 v2 rfl rfl) h2
  have hg := values_laid hL
  obtain ⟨rfl, rfl⟩ : gs = [] ∧ q = [] := by
    cases gs with
    | nil => exact ⟨rfl, hV⟩
    | cons g r => exact absurd hV (by intro h; cases h)
  have hb : s.data.toList.length ≤ reachBytes := sized_string hsz (j := 0) (t := 9) rfl rfl
  have hm : s.size ≤ 140737488351232 := by
    have e : s.data.toList.length = s.size := by simp
    rw [e] at hb
    exact hb
  clear hA0 hval0 hsz0
  refine (lawValues_any s u x W hg hm).mono fun e W' ⟨he, hw⟩ => ?_
  subst he
  refine ⟨_, rfl, _, _, _, [], [], [], hW', ?_, ?_, ?_, hw.frame _, fun h => by cases h⟩
  · exact trodAll_mk1 (shut_bool Tryd.underlying4 true)
  · exact trodAll_mk3 (shut_string Tryd.underlying9 ws) (shut_int Tryd.underlying3 wu) (shut_int Tryd.underlying3 wx)
  · rfl

theorem values_holds : Rows.ValuesSaid :=
  OpenClaim.holds_of_wide 4 Tryd.f4 rfl rfl rfl rfl rfl rfl rfl ⟨rfl, rfl, rfl, rfl, rfl⟩ rfl rfl rfl rfl rfl (by kernel_rfl) Tryd.func4 (by kernel_rfl)
    (of_decide_eq_true (by kernel_rfl)) (by unfold Func.isWrapper; rw [if_neg (of_decide_eq_false (by kernel_rfl))]; exact ⟨rfl, rfl⟩)
    (fun os started H enc _ => values_lifted os started H enc)

theorem values_card : Rows.ValuesCardSaid :=
  Claim7.holds_tied_plain_at .later [] [.handle] true (true, "de91fc91640b9c987a08eeef19824d0f4cf06336a136806cba3f6f1c2bfd1efd") true
    values_holds (fun _ h => by cases h) (by kernel_rfl) (fun _ h => by cases h) values_row_tie rfl ⟨rfl, rfl⟩ (by kernel_rfl) rfl
    (fun f fn hf hfn => by
      obtain rfl : f = 4 := Option.some.inj ((show Tryd.prog.funcNamed "segments/segmentslaw.Values" = some 4 by kernel_rfl).symm.trans hf) |>.symm
      obtain rfl : fn = Tryd.f4 := (Option.some.inj (Tryd.func4.symm.trans hfn)).symm
      exact ⟨by kernel_rfl, fun j t ht => by
        rw [Tryd.params4] at ht
        rcases j with _ | _ | _ | j
        · obtain rfl : t = 9 := by simpa using ht.symm
          exact (show Tryd.prog.wantsStandIn 9 = false by kernel_rfl)
        · obtain rfl : t = 3 := by simpa using ht.symm
          exact (show Tryd.prog.wantsStandIn 3 = false by kernel_rfl)
        · obtain rfl : t = 3 := by simpa using ht.symm
          exact (show Tryd.prog.wantsStandIn 3 = false by kernel_rfl)
        · simp at ht⟩)
    (by kernel_rfl)
end Go.Proofs.YthlmgpllapccfaaDoor
