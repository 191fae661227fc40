/- THE DOCUMENT's ANSWER: poly. -/
import Derived.Test.YtaajdcaciofmaaaDoorWay5
namespace Go.Proofs.YtaajdcaciofmaaaDoor
open Go.RowKit

/-- What poly ends in. -/
def PolyEnd (b g n cap : Nat) (R : PlR) (bad op : Int) (w : World) (e : Ending) (w' : World) : Prop :=
  (R.e = 0 ∧ e = .returned (.agg (pv R.p)) ∧ Good R.p ∧ Wy w' b g n cap R.k 0 bad op ∧ R.k < n ∧ Fr [b] w w') ∨ (R.e ≠ 0 ∧ (∃ q, Good q ∧ e = .returned (.agg (pv q))) ∧ (∃ k', k' < n ∧ Wy w' b g n cap k' R.e R.bad op) ∧ Fr [b] w w')

set_option maxRecDepth 100000 in
set_option maxHeartbeats 8000000 in
theorem wpoly_plain (f : Nat → Tok) (N b g n cap k : Nat) (bare : Bool) (bad op : Int) (w : World) (h : Wy w b g n cap k 0 bad op) (ht : Tk w g n f)
    (hk : k < n) (hn : n ≤ N + 1) (hN : N ≤ 1000) (hend : ∀ j, j < n → (f j).c ≠ 0 → j + 1 < n) (hv : ∀ j, (f j).v ≤ 99) (hbg : b ≠ g) (hc : (f k).c ≠ 49) :
    Calls Tryd.prog 32 #[.pointer (some ⟨b, 0, none⟩), .bool bare] w (PolyEnd b g n cap (pl f bare N (N + 1) k 1 zeros) bad op w) := by
  have hb : b < w.heap.size := Blk.lt h
  have hg := ht.1
  have HW := hideR h
  have HT := hideR ht
  generalize hR : pl f bare N (N + 1) k 1 zeros = R
  have HP : Hid (pl f bare N (N + 1) k 1 zeros = R) := hR
  have HC : Hid (rk (f k).c ≠ 45) := fun q => hc (rk_45.1 q)
  have hnt : ∀ (x : Bool) (w : World), (Op.unary .not (.bool x)).run Tryd.prog w = .ok (.bool (!x)) w := fun _ _ => rfl
  clear h ht hR hc
  go_enter Tryd.func32, Tryd.ntmps32
  go_wp2_with fail
  refine (passes_no b g n cap k f 45 bad op _ (by exact Blk.alloc (Blk.alloc HW.out _) _) (by exact HT.out.fr (((Fr.refl [] w).alloc _).alloc _) (by simp)) hk (by omega) (by omega) (by omega) HC.out).mono ?_
  rintro e w0 ⟨rfl, hw0, hfr0⟩
  have hs0 : Blk w0 (w.heap.size + 1) (pv zeros) 41 := Blk.fr (by exact Blk.newAt _ _ _ (by simp)) hfr0 (by simp; omega)
  have hr0 : Blk w0 w.heap.size (pv zeros) 41 := Blk.fr (by exact Blk.alloc (Blk.new w _ _) _) hfr0 (by simp; omega)
  have hf0 : Fr [b] w w0 := (((Fr.refl [b] w).alloc _).alloc _).trans hfr0 (by simp)
  go_wp2
  go_loopg [6] (N + 1) (fun m v6 wr => (∃ (k' sg : Nat) (p : List Nat), v6 = .int .i64 sg ∧ (sg = 1 ∨ sg = 6) ∧ N + 1 ≤ m + k' ∧ k' < n ∧ Good p ∧ Wy wr b g n cap k' 0 bad op ∧ Blk wr (w.heap.size + 1) (pv p) 41 ∧ Blk wr w.heap.size (pv zeros) 41 ∧ Fr [b] w wr ∧ Hid (pl f bare N m k' sg p = R)) ∨ (∃ (k' : Nat) (q : List Nat), k' < n ∧ Good q ∧ R.e ≠ 0 ∧ Wy wr b g n cap k' R.e R.bad op ∧ Blk wr (w.heap.size + 1) (pv q) 41 ∧ Blk wr w.heap.size (pv zeros) 41 ∧ Fr [b] w wr))
  case atStart => exact Or.inl ⟨k, 1, zeros, rfl, Or.inl rfl, by omega, hk, zeros_good, hw0, hs0, hr0, hf0, HP⟩
  case round =>
    have mb : ¬ w.heap.size + 1 = b := by omega
    have mb0 : ¬ w.heap.size = b := by omega
    have mg : g ≠ w.heap.size + 1 := by omega
    rcases hrel with ⟨k', sg, p, rfl, hsg, hm, hk', hgp, hw, hp, hr, hfw, HQ⟩ | ⟨k', q, hk', hgq, hne, hw, hp, hr, hfw⟩
    · obtain ⟨c0, c1, c2, c3, c4⟩ := hw.cells
      have HTr : Hid (Tk wr g n f) := HT.out.fr hfw (by simp; omega)
      have HWr := hideR hw
      have HPr := hideR hp
      have HRr := hideR hr
      have hbr := Blk.lt hw
      clear hw hp hr
      by_cases hte : (tm f bare N k').e = 0
      · have hT := tm_facts f bare N k'
        have HTE := hideR hte
        go_wp2_with fail
        refine (wterm_ok f N b g n cap (w.heap.size + 1) k' p sg bare bad op _ HWr.out HTr.out HPr.out hgp hk' hn hN hend hv (by omega) hbg (Ne.symm mb) mg hte).mono ?_
        rintro e w1 ⟨rfl, hw1, hp1, hk1, hfr1⟩
        clear hte
        generalize hTT : tm f bare N k' = T at *
        have HTT := hideR hTT
        clear hTT
        have hg' : Good (plus p T.u T.x (sg * T.n)) := plus_good hgp _ _ _
        obtain ⟨p', HP'⟩ : ∃ p', Hid (plus p T.u T.x (sg * T.n) = p') := ⟨_, rfl⟩
        rw [HP'.out] at hp1 hg'
        have hr1 : Blk w1 w.heap.size (pv zeros) 41 := HRr.out.fr hfr1 (by simp; omega)
        have hf1 : Fr [b] w w1 := hfw.trans hfr1 (by simp)
        have ht1 : Tk w1 g n f := HT.out.fr hf1 (by simp; omega)
        obtain ⟨e0, e1, e2, e3, e4⟩ := hw1.cells
        have HW1 := hideR hw1
        have HP1 := hideR hp1
        have HR1 := hideR hr1
        have HT1 := hideR ht1
        clear hw1 hp1 hr1 ht1 c0 c1 c2 c3 c4
        by_cases h4 : (f T.k).c = 47
        · have hlt : T.k + 1 < n := hend T.k hk1 (by omega)
          have HN' : Hid (pl f bare N (gk - 1) (T.k + 1) 1 p' = R) := by
            have q := HQ.out
            rw [pl_plus (by omega) (by rw [HTT.out]; exact HTE.out) (by rw [HTT.out]; exact h4), HTT.out, HP'.out] at q
            exact q
          have h4r := rk_43.2 h4
          have H4 := hideR h4r
          clear h4 h4r
          go_wp2_with fail
          refine (passes_yes b g n cap T.k f 43 bad op _ HW1.out HT1.out hk1 (by omega) (by omega) (by omega) H4.out).mono ?_
          rintro e w2 ⟨rfl, hw2, hfr2⟩
          have hf2 : Fr [b] w w2 := hf1.trans hfr2 (by simp)
          have HT2 : Hid (Tk w2 g n f) := HT.out.fr hf2 (by simp; omega)
          have HP2 : Hid (Blk w2 (w.heap.size + 1) (pv p') 41) := HP1.out.fr hfr2 (by simp [mb])
          have HR2 : Hid (Blk w2 w.heap.size (pv zeros) 41) := HR1.out.fr hfr2 (by simp [mb0])
          have HW2 := hideR hw2
          clear hw2
          by_cases h5 : (f (T.k + 1)).c = 49
          · have hlt2 : T.k + 1 + 1 < n := hend (T.k + 1) hlt (by omega)
            have h5r := rk_45.2 h5
            have H5 := hideR h5r
            have HRR : Hid (R.e = 4 ∧ R.bad = (f (T.k + 1)).at') := by
              have q : tm f bare N (T.k + 1) = ⟨4, (f (T.k + 1)).at', T.k + 1, 0, 0, 0⟩ := by
                unfold tm; rw [if_neg (by omega), if_neg (by omega)]
              unfold Hid
              rw [← HN'.out, pl_bad (by omega) (by rw [q]; simp), q]
              exact ⟨rfl, rfl⟩
            clear h5 h5r HN'
            generalize T.k + 1 = m at *
            go_wp2_with fail
            refine (passes_yes b g n cap m f 45 bad op _ HW2.out HT2.out hlt (by omega) (by omega) (by omega) H5.out).mono ?_
            rintro e w3 ⟨rfl, hw3, hfr3⟩
            have hf3 : Fr [b] w w3 := hf2.trans hfr3 (by simp)
            have ht3 : Tk w3 g n f := HT.out.fr hf3 (by simp; omega)
            have HP3 : Hid (Blk w3 (w.heap.size + 1) (pv p') 41) := HP2.out.fr hfr3 (by simp [mb])
            have HR3 : Hid (Blk w3 w.heap.size (pv zeros) 41) := HR2.out.fr hfr3 (by simp [mb0])
            obtain ⟨s0, s1, s2, s3, s4⟩ := hw3.cells
            obtain ⟨d0, d1, d2, d3⟩ := ht3.cells hlt
            have HW3 := hideR hw3
            have es : ((m + 1 : Nat) : Int) = (m : Int) + 1 := by omega
            rw [es] at s1
            have i0 : (0 : Int) ≤ (m : Int) := by omega
            have i1 : (m : Int) < (n : Int) := by omega
            clear es hw3 ht3
            go_wp2
            refine region_quiet_tail 13 (by kernel_rfl) (by kernel_rfl) ?_
            simp only [List.take_succ_cons, List.take_zero, List.drop_succ_cons, List.drop_zero]
            repeat (first | go_big_quiet_step ((fail)) | quiet_step ((fail)))
            refine wpQuiet_nil ?_
            rintro _ ⟨nr, rfl⟩
            go_wp2_with fail
            refine (wrong_first b g n cap (m + 1) _ _ bad op _ (by exact HW3.out)).mono ?_
            rintro e w4 ⟨rfl, hw4, hfr4⟩
            have hfr4' : Fr [b] w3 w4 := ((Fr.refl [b] w3).drewN nr).trans hfr4 (by simp)
            go_wp2
            go_roundg (gk - 1)
            case measure => omega
            case rel =>
              refine Or.inr ⟨m + 1, p', hlt2, hg', ?_, ?_, HP3.out.fr hfr4' (by simp [mb]), HR3.out.fr hfr4' (by simp [mb0]), hf3.trans hfr4' (by simp)⟩
              · rw [HRR.out.1]; simp
              · rw [HRR.out.1, HRR.out.2]; exact hw4
          · have H5 : Hid (rk (f (T.k + 1)).c ≠ 45) := fun q => h5 (rk_45.1 q)
            clear h5
            go_wp2_with fail
            refine (passes_no b g n cap (T.k + 1) f 45 bad op _ HW2.out HT2.out hlt (by omega) (by omega) (by omega) H5.out).mono ?_
            rintro e w3 ⟨rfl, hw3, hfr3⟩
            have hf3 : Fr [b] w w3 := hf2.trans hfr3 (by simp)
            go_wp2
            go_roundg (gk - 1)
            case measure => omega
            case rel => exact Or.inl ⟨T.k + 1, 1, p', rfl, Or.inl rfl, by omega, hlt, hg', hw3, HP2.out.fr hfr3 (by simp [mb]), HR2.out.fr hfr3 (by simp [mb0]), hf3, HN'⟩
        · have H4 : Hid (rk (f T.k).c ≠ 43) := fun q => h4 (rk_43.1 q)
          go_wp2_with fail
          refine (passes_no b g n cap T.k f 43 bad op _ HW1.out HT1.out hk1 (by omega) (by omega) (by omega) H4.out).mono ?_
          rintro e w2 ⟨rfl, hw2, hfr2⟩
          have hf2 : Fr [b] w w2 := hf1.trans hfr2 (by simp)
          have HT2 : Hid (Tk w2 g n f) := HT.out.fr hf2 (by simp; omega)
          have HP2 : Hid (Blk w2 (w.heap.size + 1) (pv p') 41) := HP1.out.fr hfr2 (by simp [mb])
          have HR2 : Hid (Blk w2 w.heap.size (pv zeros) 41) := HR1.out.fr hfr2 (by simp [mb0])
          have HW2 := hideR hw2
          clear hw2
          by_cases h5 : (f T.k).c = 49
          · have hlt : T.k + 1 < n := hend T.k hk1 (by omega)
            have HN' : Hid (pl f bare N (gk - 1) (T.k + 1) 6 p' = R) := by
              have q := HQ.out
              rw [pl_minus (by omega) (by rw [HTT.out]; exact HTE.out) (by rw [HTT.out]; exact h5), HTT.out, HP'.out] at q
              exact q
            have h5r := rk_45.2 h5
            have H5 := hideR h5r
            clear h4 h5 h5r
            go_wp2_with fail
            refine (passes_yes b g n cap T.k f 45 bad op _ HW2.out HT2.out hk1 (by omega) (by omega) (by omega) H5.out).mono ?_
            rintro e w3 ⟨rfl, hw3, hfr3⟩
            have hf3 : Fr [b] w w3 := hf2.trans hfr3 (by simp)
            go_wp2
            go_roundg (gk - 1)
            case measure => omega
            case rel => exact Or.inl ⟨T.k + 1, 6, p', rfl, Or.inr rfl, by omega, hlt, hg', hw3, HP2.out.fr hfr3 (by simp [mb]), HR2.out.fr hfr3 (by simp [mb0]), hf3, HN'⟩
          · have HB : Hid (R = ⟨0, 0, T.k, p'⟩) := by
              unfold Hid
              rw [← HQ.out, pl_done (by omega) (by rw [HTT.out]; exact HTE.out) (by rw [HTT.out]; exact h4) (by rw [HTT.out]; exact h5), HTT.out, HP'.out]
            have H5 : Hid (rk (f T.k).c ≠ 45) := fun q => h5 (rk_45.1 q)
            clear h4 h5
            go_wp2_with fail
            refine (passes_no b g n cap T.k f 45 bad op _ HW2.out HT2.out hk1 (by omega) (by omega) (by omega) H5.out).mono ?_
            rintro e w3 ⟨rfl, hw3, hfr3⟩
            have hf3 : Fr [b] w w3 := hf2.trans hfr3 (by simp)
            have HW3 := hideR hw3
            have HP3 : Hid (Blk w3 (w.heap.size + 1) (pv p') 41) := HP2.out.fr hfr3 (by simp [mb])
            have HR3 : Hid (Blk w3 w.heap.size (pv zeros) 41) := HR2.out.fr hfr3 (by simp [mb0])
            clear hw3
            go_wp2_with (first | (refine wpList_load_row (by rfl) 41 _ (by rfl) (w.heap.size + 1) (by rfl) 41 (pv p') (0, 0) _ HP3.out Tryd.underlying41 (by rfl) (size_rPoly hg') ?_) | (refine wpList_store_mid (by rfl) 41 _ (.tmp 55) (by rfl) w.heap.size 0 (pv p') (by rfl) (by rfl) (Blk.there HR3.out (by rw [pv_size, pv_size, hg'.1]; exact Nat.le_refl _)) (size_rPoly hg') (pv_one _) ?_))
            refine bodyPost_ret (results_cell_row Tryd.results32 _ _ w.heap.size 41 (pv p') (0, 0) _ (by rfl) (Blk.setAll HR3.out _ (by rw [pv_size, pv_size, hg'.1]; rfl)) Tryd.underlying41 rfl (size_rPoly hg')) rfl ?_
            refine Or.inl ⟨?_, ?_, ?_, ?_, ?_, ?_⟩
            · rw [HB.out]
            · rw [HB.out]
            · rw [HB.out]; exact hg'
            · rw [HB.out]; exact Blk.setCellsOther HW3.out _ _ _ (by omega)
            · rw [HB.out]; exact hk1
            · exact Fr.setCells hf3 _ _ _ (by simp)
      · have HB : Hid (R.e ≠ 0 ∧ R.e = (tm f bare N k').e ∧ R.bad = (tm f bare N k').bad) := by
          unfold Hid
          rw [← HQ.out, pl_bad (by omega) hte]; exact ⟨hte, rfl, rfl⟩
        go_wp2_with fail
        refine (wterm_not f N b g n cap (w.heap.size + 1) k' p sg bare bad op _ HWr.out HTr.out HPr.out hgp hk' hn hN hend hv (by omega) hbg (Ne.symm mb) mg hte).mono ?_
        rintro e w1 ⟨rfl, ⟨k1, hk1, hw1⟩, hp1, hfr1⟩
        obtain ⟨g1, g2, g3⟩ := HB.out
        rw [← g2, ← g3] at hw1
        have hr1 : Blk w1 w.heap.size (pv zeros) 41 := HRr.out.fr hfr1 (by simp; omega)
        have hf1 : Fr [b] w w1 := hfw.trans hfr1 (by simp)
        obtain ⟨e0, e1, e2, e3, e4⟩ := hw1.cells
        have qe : ((R.e : Int) != 0) = true := by rw [bne_iff_ne]; omega
        have HW1 := hideR hw1
        have HP1 := hideR hp1
        have HR1 := hideR hr1
        have HG1 := hideR g1
        clear hw1 hp1 hr1 c0 c1 c2 c3 c4 g1 g2 g3 hte
        go_wp2_with (first | (refine wpList_load_row (by rfl) 41 _ (by rfl) (w.heap.size + 1) (by rfl) 41 (pv p) (0, 0) _ HP1.out Tryd.underlying41 (by rfl) (size_rPoly hgp) ?_) | (refine wpList_store_mid (by rfl) 41 _ (.tmp 55) (by rfl) w.heap.size 0 (pv p) (by rfl) (by rfl) (Blk.there HR1.out (by rw [pv_size, pv_size, hgp.1]; exact Nat.le_refl _)) (size_rPoly hgp) (pv_one _) ?_))
        refine bodyPost_ret (results_cell_row Tryd.results32 _ _ w.heap.size 41 (pv p) (0, 0) _ (by rfl) (Blk.setAll HR1.out _ (by rw [pv_size, pv_size, hgp.1]; rfl)) Tryd.underlying41 rfl (size_rPoly hgp)) rfl ?_
        exact Or.inr ⟨HG1.out, ⟨p, hgp, rfl⟩, ⟨k1, hk1, Blk.setCellsOther HW1.out _ _ _ (by omega)⟩, Fr.setCells hf1 _ _ _ (by simp)⟩
    · obtain ⟨c0, c1, c2, c3, c4⟩ := hw.cells
      have qe : ((R.e : Int) == 0) = false := by rw [beq_eq_false_iff_ne]; omega
      have HW1 := hideR hw
      have HP1 := hideR hp
      have HR1 := hideR hr
      have HG1 := hideR hne
      clear hw hp hr hne
      go_wp2_with (first | (refine wpList_load_row (by rfl) 41 _ (by rfl) (w.heap.size + 1) (by rfl) 41 (pv q) (0, 0) _ HP1.out Tryd.underlying41 (by rfl) (size_rPoly hgq) ?_) | (refine wpList_store_mid (by rfl) 41 _ (.tmp 55) (by rfl) w.heap.size 0 (pv q) (by rfl) (by rfl) (Blk.there HR1.out (by rw [pv_size, pv_size, hgq.1]; exact Nat.le_refl _)) (size_rPoly hgq) (pv_one _) ?_))
      refine bodyPost_ret (results_cell_row Tryd.results32 _ _ w.heap.size 41 (pv q) (0, 0) _ (by rfl) (Blk.setAll HR1.out _ (by rw [pv_size, pv_size, hgq.1]; rfl)) Tryd.underlying41 rfl (size_rPoly hgq)) rfl ?_
      exact Or.inr ⟨HG1.out, ⟨q, hgq, rfl⟩, ⟨k', hk', Blk.setCellsOther HW1.out _ _ _ (by omega)⟩, Fr.setCells hfw _ _ _ (by simp)⟩
end Go.Proofs.YtaajdcaciofmaaaDoor
