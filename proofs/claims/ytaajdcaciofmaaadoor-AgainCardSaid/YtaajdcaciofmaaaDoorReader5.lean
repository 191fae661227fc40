/- THE READER: polynomial. -/
import Derived.Test.YtaajdcaciofmaaaDoorReader4
namespace Go.Proofs.YtaajdcaciofmaaaDoor
open Go.RowKit

theorem hide' {p : Prop} (h : p) : Hid p := h
theorem field_tok0 (x0 x1 x2 x3 : Int) (w : World) : (Instr.field 88 (.agg #[.int .i64 x0, .int .i64 x1, .int .i64 x2, .int .i64 x3]) 0).run Tryd.prog w = .ok (.int .i64 x0) w := by kernel_rfl

theorem Plus_to (p p' : List Nat) (u x a : Nat) (N : Int) (w : World) (hp : Good p) (hu : u ≤ 6) (hx : x ≤ 4) (hN : N % 7 = ((a % 7 : Nat) : Int)) (h : plus p u x a = p') :
    Calls Tryd.prog 44 #[.agg (pv p), .agg #[.int .i64 N, .int .i64 u, .int .i64 x]] w fun e w' => e = .returned (.agg (pv p')) ∧ Below w.heap.size w w' := by
  rw [← h]; exact Plus_any p u x a N w hp hu hx hN

set_option maxRecDepth 100000 in
set_option maxHeartbeats 4000000 in
theorem polynomial_plain (s : ByteArray) (a k b : Nat) (w : World) (hs : s.size ≤ 1000) (ha : a ≤ s.size) (hk : k ≤ s.size) (hr : Rd w b s (tk s a k)) (hc : (tk s a k).c ≠ 49) :
    Calls Tryd.prog 27 #[.pointer (some ⟨b, 0, none⟩)] w (PolyPost s a b (pl (tk s a) false s.size (s.size + 1) k 1 zeros) w) := by
  obtain ⟨c0, c1, c2, c3, c4⟩ := hr.cells
  have hb : b < w.heap.size := Blk.lt hr
  have n0 : ¬ b = w.heap.size := by omega
  have n1 : ¬ b = w.heap.size + 1 := by omega
  have m0 : ¬ w.heap.size = b := by omega
  have m1 : ¬ w.heap.size + 1 = b := by omega
  have HR : Hid (Rd w b s (tk s a k)) := hr
  have q5 := pk_no5 hc
  generalize hR : pl (tk s a) false s.size (s.size + 1) k 1 zeros = R
  have HP : Hid (pl (tk s a) false s.size (s.size + 1) k 1 zeros = R) := hR
  clear hr hc hR
  go_enter Tryd.func27, Tryd.ntmps27
  go_wp2
  clear c0 c1 c2 c3 c4 q5
  go_loopg [4] (s.size + 1) (fun m v wr => ∃ (k' : Nat) (neg : Bool) (p : List Nat), s.size + 1 ≤ m + k' ∧ v = .bool neg ∧ k' ≤ s.size ∧ Good p ∧ Rd wr b s (tk s a k') ∧ Blk wr (w.heap.size + 1) (pv p) 37 ∧ Blk wr w.heap.size (pv zeros) 37 ∧ Fr [b] w wr ∧ Hid (pl (tk s a) false s.size m k' (sgOf neg) p = R))
  case atStart => exact ⟨k, false, zeros, by omega, rfl, hk, zeros_good, Blk.alloc (Blk.alloc HR.out _) _, Blk.newAt _ _ _ (by simp), Blk.alloc (Blk.new w _ _) _, ((Fr.refl [b] w).alloc _).alloc _, HP⟩
  case round =>
    obtain ⟨k', neg, p, hgk, rfl, hk', hp, hrd, hsum, hres, hfw, HQ⟩ := hrel
    have HRD : Hid (Rd wr b s (tk s a k')) := hrd
    have HSUM : Hid (Blk wr (w.heap.size + 1) (pv p) 37) := hsum
    have HRES : Hid (Blk wr w.heap.size (pv zeros) 37) := hres
    have hbr : b < wr.heap.size := Blk.lt hrd
    have hz0 : w.heap.size + 1 < wr.heap.size := Blk.lt hsum
    clear hrd hsum hres
    by_cases hte : (tm (tk s a) false s.size k').e = 0
    · have hT := tm_facts (tk s a) false s.size k'
      have hTn := tm_num (f := tk s a) false s.size k' (fun j => (tk_facts ha j).2.2.1)
      have HTE : Hid ((tm (tk s a) false s.size k').e = 0) := hte
      go_wp2_with fail
      refine (term_ok s a k' b _ (by omega) ha HRD.out hte).mono ?_
      rintro e w1 ⟨rfl, hr1, hfr1⟩
      clear hte
      generalize hTT : tm (tk s a) false s.size k' = T at *
      have HTT : Hid (tm (tk s a) false s.size k' = T) := hTT
      clear hTT
      have hs1 : Blk w1 (w.heap.size + 1) (pv p) 37 := HSUM.out.fr hfr1 (by simp [m1])
      have hq1 : Blk w1 w.heap.size (pv zeros) 37 := HRES.out.fr hfr1 (by simp [m0])
      have hf1 : Fr [b] w w1 := hfw.trans hfr1 (by simp)
      obtain ⟨p', HP'⟩ : ∃ p', Hid (plus p T.u T.x (sgOf neg * T.n) = p') := ⟨_, rfl⟩
      have hg : Good p' := by rw [← HP'.out]; exact plus_good hp _ _ _
      have HS1 : Hid (Blk w1 (w.heap.size + 1) (pv p) 37) := hs1
      have HQ1 : Hid (Blk w1 w.heap.size (pv zeros) 37) := hq1
      have HR1 : Hid (Rd w1 b s (tk s a T.k)) := hr1
      have hz1 : w.heap.size + 1 < w1.heap.size := Blk.lt hs1
      have hb1 : b < w1.heap.size := Blk.lt hr1
      clear hs1 hq1 hr1
      have hfl := field_tok0
      have hN : (if neg then -(T.n : Int) else (T.n : Int)) % 7 = ((sgOf neg * T.n % 7 : Nat) : Int) := by cases neg <;> simp [sgOf] <;> omega
      cases neg
      all_goals
        simp only [Bool.false_eq_true, if_false, if_true] at hN
        have HN := hide' hN
        clear hN
        go_wp2_with (refine wpList_load_row (by rfl) 37 _ (by rfl) (w.heap.size + 1) (by rfl) 37 (pv p) (0, 0) _ (by exact Blk.alloc HS1.out _) Tryd.underlying37 (by rfl) (size_poly hp) ?_)
        refine (Plus_to p p' T.u T.x _ _ _ hp hT.1 hT.2.1 HN.out HP'.out).mono ?_
        rintro e w3 ⟨rfl, hbel⟩
        have hs3 : Blk w3 (w.heap.size + 1) (pv p) 37 := Blk.fr (by exact Blk.alloc HS1.out _) (Fr.of_below (bs := []) hbel) (by simp)
        have hq3 : Blk w3 w.heap.size (pv zeros) 37 := Blk.fr (by exact Blk.alloc HQ1.out _) (Fr.of_below (bs := []) hbel) (by simp)
        have hr3 : Rd w3 b s (tk s a T.k) := Blk.fr (by exact Blk.alloc HR1.out _) (Fr.of_below (bs := []) hbel) (by simp)
        have hf4 : Fr [b] w (w3.setCells (w.heap.size + 1) 0 (pv p').toList) := Fr.setCells ((hf1.alloc _).trans (Fr.of_below (bs := []) hbel) (by simp)) _ _ _ (by simp)
        have hr4 : Rd (w3.setCells (w.heap.size + 1) 0 (pv p').toList) b s (tk s a T.k) := Blk.setCellsOther hr3 _ _ _ n1
        have hs4 : Blk (w3.setCells (w.heap.size + 1) 0 (pv p').toList) (w.heap.size + 1) (pv p') 37 := Blk.setAll hs3 _ (by rw [pv_size, pv_size, hg.1, hp.1])
        have hq4 : Blk (w3.setCells (w.heap.size + 1) 0 (pv p').toList) w.heap.size (pv zeros) 37 := Blk.setCellsOther hq3 _ _ _ (by omega)
        have hth : w3.there (w.heap.size + 1) 0 (pv p').size := Blk.there hs3 (by rw [pv_size, pv_size, hg.1, hp.1]; exact Nat.le_refl _)
        have HTH := hide' hth
        have HR4 := hide' hr4
        have HS4 := hide' hs4
        have HQ4 := hide' hq4
        have HF4 := hide' hf4
        obtain ⟨d0, d1, d2, d3, d4⟩ := hr4.cells
        clear hs3 hq3 hr3 hr4 hs4 hq4 hth hf4
        by_cases h4 : (tk s a T.k).c = 47
        · have hpk := pk_is4 h4
          rw [hpk] at d1
          have hlt : T.k < s.size := tk_lt ha (by omega)
          have HN' : Hid (pl (tk s a) false s.size (gk - 1) (T.k + 1) 1 p' = R) := by
            have q := HQ.out
            rw [pl_plus (by omega) (by rw [HTT.out]; exact HTE.out) (by rw [HTT.out]; exact h4), HTT.out, HP'.out] at q
            exact q
          clear h4
          go_wp2_with (refine wpList_store_mid (by rfl) 37 _ _ (by rfl) (w.heap.size + 1) 0 (pv p') (by rfl) (by rfl) HTH.out (size_poly hg) (pv_one _) ?_)
          refine (take_any s a T.k b _ (by omega) ha HR4.out).mono ?_
          rintro e w5 ⟨rfl, hr5, hfr5⟩
          go_wp2
          go_roundg (gk - 1)
          case measure => omega
          case rel => exact ⟨T.k + 1, false, p', by omega, by simp, by omega, hg, hr5, HS4.out.fr hfr5 (by simp [m1]), HQ4.out.fr hfr5 (by simp [m0]), HF4.out.trans hfr5 (by simp), HN'⟩
        · by_cases h5 : (tk s a T.k).c = 49
          · have hpk := pk_is5 h5
            rw [hpk] at d1
            have hlt : T.k < s.size := tk_lt ha (by omega)
            have HN' : Hid (pl (tk s a) false s.size (gk - 1) (T.k + 1) 6 p' = R) := by
              have q := HQ.out
              rw [pl_minus (by omega) (by rw [HTT.out]; exact HTE.out) (by rw [HTT.out]; exact h5), HTT.out, HP'.out] at q
              exact q
            clear h4 h5
            go_wp2_with (refine wpList_store_mid (by rfl) 37 _ _ (by rfl) (w.heap.size + 1) 0 (pv p') (by rfl) (by rfl) HTH.out (size_poly hg) (pv_one _) ?_)
            refine (take_any s a T.k b _ (by omega) ha HR4.out).mono ?_
            rintro e w5 ⟨rfl, hr5, hfr5⟩
            go_wp2
            go_roundg (gk - 1)
            case measure => omega
            case rel => exact ⟨T.k + 1, true, p', by omega, by simp, by omega, hg, hr5, HS4.out.fr hfr5 (by simp [m1]), HQ4.out.fr hfr5 (by simp [m0]), HF4.out.trans hfr5 (by simp), HN'⟩
          · have HB : Hid (R = ⟨0, 0, T.k, p'⟩) := by
              unfold Hid
              rw [← HQ.out, pl_done (by omega) (by rw [HTT.out]; exact HTE.out) (by rw [HTT.out]; exact h4) (by rw [HTT.out]; exact h5), HTT.out, HP'.out]
            have q4 := pk_ne4 h4
            have q5 := pk_ne5 h5
            clear h4 h5
            go_wp2_with (first | (refine wpList_store_mid (by rfl) 37 _ (.tmp 24) (by rfl) (w.heap.size + 1) 0 (pv p') (by rfl) (by rfl) HTH.out (size_poly hg) (pv_one _) ?_) | (refine wpList_load_row (by rfl) 37 _ (by rfl) (w.heap.size + 1) (by rfl) 37 (pv p') (0, 0) _ HS4.out Tryd.underlying37 (by rfl) (size_poly hg) ?_) | (refine wpList_store_mid (by rfl) 37 _ (.tmp 39) (by rfl) w.heap.size 0 (pv p') (by rfl) (by rfl) (Blk.there HQ4.out (by rw [pv_size, pv_size, hg.1]; exact Nat.le_refl _)) (size_poly hg) (pv_one _) ?_))
            refine bodyPost_ret (results_cell_row Tryd.results27 _ _ w.heap.size 37 (pv p') (0, 0) _ (by rfl) (Blk.setAll HQ4.out _ (by rw [pv_size, pv_size, hg.1]; rfl)) Tryd.underlying37 rfl (size_poly hg)) rfl (Or.inl ⟨?_, ?_, ?_, ?_, ?_⟩)
            · rw [HB.out]
            · rw [HB.out]
            · rw [HB.out]; exact hg
            · rw [HB.out]; exact Blk.setCellsOther HR4.out _ _ _ n0
            · exact Fr.setCells HF4.out _ _ _ (by simp)
    · have HB : Hid (R.e ≠ 0 ∧ R.e = (tm (tk s a) false s.size k').e ∧ R.bad = (tm (tk s a) false s.size k').bad) := by
        unfold Hid
        rw [← HQ.out, pl_bad (by omega) hte]; exact ⟨hte, rfl, rfl⟩
      go_wp2_with fail
      refine (term_not s a k' b _ (by omega) ha HRD.out hte).mono ?_
      rintro e w1 ⟨rfl, hfr1⟩
      go_wp2
      obtain ⟨g1, g2, g3⟩ := HB.out
      refine ⟨rfl, Or.inr ⟨g1, ?_, hfw.trans hfr1 (by simp)⟩⟩
      rw [g2, g3]

set_option maxRecDepth 100000 in
set_option maxHeartbeats 4000000 in
theorem polynomial_minus (s : ByteArray) (a k b : Nat) (w : World) (hs : s.size ≤ 1000) (ha : a ≤ s.size) (hr : Rd w b s (tk s a k)) (hc : (tk s a k).c = 49) :
    Calls Tryd.prog 27 #[.pointer (some ⟨b, 0, none⟩)] w (PolyPost s a b (pl (tk s a) false s.size (s.size + 1) (k + 1) 6 zeros) w) := by
  obtain ⟨c0, c1, c2, c3, c4⟩ := hr.cells
  have hb : b < w.heap.size := Blk.lt hr
  have n0 : ¬ b = w.heap.size := by omega
  have n1 : ¬ b = w.heap.size + 1 := by omega
  have m0 : ¬ w.heap.size = b := by omega
  have m1 : ¬ w.heap.size + 1 = b := by omega
  have HR : Hid (Rd w b s (tk s a k)) := hr
  have q5 := pk_is5 hc
  rw [q5] at c1
  have hk : k < s.size := tk_lt ha (by omega)
  generalize hR : pl (tk s a) false s.size (s.size + 1) (k + 1) 6 zeros = R
  have HP : Hid (pl (tk s a) false s.size (s.size + 1) (k + 1) 6 zeros = R) := hR
  clear hr hc hR q5
  go_enter Tryd.func27, Tryd.ntmps27
  go_wp2_with fail
  refine (take_any s a k b _ (by omega) ha (by exact Blk.alloc (Blk.alloc HR.out _) _)).mono ?_
  rintro e w2 ⟨rfl, hr2, hfr2⟩
  have hs2 : Blk w2 (w.heap.size + 1) (pv zeros) 37 := Blk.fr (by exact Blk.newAt _ _ _ (by simp)) hfr2 (by simp [m1])
  have hq2 : Blk w2 w.heap.size (pv zeros) 37 := Blk.fr (by exact Blk.alloc (Blk.new w _ _) _) hfr2 (by simp [m0])
  have hf2 : Fr [b] w w2 := (((Fr.refl [b] w).alloc _).alloc _).trans hfr2 (by simp)
  go_wp2
  clear c0 c1 c2 c3 c4
  go_loopg [4] (s.size + 1) (fun m v wr => ∃ (k' : Nat) (neg : Bool) (p : List Nat), s.size + 1 ≤ m + k' ∧ v = .bool neg ∧ k' ≤ s.size ∧ Good p ∧ Rd wr b s (tk s a k') ∧ Blk wr (w.heap.size + 1) (pv p) 37 ∧ Blk wr w.heap.size (pv zeros) 37 ∧ Fr [b] w wr ∧ Hid (pl (tk s a) false s.size m k' (sgOf neg) p = R))
  case atStart => exact ⟨k + 1, true, zeros, by omega, rfl, by omega, zeros_good, hr2, hs2, hq2, hf2, HP⟩
  case round =>
    obtain ⟨k', neg, p, hgk, rfl, hk', hp, hrd, hsum, hres, hfw, HQ⟩ := hrel
    have HRD : Hid (Rd wr b s (tk s a k')) := hrd
    have HSUM : Hid (Blk wr (w.heap.size + 1) (pv p) 37) := hsum
    have HRES : Hid (Blk wr w.heap.size (pv zeros) 37) := hres
    have hbr : b < wr.heap.size := Blk.lt hrd
    have hz0 : w.heap.size + 1 < wr.heap.size := Blk.lt hsum
    clear hrd hsum hres
    by_cases hte : (tm (tk s a) false s.size k').e = 0
    · have hT := tm_facts (tk s a) false s.size k'
      have hTn := tm_num (f := tk s a) false s.size k' (fun j => (tk_facts ha j).2.2.1)
      have HTE : Hid ((tm (tk s a) false s.size k').e = 0) := hte
      go_wp2_with fail
      refine (term_ok s a k' b _ (by omega) ha HRD.out hte).mono ?_
      rintro e w1 ⟨rfl, hr1, hfr1⟩
      clear hte
      generalize hTT : tm (tk s a) false s.size k' = T at *
      have HTT : Hid (tm (tk s a) false s.size k' = T) := hTT
      clear hTT
      have hs1 : Blk w1 (w.heap.size + 1) (pv p) 37 := HSUM.out.fr hfr1 (by simp [m1])
      have hq1 : Blk w1 w.heap.size (pv zeros) 37 := HRES.out.fr hfr1 (by simp [m0])
      have hf1 : Fr [b] w w1 := hfw.trans hfr1 (by simp)
      obtain ⟨p', HP'⟩ : ∃ p', Hid (plus p T.u T.x (sgOf neg * T.n) = p') := ⟨_, rfl⟩
      have hg : Good p' := by rw [← HP'.out]; exact plus_good hp _ _ _
      have HS1 : Hid (Blk w1 (w.heap.size + 1) (pv p) 37) := hs1
      have HQ1 : Hid (Blk w1 w.heap.size (pv zeros) 37) := hq1
      have HR1 : Hid (Rd w1 b s (tk s a T.k)) := hr1
      have hz1 : w.heap.size + 1 < w1.heap.size := Blk.lt hs1
      have hb1 : b < w1.heap.size := Blk.lt hr1
      clear hs1 hq1 hr1
      have hfl := field_tok0
      have hN : (if neg then -(T.n : Int) else (T.n : Int)) % 7 = ((sgOf neg * T.n % 7 : Nat) : Int) := by cases neg <;> simp [sgOf] <;> omega
      cases neg
      all_goals
        simp only [Bool.false_eq_true, if_false, if_true] at hN
        have HN := hide' hN
        clear hN
        go_wp2_with (refine wpList_load_row (by rfl) 37 _ (by rfl) (w.heap.size + 1) (by rfl) 37 (pv p) (0, 0) _ (by exact Blk.alloc HS1.out _) Tryd.underlying37 (by rfl) (size_poly hp) ?_)
        refine (Plus_to p p' T.u T.x _ _ _ hp hT.1 hT.2.1 HN.out HP'.out).mono ?_
        rintro e w3 ⟨rfl, hbel⟩
        have hs3 : Blk w3 (w.heap.size + 1) (pv p) 37 := Blk.fr (by exact Blk.alloc HS1.out _) (Fr.of_below (bs := []) hbel) (by simp)
        have hq3 : Blk w3 w.heap.size (pv zeros) 37 := Blk.fr (by exact Blk.alloc HQ1.out _) (Fr.of_below (bs := []) hbel) (by simp)
        have hr3 : Rd w3 b s (tk s a T.k) := Blk.fr (by exact Blk.alloc HR1.out _) (Fr.of_below (bs := []) hbel) (by simp)
        have hf4 : Fr [b] w (w3.setCells (w.heap.size + 1) 0 (pv p').toList) := Fr.setCells ((hf1.alloc _).trans (Fr.of_below (bs := []) hbel) (by simp)) _ _ _ (by simp)
        have hr4 : Rd (w3.setCells (w.heap.size + 1) 0 (pv p').toList) b s (tk s a T.k) := Blk.setCellsOther hr3 _ _ _ n1
        have hs4 : Blk (w3.setCells (w.heap.size + 1) 0 (pv p').toList) (w.heap.size + 1) (pv p') 37 := Blk.setAll hs3 _ (by rw [pv_size, pv_size, hg.1, hp.1])
        have hq4 : Blk (w3.setCells (w.heap.size + 1) 0 (pv p').toList) w.heap.size (pv zeros) 37 := Blk.setCellsOther hq3 _ _ _ (by omega)
        have hth : w3.there (w.heap.size + 1) 0 (pv p').size := Blk.there hs3 (by rw [pv_size, pv_size, hg.1, hp.1]; exact Nat.le_refl _)
        have HTH := hide' hth
        have HR4 := hide' hr4
        have HS4 := hide' hs4
        have HQ4 := hide' hq4
        have HF4 := hide' hf4
        obtain ⟨d0, d1, d2, d3, d4⟩ := hr4.cells
        clear hs3 hq3 hr3 hr4 hs4 hq4 hth hf4
        by_cases h4 : (tk s a T.k).c = 47
        · have hpk := pk_is4 h4
          rw [hpk] at d1
          have hlt : T.k < s.size := tk_lt ha (by omega)
          have HN' : Hid (pl (tk s a) false s.size (gk - 1) (T.k + 1) 1 p' = R) := by
            have q := HQ.out
            rw [pl_plus (by omega) (by rw [HTT.out]; exact HTE.out) (by rw [HTT.out]; exact h4), HTT.out, HP'.out] at q
            exact q
          clear h4
          go_wp2_with (refine wpList_store_mid (by rfl) 37 _ _ (by rfl) (w.heap.size + 1) 0 (pv p') (by rfl) (by rfl) HTH.out (size_poly hg) (pv_one _) ?_)
          refine (take_any s a T.k b _ (by omega) ha HR4.out).mono ?_
          rintro e w5 ⟨rfl, hr5, hfr5⟩
          go_wp2
          go_roundg (gk - 1)
          case measure => omega
          case rel => exact ⟨T.k + 1, false, p', by omega, by simp, by omega, hg, hr5, HS4.out.fr hfr5 (by simp [m1]), HQ4.out.fr hfr5 (by simp [m0]), HF4.out.trans hfr5 (by simp), HN'⟩
        · by_cases h5 : (tk s a T.k).c = 49
          · have hpk := pk_is5 h5
            rw [hpk] at d1
            have hlt : T.k < s.size := tk_lt ha (by omega)
            have HN' : Hid (pl (tk s a) false s.size (gk - 1) (T.k + 1) 6 p' = R) := by
              have q := HQ.out
              rw [pl_minus (by omega) (by rw [HTT.out]; exact HTE.out) (by rw [HTT.out]; exact h5), HTT.out, HP'.out] at q
              exact q
            clear h4 h5
            go_wp2_with (refine wpList_store_mid (by rfl) 37 _ _ (by rfl) (w.heap.size + 1) 0 (pv p') (by rfl) (by rfl) HTH.out (size_poly hg) (pv_one _) ?_)
            refine (take_any s a T.k b _ (by omega) ha HR4.out).mono ?_
            rintro e w5 ⟨rfl, hr5, hfr5⟩
            go_wp2
            go_roundg (gk - 1)
            case measure => omega
            case rel => exact ⟨T.k + 1, true, p', by omega, by simp, by omega, hg, hr5, HS4.out.fr hfr5 (by simp [m1]), HQ4.out.fr hfr5 (by simp [m0]), HF4.out.trans hfr5 (by simp), HN'⟩
          · have HB : Hid (R = ⟨0, 0, T.k, p'⟩) := by
              unfold Hid
              rw [← HQ.out, pl_done (by omega) (by rw [HTT.out]; exact HTE.out) (by rw [HTT.out]; exact h4) (by rw [HTT.out]; exact h5), HTT.out, HP'.out]
            have q4 := pk_ne4 h4
            have q5 := pk_ne5 h5
            clear h4 h5
            go_wp2_with (first | (refine wpList_store_mid (by rfl) 37 _ (.tmp 24) (by rfl) (w.heap.size + 1) 0 (pv p') (by rfl) (by rfl) HTH.out (size_poly hg) (pv_one _) ?_) | (refine wpList_load_row (by rfl) 37 _ (by rfl) (w.heap.size + 1) (by rfl) 37 (pv p') (0, 0) _ HS4.out Tryd.underlying37 (by rfl) (size_poly hg) ?_) | (refine wpList_store_mid (by rfl) 37 _ (.tmp 39) (by rfl) w.heap.size 0 (pv p') (by rfl) (by rfl) (Blk.there HQ4.out (by rw [pv_size, pv_size, hg.1]; exact Nat.le_refl _)) (size_poly hg) (pv_one _) ?_))
            refine bodyPost_ret (results_cell_row Tryd.results27 _ _ w.heap.size 37 (pv p') (0, 0) _ (by rfl) (Blk.setAll HQ4.out _ (by rw [pv_size, pv_size, hg.1]; rfl)) Tryd.underlying37 rfl (size_poly hg)) rfl (Or.inl ⟨?_, ?_, ?_, ?_, ?_⟩)
            · rw [HB.out]
            · rw [HB.out]
            · rw [HB.out]; exact hg
            · rw [HB.out]; exact Blk.setCellsOther HR4.out _ _ _ n0
            · exact Fr.setCells HF4.out _ _ _ (by simp)
    · have HB : Hid (R.e ≠ 0 ∧ R.e = (tm (tk s a) false s.size k').e ∧ R.bad = (tm (tk s a) false s.size k').bad) := by
        unfold Hid
        rw [← HQ.out, pl_bad (by omega) hte]; exact ⟨hte, rfl, rfl⟩
      go_wp2_with fail
      refine (term_not s a k' b _ (by omega) ha HRD.out hte).mono ?_
      rintro e w1 ⟨rfl, hfr1⟩
      go_wp2
      obtain ⟨g1, g2, g3⟩ := HB.out
      refine ⟨rfl, Or.inr ⟨g1, ?_, hfw.trans hfr1 (by simp)⟩⟩
      rw [g2, g3]

theorem polynomial_any (s : ByteArray) (a k b : Nat) (w : World) (hs : s.size ≤ 1000) (ha : a ≤ s.size) (hk : k ≤ s.size) (hr : Rd w b s (tk s a k)) :
    Calls Tryd.prog 27 #[.pointer (some ⟨b, 0, none⟩)] w (PolyPost s a b (poly (tk s a) false s.size k) w) := by
  unfold poly
  by_cases hc : (tk s a k).c = 49
  · rw [if_pos hc]; exact polynomial_minus s a k b w hs ha hr hc
  · rw [if_neg hc]; exact polynomial_plain s a k b w hs ha hk hr hc
end Go.Proofs.YtaajdcaciofmaaaDoor
