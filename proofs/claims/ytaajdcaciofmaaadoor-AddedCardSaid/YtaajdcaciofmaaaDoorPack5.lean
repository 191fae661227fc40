import Derived.Test.YtaajdcaciofmaaaDoorPack4
import Derived.LaidEql
import Derived.Stop.Asserts
import Derived.RowKitTokens
import Derived.Laws.Rows
import Derived.Deep.MidRow
import Derived.Defers
import Derived.Recover
/- THE READER: polynomial. -/
namespace Go.Proofs.YtaajdcaciofmaaaDoor
open Go.RowKit

theorem hide' {p : Prop} (h : p) : Hid p := h
theorem field_tok0 (x0 x1 x2 x3 : Int) (w : World) : (Instr.field 88 (.agg #[.int .i64 x0, .int .i64 x1, .int .i64 x2, .int .i64 x3]) 0).run Tryd.prog w = .ok (.int .i64 x0) w := by kernel_rfl

theorem Plus_to (p p' : List Nat) (u x a : Nat) (N : Int) (w : World) (hp : Good p) (hu : u ≤ 6) (hx : x ≤ 4) (hN : N % 7 = ((a % 7 : Nat) : Int)) (h : plus p u x a = p') :
    Calls Tryd.prog 44 #[.agg (pv p), .agg #[.int .i64 N, .int .i64 u, .int .i64 x]] w fun e w' => e = .returned (.agg (pv p')) ∧ Below w.heap.size w w' := by
  rw [← h]; exact Plus_any p u x a N w hp hu hx hN

set_option maxRecDepth 100000 in
set_option maxHeartbeats 4000000 in
theorem polynomial_plain (s : ByteArray) (a k b : Nat) (w : World) (hs : s.size ≤ 1000) (ha : a ≤ s.size) (hk : k ≤ s.size) (hr : Rd w b s (tk s a k)) (hc : (tk s a k).c ≠ 49) :
    Calls Tryd.prog 27 #[.pointer (some ⟨b, 0, none⟩)] w (PolyPost s a b (pl (tk s a) false s.size (s.size + 1) k 1 zeros) w) := by
  obtain ⟨c0, c1, c2, c3, c4⟩ := hr.cells
  have hb : b < w.heap.size := Blk.lt hr
  have n0 : ¬ b = w.heap.size := by omega
  have n1 : ¬ b = w.heap.size + 1 := by omega
  have m0 : ¬ w.heap.size = b := by omega
  have m1 : ¬ w.heap.size + 1 = b := by omega
  have HR : Hid (Rd w b s (tk s a k)) := hr
  have q5 := pk_no5 hc
  generalize hR : pl (tk s a) false s.size (s.size + 1) k 1 zeros = R
  have HP : Hid (pl (tk s a) false s.size (s.size + 1) k 1 zeros = R) := hR
  clear hr hc hR
  go_enter Tryd.func27, Tryd.ntmps27
  go_wp2
  clear c0 c1 c2 c3 c4 q5
  go_loopg [4] (s.size + 1) (fun m v wr => ∃ (k' : Nat) (neg : Bool) (p : List Nat), s.size + 1 ≤ m + k' ∧ v = .bool neg ∧ k' ≤ s.size ∧ Good p ∧ Rd wr b s (tk s a k') ∧ Blk wr (w.heap.size + 1) (pv p) 37 ∧ Blk wr w.heap.size (pv zeros) 37 ∧ Fr [b] w wr ∧ Hid (pl (tk s a) false s.size m k' (sgOf neg) p = R))
  case atStart => exact ⟨k, false, zeros, by omega, rfl, hk, zeros_good, Blk.alloc (Blk.alloc HR.out _) _, Blk.newAt _ _ _ (by simp), Blk.alloc (Blk.new w _ _) _, ((Fr.refl [b] w).alloc _).alloc _, HP⟩
  case round =>
    obtain ⟨k', neg, p, hgk, rfl, hk', hp, hrd, hsum, hres, hfw, HQ⟩ := hrel
    have HRD : Hid (Rd wr b s (tk s a k')) := hrd
    have HSUM : Hid (Blk wr (w.heap.size + 1) (pv p) 37) := hsum
    have HRES : Hid (Blk wr w.heap.size (pv zeros) 37) := hres
    have hbr : b < wr.heap.size := Blk.lt hrd
    have hz0 : w.heap.size + 1 < wr.heap.size := Blk.lt hsum
    clear hrd hsum hres
    by_cases hte : (tm (tk s a) false s.size k').e = 0
    · have hT := tm_facts (tk s a) false s.size k'
      have hTn := tm_num (f := tk s a) false s.size k' (fun j => (tk_facts ha j).2.2.1)
      have HTE : Hid ((tm (tk s a) false s.size k').e = 0) := hte
      go_wp2_with fail
      refine (term_ok s a k' b _ (by omega) ha HRD.out hte).mono ?_
      rintro e w1 ⟨rfl, hr1, hfr1⟩
      clear hte
      generalize hTT : tm (tk s a) false s.size k' = T at *
      have HTT : Hid (tm (tk s a) false s.size k' = T) := hTT
      clear hTT
      have hs1 : Blk w1 (w.heap.size + 1) (pv p) 37 := HSUM.out.fr hfr1 (by simp [m1])
      have hq1 : Blk w1 w.heap.size (pv zeros) 37 := HRES.out.fr hfr1 (by simp [m0])
      have hf1 : Fr [b] w w1 := hfw.trans hfr1 (by simp)
      obtain ⟨p', HP'⟩ : ∃ p', Hid (plus p T.u T.x (sgOf neg * T.n) = p') := ⟨_, rfl⟩
      have hg : Good p' := by rw [← HP'.out]; exact plus_good hp _ _ _
      have HS1 : Hid (Blk w1 (w.heap.size + 1) (pv p) 37) := hs1
      have HQ1 : Hid (Blk w1 w.heap.size (pv zeros) 37) := hq1
      have HR1 : Hid (Rd w1 b s (tk s a T.k)) := hr1
      have hz1 : w.heap.size + 1 < w1.heap.size := Blk.lt hs1
      have hb1 : b < w1.heap.size := Blk.lt hr1
      clear hs1 hq1 hr1
      have hfl := field_tok0
      have hN : (if neg then -(T.n : Int) else (T.n : Int)) % 7 = ((sgOf neg * T.n % 7 : Nat) : Int) := by cases neg <;> simp [sgOf] <;> omega
      cases neg
      all_goals
        simp only [Bool.false_eq_true, if_false, if_true] at hN
        have HN := hide' hN
        clear hN
        go_wp2_with (refine wpList_load_row (by rfl) 37 _ (by rfl) (w.heap.size + 1) (by rfl) 37 (pv p) (0, 0) _ (by exact Blk.alloc HS1.out _) Tryd.underlying37 (by rfl) (size_poly hp) ?_)
        refine (Plus_to p p' T.u T.x _ _ _ hp hT.1 hT.2.1 HN.out HP'.out).mono ?_
        rintro e w3 ⟨rfl, hbel⟩
        have hs3 : Blk w3 (w.heap.size + 1) (pv p) 37 := Blk.fr (by exact Blk.alloc HS1.out _) (Fr.of_below (bs := []) hbel) (by simp)
        have hq3 : Blk w3 w.heap.size (pv zeros) 37 := Blk.fr (by exact Blk.alloc HQ1.out _) (Fr.of_below (bs := []) hbel) (by simp)
        have hr3 : Rd w3 b s (tk s a T.k) := Blk.fr (by exact Blk.alloc HR1.out _) (Fr.of_below (bs := []) hbel) (by simp)
        have hf4 : Fr [b] w (w3.setCells (w.heap.size + 1) 0 (pv p').toList) := Fr.setCells ((hf1.alloc _).trans (Fr.of_below (bs := []) hbel) (by simp)) _ _ _ (by simp)
        have hr4 : Rd (w3.setCells (w.heap.size + 1) 0 (pv p').toList) b s (tk s a T.k) := Blk.setCellsOther hr3 _ _ _ n1
        have hs4 : Blk (w3.setCells (w.heap.size + 1) 0 (pv p').toList) (w.heap.size + 1) (pv p') 37 := Blk.setAll hs3 _ (by rw [pv_size, pv_size, hg.1, hp.1])
        have hq4 : Blk (w3.setCells (w.heap.size + 1) 0 (pv p').toList) w.heap.size (pv zeros) 37 := Blk.setCellsOther hq3 _ _ _ (by omega)
        have hth : w3.there (w.heap.size + 1) 0 (pv p').size := Blk.there hs3 (by rw [pv_size, pv_size, hg.1, hp.1]; exact Nat.le_refl _)
        have HTH := hide' hth
        have HR4 := hide' hr4
        have HS4 := hide' hs4
        have HQ4 := hide' hq4
        have HF4 := hide' hf4
        obtain ⟨d0, d1, d2, d3, d4⟩ := hr4.cells
        clear hs3 hq3 hr3 hr4 hs4 hq4 hth hf4
        by_cases h4 : (tk s a T.k).c = 47
        · have hpk := pk_is4 h4
          rw [hpk] at d1
          have hlt : T.k < s.size := tk_lt ha (by omega)
          have HN' : Hid (pl (tk s a) false s.size (gk - 1) (T.k + 1) 1 p' = R) := by
            have q := HQ.out
            rw [pl_plus (by omega) (by rw [HTT.out]; exact HTE.out) (by rw [HTT.out]; exact h4), HTT.out, HP'.out] at q
            exact q
          clear h4
          go_wp2_with (refine wpList_store_mid (by rfl) 37 _ _ (by rfl) (w.heap.size + 1) 0 (pv p') (by rfl) (by rfl) HTH.out (size_poly hg) (pv_one _) ?_)
          refine (take_any s a T.k b _ (by omega) ha HR4.out).mono ?_
          rintro e w5 ⟨rfl, hr5, hfr5⟩
          go_wp2
          go_roundg (gk - 1)
          case measure => omega
          case rel => exact ⟨T.k + 1, false, p', by omega, by simp, by omega, hg, hr5, HS4.out.fr hfr5 (by simp [m1]), HQ4.out.fr hfr5 (by simp [m0]), HF4.out.trans hfr5 (by simp), HN'⟩
        · by_cases h5 : (tk s a T.k).c = 49
          · have hpk := pk_is5 h5
            rw [hpk] at d1
            have hlt : T.k < s.size := tk_lt ha (by omega)
            have HN' : Hid (pl (tk s a) false s.size (gk - 1) (T.k + 1) 6 p' = R) := by
              have q := HQ.out
              rw [pl_minus (by omega) (by rw [HTT.out]; exact HTE.out) (by rw [HTT.out]; exact h5), HTT.out, HP'.out] at q
              exact q
            clear h4 h5
            go_wp2_with (refine wpList_store_mid (by rfl) 37 _ _ (by rfl) (w.heap.size + 1) 0 (pv p') (by rfl) (by rfl) HTH.out (size_poly hg) (pv_one _) ?_)
            refine (take_any s a T.k b _ (by omega) ha HR4.out).mono ?_
            rintro e w5 ⟨rfl, hr5, hfr5⟩
            go_wp2
            go_roundg (gk - 1)
            case measure => omega
            case rel => exact ⟨T.k + 1, true, p', by omega, by simp, by omega, hg, hr5, HS4.out.fr hfr5 (by simp [m1]), HQ4.out.fr hfr5 (by simp [m0]), HF4.out.trans hfr5 (by simp), HN'⟩
          · have HB : Hid (R = ⟨0, 0, T.k, p'⟩) := by
              unfold Hid
              rw [← HQ.out, pl_done (by omega) (by rw [HTT.out]; exact HTE.out) (by rw [HTT.out]; exact h4) (by rw [HTT.out]; exact h5), HTT.out, HP'.out]
            have q4 := pk_ne4 h4
            have q5 := pk_ne5 h5
            clear h4 h5
            go_wp2_with (first | (refine wpList_store_mid (by rfl) 37 _ (.tmp 24) (by rfl) (w.heap.size + 1) 0 (pv p') (by rfl) (by rfl) HTH.out (size_poly hg) (pv_one _) ?_) | (refine wpList_load_row (by rfl) 37 _ (by rfl) (w.heap.size + 1) (by rfl) 37 (pv p') (0, 0) _ HS4.out Tryd.underlying37 (by rfl) (size_poly hg) ?_) | (refine wpList_store_mid (by rfl) 37 _ (.tmp 39) (by rfl) w.heap.size 0 (pv p') (by rfl) (by rfl) (Blk.there HQ4.out (by rw [pv_size, pv_size, hg.1]; exact Nat.le_refl _)) (size_poly hg) (pv_one _) ?_))
            refine bodyPost_ret (results_cell_row Tryd.results27 _ _ w.heap.size 37 (pv p') (0, 0) _ (by rfl) (Blk.setAll HQ4.out _ (by rw [pv_size, pv_size, hg.1]; rfl)) Tryd.underlying37 rfl (size_poly hg)) rfl (Or.inl ⟨?_, ?_, ?_, ?_, ?_⟩)
            · rw [HB.out]
            · rw [HB.out]
            · rw [HB.out]; exact hg
            · rw [HB.out]; exact Blk.setCellsOther HR4.out _ _ _ n0
            · exact Fr.setCells HF4.out _ _ _ (by simp)
    · have HB : Hid (R.e ≠ 0 ∧ R.e = (tm (tk s a) false s.size k').e ∧ R.bad = (tm (tk s a) false s.size k').bad) := by
        unfold Hid
        rw [← HQ.out, pl_bad (by omega) hte]; exact ⟨hte, rfl, rfl⟩
      go_wp2_with fail
      refine (term_not s a k' b _ (by omega) ha HRD.out hte).mono ?_
      rintro e w1 ⟨rfl, hfr1⟩
      go_wp2
      obtain ⟨g1, g2, g3⟩ := HB.out
      refine ⟨rfl, Or.inr ⟨g1, ?_, hfw.trans hfr1 (by simp)⟩⟩
      rw [g2, g3]

set_option maxRecDepth 100000 in
set_option maxHeartbeats 4000000 in
theorem polynomial_minus (s : ByteArray) (a k b : Nat) (w : World) (hs : s.size ≤ 1000) (ha : a ≤ s.size) (hr : Rd w b s (tk s a k)) (hc : (tk s a k).c = 49) :
    Calls Tryd.prog 27 #[.pointer (some ⟨b, 0, none⟩)] w (PolyPost s a b (pl (tk s a) false s.size (s.size + 1) (k + 1) 6 zeros) w) := by
  obtain ⟨c0, c1, c2, c3, c4⟩ := hr.cells
  have hb : b < w.heap.size := Blk.lt hr
  have n0 : ¬ b = w.heap.size := by omega
  have n1 : ¬ b = w.heap.size + 1 := by omega
  have m0 : ¬ w.heap.size = b := by omega
  have m1 : ¬ w.heap.size + 1 = b := by omega
  have HR : Hid (Rd w b s (tk s a k)) := hr
  have q5 := pk_is5 hc
  rw [q5] at c1
  have hk : k < s.size := tk_lt ha (by omega)
  generalize hR : pl (tk s a) false s.size (s.size + 1) (k + 1) 6 zeros = R
  have HP : Hid (pl (tk s a) false s.size (s.size + 1) (k + 1) 6 zeros = R) := hR
  clear hr hc hR q5
  go_enter Tryd.func27, Tryd.ntmps27
  go_wp2_with fail
  refine (take_any s a k b _ (by omega) ha (by exact Blk.alloc (Blk.alloc HR.out _) _)).mono ?_
  rintro e w2 ⟨rfl, hr2, hfr2⟩
  have hs2 : Blk w2 (w.heap.size + 1) (pv zeros) 37 := Blk.fr (by exact Blk.newAt _ _ _ (by simp)) hfr2 (by simp [m1])
  have hq2 : Blk w2 w.heap.size (pv zeros) 37 := Blk.fr (by exact Blk.alloc (Blk.new w _ _) _) hfr2 (by simp [m0])
  have hf2 : Fr [b] w w2 := (((Fr.refl [b] w).alloc _).alloc _).trans hfr2 (by simp)
  go_wp2
  clear c0 c1 c2 c3 c4
  go_loopg [4] (s.size + 1) (fun m v wr => ∃ (k' : Nat) (neg : Bool) (p : List Nat), s.size + 1 ≤ m + k' ∧ v = .bool neg ∧ k' ≤ s.size ∧ Good p ∧ Rd wr b s (tk s a k') ∧ Blk wr (w.heap.size + 1) (pv p) 37 ∧ Blk wr w.heap.size (pv zeros) 37 ∧ Fr [b] w wr ∧ Hid (pl (tk s a) false s.size m k' (sgOf neg) p = R))
  case atStart => exact ⟨k + 1, true, zeros, by omega, rfl, by omega, zeros_good, hr2, hs2, hq2, hf2, HP⟩
  case round =>
    obtain ⟨k', neg, p, hgk, rfl, hk', hp, hrd, hsum, hres, hfw, HQ⟩ := hrel
    have HRD : Hid (Rd wr b s (tk s a k')) := hrd
    have HSUM : Hid (Blk wr (w.heap.size + 1) (pv p) 37) := hsum
    have HRES : Hid (Blk wr w.heap.size (pv zeros) 37) := hres
    have hbr : b < wr.heap.size := Blk.lt hrd
    have hz0 : w.heap.size + 1 < wr.heap.size := Blk.lt hsum
    clear hrd hsum hres
    by_cases hte : (tm (tk s a) false s.size k').e = 0
    · have hT := tm_facts (tk s a) false s.size k'
      have hTn := tm_num (f := tk s a) false s.size k' (fun j => (tk_facts ha j).2.2.1)
      have HTE : Hid ((tm (tk s a) false s.size k').e = 0) := hte
      go_wp2_with fail
      refine (term_ok s a k' b _ (by omega) ha HRD.out hte).mono ?_
      rintro e w1 ⟨rfl, hr1, hfr1⟩
      clear hte
      generalize hTT : tm (tk s a) false s.size k' = T at *
      have HTT : Hid (tm (tk s a) false s.size k' = T) := hTT
      clear hTT
      have hs1 : Blk w1 (w.heap.size + 1) (pv p) 37 := HSUM.out.fr hfr1 (by simp [m1])
      have hq1 : Blk w1 w.heap.size (pv zeros) 37 := HRES.out.fr hfr1 (by simp [m0])
      have hf1 : Fr [b] w w1 := hfw.trans hfr1 (by simp)
      obtain ⟨p', HP'⟩ : ∃ p', Hid (plus p T.u T.x (sgOf neg * T.n) = p') := ⟨_, rfl⟩
      have hg : Good p' := by rw [← HP'.out]; exact plus_good hp _ _ _
      have HS1 : Hid (Blk w1 (w.heap.size + 1) (pv p) 37) := hs1
      have HQ1 : Hid (Blk w1 w.heap.size (pv zeros) 37) := hq1
      have HR1 : Hid (Rd w1 b s (tk s a T.k)) := hr1
      have hz1 : w.heap.size + 1 < w1.heap.size := Blk.lt hs1
      have hb1 : b < w1.heap.size := Blk.lt hr1
      clear hs1 hq1 hr1
      have hfl := field_tok0
      have hN : (if neg then -(T.n : Int) else (T.n : Int)) % 7 = ((sgOf neg * T.n % 7 : Nat) : Int) := by cases neg <;> simp [sgOf] <;> omega
      cases neg
      all_goals
        simp only [Bool.false_eq_true, if_false, if_true] at hN
        have HN := hide' hN
        clear hN
        go_wp2_with (refine wpList_load_row (by rfl) 37 _ (by rfl) (w.heap.size + 1) (by rfl) 37 (pv p) (0, 0) _ (by exact Blk.alloc HS1.out _) Tryd.underlying37 (by rfl) (size_poly hp) ?_)
        refine (Plus_to p p' T.u T.x _ _ _ hp hT.1 hT.2.1 HN.out HP'.out).mono ?_
        rintro e w3 ⟨rfl, hbel⟩
        have hs3 : Blk w3 (w.heap.size + 1) (pv p) 37 := Blk.fr (by exact Blk.alloc HS1.out _) (Fr.of_below (bs := []) hbel) (by simp)
        have hq3 : Blk w3 w.heap.size (pv zeros) 37 := Blk.fr (by exact Blk.alloc HQ1.out _) (Fr.of_below (bs := []) hbel) (by simp)
        have hr3 : Rd w3 b s (tk s a T.k) := Blk.fr (by exact Blk.alloc HR1.out _) (Fr.of_below (bs := []) hbel) (by simp)
        have hf4 : Fr [b] w (w3.setCells (w.heap.size + 1) 0 (pv p').toList) := Fr.setCells ((hf1.alloc _).trans (Fr.of_below (bs := []) hbel) (by simp)) _ _ _ (by simp)
        have hr4 : Rd (w3.setCells (w.heap.size + 1) 0 (pv p').toList) b s (tk s a T.k) := Blk.setCellsOther hr3 _ _ _ n1
        have hs4 : Blk (w3.setCells (w.heap.size + 1) 0 (pv p').toList) (w.heap.size + 1) (pv p') 37 := Blk.setAll hs3 _ (by rw [pv_size, pv_size, hg.1, hp.1])
        have hq4 : Blk (w3.setCells (w.heap.size + 1) 0 (pv p').toList) w.heap.size (pv zeros) 37 := Blk.setCellsOther hq3 _ _ _ (by omega)
        have hth : w3.there (w.heap.size + 1) 0 (pv p').size := Blk.there hs3 (by rw [pv_size, pv_size, hg.1, hp.1]; exact Nat.le_refl _)
        have HTH := hide' hth
        have HR4 := hide' hr4
        have HS4 := hide' hs4
        have HQ4 := hide' hq4
        have HF4 := hide' hf4
        obtain ⟨d0, d1, d2, d3, d4⟩ := hr4.cells
        clear hs3 hq3 hr3 hr4 hs4 hq4 hth hf4
        by_cases h4 : (tk s a T.k).c = 47
        · have hpk := pk_is4 h4
          rw [hpk] at d1
          have hlt : T.k < s.size := tk_lt ha (by omega)
          have HN' : Hid (pl (tk s a) false s.size (gk - 1) (T.k + 1) 1 p' = R) := by
            have q := HQ.out
            rw [pl_plus (by omega) (by rw [HTT.out]; exact HTE.out) (by rw [HTT.out]; exact h4), HTT.out, HP'.out] at q
            exact q
          clear h4
          go_wp2_with (refine wpList_store_mid (by rfl) 37 _ _ (by rfl) (w.heap.size + 1) 0 (pv p') (by rfl) (by rfl) HTH.out (size_poly hg) (pv_one _) ?_)
          refine (take_any s a T.k b _ (by omega) ha HR4.out).mono ?_
          rintro e w5 ⟨rfl, hr5, hfr5⟩
          go_wp2
          go_roundg (gk - 1)
          case measure => omega
          case rel => exact ⟨T.k + 1, false, p', by omega, by simp, by omega, hg, hr5, HS4.out.fr hfr5 (by simp [m1]), HQ4.out.fr hfr5 (by simp [m0]), HF4.out.trans hfr5 (by simp), HN'⟩
        · by_cases h5 : (tk s a T.k).c = 49
          · have hpk := pk_is5 h5
            rw [hpk] at d1
            have hlt : T.k < s.size := tk_lt ha (by omega)
            have HN' : Hid (pl (tk s a) false s.size (gk - 1) (T.k + 1) 6 p' = R) := by
              have q := HQ.out
              rw [pl_minus (by omega) (by rw [HTT.out]; exact HTE.out) (by rw [HTT.out]; exact h5), HTT.out, HP'.out] at q
              exact q
            clear h4 h5
            go_wp2_with (refine wpList_store_mid (by rfl) 37 _ _ (by rfl) (w.heap.size + 1) 0 (pv p') (by rfl) (by rfl) HTH.out (size_poly hg) (pv_one _) ?_)
            refine (take_any s a T.k b _ (by omega) ha HR4.out).mono ?_
            rintro e w5 ⟨rfl, hr5, hfr5⟩
            go_wp2
            go_roundg (gk - 1)
            case measure => omega
            case rel => exact ⟨T.k + 1, true, p', by omega, by simp, by omega, hg, hr5, HS4.out.fr hfr5 (by simp [m1]), HQ4.out.fr hfr5 (by simp [m0]), HF4.out.trans hfr5 (by simp), HN'⟩
          · have HB : Hid (R = ⟨0, 0, T.k, p'⟩) := by
              unfold Hid
              rw [← HQ.out, pl_done (by omega) (by rw [HTT.out]; exact HTE.out) (by rw [HTT.out]; exact h4) (by rw [HTT.out]; exact h5), HTT.out, HP'.out]
            have q4 := pk_ne4 h4
            have q5 := pk_ne5 h5
            clear h4 h5
            go_wp2_with (first | (refine wpList_store_mid (by rfl) 37 _ (.tmp 24) (by rfl) (w.heap.size + 1) 0 (pv p') (by rfl) (by rfl) HTH.out (size_poly hg) (pv_one _) ?_) | (refine wpList_load_row (by rfl) 37 _ (by rfl) (w.heap.size + 1) (by rfl) 37 (pv p') (0, 0) _ HS4.out Tryd.underlying37 (by rfl) (size_poly hg) ?_) | (refine wpList_store_mid (by rfl) 37 _ (.tmp 39) (by rfl) w.heap.size 0 (pv p') (by rfl) (by rfl) (Blk.there HQ4.out (by rw [pv_size, pv_size, hg.1]; exact Nat.le_refl _)) (size_poly hg) (pv_one _) ?_))
            refine bodyPost_ret (results_cell_row Tryd.results27 _ _ w.heap.size 37 (pv p') (0, 0) _ (by rfl) (Blk.setAll HQ4.out _ (by rw [pv_size, pv_size, hg.1]; rfl)) Tryd.underlying37 rfl (size_poly hg)) rfl (Or.inl ⟨?_, ?_, ?_, ?_, ?_⟩)
            · rw [HB.out]
            · rw [HB.out]
            · rw [HB.out]; exact hg
            · rw [HB.out]; exact Blk.setCellsOther HR4.out _ _ _ n0
            · exact Fr.setCells HF4.out _ _ _ (by simp)
    · have HB : Hid (R.e ≠ 0 ∧ R.e = (tm (tk s a) false s.size k').e ∧ R.bad = (tm (tk s a) false s.size k').bad) := by
        unfold Hid
        rw [← HQ.out, pl_bad (by omega) hte]; exact ⟨hte, rfl, rfl⟩
      go_wp2_with fail
      refine (term_not s a k' b _ (by omega) ha HRD.out hte).mono ?_
      rintro e w1 ⟨rfl, hfr1⟩
      go_wp2
      obtain ⟨g1, g2, g3⟩ := HB.out
      refine ⟨rfl, Or.inr ⟨g1, ?_, hfw.trans hfr1 (by simp)⟩⟩
      rw [g2, g3]

theorem polynomial_any (s : ByteArray) (a k b : Nat) (w : World) (hs : s.size ≤ 1000) (ha : a ≤ s.size) (hk : k ≤ s.size) (hr : Rd w b s (tk s a k)) :
    Calls Tryd.prog 27 #[.pointer (some ⟨b, 0, none⟩)] w (PolyPost s a b (poly (tk s a) false s.size k) w) := by
  unfold poly
  by_cases hc : (tk s a k).c = 49
  · rw [if_pos hc]; exact polynomial_minus s a k b w hs ha hr hc
  · rw [if_neg hc]; exact polynomial_plain s a k b w hs ha hk hr hc
end Go.Proofs.YtaajdcaciofmaaaDoor
/- errors.As AT A fault AND A *fault, after the library's worked example Toyas. -/
namespace Go.Proofs.YtaajdcaciofmaaaDoor
open Go.RowKit Go.Extern.Stop Go.Stop Go.Extern

theorem as_valueOf (t : Addr) (w : World) : (ReflectliteValue.unpack (.iface 57 (.pointer (some t)))).run Tryd.prog w
    = .ok (.agg #[.pointer (some ⟨5, 57, none⟩), .pointer (some ⟨w.heap.size, 0, none⟩), .int .u64 150]) (w.alloc (.cells #[.pointer (some t)] 57)) := by kernel_rfl
theorem as_type (a : Addr) (w : World) : (ReflectliteValue.methodAny (ReflectliteValue.valueError "reflectlite.Value.Type" 0) (fun t _ _ _ => ReflectliteType.toType t) #[.agg #[.pointer (some ⟨5, 57, none⟩), .pointer (some a), .int .u64 150]]).run Tryd.prog w
    = .ok (.iface 111 (.agg #[.pointer (some ⟨5, 57, none⟩)])) w := by kernel_rfl
theorem as_kindP (w : World) : ((ReflectliteType.abiMethod fun t => (fun a : Nat => Value.int IntKind.u8 (a : Int)) <$> Rtype.kind t) #[.pointer (some ⟨5, 57, none⟩)]).run Tryd.prog w = .ok (.int .u8 22) w := by kernel_rfl
theorem as_kindE (w : World) : ((ReflectliteType.abiMethod fun t => (fun a : Nat => Value.int IntKind.u8 (a : Int)) <$> Rtype.kind t) #[.pointer (some ⟨5, 55, none⟩)]).run Tryd.prog w = .ok (.int .u8 25) w := by kernel_rfl
theorem as_rlm (z : Sem Value) (f : TypeId → Addr → Nat → Nat → Sem Value) (v : Value) :
    ReflectliteValue.method z f #[v] = (do match ← ReflectliteValue.parts v with | none => z | some (t, a, fl) => f t a fl (fl % 32)) := rfl
theorem as_partsP (a : Addr) (w : World) : (ReflectliteValue.parts (.agg #[.pointer (some ⟨5, 57, none⟩), .pointer (some a), .int .u64 150])).run Tryd.prog w = .ok (some (57, a, 150)) w := by kernel_rfl
theorem as_isNil (a p : Addr) (W : World) (ha : W.cell? a = some (.pointer (some p))) :
    (ReflectliteValue.method (ReflectliteValue.valueError "reflectlite.Value.IsNil" 0) ReflectliteValue.isNil #[.agg #[.pointer (some ⟨5, 57, none⟩), .pointer (some a), .int .u64 150]]).run Tryd.prog W = .ok (.bool false) W := by
  rw [as_rlm]
  simp only [Sem.run_bind, as_partsP, Result.andThen]
  simp [ReflectliteValue.isNil, loadVar, isAgg, underlying, Tryd.underlying57, ha, Result.andThen]
theorem as_elem (w : World) : (ReflectliteType.method ReflectliteType.elem #[.agg #[.pointer (some ⟨5, 57, none⟩)]]).run Tryd.prog w = .ok (.iface 111 (.agg #[.pointer (some ⟨5, 55, none⟩)])) w := by kernel_rfl
theorem as_implements (w : World) : (ReflectliteType.relation "Implements" ReflectliteType.implements_ #[.agg #[.pointer (some ⟨5, 55, none⟩)], .iface 111 (.agg #[.pointer (some ⟨5, 52, none⟩)])]).run Tryd.prog w = .ok (.bool true) w := by kernel_rfl
theorem as_typeOf (v : Value) (w : World) : (ReflectliteType.typeOf #[.iface 55 v]).run Tryd.prog w = .ok (.iface 111 (.agg #[.pointer (some ⟨5, 55, none⟩)])) w := by kernel_rfl
theorem as_assignable (w : World) : (ReflectliteType.relation "AssignableTo" ReflectliteType.assignableTo #[.agg #[.pointer (some ⟨5, 55, none⟩)], .iface 111 (.agg #[.pointer (some ⟨5, 55, none⟩)])]).run Tryd.prog w = .ok (.bool true) w := by kernel_rfl
theorem as_valueOfE (x y : Int) (w : World) : (ReflectliteValue.unpack (.iface 55 (.agg #[.int .i64 x, .int .i64 y]))).run Tryd.prog w
    = .ok (.agg #[.pointer (some ⟨5, 55, none⟩), .pointer (some ⟨w.heap.size, 0, none⟩), .int .u64 153]) (w.alloc (.cells #[.int .i64 x, .int .i64 y] 55)) := by kernel_rfl
theorem as_elemOf (w : World) : (Rtype.elem? 57).run Tryd.prog w = .ok (some 55) w := by kernel_rfl
theorem as_mk (p : Addr) (w : World) : (ReflectliteValue.mk 55 p ReflectliteValue.flagAddr).run Tryd.prog w = .ok (.agg #[.pointer (some ⟨5, 55, none⟩), .pointer (some p), .int .u64 409]) w := by kernel_rfl
theorem as_elemV (a p : Addr) (W : World) (ha : W.cell? a = some (.pointer (some p))) :
    (ReflectliteValue.method (ReflectliteValue.valueError "reflectlite.Value.Elem" 0) ReflectliteValue.elem #[.agg #[.pointer (some ⟨5, 57, none⟩), .pointer (some a), .int .u64 150]]).run Tryd.prog W
      = .ok (.agg #[.pointer (some ⟨5, 55, none⟩), .pointer (some p), .int .u64 409]) W := by
  rw [as_rlm]
  simp only [Sem.run_bind, as_partsP, Result.andThen]
  simp [ReflectliteValue.elem, loadVar, isAgg, underlying, Tryd.underlying57, ha, Result.andThen, as_elemOf, as_mk]
theorem as_rls (v x : Value) : ReflectliteValue.set #[v, x] = (do
    let (some (dst, a, fl), some (src, b, _)) := (← ReflectliteValue.parts v, ← ReflectliteValue.parts x)
      | unsupported (.noEntry "extern/(internal/reflectlite.Value).Set.zeroValue")
    if fl / ReflectliteValue.flagAddr % 2 == 0 then unsupported (.noEntry "extern/(internal/reflectlite.Value).Set.unaddressable")
    let val ← loadVar src b
    if ← Rtype.directlyAssignable dst src then storeVar dst a val
    else if ← Rtype.implements dst src then
      if (← Rtype.kind src) == 20 then
        match val with
        | .nilIface => unsupported (.noEntry "extern/reflectlite: a nil value of one interface type handed on as a value of another")
        | _ => storeVar dst a val
      else storeVar dst a (.iface src val)
    else panicString ("reflectlite.Set: value of type " ++ (← Rtype.spelt src) ++ " is not assignable to type " ++ (← Rtype.spelt dst))
    pure (.tuple #[])) := rfl
theorem as_partsA (a : Addr) (w : World) : (ReflectliteValue.parts (.agg #[.pointer (some ⟨5, 55, none⟩), .pointer (some a), .int .u64 409])).run Tryd.prog w = .ok (some (55, a, 409)) w := by kernel_rfl
theorem as_partsE (a : Addr) (w : World) : (ReflectliteValue.parts (.agg #[.pointer (some ⟨5, 55, none⟩), .pointer (some a), .int .u64 153])).run Tryd.prog w = .ok (some (55, a, 153)) w := by kernel_rfl
theorem as_direct (w : World) : (Rtype.directlyAssignable 55 55).run Tryd.prog w = .ok true w := by kernel_rfl
theorem as_set (t b : Nat) (x y x0 y0 : Int) (W : World) (hb : Blk W b #[.int .i64 x, .int .i64 y] 55) (ht : Blk W t #[.int .i64 x0, .int .i64 y0] 55) :
    (ReflectliteValue.set #[.agg #[.pointer (some ⟨5, 55, none⟩), .pointer (some ⟨t, 0, none⟩), .int .u64 409], .agg #[.pointer (some ⟨5, 55, none⟩), .pointer (some ⟨b, 0, none⟩), .int .u64 153]]).run Tryd.prog W
      = .ok (.tuple #[]) ((W.setCell ⟨t, 0, none⟩ (.int .i64 x)).setCell ⟨t, 1, none⟩ (.int .i64 y)) := by
  have hl := run_loadVar_row (P := Tryd.prog) W b 55 55 #[.int .i64 x, .int .i64 y] (0, 0) _ hb Tryd.underlying55 rfl (by kernel_rfl)
  have hth : W.there t 0 2 := fun j hj => by
    rw [Nat.zero_add, Blk.cell ht, Blk.frozen ht]
    match j, hj with
    | 0, _ => exact ⟨rfl, rfl⟩
    | 1, _ => exact ⟨rfl, rfl⟩
  have hs := run_storeVar_mid (P := Tryd.prog) W t 0 55 #[.int .i64 x, .int .i64 y] hth (by kernel_rfl) (by kernel_rfl)
  rw [as_rls]
  simp only [Sem.run_bind, as_partsA, as_partsE, Result.andThen]
  simp [ReflectliteValue.flagAddr, hl, as_direct, Result.andThen, hs, World.setCells]
end Go.Proofs.YtaajdcaciofmaaaDoor
/- errors.As AT A fault AND A *fault: the walk. -/
namespace Go.Proofs.YtaajdcaciofmaaaDoor
open Go.RowKit Go.Extern.Stop Go.Stop Go.Extern

set_option maxRecDepth 100000 in
set_option maxHeartbeats 4000000 in
theorem as_hit (x y x0 y0 : Int) (t : Nat) (w : World) (hg : w.cell? ⟨0, 0, none⟩ = some (.iface 111 (.agg #[.pointer (some ⟨5, 52, none⟩)]))) (ht : Blk w t #[.int .i64 x0, .int .i64 y0] 55) :
    Calls Tryd.prog 25 #[.iface 55 (.agg #[.int .i64 x, .int .i64 y]), .iface 57 (.pointer (some ⟨t, 0, none⟩))] w fun ev w' => ev = .returned (.bool true) ∧ Blk w' t #[.int .i64 x, .int .i64 y] 55 ∧ Fr [t] w w' := by
  have h6 := @run_callFunc_extern Tryd.prog 37 _ (fun args => ReflectliteValue.unpack (args.getD 0 (.tuple #[]))) Tryd.func37 (by kernel_rfl) (by kernel_rfl) (by kernel_rfl) (by kernel_rfl)
  have h7 := @run_callFunc_extern Tryd.prog 38 _ (ReflectliteValue.methodAny (ReflectliteValue.valueError "reflectlite.Value.Type" 0) (fun t _ _ _ => ReflectliteType.toType t)) Tryd.func38 (by kernel_rfl) (by kernel_rfl) (by kernel_rfl) (by kernel_rfl)
  have h8 := @run_callFunc_extern Tryd.prog 39 _ (ReflectliteValue.method (ReflectliteValue.valueError "reflectlite.Value.IsNil" 0) ReflectliteValue.isNil) Tryd.func39 (by kernel_rfl) (by kernel_rfl) (by kernel_rfl) (by kernel_rfl)
  have h27 := @run_callFunc_extern Tryd.prog 100 _ (ReflectliteType.abiMethod fun t => do pure (.int .u8 (← Rtype.kind t))) Tryd.func100 (by kernel_rfl) (by kernel_rfl) (by kernel_rfl) (by kernel_rfl)
  have h37 := @run_callFunc_extern Tryd.prog 111 _ (ReflectliteType.method ReflectliteType.elem) Tryd.func111 (by kernel_rfl) (by kernel_rfl) (by kernel_rfl) (by kernel_rfl)
  have h38 := @run_callFunc_extern Tryd.prog 112 _ (ReflectliteType.relation "Implements" ReflectliteType.implements_) Tryd.func112 (by kernel_rfl) (by kernel_rfl) (by kernel_rfl) (by kernel_rfl)
  have h10 := @run_callFunc_extern Tryd.prog 60 _ ReflectliteType.typeOf Tryd.func60 (by kernel_rfl) (by kernel_rfl) (by kernel_rfl) (by kernel_rfl)
  have h35 := @run_callFunc_extern Tryd.prog 109 _ (ReflectliteType.relation "AssignableTo" ReflectliteType.assignableTo) Tryd.func109 (by kernel_rfl) (by kernel_rfl) (by kernel_rfl) (by kernel_rfl)
  have h11 := @run_callFunc_extern Tryd.prog 61 _ (ReflectliteValue.method (ReflectliteValue.valueError "reflectlite.Value.Elem" 0) ReflectliteValue.elem) Tryd.func61 (by kernel_rfl) (by kernel_rfl) (by kernel_rfl) (by kernel_rfl)
  have h12 := @run_callFunc_extern Tryd.prog 62 _ ReflectliteValue.set Tryd.func62 (by kernel_rfl) (by kernel_rfl) (by kernel_rfl) (by kernel_rfl)
  have tO := as_typeOf
  have a25 := as_assignable
  have v25 := as_valueOfE
  have f6 := as_valueOf
  have f7 := as_type
  have k27 := as_kindP
  have k25 := as_kindE
  have e27 := as_elem
  have i25 := as_implements
  have htl : t < w.heap.size := Blk.lt ht
  have hlt : 0 < w.heap.size := by omega
  have b0 : Blk (w.alloc (.cells #[.pointer (some ⟨t, 0, none⟩)] 57)) w.heap.size #[.pointer (some ⟨t, 0, none⟩)] 57 := Blk.new w _ _
  have c2 : ((w.alloc (.cells #[.pointer (some ⟨t, 0, none⟩)] 57)).alloc (.cells #[.pointer (some ⟨5, 57, none⟩), .pointer (some ⟨w.heap.size, 0, none⟩), .int .u64 150] 77)).cell? ⟨w.heap.size, 0, none⟩ = some (.pointer (some ⟨t, 0, none⟩)) := (Blk.alloc b0 _).cell 0
  have c3 : (((w.alloc (.cells #[.pointer (some ⟨t, 0, none⟩)] 57)).alloc (.cells #[.pointer (some ⟨5, 57, none⟩), .pointer (some ⟨w.heap.size, 0, none⟩), .int .u64 150] 77)).alloc (.cells #[.pointer (some ⟨5, 57, none⟩), .pointer (some ⟨w.heap.size, 0, none⟩), .int .u64 150] 77)).cell? ⟨w.heap.size, 0, none⟩ = some (.pointer (some ⟨t, 0, none⟩)) := (Blk.alloc (Blk.alloc b0 _) _).cell 0
  have n8 := as_isNil ⟨w.heap.size, 0, none⟩ ⟨t, 0, none⟩ _ c2
  have el := as_elemV ⟨w.heap.size, 0, none⟩ ⟨t, 0, none⟩ _ c3
  have hg2 : ((w.alloc (.cells #[.pointer (some ⟨t, 0, none⟩)] 57)).alloc (.cells #[.pointer (some ⟨5, 57, none⟩), .pointer (some ⟨w.heap.size, 0, none⟩), .int .u64 150] 77)).cell? ⟨0, 0, none⟩ = some (.iface 111 (.agg #[.pointer (some ⟨5, 52, none⟩)])) := by
    rw [World.cell?_alloc_lt _ _ ⟨0, 0, none⟩ (by simp), World.cell?_alloc_lt _ _ ⟨0, 0, none⟩ hlt]; exact hg
  have st := as_set t (w.heap.size + 1 + 1 + 1) x y x0 y0 ((((w.alloc (.cells #[.pointer (some ⟨t, 0, none⟩)] 57)).alloc (.cells #[.pointer (some ⟨5, 57, none⟩), .pointer (some ⟨w.heap.size, 0, none⟩), .int .u64 150] 77)).alloc (.cells #[.pointer (some ⟨5, 57, none⟩), .pointer (some ⟨w.heap.size, 0, none⟩), .int .u64 150] 77)).alloc (.cells #[.int .i64 x, .int .i64 y] 55)) (Blk.newAt _ _ _ (by simp)) (Blk.alloc (Blk.alloc (Blk.alloc (Blk.alloc ht _) _) _) _)
  have HT := ht
  have HH : Hid (Blk w t #[.int .i64 x0, .int .i64 y0] 55) := ht
  clear ht HT b0 c2 c3 hg
  go_enter Tryd.func25, Tryd.ntmps25
  go_wp2
  refine wp_loop_rounds 1 ?_
  rw [rounds_succ]
  go_wp2
  go_ret
  refine ⟨rfl, ?_, ?_⟩
  · exact Blk.set (Blk.set (Blk.alloc (Blk.alloc (Blk.alloc (Blk.alloc HH.out _) _) _) _) 0 _) 1 _
  · exact Fr.setCell (Fr.setCell (((((Fr.refl [t] w).alloc _).alloc _).alloc _).alloc _) _ _ (by simp)) _ _ (by simp)
end Go.Proofs.YtaajdcaciofmaaaDoor
/- THE READER: begin, finish; the deferred function. -/
namespace Go.Proofs.YtaajdcaciofmaaaDoor
open Go.RowKit

set_option maxHeartbeats 1000000 in
theorem begin_long (s : ByteArray) (w : World) (h : 90 < s.size) (hm : s.size ≤ 140737488351232) :
    Calls Tryd.prog 26 #[.string s] w fun e w' => e = .panicked (faulty 2 0) ∧ w' = w := by
  have h' : ((s.size : Nat) : Int) > 90 := by omega
  go_enter Tryd.func26, Tryd.ntmps26
  go_wp2
  exact ⟨rfl, rfl, rfl⟩

set_option maxHeartbeats 1000000 in
theorem begin_short (s : ByteArray) (w : World) (h : ¬ 90 < s.size) :
    Calls Tryd.prog 26 #[.string s] w fun e w' => ∃ b, e = .returned (.pointer (some ⟨b, 0, none⟩)) ∧ w.heap.size ≤ b ∧ Rd w' b s (tk s 0 0) ∧ Below w.heap.size w w' := by
  have HK : Hid (tok s 0 = tk s 0 0) := rfl
  go_enter Tryd.func26, Tryd.ntmps26
  go_wp2_with fail
  refine (tokenAt_any s 0 _ _ (by omega) (by omega) (by omega)).mono ?_
  rintro e w1 ⟨rfl, hbel⟩
  rw [HK.out]
  go_wp2
  go_ret
  refine ⟨w1.heap.size, rfl, hbel.size, Blk.new w1 _ _, hbel.alloc hbel.size _⟩

set_option maxHeartbeats 1000000 in
theorem finish_ok (s : ByteArray) (t : Tok) (b : Nat) (w : World) (hr : Rd w b s t) (hc : t.c = 0) :
    Calls Tryd.prog 28 #[.pointer (some ⟨b, 0, none⟩)] w fun e w' => e = .returned (.tuple #[]) ∧ w' = w := by
  obtain ⟨c0, c1, c2, c3, c4⟩ := hr.cells
  have hpk : pk t.c = 0 := by rw [hc]; rfl
  rw [hpk] at c1
  go_enter Tryd.func28, Tryd.ntmps28
  go_wp2
  go_end0
  exact ⟨rfl, rfl⟩

theorem pk_ne0 {c : Nat} (h : c ≠ 0) : (pk c != 0) = true := by
  rw [bne_iff_ne]; unfold pk
  repeat' split
  all_goals omega

set_option maxHeartbeats 1000000 in
theorem finish_not (s : ByteArray) (t : Tok) (b : Nat) (w : World) (hr : Rd w b s t) (hc : t.c ≠ 0) :
    Calls Tryd.prog 28 #[.pointer (some ⟨b, 0, none⟩)] w fun e w' => e = .panicked (faulty 4 t.at') ∧ w' = w := by
  obtain ⟨c0, c1, c2, c3, c4⟩ := hr.cells
  have q := pk_ne0 hc
  have HR : Hid (Rd w b s t) := hr
  clear hc hr
  go_enter Tryd.func28, Tryd.ntmps28
  go_wp2_with fail
  refine (fail_any s t b _ _ HR.out).mono ?_
  rintro e w1 ⟨rfl, rfl⟩
  go_wp2
  exact ⟨rfl, rfl, rfl⟩

end Go.Proofs.YtaajdcaciofmaaaDoor
/- THE READER: the deferred function. -/
namespace Go.Proofs.YtaajdcaciofmaaaDoor
open Go.RowKit

theorem wp_named {P : Program} {c : Code} {Q : Exit → Act → World → Prop} {a : Act} {w : World} (a' : Act) (h : a = a') (k : ∀ Q' : Exit → Act → World → Prop, Q' = Q → Code.wp P c Q' a' w) : Code.wp P c Q a w := h ▸ k Q rfl

set_option maxRecDepth 100000 in
set_option maxHeartbeats 1000000 in
theorem catch_panicking (p q r : Nat) (x y : Int) (p0 : List Nat) (q0 r0 : Int) (w : World) (hp : Blk w p (pv p0) 37) (hp0 : Good p0) (hq : Blk w q #[.int .i64 q0] 22) (hr : Blk w r #[.int .i64 r0] 3) (hpq : p ≠ q) (hpr : p ≠ r) (hqr : q ≠ r)
    (hg : w.cell? ⟨0, 0, none⟩ = some (.iface 111 (.agg #[.pointer (some ⟨5, 52, none⟩)]))) :
    CallsD Tryd.prog 24 #[.pointer (some ⟨p, 0, none⟩), .pointer (some ⟨q, 0, none⟩), .pointer (some ⟨r, 0, none⟩)] (.panicking (faulty x y)) w fun e u' w' =>
      e = .returned (.tuple #[]) ∧ u' = .panicking [{ v := .iface 55 (.agg #[.int .i64 x, .int .i64 y]), recovered := true }] ∧ Blk w' p (pv zeros) 37 ∧ Blk w' q #[.int .i64 x] 22 ∧ Blk w' r #[.int .i64 y] 3 ∧ Fr [p, q, r] w w' := by
  have ta : ∀ (v : Value) (w : World), (Instr.typeAssert (.iface 55 v) 20 52 true).run Tryd.prog w = .ok (.tuple #[.iface 55 v, .bool true]) w := fun _ _ => by kernel_rfl
  refine callsD_of_wpS Tryd.func24 rfl fun c₀ cs hu => ?_
  apply wpS_seq
  apply wpS_region
  simp [wpOpsS, go_sem, recoverD, hu, Tryd.ntmps24, Exit.thenS, faulty]
  refine wpS_of_wp ?_
  refine wp_named ⟨#[Value.pointer (some ⟨p, 0, none⟩), Value.pointer (some ⟨q, 0, none⟩), Value.pointer (some ⟨r, 0, none⟩), Value.iface 55 (Value.agg #[Value.int IntKind.i64 x, Value.int IntKind.i64 y]), undef, undef, undef, Value.iface 55 (Value.agg #[Value.int IntKind.i64 x, Value.int IntKind.i64 y]), undef, undef, undef, undef, undef, undef, undef, undef, undef, undef, undef, undef, undef, undef, undef, undef, undef], []⟩ (by kernel_rfl) ?_
  intro Q' hQ
  have HQ := hide' hQ
  clear hQ
  have hb0 : 0 < w.heap.size := by have := Blk.lt hp; omega
  have hpl := Blk.lt hp
  have hql := Blk.lt hq
  have hrl := Blk.lt hr
  have HP := hide' hp
  have HQQ := hide' hq
  have HRR := hide' hr
  clear hp hq hr hu
  go_wp2_with fail
  refine (as_hit x y 0 0 w.heap.size _ (by rw [World.cell?_alloc_lt _ _ ⟨0, 0, none⟩ hb0]; exact hg) (Blk.new w _ _)).mono ?_
  rintro e w1 ⟨rfl, ht1, hf1⟩
  have hp1 : Blk w1 p (pv p0) 37 := Blk.fr (Blk.alloc HP.out _) hf1 (by simp; omega)
  have hq1 : Blk w1 q #[.int .i64 q0] 22 := Blk.fr (Blk.alloc HQQ.out _) hf1 (by simp; omega)
  have hr1 : Blk w1 r #[.int .i64 r0] 3 := Blk.fr (Blk.alloc HRR.out _) hf1 (by simp; omega)
  have hfw : Fr [p, q, r] w w1 := ((Fr.refl [p, q, r] w).alloc _).trans hf1 (by simp)
  have t0 : w1.cell? ⟨w.heap.size, 0, none⟩ = some (.int .i64 x) := ht1.cell 0
  have t1 : w1.cell? ⟨w.heap.size, 1, none⟩ = some (.int .i64 y) := ht1.cell 1
  obtain ⟨z, HZ⟩ : ∃ z, Hid (z = pv zeros) := ⟨_, rfl⟩
  have hzs : z.size = 35 := by rw [HZ.out]; rfl
  have hq2 : Blk (w1.setCells p 0 z.toList) q #[.int .i64 q0] 22 := Blk.setCellsOther hq1 _ _ _ (Ne.symm hpq)
  have hr2 : Blk (w1.setCells p 0 z.toList) r #[.int .i64 r0] 3 := Blk.setCellsOther hr1 _ _ _ (Ne.symm hpr)
  have hp2 : Blk (w1.setCells p 0 z.toList) p z 37 := Blk.setAll hp1 _ (by rw [hzs, pv_size, hp0.1])
  have u0 : (w1.setCells p 0 z.toList).cell? ⟨q, 0, none⟩ = some (.int .i64 q0) := hq2.cell 0
  have u1 : (w1.setCells p 0 z.toList).cell? ⟨r, 0, none⟩ = some (.int .i64 r0) := hr2.cell 0
  have u2 := hq2.frozen 0
  have u3 := hr2.frozen 0
  have HTH := hide' (Blk.there hp1 (show z.size ≤ (pv p0).size by rw [hzs, pv_size, hp0.1]; exact Nat.le_refl _))
  have H1 := hide' hp2
  have H2 := hide' hq2
  have H3 := hide' hr2
  have nqr : ¬ q = r := hqr
  clear hp1 hq1 hr1 hq2 hr2 hp2 ht1
  have hsz : (Tryd.prog.info? 37).map (·.size) = some z.size := by rw [HZ.out]; exact size_poly zeros_good
  have hon : z.all (·.oneCell') = true := by rw [HZ.out]; exact pv_one _
  go_wp2_with (refine wpList_store_mid (by rfl) 37 _ _ (by rfl) p 0 z (by rfl) (by rw [HZ.out]; rfl) HTH.out hsz hon ?_)
  rw [HQ.out]
  have P1 : Blk (((w1.setCells p 0 z.toList).setCell ⟨q, 0, none⟩ (.int .i64 x)).setCell ⟨r, 0, none⟩ (.int .i64 y)) p (pv zeros) 37 := by
    rw [← HZ.out]; exact (H1.out.setOther _ _ hpq).setOther _ _ hpr
  have P2 : Blk (((w1.setCells p 0 z.toList).setCell ⟨q, 0, none⟩ (.int .i64 x)).setCell ⟨r, 0, none⟩ (.int .i64 y)) q #[.int .i64 x] 22 := (H2.out.set 0 _).setOther _ _ hqr
  have P3 : Blk (((w1.setCells p 0 z.toList).setCell ⟨q, 0, none⟩ (.int .i64 x)).setCell ⟨r, 0, none⟩ (.int .i64 y)) r #[.int .i64 y] 3 := (H3.out.setOther _ _ (Ne.symm hqr)).set 0 _
  have P4 : Fr [p, q, r] w (((w1.setCells p 0 z.toList).setCell ⟨q, 0, none⟩ (.int .i64 x)).setCell ⟨r, 0, none⟩ (.int .i64 y)) := ((hfw.setCells _ _ _ (by simp)).setCell _ _ (by simp)).setCell _ _ (by simp)
  generalize (((w1.setCells p 0 z.toList).setCell ⟨q, 0, none⟩ (.int .i64 x)).setCell ⟨r, 0, none⟩ (.int .i64 y)) = W at *
  simp [bodyPostS, results, Tryd.results24]
  exact ⟨P1, P2, P3, P4⟩
end Go.Proofs.YtaajdcaciofmaaaDoor
/- THE READER: Polynomial. -/
namespace Go.Proofs.YtaajdcaciofmaaaDoor
open Go.RowKit

set_option maxRecDepth 100000 in
set_option maxHeartbeats 1000000 in
theorem catch_idle (p q r : Nat) (w : World) :
    CallsD Tryd.prog 24 #[.pointer (some ⟨p, 0, none⟩), .pointer (some ⟨q, 0, none⟩), .pointer (some ⟨r, 0, none⟩)] .returning w fun e u' w' =>
      e = .returned (.tuple #[]) ∧ u' = .returning ∧ w' = w := by
  refine callsD_of_wpS Tryd.func24 rfl fun c₀ cs hu => ?_
  apply wpS_seq
  apply wpS_region
  simp [wpOpsS, go_sem, recoverD, hu, Tryd.ntmps24, Exit.thenS]
  refine wpS_of_wp ?_
  refine wp_named ⟨#[Value.pointer (some ⟨p, 0, none⟩), Value.pointer (some ⟨q, 0, none⟩), Value.pointer (some ⟨r, 0, none⟩), .nilIface, undef, undef, undef, .nilIface, undef, undef, undef, undef, undef, undef, undef, undef, undef, undef, undef, undef, undef, undef, undef, undef, undef], []⟩ (by kernel_rfl) ?_
  intro Q' hQ
  have HQ := hide' hQ
  clear hQ
  have he : ∀ w : World, (binOp .eql 20 .nilIface .nilIface).run Tryd.prog w = .ok (.bool true) w := fun _ => by kernel_rfl
  go_wp2
  rw [HQ.out]
  cases c₀
  simp_all [bodyPostS, results, Tryd.results24]

theorem results_poly (tmps : Array Value) (w : World) (g1 g2 g3 : Nat) (p : List Nat) (e b : Int) (h1 : tmps.getD 2 undef = .pointer (some ⟨g1, 0, none⟩)) (h2 : tmps.getD 3 undef = .pointer (some ⟨g2, 0, none⟩)) (h3 : tmps.getD 4 undef = .pointer (some ⟨g3, 0, none⟩))
    (hp : Good p) (b1 : Blk w g1 (pv p) 37) (b2 : Blk w g2 #[.int .i64 e] 22) (b3 : Blk w g3 #[.int .i64 b] 3) :
    (results Tryd.f15 tmps).run Tryd.prog w = .ok (.tuple #[.agg (pv p), .int .i64 e, .int .i64 b]) w := by
  have l1 := run_loadVar_row (P := Tryd.prog) w g1 37 37 (pv p) (0, 0) _ b1 Tryd.underlying37 rfl (size_poly hp)
  have e2 : w.cell? ⟨g2, 0, none⟩ = some (.int .i64 e) := b2.cell 0
  have e3 : w.cell? ⟨g3, 0, none⟩ = some (.int .i64 b) := b3.cell 0
  have l2 : (loadVar 22 ⟨g2, 0, none⟩).run Tryd.prog w = .ok (.int .i64 e) w := by simp [loadVar, isAgg, underlying, Tryd.underlying22, e2]
  have l3 : (loadVar 3 ⟨g3, 0, none⟩).run Tryd.prog w = .ok (.int .i64 b) w := by simp [loadVar, isAgg, underlying, Tryd.underlying3, e3]
  have h1' : tmps[2]?.getD undef = .pointer (some ⟨g1, 0, none⟩) := by simpa using h1
  have h2' : tmps[3]?.getD undef = .pointer (some ⟨g2, 0, none⟩) := by simpa using h2
  have h3' : tmps[4]?.getD undef = .pointer (some ⟨g3, 0, none⟩) := by simpa using h3
  simp [results, Tryd.results15, h1', h2', h3', asAddr, l1, l2, l3]

/-- The blocks of the results, while nothing has been read. -/
def Three (w0 w : World) (p : List Nat) (e b : Int) : Prop := Blk w w0.heap.size (pv p) 37 ∧ Blk w (w0.heap.size + 1) #[.int .i64 e] 22 ∧ Blk w (w0.heap.size + 1 + 1) #[.int .i64 b] 3
theorem Three.fr {bs : List Nat} {w0 w w' : World} {p : List Nat} {e b : Int} (h : Three w0 w p e b) (f : Fr bs w w') (hb : ∀ x ∈ bs, x ≠ w0.heap.size ∧ x ≠ w0.heap.size + 1 ∧ x ≠ w0.heap.size + 1 + 1) : Three w0 w' p e b :=
  ⟨h.1.fr f (fun q => (hb _ q).1 rfl), h.2.1.fr f (fun q => (hb _ q).2.1 rfl), h.2.2.fr f (fun q => (hb _ q).2.2 rfl)⟩

/-- The cell that errors.errorType holds. -/
def ErrT (w : World) : Prop := w.cell? ⟨0, 0, none⟩ = some (.iface 111 (.agg #[.pointer (some ⟨5, 52, none⟩)]))
theorem ErrT.lt {w : World} (h : ErrT w) : 0 < w.heap.size := by
  rcases Nat.eq_zero_or_pos w.heap.size with h0 | g
  · unfold ErrT at h; simp [World.cell?, h0] at h
  · exact g
theorem ErrT.fr {bs : List Nat} {w w' : World} (h : ErrT w) (f : Fr bs w w') (hb : 0 ∉ bs) : ErrT w' := by
  unfold ErrT at *
  rw [f.cell 0 (ErrT.lt h) hb]; exact h

/-- Where the reading ended in a panic, the deferred function has caught it. -/
theorem caught (w W : World) (tmps : Array Value) (p0 : List Nat) (x y : Int) (R : Ending → World → Prop) (h1 : tmps.getD 2 undef = .pointer (some ⟨w.heap.size, 0, none⟩)) (h2 : tmps.getD 3 undef = .pointer (some ⟨w.heap.size + 1, 0, none⟩)) (h3 : tmps.getD 4 undef = .pointer (some ⟨w.heap.size + 1 + 1, 0, none⟩))
    (ht : Three w W p0 0 0) (hp0 : Good p0) (hg : ErrT W) (hw : Fr [] w W)
    (hR : ∀ W', Below w.heap.size w W' → R (.returned (.tuple #[.agg (pv zeros), .int .i64 x, .int .i64 y])) W') :
    Leaves Tryd.prog Tryd.f15 tmps R [{ target := .fn (.func 24) #[.pointer (some ⟨w.heap.size, 0, none⟩), .pointer (some ⟨w.heap.size + 1, 0, none⟩), .pointer (some ⟨w.heap.size + 1 + 1, 0, none⟩)], args := #[] }] (.panicking (faulty x y)) W := by
  refine leaves_cons (f := 24) (args := #[.pointer (some ⟨w.heap.size, 0, none⟩), .pointer (some ⟨w.heap.size + 1, 0, none⟩), .pointer (some ⟨w.heap.size + 1 + 1, 0, none⟩)]) (by simp) (by simp [go_sem]) ?_
  refine (catch_panicking w.heap.size (w.heap.size + 1) (w.heap.size + 1 + 1) x y p0 0 0 W ht.1 hp0 ht.2.1 ht.2.2 (by omega) (by omega) (by omega) hg).mono ?_
  rintro e u' W' ⟨rfl, rfl, b1, b2, b3, hf⟩
  refine ⟨_, results_poly tmps W' _ _ _ zeros x y h1 h2 h3 zeros_good b1 b2 b3, hR W' ?_⟩
  exact (hw.trans hf (by simp; omega)).below (Nat.le_refl _) (by simp)
theorem idle (w W : World) (tmps : Array Value) (p : List Nat) (R : Ending → World → Prop) (h1 : tmps.getD 2 undef = .pointer (some ⟨w.heap.size, 0, none⟩)) (h2 : tmps.getD 3 undef = .pointer (some ⟨w.heap.size + 1, 0, none⟩)) (h3 : tmps.getD 4 undef = .pointer (some ⟨w.heap.size + 1 + 1, 0, none⟩))
    (ht : Three w W p 0 0) (hp : Good p) (hR : R (.returned (.tuple #[.agg (pv p), .int .i64 0, .int .i64 0])) W) :
    Leaves Tryd.prog Tryd.f15 tmps R [{ target := .fn (.func 24) #[.pointer (some ⟨w.heap.size, 0, none⟩), .pointer (some ⟨w.heap.size + 1, 0, none⟩), .pointer (some ⟨w.heap.size + 1 + 1, 0, none⟩)], args := #[] }] .returning W := by
  refine leaves_cons (f := 24) (args := #[.pointer (some ⟨w.heap.size, 0, none⟩), .pointer (some ⟨w.heap.size + 1, 0, none⟩), .pointer (some ⟨w.heap.size + 1 + 1, 0, none⟩)]) (by simp) (by simp [go_sem]) ?_
  refine (catch_idle w.heap.size (w.heap.size + 1) (w.heap.size + 1 + 1) W).mono ?_
  rintro e u' W' ⟨rfl, rfl, rfl⟩
  exact ⟨_, results_poly tmps _ _ _ _ p 0 0 h1 h2 h3 hp ht.1 ht.2.1 ht.2.2, hR⟩

theorem three0 (w : World) : Three w (((w.alloc (.cells #[.int .i64 0, .int .i64 0, .int .i64 0, .int .i64 0, .int .i64 0, .int .i64 0, .int .i64 0, .int .i64 0, .int .i64 0, .int .i64 0, .int .i64 0, .int .i64 0, .int .i64 0, .int .i64 0, .int .i64 0, .int .i64 0, .int .i64 0, .int .i64 0, .int .i64 0, .int .i64 0, .int .i64 0, .int .i64 0, .int .i64 0, .int .i64 0, .int .i64 0, .int .i64 0, .int .i64 0, .int .i64 0, .int .i64 0, .int .i64 0, .int .i64 0, .int .i64 0, .int .i64 0, .int .i64 0, .int .i64 0] 37)).alloc (.cells #[.int .i64 0] 22)).alloc (.cells #[.int .i64 0] 3)) zeros 0 0 :=
  ⟨Blk.alloc (Blk.alloc (Blk.new w _ _) _) _, Blk.alloc (Blk.newAt _ _ _ (by simp)) _, Blk.newAt _ _ _ (by simp)⟩

set_option maxRecDepth 100000 in
set_option maxHeartbeats 1000000 in
theorem Polynomial_long (s : ByteArray) (w : World) (hg : ErrT w) (hl : 90 < s.size) (hm : s.size ≤ 140737488351232) :
    Calls Tryd.prog 15 #[.string s] w fun e w' => e = .returned (.tuple #[.agg (pv zeros), .int .i64 2, .int .i64 0]) ∧ Below w.heap.size w w' := by
  have hmf : ∀ (fn : Fn) (first cap : Array Value) (w : World), (Instr.makeFunc fn first cap).run Tryd.prog w = .ok (.func fn first cap) w := fun _ _ _ _ => rfl
  have HG := hide' hg
  clear hg
  go_enter_defers Tryd.func15, Tryd.ntmps15
  go_wp2_with fail
  refine (begin_long s _ hl hm).mono ?_
  rintro e w1 ⟨rfl, rfl⟩
  go_wp2
  exact caught w _ _ zeros 2 0 _ rfl rfl rfl (three0 w) zeros_good (HG.out.fr (bs := []) ((((Fr.refl [] w).alloc _).alloc _).alloc _) (by simp)) ((((Fr.refl [] w).alloc _).alloc _).alloc _) (fun W' h => ⟨rfl, h⟩)

theorem polynomial_ok (s : ByteArray) (b : Nat) (w : World) (hs : s.size ≤ 1000) (hr : Rd w b s (tk s 0 0)) (h : (poly (tk s 0) false s.size 0).e = 0) :
    Calls Tryd.prog 27 #[.pointer (some ⟨b, 0, none⟩)] w fun e w' => e = .returned (.agg (pv (poly (tk s 0) false s.size 0).p)) ∧ Good (poly (tk s 0) false s.size 0).p ∧ Rd w' b s (tk s 0 (poly (tk s 0) false s.size 0).k) ∧ Fr [b] w w' :=
  (polynomial_any s 0 0 b w hs (Nat.zero_le _) (Nat.zero_le _) hr).mono (by rintro e w1 (g | g); exact g.2; exact absurd h g.1)
theorem polynomial_not (s : ByteArray) (b : Nat) (w : World) (hs : s.size ≤ 1000) (hr : Rd w b s (tk s 0 0)) (h : (poly (tk s 0) false s.size 0).e ≠ 0) :
    Calls Tryd.prog 27 #[.pointer (some ⟨b, 0, none⟩)] w fun e w' => e = .panicked (faulty (poly (tk s 0) false s.size 0).e (poly (tk s 0) false s.size 0).bad) ∧ Fr [b] w w' :=
  (polynomial_any s 0 0 b w hs (Nat.zero_le _) (Nat.zero_le _) hr).mono (by rintro e w1 (g | g); exact absurd g.1 h; exact g.2)

set_option maxRecDepth 100000 in
set_option maxHeartbeats 2000000 in
theorem Polynomial_short (s : ByteArray) (w : World) (hg : ErrT w) (hl : ¬ 90 < s.size) :
    Calls Tryd.prog 15 #[.string s] w fun e w' => e = .returned (.tuple #[.agg (pv (rd s).p), .int .i64 (rd s).e, .int .i64 (rd s).bad]) ∧ Good (rd s).p ∧ Below w.heap.size w w' := by
  have hmf : ∀ (fn : Fn) (first cap : Array Value) (w : World), (Instr.makeFunc fn first cap).run Tryd.prog w = .ok (.func fn first cap) w := fun _ _ _ _ => rfl
  have HG := hide' hg
  have h3 := hide' (three0 w)
  generalize hrr : rd s = RR
  have HRR := hide' hrr
  clear hg hrr
  go_enter_defers Tryd.func15, Tryd.ntmps15
  go_wp2_with fail
  refine (begin_short s _ hl).mono ?_
  rintro e w1 ⟨b, rfl, hb, hr1, hbel⟩
  have hf1 : Fr [] w w1 := ((((Fr.refl [] w).alloc _).alloc _).alloc _).trans (Fr.of_below (bs := []) hbel) (by simp)
  have h31 : Three w w1 zeros 0 0 := h3.out.fr (Fr.of_below (bs := []) hbel) (by simp)
  have hb' : w.heap.size + 1 + 1 < b := by simp at hb; omega
  have HF1 := hide' hf1
  have H31 := hide' h31
  have HR1 := hide' hr1
  clear hf1 h31 hr1 hbel hb
  by_cases he : (poly (tk s 0) false s.size 0).e = 0
  · go_wp2_with fail
    refine (polynomial_ok s b _ (by omega) HR1.out he).mono ?_
    rintro e w2 ⟨rfl, hgp, hr2, hf2⟩
    have HF2 : Hid (Fr [] w w2) := HF1.out.trans hf2 (by simp; omega)
    have H32 : Three w w2 zeros 0 0 := H31.out.fr hf2 (by simp; omega)
    have hs2 : w2.there w.heap.size 0 (pv (poly (tk s 0) false s.size 0).p).size := Blk.there H32.1 (by rw [pv_size, pv_size, hgp.1]; exact Nat.le_refl _)
    have H33 : Hid (Three w (w2.setCells w.heap.size 0 (pv (poly (tk s 0) false s.size 0).p).toList) (poly (tk s 0) false s.size 0).p 0 0) := ⟨Blk.setAll H32.1 _ (by rw [pv_size, pv_size, hgp.1]; rfl), Blk.setCellsOther H32.2.1 _ _ _ (by omega), Blk.setCellsOther H32.2.2 _ _ _ (by omega)⟩
    have HR3 : Hid (Rd (w2.setCells w.heap.size 0 (pv (poly (tk s 0) false s.size 0).p).toList) b s (tk s 0 (poly (tk s 0) false s.size 0).k)) := Blk.setCellsOther hr2 _ _ _ (by omega)
    have HF3 : Hid (Fr [] w (w2.setCells w.heap.size 0 (pv (poly (tk s 0) false s.size 0).p).toList)) := HF2.out.setCells _ _ _ (by simp)
    have HS := hide' hs2
    clear hs2 H32 hr2
    by_cases hc : (tk s 0 (poly (tk s 0) false s.size 0).k).c = 0
    · have HE : Hid (RR = ⟨0, 0, (poly (tk s 0) false s.size 0).p⟩) := by unfold Hid; rw [← HRR.out]; unfold rd; rw [if_neg hl, if_pos he, if_pos hc]
      generalize poly (tk s 0) false s.size 0 = PP at *
      go_wp2_with (refine wpList_store_mid (by rfl) 37 _ (.tmp 10) (by rfl) w.heap.size 0 (pv PP.p) (by rfl) (by rfl) HS.out (size_poly hgp) (pv_one _) ?_)
      refine (finish_ok s _ b _ HR3.out hc).mono ?_
      rintro e w3 ⟨rfl, rfl⟩
      obtain ⟨W, HW⟩ : ∃ W, Hid (W = w2.setCells w.heap.size 0 (pv PP.p).toList) := ⟨_, rfl⟩
      rw [← HW.out]
      rw [← HW.out] at H33 HF3
      clear HS HR3
      have HS : Hid (W.there w.heap.size 0 (pv PP.p).size) := Blk.there H33.out.1 (Nat.le_refl _)
      have b1 : Blk (W.setCells w.heap.size 0 (pv PP.p).toList) w.heap.size (pv PP.p) 37 := Blk.setAll H33.out.1 _ rfl
      have b2 : Blk (W.setCells w.heap.size 0 (pv PP.p).toList) (w.heap.size + 1) #[.int .i64 0] 22 := Blk.setCellsOther H33.out.2.1 _ _ _ (by omega)
      have b3 : Blk (W.setCells w.heap.size 0 (pv PP.p).toList) (w.heap.size + 1 + 1) #[.int .i64 0] 3 := Blk.setCellsOther H33.out.2.2 _ _ _ (by omega)
      have e0 : (W.setCells w.heap.size 0 (pv PP.p).toList).cell? ⟨w.heap.size + 1, 0, none⟩ = some (.int .i64 0) := b2.cell 0
      have e1 : (W.setCells w.heap.size 0 (pv PP.p).toList).cell? ⟨w.heap.size + 1 + 1, 0, none⟩ = some (.int .i64 0) := b3.cell 0
      have e2 := b2.frozen 0
      have e3 := b3.frozen 0
      have B1 := hide' b1
      have B2 := hide' b2
      have B3 := hide' b3
      clear b1 b2 b3
      go_wp2_with (first | (refine wpList_load_row (by rfl) 37 _ (by rfl) w.heap.size (by rfl) 37 (pv PP.p) (0, 0) _ H33.out.1 Tryd.underlying37 (by rfl) (size_poly hgp) ?_) | (refine wpList_store_mid (by rfl) 37 _ (.tmp 13) (by rfl) w.heap.size 0 (pv PP.p) (by rfl) (by rfl) HS.out (size_poly hgp) (pv_one _) ?_))
      refine idle w _ _ PP.p _ rfl rfl rfl ⟨(B1.out.setOther _ _ (by simp)).setOther _ _ (by simp; omega), (B2.out.set 0 _).setOther _ _ (by simp), (B3.out.setOther _ _ (by simp)).set 0 _⟩ hgp ⟨?_, ?_, ?_⟩
      · rw [HE.out]; rfl
      · rw [HE.out]; exact hgp
      · exact (((HF3.out.setCells _ _ _ (by simp)).setCell _ _ (by simp)).setCell _ _ (by simp; omega)).below (Nat.le_refl _) (by simp)
    · have HE : Hid (RR = ⟨4, (tk s 0 (poly (tk s 0) false s.size 0).k).at', zeros⟩) := by unfold Hid; rw [← HRR.out]; unfold rd; rw [if_neg hl, if_pos he, if_neg hc]
      generalize poly (tk s 0) false s.size 0 = PP at *
      go_wp2_with (refine wpList_store_mid (by rfl) 37 _ (.tmp 10) (by rfl) w.heap.size 0 (pv PP.p) (by rfl) (by rfl) HS.out (size_poly hgp) (pv_one _) ?_)
      refine (finish_not s _ b _ HR3.out hc).mono ?_
      rintro e w3 ⟨rfl, rfl⟩
      go_wp2
      refine caught w _ _ PP.p _ _ _ rfl rfl rfl H33.out hgp (HG.out.fr HF3.out (by simp)) HF3.out (fun W' h => ⟨?_, ?_, h⟩)
      · rw [HE.out]; rfl
      · rw [HE.out]; exact zeros_good
  · have HE : Hid (RR = ⟨(poly (tk s 0) false s.size 0).e, (poly (tk s 0) false s.size 0).bad, zeros⟩) := by unfold Hid; rw [← HRR.out]; unfold rd; rw [if_neg hl, if_neg he]
    go_wp2_with fail
    refine (polynomial_not s b _ (by omega) HR1.out he).mono ?_
    rintro e w2 ⟨rfl, hf2⟩
    have HF2 : Hid (Fr [] w w2) := HF1.out.trans hf2 (by simp; omega)
    have H32 : Hid (Three w w2 zeros 0 0) := H31.out.fr hf2 (by simp; omega)
    generalize poly (tk s 0) false s.size 0 = PP at *
    go_wp2
    refine caught w _ _ zeros _ _ _ rfl rfl rfl H32.out zeros_good (HG.out.fr HF2.out (by simp)) HF2.out (fun W' h => ⟨?_, ?_, h⟩)
    · rw [HE.out]
    · rw [HE.out]; exact zeros_good

/-- The program reads a text as 'rd' does. -/
theorem Polynomial_any (s : ByteArray) (w : World) (hg : ErrT w) (hm : s.size ≤ 140737488351232) :
    Calls Tryd.prog 15 #[.string s] w fun e w' => e = .returned (.tuple #[.agg (pv (rd s).p), .int .i64 (rd s).e, .int .i64 (rd s).bad]) ∧ Good (rd s).p ∧ Below w.heap.size w w' := by
  by_cases hl : 90 < s.size
  · refine (Polynomial_long s w hg hl hm).mono ?_
    rintro e w' ⟨rfl, h⟩
    have : rd s = ⟨2, 0, zeros⟩ := by unfold rd; rw [if_pos hl]
    rw [this]
    exact ⟨rfl, zeros_good, h⟩
  · exact Polynomial_short s w hg hl
end Go.Proofs.YtaajdcaciofmaaaDoor
/- THE TWO Values, AND THE LAW. -/
namespace Go.Proofs.YtaajdcaciofmaaaDoor
open Go.RowKit

/-- What Value answers. -/
def vv (s : ByteArray) (u x : Int) : Nat := if (rd s).e = 0 then valP (rd s).p (u % 7).toNat (x % 7).toNat else 0
def vb (s : ByteArray) : Nat := if (rd s).e = 0 then 0 else (rd s).bad
theorem m7 (u : Int) : u % 7 = ((u % 7).toNat : Int) ∧ (u % 7).toNat < 7 := by omega
theorem lineR_len (p : List Nat) (u : Nat) : (lineR p u).length = 5 := rfl
theorem lineR_lt (p : List Nat) (u i : Nat) : (lineR p u).getD i 0 < 7 := by
  by_cases h : i < 5
  · rw [lineR_get _ _ _ h]; exact pows_lt _ _ _
  · rw [List.getD_eq_getElem?_getD, List.getElem?_eq_none (by rw [lineR_len]; omega)]; simp

set_option maxRecDepth 100000 in
set_option maxHeartbeats 2000000 in
theorem pValue_any (s : ByteArray) (u x : Int) (w : World) (hg : ErrT w) (hm : s.size ≤ 140737488351232) :
    Calls Tryd.prog 9 #[.string s, .int .i64 u, .int .i64 x] w fun e w' => e = .returned (.tuple #[.int .i64 (vv s u x), .int .i64 (rd s).e, .int .i64 (vb s)]) ∧ Below w.heap.size w w' := by
  have hu := m7 u
  have hx := m7 x
  have HU := hidV hu
  have HX := hidV hx
  clear hu hx
  have HP := hidV (Polynomial_any s w hg hm)
  clear hg hm
  unfold vv vb
  generalize rd s = R at *
  by_cases he : R.e = 0
  · rw [if_pos he, if_pos he]
    rw [he] at HP ⊢
    go_enter Tryd.func9, Tryd.ntmps9
    go_wp2_with fail
    refine HP.out.mono ?_
    rintro e w1 ⟨rfl, hgd, hbel⟩
    have HB := hidV hbel
    clear hbel HP
    go_wp2_with (first | (refine wpList_store_mid (by rfl) 37 _ _ (by rfl) w1.heap.size 0 (pv R.p) (by rfl) (by rfl) (Blk.there (Blk.new w1 _ _) (by rw [pv_size, hgd.1]; decide)) (size_poly hgd) (pv_one _) ?_) | (refine wpList_load_row (by rfl) 37 _ (by rfl) w1.heap.size (by rfl) 37 (pv R.p) (0, 0) _ (by exact Blk.setAll (Blk.new w1 _ _) _ (by rw [pv_size, hgd.1]; rfl)) Tryd.underlying37 (by rfl) (size_poly hgd) ?_))
    refine (pVal_any R.p u x _ _ _ hgd HU.out.1 HX.out.1 HU.out.2 HX.out.2).mono ?_
    rintro e w2 ⟨rfl, hbel2⟩
    have HB2 := hidV hbel2
    clear hbel2
    go_wp2
    go_ret3
    refine ⟨rfl, ?_⟩
    refine Fr.below (bs := []) ((Fr.setCells (Fr.alloc (Fr.of_below HB.out) _) _ _ _ (Or.inr HB.out.size)).trans (Fr.of_below (bs := []) (by exact HB2.out)) (by simp)) (Nat.le_refl _) (by simp)
  · rw [if_neg he, if_neg he]
    have he' : ((R.e : Int) != 0) = true := by rw [bne_iff_ne]; omega
    go_enter Tryd.func9, Tryd.ntmps9
    go_wp2_with fail
    refine HP.out.mono ?_
    rintro e w1 ⟨rfl, hgd, hbel⟩
    have HB := hidV hbel
    clear hbel HP
    go_wp2_with (first | (refine wpList_store_mid (by rfl) 37 _ _ (by rfl) w1.heap.size 0 (pv R.p) (by rfl) (by rfl) (Blk.there (Blk.new w1 _ _) (by rw [pv_size, hgd.1]; decide)) (size_poly hgd) (pv_one _) ?_))
    go_ret3
    refine ⟨rfl, ?_⟩
    exact Fr.below (bs := []) (Fr.setCells (Fr.alloc (Fr.of_below HB.out) _) _ _ _ (Or.inr HB.out.size)) (Nat.le_refl _) (by simp)

/-- The load of a whole polynomial, under a name that the walk does not open. -/
def ldPoly (x : Value) : Sem Value := Instr.loadAt 41 x
theorem ldPoly_eq (x : Value) : Instr.loadAt 41 x = ldPoly x := rfl
theorem run_ld (w : World) (b : Nat) (p : List Nat) (hp : Good p) (h : Blk w b (pv p) 41) : (ldPoly (.pointer (some ⟨b, 0, none⟩))).run Tryd.prog w = .ok (.agg (pv p)) w := by
  unfold ldPoly
  simp only [Instr.loadAt, Instr.sureAddr, Sem.run_bind, Sem.run_pure, Result.andThen_ok, run_loadVar_row w b 41 41 (pv p) (0, 0) _ h Tryd.underlying41 rfl (size_rPoly hp)]
section
attribute [local go_sem ↓] ldPoly_eq
set_option maxRecDepth 100000 in
set_option maxHeartbeats 2000000 in
theorem rValue_any (s : ByteArray) (u x : Int) (w : World) (hm : s.size ≤ 140737488351232) :
    Calls Tryd.prog 10 #[.string s, .int .i64 u, .int .i64 x] w fun e w' => e = .returned (.tuple #[.int .i64 (vv s u x), .int .i64 (rd s).e, .int .i64 (vb s)]) ∧ Below w.heap.size w w' := by
  have hu := m7 u
  have hx := m7 x
  have HU := hidV hu
  have HX := hidV hx
  clear hu hx
  have HP := hidV (read_any s w hm)
  clear hm
  unfold vv vb
  rw [← val_same]
  generalize rd s = R at *
  by_cases he : R.e = 0
  · rw [if_pos he, if_pos he]
    rw [he] at HP ⊢
    go_enter Tryd.func10, Tryd.ntmps10
    go_wp2_with fail
    refine HP.out.mono ?_
    rintro e w1 ⟨rfl, hgd, hbel⟩
    have HB := hidV hbel
    clear hbel HP
    go_wp2_with (first | (refine wpList_store_mid (by rfl) 41 _ _ (by rfl) w1.heap.size 0 (pv R.p) (by rfl) (by rfl) (Blk.there (Blk.new w1 _ _) (by rw [pv_size, hgd.1]; decide)) (size_rPoly hgd) (pv_one _) ?_) | (refine wpList_load_row (by rfl) 41 _ (by rfl) w1.heap.size (by rfl) 41 (pv R.p) (0, 0) _ (by exact Blk.setAll (Blk.new w1 _ _) _ (by rw [pv_size, hgd.1]; rfl)) Tryd.underlying41 (by rfl) (size_rPoly hgd) ?_))
    refine wp_forget (fun W => Blk W w1.heap.size (pv R.p) 41 ∧ Below w.heap.size w W) ⟨by exact Blk.setAll (Blk.new w1 _ _) _ (by rw [pv_size, hgd.1]; rfl), Fr.below (bs := []) (Fr.setCells (Fr.alloc (Fr.of_below HB.out) _) _ _ _ (Or.inr HB.out.size)) (Nat.le_refl _) (by simp)⟩ ?_
    rintro W ⟨bk, hbW⟩
    have HBW := hidV hbW
    have HBK := hidV bk
    clear hbW
    generalize w1.heap.size = g at *
    have hld := fun (w' : World) (h : Blk w' g (pv R.p) 41) => run_ld w' g R.p hgd h
    go_region_held3 (fun w' => Blk w' g (pv R.p) 41) (first | assumption | exact HBK.out) (first | (go_at_call 22; refine (modulo_any _ _).mono ?_; rintro e w2 ⟨rfl, rfl⟩) | (go_at_call 21; refine (at_any R.p (u % 7).toNat _ _ hgd HU.out.1 HU.out.2).mono ?_; rintro e w3 ⟨rfl, hb3⟩; have HB3 := hidV hb3; have bk3 : Blk w3 g (pv R.p) 41 := Blk.fr (by exact HBK.out) (Fr.of_below (bs := []) hb3) (by simp)) | (go_at_call 20; refine (worth_any (lineR R.p (u % 7).toNat) (x % 7).toNat _ _ (lineR_len _ _) (lineR_lt _ _) HX.out.1 HX.out.2).mono ?_; rintro e w4 ⟨rfl, hb4⟩; have HB4 := hidV hb4; have bk4 : Blk w4 g (pv R.p) 41 := Blk.fr (by exact bk3) (Fr.of_below (bs := []) hb4) (by simp)))
    go_wp2
    go_ret3
    refine ⟨rfl, ?_⟩
    exact Fr.below (bs := []) (((Fr.of_below HBW.out).drew.trans (Fr.of_below (bs := []) HB3.out) (by simp)).trans (Fr.of_below (bs := []) HB4.out) (by simp)) (Nat.le_refl _) (by simp)
  · rw [if_neg he, if_neg he]
    have he' : ((R.e : Int) != 0) = true := by rw [bne_iff_ne]; omega
    go_enter Tryd.func10, Tryd.ntmps10
    go_wp2_with fail
    refine HP.out.mono ?_
    rintro e w1 ⟨rfl, hgd, hbel⟩
    have HB := hidV hbel
    clear hbel HP
    go_wp2_with (first | (refine wpList_store_mid (by rfl) 41 _ _ (by rfl) w1.heap.size 0 (pv R.p) (by rfl) (by rfl) (Blk.there (Blk.new w1 _ _) (by rw [pv_size, hgd.1]; decide)) (size_rPoly hgd) (pv_one _) ?_))
    go_ret3
    refine ⟨rfl, ?_⟩
    exact Fr.below (bs := []) (Fr.setCells (Fr.alloc (Fr.of_below HB.out) _) _ _ _ (Or.inr HB.out.size)) (Nat.le_refl _) (by simp)
end

theorem ErrT.below {w w' : World} (h : ErrT w) (hb : Below w.heap.size w w') : ErrT w' := by
  unfold ErrT at *
  rw [← h]
  exact (Fr.of_below (bs := []) hb).cell 0 (ErrT.lt h) (by simp)

/-- The law. -/
theorem lawValues_any (s : ByteArray) (u x : Int) (w : World) (hg : ErrT w) (hm : s.size ≤ 140737488351232) :
    Calls Tryd.prog 4 #[.string s, .int .i64 u, .int .i64 x] w fun e w' => e = .returned (.bool true) ∧ Below w.heap.size w w' := by
  go_enter Tryd.func4, Tryd.ntmps4
  go_wp2_with fail
  refine (pValue_any s u x _ hg hm).mono ?_
  rintro e w1 ⟨rfl, hb1⟩
  go_wp2_with fail
  refine (rValue_any s u x _ hm).mono ?_
  rintro e w2 ⟨rfl, hb2⟩
  generalize vv s u x = V at *
  generalize vb s = B at *
  generalize rd s = R at *
  have HB1 := hidV hb1
  have HB2 := hidV hb2
  clear hb1 hb2
  go_wp2
  go_ret
  exact ⟨rfl, Fr.below (bs := []) ((Fr.of_below HB1.out).trans (Fr.of_below (bs := []) (by exact HB2.out)) (by simp)) (Nat.le_refl _) (by simp)⟩
end Go.Proofs.YtaajdcaciofmaaaDoor
/- THE TWO Canons, AND THE LAW. -/
namespace Go.Proofs.YtaajdcaciofmaaaDoor
open Go.RowKit

/-- What Canon writes. -/
def cv (s : ByteArray) : List UInt8 := if (rd s).e = 0 then txt (rd s).p else []

set_option maxRecDepth 100000 in
set_option maxHeartbeats 2000000 in
theorem pCanon_any (s : ByteArray) (w : World) (hg : ErrT w) (hm : s.size ≤ 140737488351232) :
    Calls Tryd.prog 7 #[.string s] w fun e w' => e = .returned (.tuple #[.string (bs (cv s)), .int .i64 (rd s).e, .int .i64 (vb s)]) ∧ Below w.heap.size w w' := by
  have HP := hidV (Polynomial_any s w hg hm)
  clear hg hm
  unfold cv vb
  generalize rd s = R at *
  by_cases he : R.e = 0
  · rw [if_pos he, if_pos he]
    rw [he] at HP ⊢
    go_enter Tryd.func7, Tryd.ntmps7
    go_wp2_with fail
    refine HP.out.mono ?_
    rintro e w1 ⟨rfl, hgd, hbel⟩
    have HB := hidV hbel
    clear hbel HP
    go_wp2_with (first | (refine wpList_store_mid (by rfl) 37 _ _ (by rfl) w1.heap.size 0 (pv R.p) (by rfl) (by rfl) (Blk.there (Blk.new w1 _ _) (by rw [pv_size, hgd.1]; decide)) (size_poly hgd) (pv_one _) ?_) | (refine wpList_load_row (by rfl) 37 _ (by rfl) w1.heap.size (by rfl) 37 (pv R.p) (0, 0) _ (by exact Blk.setAll (Blk.new w1 _ _) _ (by rw [pv_size, hgd.1]; rfl)) Tryd.underlying37 (by rfl) (size_poly hgd) ?_))
    refine (Text_any R.p _ hgd).mono ?_
    rintro e w2 ⟨rfl, hbel2⟩
    have HB2 := hidV hbel2
    clear hbel2
    go_wp2
    go_ret3
    refine ⟨rfl, ?_⟩
    refine Fr.below (bs := []) ((Fr.setCells (Fr.alloc (Fr.of_below HB.out) _) _ _ _ (Or.inr HB.out.size)).trans (Fr.of_below (bs := []) (by exact HB2.out)) (by simp)) (Nat.le_refl _) (by simp)
  · rw [if_neg he, if_neg he]
    have he' : ((R.e : Int) != 0) = true := by rw [bne_iff_ne]; omega
    go_enter Tryd.func7, Tryd.ntmps7
    go_wp2_with fail
    refine HP.out.mono ?_
    rintro e w1 ⟨rfl, hgd, hbel⟩
    have HB := hidV hbel
    clear hbel HP
    go_wp2_with (first | (refine wpList_store_mid (by rfl) 37 _ _ (by rfl) w1.heap.size 0 (pv R.p) (by rfl) (by rfl) (Blk.there (Blk.new w1 _ _) (by rw [pv_size, hgd.1]; decide)) (size_poly hgd) (pv_one _) ?_))
    go_ret3
    refine ⟨rfl, ?_⟩
    exact Fr.below (bs := []) (Fr.setCells (Fr.alloc (Fr.of_below HB.out) _) _ _ _ (Or.inr HB.out.size)) (Nat.le_refl _) (by simp)

set_option maxRecDepth 100000 in
set_option maxHeartbeats 2000000 in
theorem rCanon_any (s : ByteArray) (w : World) (hm : s.size ≤ 140737488351232) :
    Calls Tryd.prog 8 #[.string s] w fun e w' => e = .returned (.tuple #[.string (bs (cv s)), .int .i64 (rd s).e, .int .i64 (vb s)]) ∧ Below w.heap.size w w' := by
  have HP := hidV (read_any s w hm)
  clear hm
  unfold cv vb
  generalize rd s = R at *
  by_cases he : R.e = 0
  · rw [if_pos he, if_pos he]
    rw [he] at HP ⊢
    go_enter Tryd.func8, Tryd.ntmps8
    go_wp2_with fail
    refine HP.out.mono ?_
    rintro e w1 ⟨rfl, hgd, hbel⟩
    have HB := hidV hbel
    clear hbel HP
    go_wp2_with (first | (refine wpList_store_mid (by rfl) 41 _ _ (by rfl) w1.heap.size 0 (pv R.p) (by rfl) (by rfl) (Blk.there (Blk.new w1 _ _) (by rw [pv_size, hgd.1]; decide)) (size_rPoly hgd) (pv_one _) ?_) | (refine wpList_load_row (by rfl) 41 _ (by rfl) w1.heap.size (by rfl) 41 (pv R.p) (0, 0) _ (by exact Blk.setAll (Blk.new w1 _ _) _ (by rw [pv_size, hgd.1]; rfl)) Tryd.underlying41 (by rfl) (size_rPoly hgd) ?_))
    refine (write_any R.p _ hgd).mono ?_
    rintro e w2 ⟨rfl, hbel2⟩
    have HB2 := hidV hbel2
    clear hbel2
    go_wp2
    go_ret3
    refine ⟨rfl, ?_⟩
    refine Fr.below (bs := []) ((Fr.setCells (Fr.alloc (Fr.of_below HB.out) _) _ _ _ (Or.inr HB.out.size)).trans (Fr.of_below (bs := []) (by exact HB2.out)) (by simp)) (Nat.le_refl _) (by simp)
  · rw [if_neg he, if_neg he]
    have he' : ((R.e : Int) != 0) = true := by rw [bne_iff_ne]; omega
    go_enter Tryd.func8, Tryd.ntmps8
    go_wp2_with fail
    refine HP.out.mono ?_
    rintro e w1 ⟨rfl, hgd, hbel⟩
    have HB := hidV hbel
    clear hbel HP
    go_wp2_with (first | (refine wpList_store_mid (by rfl) 41 _ _ (by rfl) w1.heap.size 0 (pv R.p) (by rfl) (by rfl) (Blk.there (Blk.new w1 _ _) (by rw [pv_size, hgd.1]; decide)) (size_rPoly hgd) (pv_one _) ?_))
    go_ret3
    refine ⟨rfl, ?_⟩
    exact Fr.below (bs := []) (Fr.setCells (Fr.alloc (Fr.of_below HB.out) _) _ _ _ (Or.inr HB.out.size)) (Nat.le_refl _) (by simp)

/-- The law. -/
theorem lawCanons_any (s : ByteArray) (w : World) (hg : ErrT w) (hm : s.size ≤ 140737488351232) :
    Calls Tryd.prog 3 #[.string s] w fun e w' => e = .returned (.bool true) ∧ Below w.heap.size w w' := by
  go_enter Tryd.func3, Tryd.ntmps3
  go_wp2_with fail
  refine (pCanon_any s _ hg hm).mono ?_
  rintro e w1 ⟨rfl, hb1⟩
  go_wp2_with fail
  refine (rCanon_any s _ hm).mono ?_
  rintro e w2 ⟨rfl, hb2⟩
  generalize bs (cv s) = V at *
  generalize vb s = B at *
  generalize rd s = R at *
  have HB1 := hidV hb1
  have HB2 := hidV hb2
  clear hb1 hb2
  go_wp2
  go_ret
  exact ⟨rfl, Fr.below (bs := []) ((Fr.of_below HB1.out).trans (Fr.of_below (bs := []) (by exact HB2.out)) (by simp)) (Nat.le_refl _) (by simp)⟩
end Go.Proofs.YtaajdcaciofmaaaDoor
/- AGAIN: the two fixed answers; the law. -/
namespace Go.Proofs.YtaajdcaciofmaaaDoor
open Go.RowKit

theorem bs_toList (l : List UInt8) : (bs l).toList = l := by rw [ByteArray.toList_eq]; rfl
theorem pw_bad {f : Nat → Tok} {M : Nat} (hf : ∀ k, (f k).at' ≤ M) (bare : Bool) : ∀ (m k u x : Nat), (pw f bare m k u x).bad ≤ M := by
  intro m
  induction m with
  | zero => intro k u x; simp [pw]
  | succ m ih =>
    intro k u x
    have := hf k
    simp only [pw]
    split
    · split
      · exact ih _ _ _
      · exact this
    · split
      · split
        · exact this
        · split
          · exact ih _ _ _
          · exact this
      · simp
theorem tm_bad {f : Nat → Tok} {M : Nat} (hf : ∀ k, (f k).at' ≤ M) (bare : Bool) (N k : Nat) : (tm f bare N k).bad ≤ M := by
  unfold tm
  split
  · exact pw_bad hf _ _ _ _ _
  · split
    · exact pw_bad hf _ _ _ _ _
    · exact hf k
theorem pl_bad' {f : Nat → Tok} {M : Nat} (hf : ∀ k, (f k).at' ≤ M) (bare : Bool) (N : Nat) : ∀ (m k sg : Nat) (p : List Nat), (pl f bare N m k sg p).bad ≤ M := by
  intro m
  induction m with
  | zero => intro k sg p; simp [pl]
  | succ m ih =>
    intro k sg p
    simp only [pl]
    split
    · split
      · exact ih _ _ _
      · split
        · exact ih _ _ _
        · simp
    · exact tm_bad hf _ _ _
theorem rd_bad (s : ByteArray) : (rd s).bad ≤ s.size := by
  have hf : ∀ k, (tk s 0 k).at' ≤ s.size := fun k => (tk_facts (Nat.zero_le _) k).1
  unfold rd
  split
  · simp
  · split
    · split
      · simp
      · exact hf _
    · show (poly (tk s 0) false s.size 0).bad ≤ s.size
      unfold poly; split <;> exact pl_bad' hf _ _ _ _ _ _
theorem txt_len (p : List Nat) : (txt p).length ≤ 210 := by
  unfold txt; split
  · simp
  · exact wrt_len p 35
theorem cv_len (s : ByteArray) : (cv s).length ≤ 210 := by
  unfold cv; split
  · exact txt_len _
  · simp
theorem vv_lt (s : ByteArray) (u x : Int) : vv s u x < 7 := by
  unfold vv; split
  · exact horn_lt _ _ _ _
  · omega
set_option maxRecDepth 100000 in
theorem fix_c : cv ⟨#[51, 32, 43, 32, 120, 50, 117, 32, 45, 32, 49, 48, 120, 50, 32, 117, 43, 32, 50, 120, 120]⟩ = [53, 117, 120, 50, 43, 50, 120, 50, 43, 51] := by kernel_rfl
set_option maxRecDepth 100000 in
theorem fix_e : (rd ⟨#[51, 32, 43, 32, 120, 50, 117, 32, 45, 32, 49, 48, 120, 50, 32, 117, 43, 32, 50, 120, 120]⟩).e = 0 := by kernel_rfl
set_option maxRecDepth 100000 in
theorem fix_b : vb ⟨#[51, 32, 43, 32, 120, 50, 117, 32, 45, 32, 49, 48, 120, 50, 32, 117, 43, 32, 50, 120, 120]⟩ = 0 := by kernel_rfl
set_option maxRecDepth 100000 in
theorem fix_v : vv ⟨#[117, 120, 50, 45, 49]⟩ (-1) 8 = 5 := by kernel_rfl
set_option maxRecDepth 100000 in
theorem fix_f : (rd ⟨#[117, 120, 50, 45, 49]⟩).e = 0 := by kernel_rfl
set_option maxRecDepth 100000 in
theorem fix_p : vb ⟨#[117, 120, 50, 45, 49]⟩ = 0 := by kernel_rfl
theorem fixC (w : World) (hg : ErrT w) : Calls Tryd.prog 7 #[.string ⟨#[51, 32, 43, 32, 120, 50, 117, 32, 45, 32, 49, 48, 120, 50, 32, 117, 43, 32, 50, 120, 120]⟩] w fun e w' => e = .returned (.tuple #[.string (bs [53, 117, 120, 50, 43, 50, 120, 50, 43, 51]), .int .i64 0, .int .i64 0]) ∧ Below w.heap.size w w' := by
  have h := pCanon_any ⟨#[51, 32, 43, 32, 120, 50, 117, 32, 45, 32, 49, 48, 120, 50, 32, 117, 43, 32, 50, 120, 120]⟩ w hg (by decide)
  rw [fix_c, fix_e, fix_b] at h
  exact h
theorem fixV (w : World) (hg : ErrT w) : Calls Tryd.prog 9 #[.string ⟨#[117, 120, 50, 45, 49]⟩, .int .i64 (-1), .int .i64 8] w fun e w' => e = .returned (.tuple #[.int .i64 5, .int .i64 0, .int .i64 0]) ∧ Below w.heap.size w w' := by
  have h := pValue_any ⟨#[117, 120, 50, 45, 49]⟩ (-1) 8 w hg (by decide)
  rw [fix_v, fix_f, fix_p] at h
  exact h
set_option maxRecDepth 100000 in
theorem fixed_any (w : World) (hg : ErrT w) : Calls Tryd.prog 11 #[] w fun e w' => e = .returned (.bool true) ∧ Below w.heap.size w w' := by
  go_enter Tryd.func11, Tryd.ntmps11
  go_wp2_with fail
  refine (fixC w hg).mono ?_
  rintro e w1 ⟨rfl, hb1⟩
  have HB1 := hidV hb1
  have HG := hidV (hg.below hb1)
  clear hb1
  go_wp2_with fail
  refine (fixV _ HG.out).mono ?_
  rintro e w2 ⟨rfl, hb2⟩
  have HB2 := hidV hb2
  clear hb2
  have hq := bs_toList [53, 117, 120, 50, 43, 50, 120, 50, 43, 51]
  go_wp2
  go_ret
  exact ⟨rfl, Fr.below (bs := []) ((Fr.of_below HB1.out).trans (Fr.of_below (bs := []) (by exact HB2.out)) (by simp)) (Nat.le_refl _) (by simp)⟩

/-- What Again holds together. -/
theorem cv_bad {s : ByteArray} (h : (rd s).e ≠ 0) (u x : Int) : cv s = [] ∧ vv s u x = 0 := by
  unfold cv vv; rw [if_neg h, if_neg h]; exact ⟨rfl, rfl⟩
theorem vb_le (s : ByteArray) : vb s ≤ s.size := by
  unfold vb; split
  · omega
  · exact rd_bad s
theorem cv_again {s : ByteArray} (hg : Good (rd s).p) (h : (rd s).e = 0) (hl : (cv s).length ≤ 90) (u x : Int) : (rd (bs (cv s))).e = 0 ∧ cv (bs (cv s)) = cv s ∧ vv (bs (cv s)) u x = vv s u x := by
  have e : cv s = txt (rd s).p := by unfold cv; rw [if_pos h]
  rw [e] at hl
  have r := round_trip hg hl
  rw [e]
  refine ⟨by rw [r], ?_, ?_⟩
  · unfold cv; rw [r, if_pos rfl]
  · unfold vv; rw [r, if_pos rfl, if_pos h]
theorem rd_long {s : ByteArray} (h : 90 < s.size) : (rd s).e = 2 := by unfold rd; rw [if_pos h]
theorem pl_good (f : Nat → Tok) (bare : Bool) (N : Nat) : ∀ (m k sg : Nat) (p : List Nat), Good p → Good (pl f bare N m k sg p).p := by
  intro m
  induction m with
  | zero => intro k sg p h; simpa [pl] using h
  | succ m ih =>
    intro k sg p h
    simp only [pl]
    split
    · split
      · exact ih _ _ _ (plus_good h _ _ _)
      · split
        · exact ih _ _ _ (plus_good h _ _ _)
        · exact plus_good h _ _ _
    · exact h
theorem rd_good (s : ByteArray) : Good (rd s).p := by
  unfold rd
  split
  · exact zeros_good
  · split
    · split
      · show Good (poly (tk s 0) false s.size 0).p
        unfold poly; split <;> exact pl_good _ _ _ _ _ _ _ zeros_good
      · exact zeros_good
    · exact zeros_good
theorem bel2 {a b c : World} (h : Below a.heap.size a b) (k : Below b.heap.size b c) : Below a.heap.size a c :=
  Fr.below (bs := []) ((Fr.of_below h).trans (Fr.of_below (bs := []) k) (by simp)) (Nat.le_refl _) (by simp)

set_option maxRecDepth 100000 in
set_option maxHeartbeats 2000000 in
theorem lawAgain_any (s : ByteArray) (u x : Int) (w : World) (hg : ErrT w) (hm : s.size ≤ 140737488351232) :
    Calls Tryd.prog 5 #[.string s, .int .i64 u, .int .i64 x] w fun e w' => e = .returned (.bool true) ∧ Below w.heap.size w w' := by
  have HC := fun (w' : World) (h : ErrT w') => pCanon_any s w' h hm
  have HV := fun (w' : World) (h : ErrT w') => pValue_any s u x w' h hm
  have hcl := cv_len s
  have hbs : (bs (cv s)).size = (cv s).length := bs_size _
  have HC2 := fun (w' : World) (h : ErrT w') => pCanon_any (bs (cv s)) w' h (by omega)
  have HV2 := fun (w' : World) (h : ErrT w') => pValue_any (bs (cv s)) u x w' h (by omega)
  have hvlt := vv_lt s u x
  have hble := vb_le s
  have htl := bs_toList (cv s)
  by_cases he : (rd s).e = 0
  · have hb0 : vb s = 0 := by unfold vb; rw [if_pos he]
    rw [he] at HC HV
    rw [hb0] at HC HV
    by_cases hl : (cv s).length ≤ 90
    · obtain ⟨a1, a2, a3⟩ := cv_again (rd_good s) he hl u x
      have hb2 : vb (bs (cv s)) = 0 := by unfold vb; rw [if_pos a1]
      rw [a1, a2, hb2] at HC2
      rw [a1, a3, hb2] at HV2
      clear a1 a2 a3 hb2 he hb0 hble
      have hl' : ¬ ((bs (cv s)).size : Int) > 90 := by omega
      have HHC := hidV HC
      have HHV := hidV HV
      have HHC2 := hidV HC2
      have HHV2 := hidV HV2
      clear HC HV HC2 HV2 hl
      generalize cv s = C at *
      generalize vv s u x = V at *
      go_enter Tryd.func5, Tryd.ntmps5
      go_wp2_with fail
      refine (fixed_any _ hg).mono ?_
      rintro e w1 ⟨rfl, hb1⟩
      have HB1 := hidV hb1
      have G1 := hidV (hg.below hb1)
      clear hb1
      go_wp2_with fail
      refine (HHC.out _ G1.out).mono ?_
      rintro e w2 ⟨rfl, hb2⟩
      have HB2 := hidV hb2
      have G2 := hidV (G1.out.below hb2)
      clear hb2
      go_wp2_with fail
      refine (HHV.out _ G2.out).mono ?_
      rintro e w3 ⟨rfl, hb3⟩
      have HB3 := hidV hb3
      have G3 := hidV (G2.out.below hb3)
      clear hb3
      go_wp2_with fail
      refine (HHC2.out _ G3.out).mono ?_
      rintro e w4 ⟨rfl, hb4⟩
      have HB4 := hidV hb4
      have G4 := hidV (G3.out.below hb4)
      clear hb4
      go_wp2_with fail
      refine (HHV2.out _ G4.out).mono ?_
      rintro e w5 ⟨rfl, hb5⟩
      have HB5 := hidV hb5
      clear hb5
      go_wp2
      go_ret
      exact ⟨rfl, bel2 (bel2 (bel2 (bel2 HB1.out HB2.out) HB3.out) HB4.out) HB5.out⟩
    · have a1 := rd_long (s := bs (cv s)) (by omega)
      rw [a1] at HC2
      clear a1 he hb0 hble HV2 hvlt
      have hl' : ((bs (cv s)).size : Int) > 90 := by omega
      have HHC := hidV HC
      have HHV := hidV HV
      have HHC2 := hidV HC2
      clear HC HV HC2 hl
      generalize cv (bs (cv s)) = C2 at *
      generalize vb (bs (cv s)) = b2 at *
      generalize cv s = C at *
      generalize vv s u x = V at *
      go_enter Tryd.func5, Tryd.ntmps5
      go_wp2_with fail
      refine (fixed_any _ hg).mono ?_
      rintro e w1 ⟨rfl, hb1⟩
      have HB1 := hidV hb1
      have G1 := hidV (hg.below hb1)
      clear hb1
      go_wp2_with fail
      refine (HHC.out _ G1.out).mono ?_
      rintro e w2 ⟨rfl, hb2⟩
      have HB2 := hidV hb2
      have G2 := hidV (G1.out.below hb2)
      clear hb2
      go_wp2_with fail
      refine (HHV.out _ G2.out).mono ?_
      rintro e w3 ⟨rfl, hb3⟩
      have HB3 := hidV hb3
      have G3 := hidV (G2.out.below hb3)
      clear hb3
      go_wp2_with fail
      refine (HHC2.out _ G3.out).mono ?_
      rintro e w4 ⟨rfl, hb4⟩
      have HB4 := hidV hb4
      clear hb4
      go_wp2
      go_ret
      exact ⟨rfl, bel2 (bel2 (bel2 HB1.out HB2.out) HB3.out) HB4.out⟩
  · obtain ⟨a1, a2⟩ := cv_bad he u x
    have he' : ¬ (((rd s).e : Int) = 0) := by omega
    have hble' : ((vb s : Nat) : Int) ≤ (s.size : Int) := by omega
    have hb0 : (0 : Int) ≤ (vb s : Nat) := by omega
    have htn := bs_toList []
    rw [a1] at HC
    rw [a2] at HV
    clear HC2 HV2 hvlt hcl hbs htl a1 a2 he hble
    have HHC := hidV HC
    have HHV := hidV HV
    clear HC HV
    generalize vb s = b at *
    generalize (rd s).e = E at *
    go_enter Tryd.func5, Tryd.ntmps5
    go_wp2_with fail
    refine (fixed_any _ hg).mono ?_
    rintro e w1 ⟨rfl, hb1⟩
    have HB1 := hidV hb1
    have G1 := hidV (hg.below hb1)
    clear hb1
    go_wp2_with fail
    refine (HHC.out _ G1.out).mono ?_
    rintro e w2 ⟨rfl, hb2⟩
    have HB2 := hidV hb2
    have G2 := hidV (G1.out.below hb2)
    clear hb2
    go_wp2_with fail
    refine (HHV.out _ G2.out).mono ?_
    rintro e w3 ⟨rfl, hb3⟩
    have HB3 := hidV hb3
    have G3 := hidV (G2.out.below hb3)
    clear hb3
    go_wp2
    go_ret
    exact ⟨rfl, bel2 (bel2 HB1.out HB2.out) HB3.out⟩
end Go.Proofs.YtaajdcaciofmaaaDoor
/- ADDED: the statement's own functions: pick, digit, term. -/
namespace Go.Proofs.YtaajdcaciofmaaaDoor
open Go.RowKit

/-- Which of n things. -/
def pck (c : Int) (n : Nat) : Nat := ((if c < 0 then -(c + 1) else c) % n).toNat
theorem pck_lt (c : Int) {n : Nat} (h : 0 < n) : pck c n < n := by
  unfold pck
  have h1 : (0 : Int) < n := by omega
  have := Int.emod_lt_of_pos (if c < 0 then -(c + 1) else c) h1
  have := Int.emod_nonneg (if c < 0 then -(c + 1) else c) (b := n) (by omega)
  omega
theorem pck_cast (c : Int) {n : Nat} (h : 0 < n) : (pck c n : Int) = Int.tmod (if c < 0 then -(c + 1) else c) n := by
  unfold pck
  have := Int.emod_nonneg (if c < 0 then -(c + 1) else c) (b := n) (by omega)
  rw [Int.toNat_of_nonneg this, Int.tmod_eq_emod_of_nonneg]
  split <;> omega
set_option maxRecDepth 100000 in
theorem kpick_any (c : Int) (n : Nat) (N : Int) (w : World) (hN : N = n) (h : 0 < n) (hn : n ≤ 100) (h1 : -9223372036854775808 ≤ c) (h2 : c ≤ 9223372036854775807) :
    Calls Tryd.prog 14 #[.int .i64 c, .int .i64 N] w fun e w' => e = .returned (.int .i64 (pck c n)) ∧ w' = w := by
  subst hN
  have hp := pck_cast c h
  have hl := pck_lt c h
  have hn0 : ¬ ((n : Int) = 0) := by omega
  have hn1 : ¬ ((n : Int) = -1) := by omega
  have HP := hidT hp
  clear hp
  by_cases hc : c < 0
  · rw [if_pos hc] at HP
    go_enter Tryd.func14, Tryd.ntmps14
    go_wp2
    go_ret
    exact ⟨by rw [HP.out, Int.neg_tmod]; rfl, rfl⟩
  · rw [if_neg hc] at HP
    go_enter Tryd.func14, Tryd.ntmps14
    go_wp2
    go_ret
    exact ⟨by rw [HP.out, Int.tmod_eq_emod_of_nonneg (by omega)]; rfl, rfl⟩
theorem kdigit_any (n : Nat) (N : Int) (w : World) (hN : N = n) (hn : n < 10) :
    Calls Tryd.prog 23 #[.int .i64 N] w fun e w' => e = .returned (.string (bs [dgt n])) ∧ Below w.heap.size w w' := by
  subst hN
  have hcv := fun (w' : World) => conv_new n hn w'
  go_enter Tryd.func23, Tryd.ntmps23
  go_wp2
  go_ret
  exact ⟨rfl, by go_grown⟩

theorem kpick_to (c : Int) (n : Nat) (C N : Int) (w : World) (hC : C = c) (hN : N = n) (h : 0 < n) (hn : n ≤ 100) (h1 : -9223372036854775808 ≤ c) (h2 : c ≤ 9223372036854775807) :
    Calls Tryd.prog 14 #[.int .i64 C, .int .i64 N] w fun e w' => e = .returned (.int .i64 (pck c n)) ∧ w' = w := by
  subst hC; exact kpick_any C n N w hN h hn h1 h2
theorem add_to0 (a : List UInt8) (A : ByteArray) (b c : List UInt8) (S : ByteArray) (hA : A = bs a) (hS : S = bs b) (hc : a ++ b = c) (ha : a.length ≤ 1000) (hb : b.length ≤ 1000) (w : World) : (Op.stringOp .add A S).run Tryd.prog w = .ok (.string (bs c)) w := by
  subst hA; exact add_to a b c S hS hc ha hb w
theorem tdiv_bd (v : Int) (k : Nat) (hk : 2 ≤ k) (h1 : -9223372036854775808 ≤ v) (h2 : v ≤ 9223372036854775807) : -9223372036854775808 ≤ Int.tdiv v k ∧ Int.tdiv v k ≤ 9223372036854775807 := by
  have h := Int.natAbs_tdiv v k
  have e : Nat.div v.natAbs (k : Int).natAbs = v.natAbs / k := rfl
  rw [e] at h
  have h3 : v.natAbs / k ≤ v.natAbs / 2 := Nat.div_le_div_left hk (by omega)
  omega
end Go.Proofs.YtaajdcaciofmaaaDoor
