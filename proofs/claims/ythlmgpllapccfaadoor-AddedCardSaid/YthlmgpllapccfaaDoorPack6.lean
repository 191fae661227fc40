import Derived.Test.YthlmgpllapccfaaDoorPack5
/- THE DOCUMENT's ANSWER: term whole; poly. -/
namespace Go.Proofs.YthlmgpllapccfaaDoor
open Go.RowKit

set_option maxRecDepth 100000 in
set_option maxHeartbeats 2000000 in
theorem wterm_bad (f : Nat → Tok) (b g n cap c k : Nat) (sg : Int) (bare : Bool) (bad op : Int) (w : World) (h : Wy w b g n cap k 0 bad op) (ht : Tk w g n f) (hk : k < n) (hn : n ≤ 1001) (hc : (f k).c ≠ 1 ∧ (f k).c ≠ 2 ∧ (f k).c ≠ 3) :
    Calls Tryd.prog 54 #[.pointer (some ⟨b, 0, none⟩), .pointer (some ⟨c, 0, none⟩), .int .i64 sg, .bool bare] w fun e w' => e = .returned (.tuple #[]) ∧ Wy w' b g n cap k 4 (f k).at' op ∧ Fr [b] w w' := by
  have hb : b < w.heap.size := Blk.lt h
  have HW := hideR h
  have HT := hideR ht
  have q1 : (rk (f k).c != 1) = true := by rw [bne_iff_ne]; exact rk_not1 hc.1
  have q2 : (rk (f k).c != 2) = true := by rw [bne_iff_ne]; exact rk_not2 hc.2.1 hc.2.2
  clear h ht hc
  go_enter Tryd.func54, Tryd.ntmps54
  go_wp2_with fail
  refine (next_any b g n cap k f 0 bad op _ HW.out HT.out hk (by omega)).mono ?_
  rintro e w1 ⟨rfl, hb1⟩
  have hw1 : Wy w1 b g n cap k 0 bad op := Blk.fr HW.out (Fr.of_below (bs := []) hb1) (by simp)
  have HW1 := hideR hw1
  have HB1 := hideR hb1
  clear hw1 hb1
  go_wp2_with fail
  refine (wrong_first b g n cap k _ _ bad op _ (by exact Blk.alloc HW1.out _)).mono ?_
  rintro e w5 ⟨rfl, h5, hf5⟩
  go_wp2
  first | go_end0 | refine bodyPost_ret (results_none rfl _ _ _) rfl ?_
  exact ⟨rfl, h5, ((Fr.of_below (bs := [b]) HB1.out).alloc _).trans hf5 (by simp)⟩

theorem wterm_ok (f : Nat → Tok) (N b g n cap c k : Nat) (p : List Nat) (sg : Nat) (bare : Bool) (bad op : Int) (w : World) (h : Wy w b g n cap k 0 bad op) (ht : Tk w g n f) (hp : Blk w c (pv p) 41) (hgp : Good p)
    (hk : k < n) (hn : n ≤ N + 1) (hN : N ≤ 1000) (hend : ∀ j, j < n → (f j).c ≠ 0 → j + 1 < n) (hv : ∀ j, (f j).v ≤ 99) (hsg : sg ≤ 6) (hbg : b ≠ g) (hbc : b ≠ c) (hgc : g ≠ c) (he : (tm f bare N k).e = 0) :
    Calls Tryd.prog 54 #[.pointer (some ⟨b, 0, none⟩), .pointer (some ⟨c, 0, none⟩), .int .i64 sg, .bool bare] w fun e w' => e = .returned (.tuple #[]) ∧ Wy w' b g n cap (tm f bare N k).k 0 bad op ∧ Blk w' c (pv (plus p (tm f bare N k).u (tm f bare N k).x (sg * (tm f bare N k).n))) 41 ∧ (tm f bare N k).k < n ∧ Fr [b, c] w w' := by
  unfold tm at *
  by_cases h1 : (f k).c = 1
  · rw [if_pos h1] at *
    refine (wterm_number f N b g n cap c k p sg bare bad op w h ht hp hgp hk hn hN hend hv hsg hbg hbc hgc h1).mono ?_
    rintro e w1 ⟨rfl, q | q⟩
    · exact ⟨rfl, q.2⟩
    · exact absurd he q.1
  · rw [if_neg h1] at *
    by_cases h2 : (f k).c = 2 ∨ (f k).c = 3
    · rw [if_pos h2] at *
      refine (wterm_power f N b g n cap c k p sg bare bad op w h ht hp hgp hk hn hN hend hv hsg hbg hbc hgc h2).mono ?_
      rintro e w1 ⟨rfl, q | q⟩
      · exact ⟨rfl, q.2⟩
      · exact absurd he q.1
    · rw [if_neg h2] at he; exact absurd he (by simp)
theorem wterm_not (f : Nat → Tok) (N b g n cap c k : Nat) (p : List Nat) (sg : Nat) (bare : Bool) (bad op : Int) (w : World) (h : Wy w b g n cap k 0 bad op) (ht : Tk w g n f) (hp : Blk w c (pv p) 41) (hgp : Good p)
    (hk : k < n) (hn : n ≤ N + 1) (hN : N ≤ 1000) (hend : ∀ j, j < n → (f j).c ≠ 0 → j + 1 < n) (hv : ∀ j, (f j).v ≤ 99) (hsg : sg ≤ 6) (hbg : b ≠ g) (hbc : b ≠ c) (hgc : g ≠ c) (he : (tm f bare N k).e ≠ 0) :
    Calls Tryd.prog 54 #[.pointer (some ⟨b, 0, none⟩), .pointer (some ⟨c, 0, none⟩), .int .i64 sg, .bool bare] w fun e w' => e = .returned (.tuple #[]) ∧ (∃ k', k' < n ∧ Wy w' b g n cap k' (tm f bare N k).e (tm f bare N k).bad op) ∧ Blk w' c (pv p) 41 ∧ Fr [b, c] w w' := by
  unfold tm at *
  by_cases h1 : (f k).c = 1
  · rw [if_pos h1] at *
    refine (wterm_number f N b g n cap c k p sg bare bad op w h ht hp hgp hk hn hN hend hv hsg hbg hbc hgc h1).mono ?_
    rintro e w1 ⟨rfl, q | q⟩
    · exact absurd q.1 he
    · exact ⟨rfl, q.2⟩
  · rw [if_neg h1] at *
    by_cases h2 : (f k).c = 2 ∨ (f k).c = 3
    · rw [if_pos h2] at *
      refine (wterm_power f N b g n cap c k p sg bare bad op w h ht hp hgp hk hn hN hend hv hsg hbg hbc hgc h2).mono ?_
      rintro e w1 ⟨rfl, q | q⟩
      · exact absurd q.1 he
      · exact ⟨rfl, q.2⟩
    · rw [if_neg h2] at *
      refine (wterm_bad f b g n cap c k sg bare bad op w h ht hk (by omega) (by omega)).mono ?_
      rintro e w1 ⟨rfl, q1, q2⟩
      exact ⟨rfl, ⟨k, hk, q1⟩, hp.fr q2 (by simp; omega), q2.mono (by simp)⟩

theorem rk_43 {c : Nat} : rk c = 43 ↔ c = 47 := by
  constructor
  · intro h
    unfold rk at h
    repeat' split at h
    all_goals omega
  · intro h; subst h; rfl
theorem rk_45 {c : Nat} : rk c = 45 ↔ c = 49 := by
  constructor
  · intro h
    unfold rk at h
    repeat' split at h
    all_goals omega
  · intro h; subst h; rfl
end Go.Proofs.YthlmgpllapccfaaDoor
/- THE DOCUMENT's ANSWER: poly. -/
namespace Go.Proofs.YthlmgpllapccfaaDoor
open Go.RowKit

/-- What poly ends in. -/
def PolyEnd (b g n cap : Nat) (R : PlR) (bad op : Int) (w : World) (e : Ending) (w' : World) : Prop :=
  (R.e = 0 ∧ e = .returned (.agg (pv R.p)) ∧ Good R.p ∧ Wy w' b g n cap R.k 0 bad op ∧ R.k < n ∧ Fr [b] w w') ∨ (R.e ≠ 0 ∧ (∃ q, Good q ∧ e = .returned (.agg (pv q))) ∧ (∃ k', k' < n ∧ Wy w' b g n cap k' R.e R.bad op) ∧ Fr [b] w w')

set_option maxRecDepth 100000 in
set_option maxHeartbeats 8000000 in
theorem wpoly_plain (f : Nat → Tok) (N b g n cap k : Nat) (bare : Bool) (bad op : Int) (w : World) (h : Wy w b g n cap k 0 bad op) (ht : Tk w g n f)
    (hk : k < n) (hn : n ≤ N + 1) (hN : N ≤ 1000) (hend : ∀ j, j < n → (f j).c ≠ 0 → j + 1 < n) (hv : ∀ j, (f j).v ≤ 99) (hbg : b ≠ g) (hc : (f k).c ≠ 49) :
    Calls Tryd.prog 29 #[.pointer (some ⟨b, 0, none⟩), .bool bare] w (PolyEnd b g n cap (pl f bare N (N + 1) k 1 zeros) bad op w) := by
  have hb : b < w.heap.size := Blk.lt h
  have hg := ht.1
  have HW := hideR h
  have HT := hideR ht
  generalize hR : pl f bare N (N + 1) k 1 zeros = R
  have HP : Hid (pl f bare N (N + 1) k 1 zeros = R) := hR
  have HC : Hid (rk (f k).c ≠ 45) := fun q => hc (rk_45.1 q)
  have hnt : ∀ (x : Bool) (w : World), (Op.unary .not (.bool x)).run Tryd.prog w = .ok (.bool (!x)) w := fun _ _ => rfl
  clear h ht hR hc
  go_enter Tryd.func29, Tryd.ntmps29
  go_wp2_with fail
  refine (passes_no b g n cap k f 45 bad op _ (by exact Blk.alloc (Blk.alloc HW.out _) _) (by exact HT.out.fr (((Fr.refl [] w).alloc _).alloc _) (by simp)) hk (by omega) (by omega) (by omega) HC.out).mono ?_
  rintro e w0 ⟨rfl, hw0, hfr0⟩
  have hs0 : Blk w0 (w.heap.size + 1) (pv zeros) 41 := Blk.fr (by exact Blk.newAt _ _ _ (by simp)) hfr0 (by simp; omega)
  have hr0 : Blk w0 w.heap.size (pv zeros) 41 := Blk.fr (by exact Blk.alloc (Blk.new w _ _) _) hfr0 (by simp; omega)
  have hf0 : Fr [b] w w0 := (((Fr.refl [b] w).alloc _).alloc _).trans hfr0 (by simp)
  go_wp2
  go_loopg [6] (N + 1) (fun m v6 wr => (∃ (k' sg : Nat) (p : List Nat), v6 = .int .i64 sg ∧ (sg = 1 ∨ sg = 6) ∧ N + 1 ≤ m + k' ∧ k' < n ∧ Good p ∧ Wy wr b g n cap k' 0 bad op ∧ Blk wr (w.heap.size + 1) (pv p) 41 ∧ Blk wr w.heap.size (pv zeros) 41 ∧ Fr [b] w wr ∧ Hid (pl f bare N m k' sg p = R)) ∨ (∃ (k' : Nat) (q : List Nat), k' < n ∧ Good q ∧ R.e ≠ 0 ∧ Wy wr b g n cap k' R.e R.bad op ∧ Blk wr (w.heap.size + 1) (pv q) 41 ∧ Blk wr w.heap.size (pv zeros) 41 ∧ Fr [b] w wr))
  case atStart => exact Or.inl ⟨k, 1, zeros, rfl, Or.inl rfl, by omega, hk, zeros_good, hw0, hs0, hr0, hf0, HP⟩
  case round =>
    have mb : ¬ w.heap.size + 1 = b := by omega
    have mb0 : ¬ w.heap.size = b := by omega
    have mg : g ≠ w.heap.size + 1 := by omega
    rcases hrel with ⟨k', sg, p, rfl, hsg, hm, hk', hgp, hw, hp, hr, hfw, HQ⟩ | ⟨k', q, hk', hgq, hne, hw, hp, hr, hfw⟩
    · obtain ⟨c0, c1, c2, c3, c4⟩ := hw.cells
      have HTr : Hid (Tk wr g n f) := HT.out.fr hfw (by simp; omega)
      have HWr := hideR hw
      have HPr := hideR hp
      have HRr := hideR hr
      have hbr := Blk.lt hw
      clear hw hp hr
      by_cases hte : (tm f bare N k').e = 0
      · have hT := tm_facts f bare N k'
        have HTE := hideR hte
        go_wp2_with fail
        refine (wterm_ok f N b g n cap (w.heap.size + 1) k' p sg bare bad op _ HWr.out HTr.out HPr.out hgp hk' hn hN hend hv (by omega) hbg (Ne.symm mb) mg hte).mono ?_
        rintro e w1 ⟨rfl, hw1, hp1, hk1, hfr1⟩
        clear hte
        generalize hTT : tm f bare N k' = T at *
        have HTT := hideR hTT
        clear hTT
        have hg' : Good (plus p T.u T.x (sg * T.n)) := plus_good hgp _ _ _
        obtain ⟨p', HP'⟩ : ∃ p', Hid (plus p T.u T.x (sg * T.n) = p') := ⟨_, rfl⟩
        rw [HP'.out] at hp1 hg'
        have hr1 : Blk w1 w.heap.size (pv zeros) 41 := HRr.out.fr hfr1 (by simp; omega)
        have hf1 : Fr [b] w w1 := hfw.trans hfr1 (by simp)
        have ht1 : Tk w1 g n f := HT.out.fr hf1 (by simp; omega)
        obtain ⟨e0, e1, e2, e3, e4⟩ := hw1.cells
        have HW1 := hideR hw1
        have HP1 := hideR hp1
        have HR1 := hideR hr1
        have HT1 := hideR ht1
        clear hw1 hp1 hr1 ht1 c0 c1 c2 c3 c4
        by_cases h4 : (f T.k).c = 47
        · have hlt : T.k + 1 < n := hend T.k hk1 (by omega)
          have HN' : Hid (pl f bare N (gk - 1) (T.k + 1) 1 p' = R) := by
            have q := HQ.out
            rw [pl_plus (by omega) (by rw [HTT.out]; exact HTE.out) (by rw [HTT.out]; exact h4), HTT.out, HP'.out] at q
            exact q
          have h4r := rk_43.2 h4
          have H4 := hideR h4r
          clear h4 h4r
          go_wp2_with fail
          refine (passes_yes b g n cap T.k f 43 bad op _ HW1.out HT1.out hk1 (by omega) (by omega) (by omega) H4.out).mono ?_
          rintro e w2 ⟨rfl, hw2, hfr2⟩
          have hf2 : Fr [b] w w2 := hf1.trans hfr2 (by simp)
          have HT2 : Hid (Tk w2 g n f) := HT.out.fr hf2 (by simp; omega)
          have HP2 : Hid (Blk w2 (w.heap.size + 1) (pv p') 41) := HP1.out.fr hfr2 (by simp [mb])
          have HR2 : Hid (Blk w2 w.heap.size (pv zeros) 41) := HR1.out.fr hfr2 (by simp [mb0])
          have HW2 := hideR hw2
          clear hw2
          by_cases h5 : (f (T.k + 1)).c = 49
          · have hlt2 : T.k + 1 + 1 < n := hend (T.k + 1) hlt (by omega)
            have h5r := rk_45.2 h5
            have H5 := hideR h5r
            have HRR : Hid (R.e = 4 ∧ R.bad = (f (T.k + 1)).at') := by
              have q : tm f bare N (T.k + 1) = ⟨4, (f (T.k + 1)).at', T.k + 1, 0, 0, 0⟩ := by
                unfold tm; rw [if_neg (by omega), if_neg (by omega)]
              unfold Hid
              rw [← HN'.out, pl_bad (by omega) (by rw [q]; simp), q]
              exact ⟨rfl, rfl⟩
            clear h5 h5r HN'
            generalize T.k + 1 = m at *
            go_wp2_with fail
            refine (passes_yes b g n cap m f 45 bad op _ HW2.out HT2.out hlt (by omega) (by omega) (by omega) H5.out).mono ?_
            rintro e w3 ⟨rfl, hw3, hfr3⟩
            have hf3 : Fr [b] w w3 := hf2.trans hfr3 (by simp)
            have ht3 : Tk w3 g n f := HT.out.fr hf3 (by simp; omega)
            have HP3 : Hid (Blk w3 (w.heap.size + 1) (pv p') 41) := HP2.out.fr hfr3 (by simp [mb])
            have HR3 : Hid (Blk w3 w.heap.size (pv zeros) 41) := HR2.out.fr hfr3 (by simp [mb0])
            obtain ⟨s0, s1, s2, s3, s4⟩ := hw3.cells
            obtain ⟨d0, d1, d2, d3⟩ := ht3.cells hlt
            have HW3 := hideR hw3
            have es : ((m + 1 : Nat) : Int) = (m : Int) + 1 := by omega
            rw [es] at s1
            have i0 : (0 : Int) ≤ (m : Int) := by omega
            have i1 : (m : Int) < (n : Int) := by omega
            clear es hw3 ht3
            go_wp2
            refine region_quiet_tail 13 (by kernel_rfl) (by kernel_rfl) ?_
            simp only [List.take_succ_cons, List.take_zero, List.drop_succ_cons, List.drop_zero]
            repeat (first | go_big_quiet_step ((fail)) | quiet_step ((fail)))
            refine wpQuiet_nil ?_
            rintro _ ⟨nr, rfl⟩
            go_wp2_with fail
            refine (wrong_first b g n cap (m + 1) _ _ bad op _ (by exact HW3.out)).mono ?_
            rintro e w4 ⟨rfl, hw4, hfr4⟩
            have hfr4' : Fr [b] w3 w4 := ((Fr.refl [b] w3).drewN nr).trans hfr4 (by simp)
            go_wp2
            go_roundg (gk - 1)
            case measure => omega
            case rel =>
              refine Or.inr ⟨m + 1, p', hlt2, hg', ?_, ?_, HP3.out.fr hfr4' (by simp [mb]), HR3.out.fr hfr4' (by simp [mb0]), hf3.trans hfr4' (by simp)⟩
              · rw [HRR.out.1]; simp
              · rw [HRR.out.1, HRR.out.2]; exact hw4
          · have H5 : Hid (rk (f (T.k + 1)).c ≠ 45) := fun q => h5 (rk_45.1 q)
            clear h5
            go_wp2_with fail
            refine (passes_no b g n cap (T.k + 1) f 45 bad op _ HW2.out HT2.out hlt (by omega) (by omega) (by omega) H5.out).mono ?_
            rintro e w3 ⟨rfl, hw3, hfr3⟩
            have hf3 : Fr [b] w w3 := hf2.trans hfr3 (by simp)
            go_wp2
            go_roundg (gk - 1)
            case measure => omega
            case rel => exact Or.inl ⟨T.k + 1, 1, p', rfl, Or.inl rfl, by omega, hlt, hg', hw3, HP2.out.fr hfr3 (by simp [mb]), HR2.out.fr hfr3 (by simp [mb0]), hf3, HN'⟩
        · have H4 : Hid (rk (f T.k).c ≠ 43) := fun q => h4 (rk_43.1 q)
          go_wp2_with fail
          refine (passes_no b g n cap T.k f 43 bad op _ HW1.out HT1.out hk1 (by omega) (by omega) (by omega) H4.out).mono ?_
          rintro e w2 ⟨rfl, hw2, hfr2⟩
          have hf2 : Fr [b] w w2 := hf1.trans hfr2 (by simp)
          have HT2 : Hid (Tk w2 g n f) := HT.out.fr hf2 (by simp; omega)
          have HP2 : Hid (Blk w2 (w.heap.size + 1) (pv p') 41) := HP1.out.fr hfr2 (by simp [mb])
          have HR2 : Hid (Blk w2 w.heap.size (pv zeros) 41) := HR1.out.fr hfr2 (by simp [mb0])
          have HW2 := hideR hw2
          clear hw2
          by_cases h5 : (f T.k).c = 49
          · have hlt : T.k + 1 < n := hend T.k hk1 (by omega)
            have HN' : Hid (pl f bare N (gk - 1) (T.k + 1) 6 p' = R) := by
              have q := HQ.out
              rw [pl_minus (by omega) (by rw [HTT.out]; exact HTE.out) (by rw [HTT.out]; exact h5), HTT.out, HP'.out] at q
              exact q
            have h5r := rk_45.2 h5
            have H5 := hideR h5r
            clear h4 h5 h5r
            go_wp2_with fail
            refine (passes_yes b g n cap T.k f 45 bad op _ HW2.out HT2.out hk1 (by omega) (by omega) (by omega) H5.out).mono ?_
            rintro e w3 ⟨rfl, hw3, hfr3⟩
            have hf3 : Fr [b] w w3 := hf2.trans hfr3 (by simp)
            go_wp2
            go_roundg (gk - 1)
            case measure => omega
            case rel => exact Or.inl ⟨T.k + 1, 6, p', rfl, Or.inr rfl, by omega, hlt, hg', hw3, HP2.out.fr hfr3 (by simp [mb]), HR2.out.fr hfr3 (by simp [mb0]), hf3, HN'⟩
          · have HB : Hid (R = ⟨0, 0, T.k, p'⟩) := by
              unfold Hid
              rw [← HQ.out, pl_done (by omega) (by rw [HTT.out]; exact HTE.out) (by rw [HTT.out]; exact h4) (by rw [HTT.out]; exact h5), HTT.out, HP'.out]
            have H5 : Hid (rk (f T.k).c ≠ 45) := fun q => h5 (rk_45.1 q)
            clear h4 h5
            go_wp2_with fail
            refine (passes_no b g n cap T.k f 45 bad op _ HW2.out HT2.out hk1 (by omega) (by omega) (by omega) H5.out).mono ?_
            rintro e w3 ⟨rfl, hw3, hfr3⟩
            have hf3 : Fr [b] w w3 := hf2.trans hfr3 (by simp)
            have HW3 := hideR hw3
            have HP3 : Hid (Blk w3 (w.heap.size + 1) (pv p') 41) := HP2.out.fr hfr3 (by simp [mb])
            have HR3 : Hid (Blk w3 w.heap.size (pv zeros) 41) := HR2.out.fr hfr3 (by simp [mb0])
            clear hw3
            go_wp2_with (first | (refine wpList_load_row (by rfl) 41 _ (by rfl) (w.heap.size + 1) (by rfl) 41 (pv p') (0, 0) _ HP3.out Tryd.underlying41 (by rfl) (size_rPoly hg') ?_) | (refine wpList_store_mid (by rfl) 41 _ (.tmp 55) (by rfl) w.heap.size 0 (pv p') (by rfl) (by rfl) (Blk.there HR3.out (by rw [pv_size, pv_size, hg'.1]; exact Nat.le_refl _)) (size_rPoly hg') (pv_one _) ?_))
            refine bodyPost_ret (results_cell_row Tryd.results29 _ _ w.heap.size 41 (pv p') (0, 0) _ (by rfl) (Blk.setAll HR3.out _ (by rw [pv_size, pv_size, hg'.1]; rfl)) Tryd.underlying41 rfl (size_rPoly hg')) rfl ?_
            refine Or.inl ⟨?_, ?_, ?_, ?_, ?_, ?_⟩
            · rw [HB.out]
            · rw [HB.out]
            · rw [HB.out]; exact hg'
            · rw [HB.out]; exact Blk.setCellsOther HW3.out _ _ _ (by omega)
            · rw [HB.out]; exact hk1
            · exact Fr.setCells hf3 _ _ _ (by simp)
      · have HB : Hid (R.e ≠ 0 ∧ R.e = (tm f bare N k').e ∧ R.bad = (tm f bare N k').bad) := by
          unfold Hid
          rw [← HQ.out, pl_bad (by omega) hte]; exact ⟨hte, rfl, rfl⟩
        go_wp2_with fail
        refine (wterm_not f N b g n cap (w.heap.size + 1) k' p sg bare bad op _ HWr.out HTr.out HPr.out hgp hk' hn hN hend hv (by omega) hbg (Ne.symm mb) mg hte).mono ?_
        rintro e w1 ⟨rfl, ⟨k1, hk1, hw1⟩, hp1, hfr1⟩
        obtain ⟨g1, g2, g3⟩ := HB.out
        rw [← g2, ← g3] at hw1
        have hr1 : Blk w1 w.heap.size (pv zeros) 41 := HRr.out.fr hfr1 (by simp; omega)
        have hf1 : Fr [b] w w1 := hfw.trans hfr1 (by simp)
        obtain ⟨e0, e1, e2, e3, e4⟩ := hw1.cells
        have qe : ((R.e : Int) != 0) = true := by rw [bne_iff_ne]; omega
        have HW1 := hideR hw1
        have HP1 := hideR hp1
        have HR1 := hideR hr1
        have HG1 := hideR g1
        clear hw1 hp1 hr1 c0 c1 c2 c3 c4 g1 g2 g3 hte
        go_wp2_with (first | (refine wpList_load_row (by rfl) 41 _ (by rfl) (w.heap.size + 1) (by rfl) 41 (pv p) (0, 0) _ HP1.out Tryd.underlying41 (by rfl) (size_rPoly hgp) ?_) | (refine wpList_store_mid (by rfl) 41 _ (.tmp 55) (by rfl) w.heap.size 0 (pv p) (by rfl) (by rfl) (Blk.there HR1.out (by rw [pv_size, pv_size, hgp.1]; exact Nat.le_refl _)) (size_rPoly hgp) (pv_one _) ?_))
        refine bodyPost_ret (results_cell_row Tryd.results29 _ _ w.heap.size 41 (pv p) (0, 0) _ (by rfl) (Blk.setAll HR1.out _ (by rw [pv_size, pv_size, hgp.1]; rfl)) Tryd.underlying41 rfl (size_rPoly hgp)) rfl ?_
        exact Or.inr ⟨HG1.out, ⟨p, hgp, rfl⟩, ⟨k1, hk1, Blk.setCellsOther HW1.out _ _ _ (by omega)⟩, Fr.setCells hf1 _ _ _ (by simp)⟩
    · obtain ⟨c0, c1, c2, c3, c4⟩ := hw.cells
      have qe : ((R.e : Int) == 0) = false := by rw [beq_eq_false_iff_ne]; omega
      have HW1 := hideR hw
      have HP1 := hideR hp
      have HR1 := hideR hr
      have HG1 := hideR hne
      clear hw hp hr hne
      go_wp2_with (first | (refine wpList_load_row (by rfl) 41 _ (by rfl) (w.heap.size + 1) (by rfl) 41 (pv q) (0, 0) _ HP1.out Tryd.underlying41 (by rfl) (size_rPoly hgq) ?_) | (refine wpList_store_mid (by rfl) 41 _ (.tmp 55) (by rfl) w.heap.size 0 (pv q) (by rfl) (by rfl) (Blk.there HR1.out (by rw [pv_size, pv_size, hgq.1]; exact Nat.le_refl _)) (size_rPoly hgq) (pv_one _) ?_))
      refine bodyPost_ret (results_cell_row Tryd.results29 _ _ w.heap.size 41 (pv q) (0, 0) _ (by rfl) (Blk.setAll HR1.out _ (by rw [pv_size, pv_size, hgq.1]; rfl)) Tryd.underlying41 rfl (size_rPoly hgq)) rfl ?_
      exact Or.inr ⟨HG1.out, ⟨q, hgq, rfl⟩, ⟨k', hk', Blk.setCellsOther HW1.out _ _ _ (by omega)⟩, Fr.setCells hfw _ _ _ (by simp)⟩
end Go.Proofs.YthlmgpllapccfaaDoor
/- THE DOCUMENT's ANSWER: poly, with a minus ahead; whole. -/
namespace Go.Proofs.YthlmgpllapccfaaDoor
open Go.RowKit

set_option maxRecDepth 100000 in
set_option maxHeartbeats 8000000 in
theorem wpoly_minus (f : Nat → Tok) (N b g n cap k : Nat) (bare : Bool) (bad op : Int) (w : World) (h : Wy w b g n cap k 0 bad op) (ht : Tk w g n f)
    (hk : k < n) (hn : n ≤ N + 1) (hN : N ≤ 1000) (hend : ∀ j, j < n → (f j).c ≠ 0 → j + 1 < n) (hv : ∀ j, (f j).v ≤ 99) (hbg : b ≠ g) (hc : (f k).c = 49) :
    Calls Tryd.prog 29 #[.pointer (some ⟨b, 0, none⟩), .bool bare] w (PolyEnd b g n cap (pl f bare N (N + 1) (k + 1) 6 zeros) bad op w) := by
  have hb : b < w.heap.size := Blk.lt h
  have hg := ht.1
  have HW := hideR h
  have HT := hideR ht
  generalize hR : pl f bare N (N + 1) (k + 1) 6 zeros = R
  have HP : Hid (pl f bare N (N + 1) (k + 1) 6 zeros = R) := hR
  have HC : Hid (rk (f k).c = 45) := rk_45.2 hc
  have hlt0 : k + 1 < n := hend k hk (by omega)
  have hnt : ∀ (x : Bool) (w : World), (Op.unary .not (.bool x)).run Tryd.prog w = .ok (.bool (!x)) w := fun _ _ => rfl
  clear h ht hR hc
  go_enter Tryd.func29, Tryd.ntmps29
  go_wp2_with fail
  refine (passes_yes b g n cap k f 45 bad op _ (by exact Blk.alloc (Blk.alloc HW.out _) _) (by exact HT.out.fr (((Fr.refl [] w).alloc _).alloc _) (by simp)) hk (by omega) (by omega) (by omega) HC.out).mono ?_
  rintro e w0 ⟨rfl, hw0, hfr0⟩
  have hs0 : Blk w0 (w.heap.size + 1) (pv zeros) 41 := Blk.fr (by exact Blk.newAt _ _ _ (by simp)) hfr0 (by simp; omega)
  have hr0 : Blk w0 w.heap.size (pv zeros) 41 := Blk.fr (by exact Blk.alloc (Blk.new w _ _) _) hfr0 (by simp; omega)
  have hf0 : Fr [b] w w0 := (((Fr.refl [b] w).alloc _).alloc _).trans hfr0 (by simp)
  go_wp2
  go_loopg [6] (N + 1) (fun m v6 wr => (∃ (k' sg : Nat) (p : List Nat), v6 = .int .i64 sg ∧ (sg = 1 ∨ sg = 6) ∧ N + 1 ≤ m + k' ∧ k' < n ∧ Good p ∧ Wy wr b g n cap k' 0 bad op ∧ Blk wr (w.heap.size + 1) (pv p) 41 ∧ Blk wr w.heap.size (pv zeros) 41 ∧ Fr [b] w wr ∧ Hid (pl f bare N m k' sg p = R)) ∨ (∃ (k' : Nat) (q : List Nat), k' < n ∧ Good q ∧ R.e ≠ 0 ∧ Wy wr b g n cap k' R.e R.bad op ∧ Blk wr (w.heap.size + 1) (pv q) 41 ∧ Blk wr w.heap.size (pv zeros) 41 ∧ Fr [b] w wr))
  case atStart => exact Or.inl ⟨k + 1, 6, zeros, rfl, Or.inr rfl, by omega, hlt0, zeros_good, hw0, hs0, hr0, hf0, HP⟩
  case round =>
    have mb : ¬ w.heap.size + 1 = b := by omega
    have mb0 : ¬ w.heap.size = b := by omega
    have mg : g ≠ w.heap.size + 1 := by omega
    rcases hrel with ⟨k', sg, p, rfl, hsg, hm, hk', hgp, hw, hp, hr, hfw, HQ⟩ | ⟨k', q, hk', hgq, hne, hw, hp, hr, hfw⟩
    · obtain ⟨c0, c1, c2, c3, c4⟩ := hw.cells
      have HTr : Hid (Tk wr g n f) := HT.out.fr hfw (by simp; omega)
      have HWr := hideR hw
      have HPr := hideR hp
      have HRr := hideR hr
      have hbr := Blk.lt hw
      clear hw hp hr
      by_cases hte : (tm f bare N k').e = 0
      · have hT := tm_facts f bare N k'
        have HTE := hideR hte
        go_wp2_with fail
        refine (wterm_ok f N b g n cap (w.heap.size + 1) k' p sg bare bad op _ HWr.out HTr.out HPr.out hgp hk' hn hN hend hv (by omega) hbg (Ne.symm mb) mg hte).mono ?_
        rintro e w1 ⟨rfl, hw1, hp1, hk1, hfr1⟩
        clear hte
        generalize hTT : tm f bare N k' = T at *
        have HTT := hideR hTT
        clear hTT
        have hg' : Good (plus p T.u T.x (sg * T.n)) := plus_good hgp _ _ _
        obtain ⟨p', HP'⟩ : ∃ p', Hid (plus p T.u T.x (sg * T.n) = p') := ⟨_, rfl⟩
        rw [HP'.out] at hp1 hg'
        have hr1 : Blk w1 w.heap.size (pv zeros) 41 := HRr.out.fr hfr1 (by simp; omega)
        have hf1 : Fr [b] w w1 := hfw.trans hfr1 (by simp)
        have ht1 : Tk w1 g n f := HT.out.fr hf1 (by simp; omega)
        obtain ⟨e0, e1, e2, e3, e4⟩ := hw1.cells
        have HW1 := hideR hw1
        have HP1 := hideR hp1
        have HR1 := hideR hr1
        have HT1 := hideR ht1
        clear hw1 hp1 hr1 ht1 c0 c1 c2 c3 c4
        by_cases h4 : (f T.k).c = 47
        · have hlt : T.k + 1 < n := hend T.k hk1 (by omega)
          have HN' : Hid (pl f bare N (gk - 1) (T.k + 1) 1 p' = R) := by
            have q := HQ.out
            rw [pl_plus (by omega) (by rw [HTT.out]; exact HTE.out) (by rw [HTT.out]; exact h4), HTT.out, HP'.out] at q
            exact q
          have h4r := rk_43.2 h4
          have H4 := hideR h4r
          clear h4 h4r
          go_wp2_with fail
          refine (passes_yes b g n cap T.k f 43 bad op _ HW1.out HT1.out hk1 (by omega) (by omega) (by omega) H4.out).mono ?_
          rintro e w2 ⟨rfl, hw2, hfr2⟩
          have hf2 : Fr [b] w w2 := hf1.trans hfr2 (by simp)
          have HT2 : Hid (Tk w2 g n f) := HT.out.fr hf2 (by simp; omega)
          have HP2 : Hid (Blk w2 (w.heap.size + 1) (pv p') 41) := HP1.out.fr hfr2 (by simp [mb])
          have HR2 : Hid (Blk w2 w.heap.size (pv zeros) 41) := HR1.out.fr hfr2 (by simp [mb0])
          have HW2 := hideR hw2
          clear hw2
          by_cases h5 : (f (T.k + 1)).c = 49
          · have hlt2 : T.k + 1 + 1 < n := hend (T.k + 1) hlt (by omega)
            have h5r := rk_45.2 h5
            have H5 := hideR h5r
            have HRR : Hid (R.e = 4 ∧ R.bad = (f (T.k + 1)).at') := by
              have q : tm f bare N (T.k + 1) = ⟨4, (f (T.k + 1)).at', T.k + 1, 0, 0, 0⟩ := by
                unfold tm; rw [if_neg (by omega), if_neg (by omega)]
              unfold Hid
              rw [← HN'.out, pl_bad (by omega) (by rw [q]; simp), q]
              exact ⟨rfl, rfl⟩
            clear h5 h5r HN'
            generalize T.k + 1 = m at *
            go_wp2_with fail
            refine (passes_yes b g n cap m f 45 bad op _ HW2.out HT2.out hlt (by omega) (by omega) (by omega) H5.out).mono ?_
            rintro e w3 ⟨rfl, hw3, hfr3⟩
            have hf3 : Fr [b] w w3 := hf2.trans hfr3 (by simp)
            have ht3 : Tk w3 g n f := HT.out.fr hf3 (by simp; omega)
            have HP3 : Hid (Blk w3 (w.heap.size + 1) (pv p') 41) := HP2.out.fr hfr3 (by simp [mb])
            have HR3 : Hid (Blk w3 w.heap.size (pv zeros) 41) := HR2.out.fr hfr3 (by simp [mb0])
            obtain ⟨s0, s1, s2, s3, s4⟩ := hw3.cells
            obtain ⟨d0, d1, d2, d3⟩ := ht3.cells hlt
            have HW3 := hideR hw3
            have es : ((m + 1 : Nat) : Int) = (m : Int) + 1 := by omega
            rw [es] at s1
            have i0 : (0 : Int) ≤ (m : Int) := by omega
            have i1 : (m : Int) < (n : Int) := by omega
            clear es hw3 ht3
            go_wp2
            refine region_quiet_tail 13 (by kernel_rfl) (by kernel_rfl) ?_
            simp only [List.take_succ_cons, List.take_zero, List.drop_succ_cons, List.drop_zero]
            repeat (first | go_big_quiet_step ((fail)) | quiet_step ((fail)))
            refine wpQuiet_nil ?_
            rintro _ ⟨nr, rfl⟩
            go_wp2_with fail
            refine (wrong_first b g n cap (m + 1) _ _ bad op _ (by exact HW3.out)).mono ?_
            rintro e w4 ⟨rfl, hw4, hfr4⟩
            have hfr4' : Fr [b] w3 w4 := ((Fr.refl [b] w3).drewN nr).trans hfr4 (by simp)
            go_wp2
            go_roundg (gk - 1)
            case measure => omega
            case rel =>
              refine Or.inr ⟨m + 1, p', hlt2, hg', ?_, ?_, HP3.out.fr hfr4' (by simp [mb]), HR3.out.fr hfr4' (by simp [mb0]), hf3.trans hfr4' (by simp)⟩
              · rw [HRR.out.1]; simp
              · rw [HRR.out.1, HRR.out.2]; exact hw4
          · have H5 : Hid (rk (f (T.k + 1)).c ≠ 45) := fun q => h5 (rk_45.1 q)
            clear h5
            go_wp2_with fail
            refine (passes_no b g n cap (T.k + 1) f 45 bad op _ HW2.out HT2.out hlt (by omega) (by omega) (by omega) H5.out).mono ?_
            rintro e w3 ⟨rfl, hw3, hfr3⟩
            have hf3 : Fr [b] w w3 := hf2.trans hfr3 (by simp)
            go_wp2
            go_roundg (gk - 1)
            case measure => omega
            case rel => exact Or.inl ⟨T.k + 1, 1, p', rfl, Or.inl rfl, by omega, hlt, hg', hw3, HP2.out.fr hfr3 (by simp [mb]), HR2.out.fr hfr3 (by simp [mb0]), hf3, HN'⟩
        · have H4 : Hid (rk (f T.k).c ≠ 43) := fun q => h4 (rk_43.1 q)
          go_wp2_with fail
          refine (passes_no b g n cap T.k f 43 bad op _ HW1.out HT1.out hk1 (by omega) (by omega) (by omega) H4.out).mono ?_
          rintro e w2 ⟨rfl, hw2, hfr2⟩
          have hf2 : Fr [b] w w2 := hf1.trans hfr2 (by simp)
          have HT2 : Hid (Tk w2 g n f) := HT.out.fr hf2 (by simp; omega)
          have HP2 : Hid (Blk w2 (w.heap.size + 1) (pv p') 41) := HP1.out.fr hfr2 (by simp [mb])
          have HR2 : Hid (Blk w2 w.heap.size (pv zeros) 41) := HR1.out.fr hfr2 (by simp [mb0])
          have HW2 := hideR hw2
          clear hw2
          by_cases h5 : (f T.k).c = 49
          · have hlt : T.k + 1 < n := hend T.k hk1 (by omega)
            have HN' : Hid (pl f bare N (gk - 1) (T.k + 1) 6 p' = R) := by
              have q := HQ.out
              rw [pl_minus (by omega) (by rw [HTT.out]; exact HTE.out) (by rw [HTT.out]; exact h5), HTT.out, HP'.out] at q
              exact q
            have h5r := rk_45.2 h5
            have H5 := hideR h5r
            clear h4 h5 h5r
            go_wp2_with fail
            refine (passes_yes b g n cap T.k f 45 bad op _ HW2.out HT2.out hk1 (by omega) (by omega) (by omega) H5.out).mono ?_
            rintro e w3 ⟨rfl, hw3, hfr3⟩
            have hf3 : Fr [b] w w3 := hf2.trans hfr3 (by simp)
            go_wp2
            go_roundg (gk - 1)
            case measure => omega
            case rel => exact Or.inl ⟨T.k + 1, 6, p', rfl, Or.inr rfl, by omega, hlt, hg', hw3, HP2.out.fr hfr3 (by simp [mb]), HR2.out.fr hfr3 (by simp [mb0]), hf3, HN'⟩
          · have HB : Hid (R = ⟨0, 0, T.k, p'⟩) := by
              unfold Hid
              rw [← HQ.out, pl_done (by omega) (by rw [HTT.out]; exact HTE.out) (by rw [HTT.out]; exact h4) (by rw [HTT.out]; exact h5), HTT.out, HP'.out]
            have H5 : Hid (rk (f T.k).c ≠ 45) := fun q => h5 (rk_45.1 q)
            clear h4 h5
            go_wp2_with fail
            refine (passes_no b g n cap T.k f 45 bad op _ HW2.out HT2.out hk1 (by omega) (by omega) (by omega) H5.out).mono ?_
            rintro e w3 ⟨rfl, hw3, hfr3⟩
            have hf3 : Fr [b] w w3 := hf2.trans hfr3 (by simp)
            have HW3 := hideR hw3
            have HP3 : Hid (Blk w3 (w.heap.size + 1) (pv p') 41) := HP2.out.fr hfr3 (by simp [mb])
            have HR3 : Hid (Blk w3 w.heap.size (pv zeros) 41) := HR2.out.fr hfr3 (by simp [mb0])
            clear hw3
            go_wp2_with (first | (refine wpList_load_row (by rfl) 41 _ (by rfl) (w.heap.size + 1) (by rfl) 41 (pv p') (0, 0) _ HP3.out Tryd.underlying41 (by rfl) (size_rPoly hg') ?_) | (refine wpList_store_mid (by rfl) 41 _ (.tmp 55) (by rfl) w.heap.size 0 (pv p') (by rfl) (by rfl) (Blk.there HR3.out (by rw [pv_size, pv_size, hg'.1]; exact Nat.le_refl _)) (size_rPoly hg') (pv_one _) ?_))
            refine bodyPost_ret (results_cell_row Tryd.results29 _ _ w.heap.size 41 (pv p') (0, 0) _ (by rfl) (Blk.setAll HR3.out _ (by rw [pv_size, pv_size, hg'.1]; rfl)) Tryd.underlying41 rfl (size_rPoly hg')) rfl ?_
            refine Or.inl ⟨?_, ?_, ?_, ?_, ?_, ?_⟩
            · rw [HB.out]
            · rw [HB.out]
            · rw [HB.out]; exact hg'
            · rw [HB.out]; exact Blk.setCellsOther HW3.out _ _ _ (by omega)
            · rw [HB.out]; exact hk1
            · exact Fr.setCells hf3 _ _ _ (by simp)
      · have HB : Hid (R.e ≠ 0 ∧ R.e = (tm f bare N k').e ∧ R.bad = (tm f bare N k').bad) := by
          unfold Hid
          rw [← HQ.out, pl_bad (by omega) hte]; exact ⟨hte, rfl, rfl⟩
        go_wp2_with fail
        refine (wterm_not f N b g n cap (w.heap.size + 1) k' p sg bare bad op _ HWr.out HTr.out HPr.out hgp hk' hn hN hend hv (by omega) hbg (Ne.symm mb) mg hte).mono ?_
        rintro e w1 ⟨rfl, ⟨k1, hk1, hw1⟩, hp1, hfr1⟩
        obtain ⟨g1, g2, g3⟩ := HB.out
        rw [← g2, ← g3] at hw1
        have hr1 : Blk w1 w.heap.size (pv zeros) 41 := HRr.out.fr hfr1 (by simp; omega)
        have hf1 : Fr [b] w w1 := hfw.trans hfr1 (by simp)
        obtain ⟨e0, e1, e2, e3, e4⟩ := hw1.cells
        have qe : ((R.e : Int) != 0) = true := by rw [bne_iff_ne]; omega
        have HW1 := hideR hw1
        have HP1 := hideR hp1
        have HR1 := hideR hr1
        have HG1 := hideR g1
        clear hw1 hp1 hr1 c0 c1 c2 c3 c4 g1 g2 g3 hte
        go_wp2_with (first | (refine wpList_load_row (by rfl) 41 _ (by rfl) (w.heap.size + 1) (by rfl) 41 (pv p) (0, 0) _ HP1.out Tryd.underlying41 (by rfl) (size_rPoly hgp) ?_) | (refine wpList_store_mid (by rfl) 41 _ (.tmp 55) (by rfl) w.heap.size 0 (pv p) (by rfl) (by rfl) (Blk.there HR1.out (by rw [pv_size, pv_size, hgp.1]; exact Nat.le_refl _)) (size_rPoly hgp) (pv_one _) ?_))
        refine bodyPost_ret (results_cell_row Tryd.results29 _ _ w.heap.size 41 (pv p) (0, 0) _ (by rfl) (Blk.setAll HR1.out _ (by rw [pv_size, pv_size, hgp.1]; rfl)) Tryd.underlying41 rfl (size_rPoly hgp)) rfl ?_
        exact Or.inr ⟨HG1.out, ⟨p, hgp, rfl⟩, ⟨k1, hk1, Blk.setCellsOther HW1.out _ _ _ (by omega)⟩, Fr.setCells hf1 _ _ _ (by simp)⟩
    · obtain ⟨c0, c1, c2, c3, c4⟩ := hw.cells
      have qe : ((R.e : Int) == 0) = false := by rw [beq_eq_false_iff_ne]; omega
      have HW1 := hideR hw
      have HP1 := hideR hp
      have HR1 := hideR hr
      have HG1 := hideR hne
      clear hw hp hr hne
      go_wp2_with (first | (refine wpList_load_row (by rfl) 41 _ (by rfl) (w.heap.size + 1) (by rfl) 41 (pv q) (0, 0) _ HP1.out Tryd.underlying41 (by rfl) (size_rPoly hgq) ?_) | (refine wpList_store_mid (by rfl) 41 _ (.tmp 55) (by rfl) w.heap.size 0 (pv q) (by rfl) (by rfl) (Blk.there HR1.out (by rw [pv_size, pv_size, hgq.1]; exact Nat.le_refl _)) (size_rPoly hgq) (pv_one _) ?_))
      refine bodyPost_ret (results_cell_row Tryd.results29 _ _ w.heap.size 41 (pv q) (0, 0) _ (by rfl) (Blk.setAll HR1.out _ (by rw [pv_size, pv_size, hgq.1]; rfl)) Tryd.underlying41 rfl (size_rPoly hgq)) rfl ?_
      exact Or.inr ⟨HG1.out, ⟨q, hgq, rfl⟩, ⟨k', hk', Blk.setCellsOther HW1.out _ _ _ (by omega)⟩, Fr.setCells hfw _ _ _ (by simp)⟩

theorem wpoly_any (f : Nat → Tok) (N b g n cap k : Nat) (bare : Bool) (bad op : Int) (w : World) (h : Wy w b g n cap k 0 bad op) (ht : Tk w g n f)
    (hk : k < n) (hn : n ≤ N + 1) (hN : N ≤ 1000) (hend : ∀ j, j < n → (f j).c ≠ 0 → j + 1 < n) (hv : ∀ j, (f j).v ≤ 99) (hbg : b ≠ g) :
    Calls Tryd.prog 29 #[.pointer (some ⟨b, 0, none⟩), .bool bare] w (PolyEnd b g n cap (poly f bare N k) bad op w) := by
  unfold poly
  by_cases hc : (f k).c = 49
  · rw [if_pos hc]; exact wpoly_minus f N b g n cap k bare bad op w h ht hk hn hN hend hv hbg hc
  · rw [if_neg hc]; exact wpoly_plain f N b g n cap k bare bad op w h ht hk hn hN hend hv hbg hc
theorem wpoly_ok (f : Nat → Tok) (N b g n cap k : Nat) (bare : Bool) (bad op : Int) (w : World) (h : Wy w b g n cap k 0 bad op) (ht : Tk w g n f)
    (hk : k < n) (hn : n ≤ N + 1) (hN : N ≤ 1000) (hend : ∀ j, j < n → (f j).c ≠ 0 → j + 1 < n) (hv : ∀ j, (f j).v ≤ 99) (hbg : b ≠ g) (he : (poly f bare N k).e = 0) :
    Calls Tryd.prog 29 #[.pointer (some ⟨b, 0, none⟩), .bool bare] w fun e w' => e = .returned (.agg (pv (poly f bare N k).p)) ∧ Good (poly f bare N k).p ∧ Wy w' b g n cap (poly f bare N k).k 0 bad op ∧ (poly f bare N k).k < n ∧ Fr [b] w w' :=
  (wpoly_any f N b g n cap k bare bad op w h ht hk hn hN hend hv hbg).mono (by rintro e w1 (q | q); exact q.2; exact absurd he q.1)
theorem wpoly_not (f : Nat → Tok) (N b g n cap k : Nat) (bare : Bool) (bad op : Int) (w : World) (h : Wy w b g n cap k 0 bad op) (ht : Tk w g n f)
    (hk : k < n) (hn : n ≤ N + 1) (hN : N ≤ 1000) (hend : ∀ j, j < n → (f j).c ≠ 0 → j + 1 < n) (hv : ∀ j, (f j).v ≤ 99) (hbg : b ≠ g) (he : (poly f bare N k).e ≠ 0) :
    Calls Tryd.prog 29 #[.pointer (some ⟨b, 0, none⟩), .bool bare] w fun e w' => (∃ q, Good q ∧ e = .returned (.agg (pv q))) ∧ (∃ k', k' < n ∧ Wy w' b g n cap k' (poly f bare N k).e (poly f bare N k).bad op) ∧ Fr [b] w w' :=
  (wpoly_any f N b g n cap k bare bad op w h ht hk hn hN hend hv hbg).mono (by rintro e w1 (q | q); exact absurd q.1 he; exact q.2)
end Go.Proofs.YthlmgpllapccfaaDoor
/- THE DOCUMENT's ANSWER: read. -/
namespace Go.Proofs.YthlmgpllapccfaaDoor
open Go.RowKit

theorem run_st0 (w : World) (b n : Nat) (cells : Array Value) (l : List Value) (hl : cells.toList = l) (hn : cells.size = n) (h : w.there b 0 n) (hi : (Tryd.prog.info? 41).map (·.size) = some n) (h1 : cells.all (·.oneCell') = true) :
    (Instr.storeAt 41 (.pointer (some ⟨b, 0, none⟩)) (.agg cells)).run Tryd.prog w = .ok () (w.setCells b 0 l) := by
  subst hl hn
  exact run_storeAt_mid w b 0 41 cells h hi h1
/-- The store of a whole polynomial, under a name that the walk does not open. -/
def stPoly (x y : Value) : Sem Unit := Instr.storeAt 41 x y
theorem stPoly_eq (x y : Value) : Instr.storeAt 41 x y = stPoly x y := rfl
set_option maxRecDepth 100000 in
theorem run_st (w : World) (b : Nat) (z : Array Value) (hz : z = pv zeros) (h : w.there b 0 35) : (stPoly (.pointer (some ⟨b, 0, none⟩)) (.agg #[.int .i64 0, .int .i64 0, .int .i64 0, .int .i64 0, .int .i64 0, .int .i64 0, .int .i64 0, .int .i64 0, .int .i64 0, .int .i64 0, .int .i64 0, .int .i64 0, .int .i64 0, .int .i64 0, .int .i64 0, .int .i64 0, .int .i64 0, .int .i64 0, .int .i64 0, .int .i64 0, .int .i64 0, .int .i64 0, .int .i64 0, .int .i64 0, .int .i64 0, .int .i64 0, .int .i64 0, .int .i64 0, .int .i64 0, .int .i64 0, .int .i64 0, .int .i64 0, .int .i64 0, .int .i64 0, .int .i64 0])).run Tryd.prog w = .ok () (w.setCells b 0 z.toList) := by
  rw [hz]
  exact run_st0 w b 35 _ _ lit_zeros (by kernel_rfl) h (by kernel_rfl) (by kernel_rfl)
attribute [local go_sem ↓] stPoly_eq

theorem results_read (tmps : Array Value) (w : World) (g1 : Nat) (p : List Nat) (h1 : tmps.getD 2 undef = .pointer (some ⟨g1, 0, none⟩)) (hp : Good p) (b1 : Blk w g1 (pv p) 41) :
    (results Tryd.f17 tmps).run Tryd.prog w = .ok (.tuple #[.agg (pv p), tmps.getD 3 undef, tmps.getD 4 undef]) w := by
  have l1 := run_loadVar_row (P := Tryd.prog) w g1 41 41 (pv p) (0, 0) _ b1 Tryd.underlying41 rfl (size_rPoly hp)
  have h1' : tmps[2]?.getD undef = .pointer (some ⟨g1, 0, none⟩) := by simpa using h1
  simp [results, Tryd.results17, h1', asAddr, l1]

set_option maxRecDepth 100000 in
set_option maxHeartbeats 2000000 in
theorem read_long (s : ByteArray) (w : World) (hl : 90 < s.size) (hm : s.size ≤ 140737488351232) :
    Calls Tryd.prog 17 #[.string s] w fun e w' => e = .returned (.tuple #[.agg (pv zeros), .int .i64 2, .int .i64 0]) ∧ Below w.heap.size w w' := by
  have h' : ((s.size : Nat) : Int) > 90 := by omega
  obtain ⟨z, HZ⟩ : ∃ z, Hid (z = pv zeros) := ⟨_, rfl⟩
  have hzs : z.size = 35 := by rw [HZ.out]; rfl
  have hsz : (Tryd.prog.info? 41).map (·.size) = some z.size := by rw [HZ.out]; exact size_rPoly zeros_good
  have hon : z.all (·.oneCell') = true := by rw [HZ.out]; exact pv_one _
  go_enter Tryd.func17, Tryd.ntmps17
  go_upto_region 2 with fail
  refine wp_forget (fun W => Blk W w.heap.size (pv zeros) 41 ∧ Below w.heap.size w W) ⟨Blk.new w _ _, by go_grown⟩ ?_
  rintro W ⟨b1, hb⟩
  have HTH := hideR (Blk.there b1 (show z.size ≤ (pv zeros).size by rw [hzs]; decide))
  have B1 := hideR b1
  clear b1
  go_wp2_with (refine wpList_store_mid (by rfl) 41 _ (.tmp 10) (by rfl) w.heap.size 0 z (by rfl) (by rw [HZ.out]; rfl) HTH.out hsz hon ?_)
  have b2 : Blk (W.setCells w.heap.size 0 z.toList) w.heap.size (pv zeros) 41 := by rw [← HZ.out]; exact Blk.setAll B1.out _ (by rw [hzs]; rfl)
  refine bodyPost_ret (results_read _ _ w.heap.size zeros (by rfl) zeros_good b2) rfl ⟨rfl, ?_⟩
  exact Below.setCells hb _ _ _ (Nat.le_refl _)

set_option maxRecDepth 100000 in
set_option maxHeartbeats 4000000 in
theorem read_short (s : ByteArray) (w : World) (hl : ¬ 90 < s.size) :
    Calls Tryd.prog 17 #[.string s] w fun e w' => e = .returned (.tuple #[.agg (pv (rd s).p), .int .i64 (rd s).e, .int .i64 (rd s).bad]) ∧ Good (rd s).p ∧ Below w.heap.size w w' := by
  generalize hrr : rd s = RR
  have HRR := hideR hrr
  clear hrr
  obtain ⟨z, HZ⟩ : ∃ z, Hid (z = pv zeros) := ⟨_, rfl⟩
  have hzs : z.size = 35 := by rw [HZ.out]; rfl
  have hsz : (Tryd.prog.info? 41).map (·.size) = some z.size := by rw [HZ.out]; exact size_rPoly zeros_good
  have hon : z.all (·.oneCell') = true := by rw [HZ.out]; exact pv_one _
  have hl' : ¬ (90 : Int) < ((s.size : Nat) : Int) := by omega
  go_enter Tryd.func17, Tryd.ntmps17
  go_upto_region 3 with fail
  refine wp_forget (fun W => Blk W w.heap.size (pv zeros) 41 ∧ Below w.heap.size w W) ⟨Blk.new w _ _, by go_grown⟩ ?_
  rintro W ⟨b1, hbW⟩
  have hwl := Blk.lt b1
  have B1 := hideR b1
  have BW := hideR hbW
  clear b1 hbW
  go_wp2_with fail
  refine (cut_plain s _ (by omega)).mono ?_
  rintro e w1 ⟨n, g, cap, rfl, hn, hc1, hc2, hown, hgb, hbel⟩
  have HT1 := hideR (Tk.of_owns hown)
  have hg1 : g < w1.heap.size := HT1.out.1
  have BR1 : Hid (Blk w1 w.heap.size (pv zeros) 41) := B1.out.fr (Fr.of_below (bs := []) hbel) (by simp)
  have F1 : Hid (Fr [] W w1) := Fr.of_below hbel
  have hwl1 := Blk.lt BR1.out
  have hend : ∀ j, j < n + 1 → (tk s 0 j).c ≠ 0 → j + 1 < n + 1 := fun j hj hne => by
    by_cases q : j = n
    · subst q; exact absurd hc2 hne
    · omega
  have hv : ∀ j, (tk s 0 j).v ≤ 99 := fun j => (tk_facts (Nat.zero_le _) j).2.2.1
  clear hown hbel hc1 hc2
  have HEND := hideR hend
  have HV := hideR hv
  clear hend hv
  have HW1 : Hid (Wy (w1.alloc (.cells #[.slice (some ⟨g, 0, none⟩) (n + 1) cap, .int .i64 0, .int .i64 0, .int .i64 0, .int .i64 0] 71)) w1.heap.size g (n + 1) cap 0 0 0 0) := Blk.new w1 _ _
  have HT2 : Hid (Tk (w1.alloc (.cells #[.slice (some ⟨g, 0, none⟩) (n + 1) cap, .int .i64 0, .int .i64 0, .int .i64 0, .int .i64 0] 71)) g (n + 1) (tk s 0)) := HT1.out.fr ((Fr.refl [] w1).alloc _) (by simp)
  have BR2 : Hid (Blk (w1.alloc (.cells #[.slice (some ⟨g, 0, none⟩) (n + 1) cap, .int .i64 0, .int .i64 0, .int .i64 0, .int .i64 0] 71)) w.heap.size (pv zeros) 41) := Blk.alloc BR1.out _
  have F2 : Hid (Fr [] W (w1.alloc (.cells #[.slice (some ⟨g, 0, none⟩) (n + 1) cap, .int .i64 0, .int .i64 0, .int .i64 0, .int .i64 0] 71))) := F1.out.alloc _
  have nrb : ¬ w.heap.size = w1.heap.size := by omega
  by_cases he : (poly (tk s 0) false s.size 0).e = 0
  · go_wp2_with fail
    refine (wpoly_ok (tk s 0) s.size w1.heap.size g (n + 1) cap 0 false 0 0 _ HW1.out HT2.out (by omega) (by omega) (by omega) HEND.out HV.out (by omega) he).mono ?_
    rintro e w2 ⟨rfl, hgp, hw2, hkk, hfr2⟩
    have BR3 : Hid (Blk w2 w.heap.size (pv zeros) 41) := BR2.out.fr hfr2 (by simp [nrb])
    have HT3 : Hid (Tk w2 g (n + 1) (tk s 0)) := HT2.out.fr hfr2 (by simp; omega)
    have HW3 := hideR hw2
    have F3 : Hid (Fr [] W w2) := F2.out.trans hfr2 (by have := F1.out.size; simp; omega)
    have hs2 := hfr2.size
    simp at hs2
    clear hw2 hfr2
    generalize hPP : poly (tk s 0) false s.size 0 = PP at *
    have HPP := hideR hPP
    have HE := hideR he
    clear hPP he
    have HTH : Hid ((w2.alloc (.cells #[.int .i64 0, .int .i64 0, .int .i64 0, .int .i64 0, .int .i64 0, .int .i64 0, .int .i64 0, .int .i64 0, .int .i64 0, .int .i64 0, .int .i64 0, .int .i64 0, .int .i64 0, .int .i64 0, .int .i64 0, .int .i64 0, .int .i64 0, .int .i64 0, .int .i64 0, .int .i64 0, .int .i64 0, .int .i64 0, .int .i64 0, .int .i64 0, .int .i64 0, .int .i64 0, .int .i64 0, .int .i64 0, .int .i64 0, .int .i64 0, .int .i64 0, .int .i64 0, .int .i64 0, .int .i64 0, .int .i64 0] 41)).there w2.heap.size 0 (pv PP.p).size) := Blk.there (Blk.new w2 _ _) (by rw [pv_size, hgp.1]; decide)
    go_wp2_with (refine wpList_store_mid (by rfl) 41 _ (.tmp 16) (by rfl) w2.heap.size 0 (pv PP.p) (by rfl) (by rfl) HTH.out (size_rPoly hgp) (pv_one _) ?_)
    have HW5 : Hid (Wy ((w2.alloc (.cells #[.int .i64 0, .int .i64 0, .int .i64 0, .int .i64 0, .int .i64 0, .int .i64 0, .int .i64 0, .int .i64 0, .int .i64 0, .int .i64 0, .int .i64 0, .int .i64 0, .int .i64 0, .int .i64 0, .int .i64 0, .int .i64 0, .int .i64 0, .int .i64 0, .int .i64 0, .int .i64 0, .int .i64 0, .int .i64 0, .int .i64 0, .int .i64 0, .int .i64 0, .int .i64 0, .int .i64 0, .int .i64 0, .int .i64 0, .int .i64 0, .int .i64 0, .int .i64 0, .int .i64 0, .int .i64 0, .int .i64 0] 41)).setCells w2.heap.size 0 (pv PP.p).toList) w1.heap.size g (n + 1) cap PP.k 0 0 0) := Blk.setCellsOther (Blk.alloc HW3.out _) _ _ _ (by omega)
    have FF : Hid (Fr [] w2 ((w2.alloc (.cells #[.int .i64 0, .int .i64 0, .int .i64 0, .int .i64 0, .int .i64 0, .int .i64 0, .int .i64 0, .int .i64 0, .int .i64 0, .int .i64 0, .int .i64 0, .int .i64 0, .int .i64 0, .int .i64 0, .int .i64 0, .int .i64 0, .int .i64 0, .int .i64 0, .int .i64 0, .int .i64 0, .int .i64 0, .int .i64 0, .int .i64 0, .int .i64 0, .int .i64 0, .int .i64 0, .int .i64 0, .int .i64 0, .int .i64 0, .int .i64 0, .int .i64 0, .int .i64 0, .int .i64 0, .int .i64 0, .int .i64 0] 41)).setCells w2.heap.size 0 (pv PP.p).toList)) := ((Fr.refl [] w2).alloc _).setCells _ _ _ (by simp)
    have HT5 : Hid (Tk ((w2.alloc (.cells #[.int .i64 0, .int .i64 0, .int .i64 0, .int .i64 0, .int .i64 0, .int .i64 0, .int .i64 0, .int .i64 0, .int .i64 0, .int .i64 0, .int .i64 0, .int .i64 0, .int .i64 0, .int .i64 0, .int .i64 0, .int .i64 0, .int .i64 0, .int .i64 0, .int .i64 0, .int .i64 0, .int .i64 0, .int .i64 0, .int .i64 0, .int .i64 0, .int .i64 0, .int .i64 0, .int .i64 0, .int .i64 0, .int .i64 0, .int .i64 0, .int .i64 0, .int .i64 0, .int .i64 0, .int .i64 0, .int .i64 0] 41)).setCells w2.heap.size 0 (pv PP.p).toList) g (n + 1) (tk s 0)) := HT3.out.fr FF.out (by simp)
    have BR5 : Hid (Blk ((w2.alloc (.cells #[.int .i64 0, .int .i64 0, .int .i64 0, .int .i64 0, .int .i64 0, .int .i64 0, .int .i64 0, .int .i64 0, .int .i64 0, .int .i64 0, .int .i64 0, .int .i64 0, .int .i64 0, .int .i64 0, .int .i64 0, .int .i64 0, .int .i64 0, .int .i64 0, .int .i64 0, .int .i64 0, .int .i64 0, .int .i64 0, .int .i64 0, .int .i64 0, .int .i64 0, .int .i64 0, .int .i64 0, .int .i64 0, .int .i64 0, .int .i64 0, .int .i64 0, .int .i64 0, .int .i64 0, .int .i64 0, .int .i64 0] 41)).setCells w2.heap.size 0 (pv PP.p).toList) w.heap.size (pv zeros) 41) := BR3.out.fr FF.out (by simp)
    have BS5 : Hid (Blk ((w2.alloc (.cells #[.int .i64 0, .int .i64 0, .int .i64 0, .int .i64 0, .int .i64 0, .int .i64 0, .int .i64 0, .int .i64 0, .int .i64 0, .int .i64 0, .int .i64 0, .int .i64 0, .int .i64 0, .int .i64 0, .int .i64 0, .int .i64 0, .int .i64 0, .int .i64 0, .int .i64 0, .int .i64 0, .int .i64 0, .int .i64 0, .int .i64 0, .int .i64 0, .int .i64 0, .int .i64 0, .int .i64 0, .int .i64 0, .int .i64 0, .int .i64 0, .int .i64 0, .int .i64 0, .int .i64 0, .int .i64 0, .int .i64 0] 41)).setCells w2.heap.size 0 (pv PP.p).toList) w2.heap.size (pv PP.p) 41) := Blk.setAll (Blk.new w2 _ _) _ (by rw [pv_size, hgp.1]; rfl)
    have F5 : Hid (Fr [] W ((w2.alloc (.cells #[.int .i64 0, .int .i64 0, .int .i64 0, .int .i64 0, .int .i64 0, .int .i64 0, .int .i64 0, .int .i64 0, .int .i64 0, .int .i64 0, .int .i64 0, .int .i64 0, .int .i64 0, .int .i64 0, .int .i64 0, .int .i64 0, .int .i64 0, .int .i64 0, .int .i64 0, .int .i64 0, .int .i64 0, .int .i64 0, .int .i64 0, .int .i64 0, .int .i64 0, .int .i64 0, .int .i64 0, .int .i64 0, .int .i64 0, .int .i64 0, .int .i64 0, .int .i64 0, .int .i64 0, .int .i64 0, .int .i64 0] 41)).setCells w2.heap.size 0 (pv PP.p).toList)) := F3.out.trans FF.out (by simp)
    by_cases hc : (tk s 0 PP.k).c = 0
    · have HFIN : Hid (RR = ⟨0, 0, PP.p⟩) := by
        unfold Hid; rw [← HRR.out]; unfold rd; rw [if_neg hl, HPP.out, if_pos HE.out, if_pos hc]
      refine (wend_ok w1.heap.size g (n + 1) cap PP.k (tk s 0) 0 0 0 _ HW5.out HT5.out hkk (by omega) (rk_end.2 hc)).mono ?_
      rintro e w4 ⟨rfl, hw4, hfr4⟩
      have BR4 : Hid (Blk w4 w.heap.size (pv zeros) 41) := BR5.out.fr hfr4 (by simp [nrb])
      have BS4 : Hid (Blk w4 w2.heap.size (pv PP.p) 41) := BS5.out.fr hfr4 (by simp; omega)
      have F4 : Hid (Fr [] W w4) := F5.out.trans hfr4 (by have := F1.out.size; simp; omega)
      obtain ⟨e0, e1, e2, e3, e4⟩ := hw4.cells
      clear hw4 hfr4 HW5 HT5 BR5 BS5 F5 FF HTH
      go_wp2_with (first | (refine wpList_load_row (by rfl) 41 _ (by rfl) w2.heap.size (by rfl) 41 (pv PP.p) (0, 0) _ BS4.out Tryd.underlying41 (by rfl) (size_rPoly hgp) ?_) | (refine wpList_store_mid (by rfl) 41 _ (.tmp 33) (by rfl) w.heap.size 0 (pv PP.p) (by rfl) (by rfl) (Blk.there BR4.out (by rw [pv_size, pv_size, hgp.1]; exact Nat.le_refl _)) (size_rPoly hgp) (pv_one _) ?_))
      refine bodyPost_ret (results_read _ _ w.heap.size PP.p (by rfl) hgp (Blk.setAll BR4.out _ (by rw [pv_size, pv_size, hgp.1]; rfl))) rfl ⟨?_, ?_, ?_⟩
      · rw [HFIN.out]; rfl
      · rw [HFIN.out]; exact hgp
      · exact Below.setCells (BW.out.trans (F4.out.below (by omega) (by simp))) _ _ _ (Nat.le_refl _)
    · have HFIN : Hid (RR = ⟨4, (tk s 0 PP.k).at', zeros⟩) := by
        unfold Hid; rw [← HRR.out]; unfold rd; rw [if_neg hl, HPP.out, if_pos HE.out, if_neg hc]
      refine (wend_first w1.heap.size g (n + 1) cap PP.k (tk s 0) 0 0 _ HW5.out HT5.out hkk (by omega) (fun q => hc (rk_end.1 q))).mono ?_
      rintro e w4 ⟨rfl, hw4, hfr4⟩
      have BR4 : Hid (Blk w4 w.heap.size (pv zeros) 41) := BR5.out.fr hfr4 (by simp [nrb])
      have F4 : Hid (Fr [] W w4) := F5.out.trans hfr4 (by have := F1.out.size; simp; omega)
      clear hfr4 HW5 HT5 BR5 BS5 F5 FF HTH hc
      obtain ⟨e0, e1, e2, e3, e4⟩ := hw4.cells
      have HW4 := hideR hw4
      have HTH4 : Hid (w4.there w.heap.size 0 z.size) := Blk.there BR4.out (by rw [hzs]; decide)
      clear hw4
      go_wp2
      have hst := fun (w' : World) (b : Nat) => run_st w' b z HZ.out
      have hth41 : w4.there w.heap.size 0 35 := Blk.there BR4.out (by decide)
      go_region_held3 (fun w' => w'.cell? ⟨w1.heap.size, 2, none⟩ = some (.int .i64 4) ∧ w'.cell? ⟨w1.heap.size, 3, none⟩ = some (.int .i64 (tk s 0 PP.k).at') ∧ w'.there w.heap.size 0 35) (first | (go_keep; done) | (refine ⟨?_, ?_, ?_⟩ <;> first | (rw [World.cell?_setCells_out _ _ _ _ _ (fun e _ => absurd e (by simp; omega))]; simp [*]; done) | (exact World.there_setCells (by simp [*]) _ _ _))) (fail)
      go_wp2
      have b9 : Blk (w4.drew.setCells w.heap.size 0 z.toList) w.heap.size (pv zeros) 41 := by rw [← HZ.out]; exact Blk.setAll (by exact BR4.out) _ (by rw [hzs]; rfl)
      refine bodyPost_ret (results_read _ _ w.heap.size zeros (by rfl) zeros_good b9) rfl ⟨?_, ?_, ?_⟩
      · rw [HFIN.out]; rfl
      · rw [HFIN.out]; exact zeros_good
      · exact Below.setCells ((BW.out.trans (F4.out.below (by omega) (by simp))).drew) _ _ _ (Nat.le_refl _)
  · go_wp2_with fail
    refine (wpoly_not (tk s 0) s.size w1.heap.size g (n + 1) cap 0 false 0 0 _ HW1.out HT2.out (by omega) (by omega) (by omega) HEND.out HV.out (by omega) he).mono ?_
    rintro e w2 ⟨⟨q, hgp, rfl⟩, ⟨kk, hkk, hw2⟩, hfr2⟩
    have BR3 : Hid (Blk w2 w.heap.size (pv zeros) 41) := BR2.out.fr hfr2 (by simp [nrb])
    have HT3 : Hid (Tk w2 g (n + 1) (tk s 0)) := HT2.out.fr hfr2 (by simp; omega)
    have HW3 := hideR hw2
    have F3 : Hid (Fr [] W w2) := F2.out.trans hfr2 (by have := F1.out.size; simp; omega)
    have hs2 := hfr2.size
    simp at hs2
    clear hw2 hfr2
    have HFIN : Hid (RR = ⟨(poly (tk s 0) false s.size 0).e, (poly (tk s 0) false s.size 0).bad, zeros⟩) := by
      unfold Hid; rw [← HRR.out]; unfold rd; rw [if_neg hl, if_neg he]
    have HEE : Hid (((poly (tk s 0) false s.size 0).e : Int) ≠ 0) := by unfold Hid; omega
    have qe : (((poly (tk s 0) false s.size 0).e : Int) != 0) = true := by rw [bne_iff_ne]; exact HEE.out
    clear he
    generalize poly (tk s 0) false s.size 0 = PP at *
    have HTH : Hid ((w2.alloc (.cells #[.int .i64 0, .int .i64 0, .int .i64 0, .int .i64 0, .int .i64 0, .int .i64 0, .int .i64 0, .int .i64 0, .int .i64 0, .int .i64 0, .int .i64 0, .int .i64 0, .int .i64 0, .int .i64 0, .int .i64 0, .int .i64 0, .int .i64 0, .int .i64 0, .int .i64 0, .int .i64 0, .int .i64 0, .int .i64 0, .int .i64 0, .int .i64 0, .int .i64 0, .int .i64 0, .int .i64 0, .int .i64 0, .int .i64 0, .int .i64 0, .int .i64 0, .int .i64 0, .int .i64 0, .int .i64 0, .int .i64 0] 41)).there w2.heap.size 0 (pv q).size) := Blk.there (Blk.new w2 _ _) (by rw [pv_size, hgp.1]; decide)
    go_wp2_with (refine wpList_store_mid (by rfl) 41 _ (.tmp 16) (by rfl) w2.heap.size 0 (pv q) (by rfl) (by rfl) HTH.out (size_rPoly hgp) (pv_one _) ?_)
    have HW5 : Hid (Wy ((w2.alloc (.cells #[.int .i64 0, .int .i64 0, .int .i64 0, .int .i64 0, .int .i64 0, .int .i64 0, .int .i64 0, .int .i64 0, .int .i64 0, .int .i64 0, .int .i64 0, .int .i64 0, .int .i64 0, .int .i64 0, .int .i64 0, .int .i64 0, .int .i64 0, .int .i64 0, .int .i64 0, .int .i64 0, .int .i64 0, .int .i64 0, .int .i64 0, .int .i64 0, .int .i64 0, .int .i64 0, .int .i64 0, .int .i64 0, .int .i64 0, .int .i64 0, .int .i64 0, .int .i64 0, .int .i64 0, .int .i64 0, .int .i64 0] 41)).setCells w2.heap.size 0 (pv q).toList) w1.heap.size g (n + 1) cap kk PP.e PP.bad 0) := Blk.setCellsOther (Blk.alloc HW3.out _) _ _ _ (by omega)
    have FF : Hid (Fr [] w2 ((w2.alloc (.cells #[.int .i64 0, .int .i64 0, .int .i64 0, .int .i64 0, .int .i64 0, .int .i64 0, .int .i64 0, .int .i64 0, .int .i64 0, .int .i64 0, .int .i64 0, .int .i64 0, .int .i64 0, .int .i64 0, .int .i64 0, .int .i64 0, .int .i64 0, .int .i64 0, .int .i64 0, .int .i64 0, .int .i64 0, .int .i64 0, .int .i64 0, .int .i64 0, .int .i64 0, .int .i64 0, .int .i64 0, .int .i64 0, .int .i64 0, .int .i64 0, .int .i64 0, .int .i64 0, .int .i64 0, .int .i64 0, .int .i64 0] 41)).setCells w2.heap.size 0 (pv q).toList)) := ((Fr.refl [] w2).alloc _).setCells _ _ _ (by simp)
    have HT5 : Hid (Tk ((w2.alloc (.cells #[.int .i64 0, .int .i64 0, .int .i64 0, .int .i64 0, .int .i64 0, .int .i64 0, .int .i64 0, .int .i64 0, .int .i64 0, .int .i64 0, .int .i64 0, .int .i64 0, .int .i64 0, .int .i64 0, .int .i64 0, .int .i64 0, .int .i64 0, .int .i64 0, .int .i64 0, .int .i64 0, .int .i64 0, .int .i64 0, .int .i64 0, .int .i64 0, .int .i64 0, .int .i64 0, .int .i64 0, .int .i64 0, .int .i64 0, .int .i64 0, .int .i64 0, .int .i64 0, .int .i64 0, .int .i64 0, .int .i64 0] 41)).setCells w2.heap.size 0 (pv q).toList) g (n + 1) (tk s 0)) := HT3.out.fr FF.out (by simp)
    have BR5 : Hid (Blk ((w2.alloc (.cells #[.int .i64 0, .int .i64 0, .int .i64 0, .int .i64 0, .int .i64 0, .int .i64 0, .int .i64 0, .int .i64 0, .int .i64 0, .int .i64 0, .int .i64 0, .int .i64 0, .int .i64 0, .int .i64 0, .int .i64 0, .int .i64 0, .int .i64 0, .int .i64 0, .int .i64 0, .int .i64 0, .int .i64 0, .int .i64 0, .int .i64 0, .int .i64 0, .int .i64 0, .int .i64 0, .int .i64 0, .int .i64 0, .int .i64 0, .int .i64 0, .int .i64 0, .int .i64 0, .int .i64 0, .int .i64 0, .int .i64 0] 41)).setCells w2.heap.size 0 (pv q).toList) w.heap.size (pv zeros) 41) := BR3.out.fr FF.out (by simp)
    have F5 : Hid (Fr [] W ((w2.alloc (.cells #[.int .i64 0, .int .i64 0, .int .i64 0, .int .i64 0, .int .i64 0, .int .i64 0, .int .i64 0, .int .i64 0, .int .i64 0, .int .i64 0, .int .i64 0, .int .i64 0, .int .i64 0, .int .i64 0, .int .i64 0, .int .i64 0, .int .i64 0, .int .i64 0, .int .i64 0, .int .i64 0, .int .i64 0, .int .i64 0, .int .i64 0, .int .i64 0, .int .i64 0, .int .i64 0, .int .i64 0, .int .i64 0, .int .i64 0, .int .i64 0, .int .i64 0, .int .i64 0, .int .i64 0, .int .i64 0, .int .i64 0] 41)).setCells w2.heap.size 0 (pv q).toList)) := F3.out.trans FF.out (by simp)
    refine (wend_later w1.heap.size g (n + 1) cap kk (tk s 0) PP.e PP.bad 0 _ HW5.out HT5.out hkk (by omega) HEE.out).mono ?_
    rintro e w4 ⟨rfl, hw4, hfr4⟩
    have BR4 : Hid (Blk w4 w.heap.size (pv zeros) 41) := BR5.out.fr hfr4 (by simp [nrb])
    have F4 : Hid (Fr [] W w4) := F5.out.trans hfr4 (by have := F1.out.size; simp; omega)
    clear hfr4 HW5 HT5 BR5 F5 FF HTH
    obtain ⟨e0, e1, e2, e3, e4⟩ := hw4.cells
    have HW4 := hideR hw4
    have HTH4 : Hid (w4.there w.heap.size 0 z.size) := Blk.there BR4.out (by rw [hzs]; decide)
    clear hw4
    go_wp2
    have hst := fun (w' : World) (b : Nat) => run_st w' b z HZ.out
    have hth41 : w4.there w.heap.size 0 35 := Blk.there BR4.out (by decide)
    go_region_held3 (fun w' => w'.cell? ⟨w1.heap.size, 2, none⟩ = some (.int .i64 PP.e) ∧ w'.cell? ⟨w1.heap.size, 3, none⟩ = some (.int .i64 PP.bad) ∧ w'.there w.heap.size 0 35) (first | (go_keep; done) | (refine ⟨?_, ?_, ?_⟩ <;> first | (rw [World.cell?_setCells_out _ _ _ _ _ (fun e _ => absurd e (by simp; omega))]; simp [*]; done) | (exact World.there_setCells (by simp [*]) _ _ _))) (fail)
    go_wp2
    have b9 : Blk (w4.drew.setCells w.heap.size 0 z.toList) w.heap.size (pv zeros) 41 := by rw [← HZ.out]; exact Blk.setAll (by exact BR4.out) _ (by rw [hzs]; rfl)
    refine bodyPost_ret (results_read _ _ w.heap.size zeros (by rfl) zeros_good b9) rfl ⟨?_, ?_, ?_⟩
    · rw [HFIN.out]; rfl
    · rw [HFIN.out]; exact zeros_good
    · exact Below.setCells ((BW.out.trans (F4.out.below (by omega) (by simp))).drew) _ _ _ (Nat.le_refl _)

/-- The document's answer reads a text as 'rd' does. -/
theorem read_any (s : ByteArray) (w : World) (hm : s.size ≤ 140737488351232) :
    Calls Tryd.prog 17 #[.string s] w fun e w' => e = .returned (.tuple #[.agg (pv (rd s).p), .int .i64 (rd s).e, .int .i64 (rd s).bad]) ∧ Good (rd s).p ∧ Below w.heap.size w w' := by
  by_cases hl : 90 < s.size
  · refine (read_long s w hl hm).mono ?_
    rintro e w' ⟨rfl, h⟩
    have : rd s = ⟨2, 0, zeros⟩ := by unfold rd; rw [if_pos hl]
    rw [this]
    exact ⟨rfl, zeros_good, h⟩
  · exact read_short s w hl
end Go.Proofs.YthlmgpllapccfaaDoor
/- THE TWO Values, AND THE LAW. -/
namespace Go.Proofs.YthlmgpllapccfaaDoor
open Go.RowKit

/-- What Value answers. -/
def vv (s : ByteArray) (u x : Int) : Nat := if (rd s).e = 0 then valP (rd s).p (u % 7).toNat (x % 7).toNat else 0
def vb (s : ByteArray) : Nat := if (rd s).e = 0 then 0 else (rd s).bad
theorem m7 (u : Int) : u % 7 = ((u % 7).toNat : Int) ∧ (u % 7).toNat < 7 := by omega
theorem lineR_len (p : List Nat) (u : Nat) : (lineR p u).length = 5 := rfl
theorem lineR_lt (p : List Nat) (u i : Nat) : (lineR p u).getD i 0 < 7 := by
  by_cases h : i < 5
  · rw [lineR_get _ _ _ h]; exact pows_lt _ _ _
  · rw [List.getD_eq_getElem?_getD, List.getElem?_eq_none (by rw [lineR_len]; omega)]; simp

set_option maxRecDepth 100000 in
set_option maxHeartbeats 2000000 in
theorem pValue_any (s : ByteArray) (u x : Int) (w : World) (hg : ErrT w) (hm : s.size ≤ 140737488351232) :
    Calls Tryd.prog 9 #[.string s, .int .i64 u, .int .i64 x] w fun e w' => e = .returned (.tuple #[.int .i64 (vv s u x), .int .i64 (rd s).e, .int .i64 (vb s)]) ∧ Below w.heap.size w w' := by
  have hu := m7 u
  have hx := m7 x
  have HU := hidV hu
  have HX := hidV hx
  clear hu hx
  have HP := hidV (Polynomial_any s w hg hm)
  clear hg hm
  unfold vv vb
  generalize rd s = R at *
  by_cases he : R.e = 0
  · rw [if_pos he, if_pos he]
    rw [he] at HP ⊢
    go_enter Tryd.func9, Tryd.ntmps9
    go_wp2_with fail
    refine HP.out.mono ?_
    rintro e w1 ⟨rfl, hgd, hbel⟩
    have HB := hidV hbel
    clear hbel HP
    go_wp2_with (first | (refine wpList_store_mid (by rfl) 37 _ _ (by rfl) w1.heap.size 0 (pv R.p) (by rfl) (by rfl) (Blk.there (Blk.new w1 _ _) (by rw [pv_size, hgd.1]; decide)) (size_poly hgd) (pv_one _) ?_) | (refine wpList_load_row (by rfl) 37 _ (by rfl) w1.heap.size (by rfl) 37 (pv R.p) (0, 0) _ (by exact Blk.setAll (Blk.new w1 _ _) _ (by rw [pv_size, hgd.1]; rfl)) Tryd.underlying37 (by rfl) (size_poly hgd) ?_))
    refine (pVal_any R.p u x _ _ _ hgd HU.out.1 HX.out.1 HU.out.2 HX.out.2).mono ?_
    rintro e w2 ⟨rfl, hbel2⟩
    have HB2 := hidV hbel2
    clear hbel2
    go_wp2
    go_ret3
    refine ⟨rfl, ?_⟩
    refine Fr.below (bs := []) ((Fr.setCells (Fr.alloc (Fr.of_below HB.out) _) _ _ _ (Or.inr HB.out.size)).trans (Fr.of_below (bs := []) (by exact HB2.out)) (by simp)) (Nat.le_refl _) (by simp)
  · rw [if_neg he, if_neg he]
    have he' : ((R.e : Int) != 0) = true := by rw [bne_iff_ne]; omega
    go_enter Tryd.func9, Tryd.ntmps9
    go_wp2_with fail
    refine HP.out.mono ?_
    rintro e w1 ⟨rfl, hgd, hbel⟩
    have HB := hidV hbel
    clear hbel HP
    go_wp2_with (first | (refine wpList_store_mid (by rfl) 37 _ _ (by rfl) w1.heap.size 0 (pv R.p) (by rfl) (by rfl) (Blk.there (Blk.new w1 _ _) (by rw [pv_size, hgd.1]; decide)) (size_poly hgd) (pv_one _) ?_))
    go_ret3
    refine ⟨rfl, ?_⟩
    exact Fr.below (bs := []) (Fr.setCells (Fr.alloc (Fr.of_below HB.out) _) _ _ _ (Or.inr HB.out.size)) (Nat.le_refl _) (by simp)

/-- The load of a whole polynomial, under a name that the walk does not open. -/
def ldPoly (x : Value) : Sem Value := Instr.loadAt 41 x
theorem ldPoly_eq (x : Value) : Instr.loadAt 41 x = ldPoly x := rfl
theorem run_ld (w : World) (b : Nat) (p : List Nat) (hp : Good p) (h : Blk w b (pv p) 41) : (ldPoly (.pointer (some ⟨b, 0, none⟩))).run Tryd.prog w = .ok (.agg (pv p)) w := by
  unfold ldPoly
  simp only [Instr.loadAt, Instr.sureAddr, Sem.run_bind, Sem.run_pure, Result.andThen_ok, run_loadVar_row w b 41 41 (pv p) (0, 0) _ h Tryd.underlying41 rfl (size_rPoly hp)]
section
attribute [local go_sem ↓] ldPoly_eq
set_option maxRecDepth 100000 in
set_option maxHeartbeats 2000000 in
theorem rValue_any (s : ByteArray) (u x : Int) (w : World) (hm : s.size ≤ 140737488351232) :
    Calls Tryd.prog 10 #[.string s, .int .i64 u, .int .i64 x] w fun e w' => e = .returned (.tuple #[.int .i64 (vv s u x), .int .i64 (rd s).e, .int .i64 (vb s)]) ∧ Below w.heap.size w w' := by
  have hu := m7 u
  have hx := m7 x
  have HU := hidV hu
  have HX := hidV hx
  clear hu hx
  have HP := hidV (read_any s w hm)
  clear hm
  unfold vv vb
  rw [← val_same]
  generalize rd s = R at *
  by_cases he : R.e = 0
  · rw [if_pos he, if_pos he]
    rw [he] at HP ⊢
    go_enter Tryd.func10, Tryd.ntmps10
    go_wp2_with fail
    refine HP.out.mono ?_
    rintro e w1 ⟨rfl, hgd, hbel⟩
    have HB := hidV hbel
    clear hbel HP
    go_wp2_with (first | (refine wpList_store_mid (by rfl) 41 _ _ (by rfl) w1.heap.size 0 (pv R.p) (by rfl) (by rfl) (Blk.there (Blk.new w1 _ _) (by rw [pv_size, hgd.1]; decide)) (size_rPoly hgd) (pv_one _) ?_) | (refine wpList_load_row (by rfl) 41 _ (by rfl) w1.heap.size (by rfl) 41 (pv R.p) (0, 0) _ (by exact Blk.setAll (Blk.new w1 _ _) _ (by rw [pv_size, hgd.1]; rfl)) Tryd.underlying41 (by rfl) (size_rPoly hgd) ?_))
    refine wp_forget (fun W => Blk W w1.heap.size (pv R.p) 41 ∧ Below w.heap.size w W) ⟨by exact Blk.setAll (Blk.new w1 _ _) _ (by rw [pv_size, hgd.1]; rfl), Fr.below (bs := []) (Fr.setCells (Fr.alloc (Fr.of_below HB.out) _) _ _ _ (Or.inr HB.out.size)) (Nat.le_refl _) (by simp)⟩ ?_
    rintro W ⟨bk, hbW⟩
    have HBW := hidV hbW
    have HBK := hidV bk
    clear hbW
    generalize w1.heap.size = g at *
    have hld := fun (w' : World) (h : Blk w' g (pv R.p) 41) => run_ld w' g R.p hgd h
    go_region_held3 (fun w' => Blk w' g (pv R.p) 41) (first | assumption | exact HBK.out) (first | (go_at_call 22; refine (modulo_any _ _).mono ?_; rintro e w2 ⟨rfl, rfl⟩) | (go_at_call 21; refine (at_any R.p (u % 7).toNat _ _ hgd HU.out.1 HU.out.2).mono ?_; rintro e w3 ⟨rfl, hb3⟩; have HB3 := hidV hb3; have bk3 : Blk w3 g (pv R.p) 41 := Blk.fr (by exact HBK.out) (Fr.of_below (bs := []) hb3) (by simp)) | (go_at_call 20; refine (worth_any (lineR R.p (u % 7).toNat) (x % 7).toNat _ _ (lineR_len _ _) (lineR_lt _ _) HX.out.1 HX.out.2).mono ?_; rintro e w4 ⟨rfl, hb4⟩; have HB4 := hidV hb4; have bk4 : Blk w4 g (pv R.p) 41 := Blk.fr (by exact bk3) (Fr.of_below (bs := []) hb4) (by simp)))
    go_wp2
    go_ret3
    refine ⟨rfl, ?_⟩
    exact Fr.below (bs := []) (((Fr.of_below HBW.out).drew.trans (Fr.of_below (bs := []) HB3.out) (by simp)).trans (Fr.of_below (bs := []) HB4.out) (by simp)) (Nat.le_refl _) (by simp)
  · rw [if_neg he, if_neg he]
    have he' : ((R.e : Int) != 0) = true := by rw [bne_iff_ne]; omega
    go_enter Tryd.func10, Tryd.ntmps10
    go_wp2_with fail
    refine HP.out.mono ?_
    rintro e w1 ⟨rfl, hgd, hbel⟩
    have HB := hidV hbel
    clear hbel HP
    go_wp2_with (first | (refine wpList_store_mid (by rfl) 41 _ _ (by rfl) w1.heap.size 0 (pv R.p) (by rfl) (by rfl) (Blk.there (Blk.new w1 _ _) (by rw [pv_size, hgd.1]; decide)) (size_rPoly hgd) (pv_one _) ?_))
    go_ret3
    refine ⟨rfl, ?_⟩
    exact Fr.below (bs := []) (Fr.setCells (Fr.alloc (Fr.of_below HB.out) _) _ _ _ (Or.inr HB.out.size)) (Nat.le_refl _) (by simp)
end

theorem ErrT.below {w w' : World} (h : ErrT w) (hb : Below w.heap.size w w') : ErrT w' := by
  unfold ErrT at *
  rw [← h]
  exact (Fr.of_below (bs := []) hb).cell 0 (ErrT.lt h) (by simp)

/-- The law. -/
theorem lawValues_any (s : ByteArray) (u x : Int) (w : World) (hg : ErrT w) (hm : s.size ≤ 140737488351232) :
    Calls Tryd.prog 4 #[.string s, .int .i64 u, .int .i64 x] w fun e w' => e = .returned (.bool true) ∧ Below w.heap.size w w' := by
  go_enter Tryd.func4, Tryd.ntmps4
  go_wp2_with fail
  refine (pValue_any s u x _ hg hm).mono ?_
  rintro e w1 ⟨rfl, hb1⟩
  go_wp2_with fail
  refine (rValue_any s u x _ hm).mono ?_
  rintro e w2 ⟨rfl, hb2⟩
  generalize vv s u x = V at *
  generalize vb s = B at *
  generalize rd s = R at *
  have HB1 := hidV hb1
  have HB2 := hidV hb2
  clear hb1 hb2
  go_wp2
  go_ret
  exact ⟨rfl, Fr.below (bs := []) ((Fr.of_below HB1.out).trans (Fr.of_below (bs := []) (by exact HB2.out)) (by simp)) (Nat.le_refl _) (by simp)⟩
end Go.Proofs.YthlmgpllapccfaaDoor
/- THE TWO Canons, AND THE LAW. -/
namespace Go.Proofs.YthlmgpllapccfaaDoor
open Go.RowKit

/-- What Canon writes. -/
def cv (s : ByteArray) : List UInt8 := if (rd s).e = 0 then txt (rd s).p else []

set_option maxRecDepth 100000 in
set_option maxHeartbeats 2000000 in
theorem pCanon_any (s : ByteArray) (w : World) (hg : ErrT w) (hm : s.size ≤ 140737488351232) :
    Calls Tryd.prog 7 #[.string s] w fun e w' => e = .returned (.tuple #[.string (bs (cv s)), .int .i64 (rd s).e, .int .i64 (vb s)]) ∧ Below w.heap.size w w' := by
  have HP := hidV (Polynomial_any s w hg hm)
  clear hg hm
  unfold cv vb
  generalize rd s = R at *
  by_cases he : R.e = 0
  · rw [if_pos he, if_pos he]
    rw [he] at HP ⊢
    go_enter Tryd.func7, Tryd.ntmps7
    go_wp2_with fail
    refine HP.out.mono ?_
    rintro e w1 ⟨rfl, hgd, hbel⟩
    have HB := hidV hbel
    clear hbel HP
    go_wp2_with (first | (refine wpList_store_mid (by rfl) 37 _ _ (by rfl) w1.heap.size 0 (pv R.p) (by rfl) (by rfl) (Blk.there (Blk.new w1 _ _) (by rw [pv_size, hgd.1]; decide)) (size_poly hgd) (pv_one _) ?_) | (refine wpList_load_row (by rfl) 37 _ (by rfl) w1.heap.size (by rfl) 37 (pv R.p) (0, 0) _ (by exact Blk.setAll (Blk.new w1 _ _) _ (by rw [pv_size, hgd.1]; rfl)) Tryd.underlying37 (by rfl) (size_poly hgd) ?_))
    refine (Text_any R.p _ hgd).mono ?_
    rintro e w2 ⟨rfl, hbel2⟩
    have HB2 := hidV hbel2
    clear hbel2
    go_wp2
    go_ret3
    refine ⟨rfl, ?_⟩
    refine Fr.below (bs := []) ((Fr.setCells (Fr.alloc (Fr.of_below HB.out) _) _ _ _ (Or.inr HB.out.size)).trans (Fr.of_below (bs := []) (by exact HB2.out)) (by simp)) (Nat.le_refl _) (by simp)
  · rw [if_neg he, if_neg he]
    have he' : ((R.e : Int) != 0) = true := by rw [bne_iff_ne]; omega
    go_enter Tryd.func7, Tryd.ntmps7
    go_wp2_with fail
    refine HP.out.mono ?_
    rintro e w1 ⟨rfl, hgd, hbel⟩
    have HB := hidV hbel
    clear hbel HP
    go_wp2_with (first | (refine wpList_store_mid (by rfl) 37 _ _ (by rfl) w1.heap.size 0 (pv R.p) (by rfl) (by rfl) (Blk.there (Blk.new w1 _ _) (by rw [pv_size, hgd.1]; decide)) (size_poly hgd) (pv_one _) ?_))
    go_ret3
    refine ⟨rfl, ?_⟩
    exact Fr.below (bs := []) (Fr.setCells (Fr.alloc (Fr.of_below HB.out) _) _ _ _ (Or.inr HB.out.size)) (Nat.le_refl _) (by simp)

set_option maxRecDepth 100000 in
set_option maxHeartbeats 2000000 in
theorem rCanon_any (s : ByteArray) (w : World) (hm : s.size ≤ 140737488351232) :
    Calls Tryd.prog 8 #[.string s] w fun e w' => e = .returned (.tuple #[.string (bs (cv s)), .int .i64 (rd s).e, .int .i64 (vb s)]) ∧ Below w.heap.size w w' := by
  have HP := hidV (read_any s w hm)
  clear hm
  unfold cv vb
  generalize rd s = R at *
  by_cases he : R.e = 0
  · rw [if_pos he, if_pos he]
    rw [he] at HP ⊢
    go_enter Tryd.func8, Tryd.ntmps8
    go_wp2_with fail
    refine HP.out.mono ?_
    rintro e w1 ⟨rfl, hgd, hbel⟩
    have HB := hidV hbel
    clear hbel HP
    go_wp2_with (first | (refine wpList_store_mid (by rfl) 41 _ _ (by rfl) w1.heap.size 0 (pv R.p) (by rfl) (by rfl) (Blk.there (Blk.new w1 _ _) (by rw [pv_size, hgd.1]; decide)) (size_rPoly hgd) (pv_one _) ?_) | (refine wpList_load_row (by rfl) 41 _ (by rfl) w1.heap.size (by rfl) 41 (pv R.p) (0, 0) _ (by exact Blk.setAll (Blk.new w1 _ _) _ (by rw [pv_size, hgd.1]; rfl)) Tryd.underlying41 (by rfl) (size_rPoly hgd) ?_))
    refine (write_any R.p _ hgd).mono ?_
    rintro e w2 ⟨rfl, hbel2⟩
    have HB2 := hidV hbel2
    clear hbel2
    go_wp2
    go_ret3
    refine ⟨rfl, ?_⟩
    refine Fr.below (bs := []) ((Fr.setCells (Fr.alloc (Fr.of_below HB.out) _) _ _ _ (Or.inr HB.out.size)).trans (Fr.of_below (bs := []) (by exact HB2.out)) (by simp)) (Nat.le_refl _) (by simp)
  · rw [if_neg he, if_neg he]
    have he' : ((R.e : Int) != 0) = true := by rw [bne_iff_ne]; omega
    go_enter Tryd.func8, Tryd.ntmps8
    go_wp2_with fail
    refine HP.out.mono ?_
    rintro e w1 ⟨rfl, hgd, hbel⟩
    have HB := hidV hbel
    clear hbel HP
    go_wp2_with (first | (refine wpList_store_mid (by rfl) 41 _ _ (by rfl) w1.heap.size 0 (pv R.p) (by rfl) (by rfl) (Blk.there (Blk.new w1 _ _) (by rw [pv_size, hgd.1]; decide)) (size_rPoly hgd) (pv_one _) ?_))
    go_ret3
    refine ⟨rfl, ?_⟩
    exact Fr.below (bs := []) (Fr.setCells (Fr.alloc (Fr.of_below HB.out) _) _ _ _ (Or.inr HB.out.size)) (Nat.le_refl _) (by simp)

/-- The law. -/
theorem lawCanons_any (s : ByteArray) (w : World) (hg : ErrT w) (hm : s.size ≤ 140737488351232) :
    Calls Tryd.prog 3 #[.string s] w fun e w' => e = .returned (.bool true) ∧ Below w.heap.size w w' := by
  go_enter Tryd.func3, Tryd.ntmps3
  go_wp2_with fail
  refine (pCanon_any s _ hg hm).mono ?_
  rintro e w1 ⟨rfl, hb1⟩
  go_wp2_with fail
  refine (rCanon_any s _ hm).mono ?_
  rintro e w2 ⟨rfl, hb2⟩
  generalize bs (cv s) = V at *
  generalize vb s = B at *
  generalize rd s = R at *
  have HB1 := hidV hb1
  have HB2 := hidV hb2
  clear hb1 hb2
  go_wp2
  go_ret
  exact ⟨rfl, Fr.below (bs := []) ((Fr.of_below HB1.out).trans (Fr.of_below (bs := []) (by exact HB2.out)) (by simp)) (Nat.le_refl _) (by simp)⟩
end Go.Proofs.YthlmgpllapccfaaDoor
/- AGAIN: the two fixed answers; the law. -/
namespace Go.Proofs.YthlmgpllapccfaaDoor
open Go.RowKit

theorem bs_toList (l : List UInt8) : (bs l).toList = l := by rw [ByteArray.toList_eq]; rfl
theorem pw_bad {f : Nat → Tok} {M : Nat} (hf : ∀ k, (f k).at' ≤ M) (bare : Bool) : ∀ (m k u x : Nat), (pw f bare m k u x).bad ≤ M := by
  intro m
  induction m with
  | zero => intro k u x; simp [pw]
  | succ m ih =>
    intro k u x
    have := hf k
    simp only [pw]
    split
    · split
      · exact ih _ _ _
      · exact this
    · split
      · split
        · exact this
        · split
          · exact ih _ _ _
          · exact this
      · simp
theorem tm_bad {f : Nat → Tok} {M : Nat} (hf : ∀ k, (f k).at' ≤ M) (bare : Bool) (N k : Nat) : (tm f bare N k).bad ≤ M := by
  unfold tm
  split
  · exact pw_bad hf _ _ _ _ _
  · split
    · exact pw_bad hf _ _ _ _ _
    · exact hf k
theorem pl_bad' {f : Nat → Tok} {M : Nat} (hf : ∀ k, (f k).at' ≤ M) (bare : Bool) (N : Nat) : ∀ (m k sg : Nat) (p : List Nat), (pl f bare N m k sg p).bad ≤ M := by
  intro m
  induction m with
  | zero => intro k sg p; simp [pl]
  | succ m ih =>
    intro k sg p
    simp only [pl]
    split
    · split
      · exact ih _ _ _
      · split
        · exact ih _ _ _
        · simp
    · exact tm_bad hf _ _ _
theorem rd_bad (s : ByteArray) : (rd s).bad ≤ s.size := by
  have hf : ∀ k, (tk s 0 k).at' ≤ s.size := fun k => (tk_facts (Nat.zero_le _) k).1
  unfold rd
  split
  · simp
  · split
    · split
      · simp
      · exact hf _
    · show (poly (tk s 0) false s.size 0).bad ≤ s.size
      unfold poly; split <;> exact pl_bad' hf _ _ _ _ _ _
theorem txt_len2 (p : List Nat) : (txt p).length ≤ 210 := by
  unfold txt; split
  · simp
  · exact wrt_len p 35
theorem cv_len (s : ByteArray) : (cv s).length ≤ 210 := by
  unfold cv; split
  · exact txt_len2 _
  · simp
theorem vv_lt (s : ByteArray) (u x : Int) : vv s u x < 7 := by
  unfold vv; split
  · exact horn_lt _ _ _ _
  · omega
set_option maxRecDepth 100000 in
theorem fix_c : cv ⟨#[51, 32, 43, 32, 120, 50, 117, 32, 45, 32, 49, 48, 120, 50, 32, 117, 43, 32, 50, 120, 120]⟩ = [53, 117, 120, 50, 43, 50, 120, 50, 43, 51] := by kernel_rfl
set_option maxRecDepth 100000 in
theorem fix_e : (rd ⟨#[51, 32, 43, 32, 120, 50, 117, 32, 45, 32, 49, 48, 120, 50, 32, 117, 43, 32, 50, 120, 120]⟩).e = 0 := by kernel_rfl
set_option maxRecDepth 100000 in
theorem fix_b : vb ⟨#[51, 32, 43, 32, 120, 50, 117, 32, 45, 32, 49, 48, 120, 50, 32, 117, 43, 32, 50, 120, 120]⟩ = 0 := by kernel_rfl
set_option maxRecDepth 100000 in
theorem fix_v : vv ⟨#[117, 120, 50, 45, 49]⟩ (-1) 8 = 5 := by kernel_rfl
set_option maxRecDepth 100000 in
theorem fix_f : (rd ⟨#[117, 120, 50, 45, 49]⟩).e = 0 := by kernel_rfl
set_option maxRecDepth 100000 in
theorem fix_p : vb ⟨#[117, 120, 50, 45, 49]⟩ = 0 := by kernel_rfl
theorem fixC (w : World) (hg : ErrT w) : Calls Tryd.prog 7 #[.string ⟨#[51, 32, 43, 32, 120, 50, 117, 32, 45, 32, 49, 48, 120, 50, 32, 117, 43, 32, 50, 120, 120]⟩] w fun e w' => e = .returned (.tuple #[.string (bs [53, 117, 120, 50, 43, 50, 120, 50, 43, 51]), .int .i64 0, .int .i64 0]) ∧ Below w.heap.size w w' := by
  have h := pCanon_any ⟨#[51, 32, 43, 32, 120, 50, 117, 32, 45, 32, 49, 48, 120, 50, 32, 117, 43, 32, 50, 120, 120]⟩ w hg (by decide)
  rw [fix_c, fix_e, fix_b] at h
  exact h
theorem fixV (w : World) (hg : ErrT w) : Calls Tryd.prog 9 #[.string ⟨#[117, 120, 50, 45, 49]⟩, .int .i64 (-1), .int .i64 8] w fun e w' => e = .returned (.tuple #[.int .i64 5, .int .i64 0, .int .i64 0]) ∧ Below w.heap.size w w' := by
  have h := pValue_any ⟨#[117, 120, 50, 45, 49]⟩ (-1) 8 w hg (by decide)
  rw [fix_v, fix_f, fix_p] at h
  exact h
set_option maxRecDepth 100000 in
theorem fixed_any (w : World) (hg : ErrT w) : Calls Tryd.prog 11 #[] w fun e w' => e = .returned (.bool true) ∧ Below w.heap.size w w' := by
  go_enter Tryd.func11, Tryd.ntmps11
  go_wp2_with fail
  refine (fixC w hg).mono ?_
  rintro e w1 ⟨rfl, hb1⟩
  have HB1 := hidV hb1
  have HG := hidV (hg.below hb1)
  clear hb1
  go_wp2_with fail
  refine (fixV _ HG.out).mono ?_
  rintro e w2 ⟨rfl, hb2⟩
  have HB2 := hidV hb2
  clear hb2
  have hq := bs_toList [53, 117, 120, 50, 43, 50, 120, 50, 43, 51]
  go_wp2
  go_ret
  exact ⟨rfl, Fr.below (bs := []) ((Fr.of_below HB1.out).trans (Fr.of_below (bs := []) (by exact HB2.out)) (by simp)) (Nat.le_refl _) (by simp)⟩

/-- What Again holds together. -/
theorem cv_bad {s : ByteArray} (h : (rd s).e ≠ 0) (u x : Int) : cv s = [] ∧ vv s u x = 0 := by
  unfold cv vv; rw [if_neg h, if_neg h]; exact ⟨rfl, rfl⟩
theorem vb_le (s : ByteArray) : vb s ≤ s.size := by
  unfold vb; split
  · omega
  · exact rd_bad s
theorem cv_again {s : ByteArray} (hg : Good (rd s).p) (h : (rd s).e = 0) (hl : (cv s).length ≤ 90) (u x : Int) : (rd (bs (cv s))).e = 0 ∧ cv (bs (cv s)) = cv s ∧ vv (bs (cv s)) u x = vv s u x := by
  have e : cv s = txt (rd s).p := by unfold cv; rw [if_pos h]
  rw [e] at hl
  have r := round_trip hg hl
  rw [e]
  refine ⟨by rw [r], ?_, ?_⟩
  · unfold cv; rw [r, if_pos rfl]
  · unfold vv; rw [r, if_pos rfl, if_pos h]
theorem rd_long {s : ByteArray} (h : 90 < s.size) : (rd s).e = 2 := by unfold rd; rw [if_pos h]
theorem pl_good (f : Nat → Tok) (bare : Bool) (N : Nat) : ∀ (m k sg : Nat) (p : List Nat), Good p → Good (pl f bare N m k sg p).p := by
  intro m
  induction m with
  | zero => intro k sg p h; simpa [pl] using h
  | succ m ih =>
    intro k sg p h
    simp only [pl]
    split
    · split
      · exact ih _ _ _ (plus_good h _ _ _)
      · split
        · exact ih _ _ _ (plus_good h _ _ _)
        · exact plus_good h _ _ _
    · exact h
theorem rd_good (s : ByteArray) : Good (rd s).p := by
  unfold rd
  split
  · exact zeros_good
  · split
    · split
      · show Good (poly (tk s 0) false s.size 0).p
        unfold poly; split <;> exact pl_good _ _ _ _ _ _ _ zeros_good
      · exact zeros_good
    · exact zeros_good
set_option maxRecDepth 100000 in
set_option maxHeartbeats 2000000 in
theorem lawAgain_any (s : ByteArray) (u x : Int) (w : World) (hg : ErrT w) (hm : s.size ≤ 140737488351232) :
    Calls Tryd.prog 5 #[.string s, .int .i64 u, .int .i64 x] w fun e w' => e = .returned (.bool true) ∧ Below w.heap.size w w' := by
  have HC := fun (w' : World) (h : ErrT w') => pCanon_any s w' h hm
  have HV := fun (w' : World) (h : ErrT w') => pValue_any s u x w' h hm
  have hcl := cv_len s
  have hbs : (bs (cv s)).size = (cv s).length := bs_size _
  have HC2 := fun (w' : World) (h : ErrT w') => pCanon_any (bs (cv s)) w' h (by omega)
  have HV2 := fun (w' : World) (h : ErrT w') => pValue_any (bs (cv s)) u x w' h (by omega)
  have hvlt := vv_lt s u x
  have hble := vb_le s
  have htl := bs_toList (cv s)
  by_cases he : (rd s).e = 0
  · have hb0 : vb s = 0 := by unfold vb; rw [if_pos he]
    rw [he] at HC HV
    rw [hb0] at HC HV
    by_cases hl : (cv s).length ≤ 90
    · obtain ⟨a1, a2, a3⟩ := cv_again (rd_good s) he hl u x
      have hb2 : vb (bs (cv s)) = 0 := by unfold vb; rw [if_pos a1]
      rw [a1, a2, hb2] at HC2
      rw [a1, a3, hb2] at HV2
      clear a1 a2 a3 hb2 he hb0 hble
      have hl' : ¬ ((bs (cv s)).size : Int) > 90 := by omega
      have HHC := hidV HC
      have HHV := hidV HV
      have HHC2 := hidV HC2
      have HHV2 := hidV HV2
      clear HC HV HC2 HV2 hl
      generalize cv s = C at *
      generalize vv s u x = V at *
      go_enter Tryd.func5, Tryd.ntmps5
      go_wp2_with fail
      refine (fixed_any _ hg).mono ?_
      rintro e w1 ⟨rfl, hb1⟩
      have HB1 := hidV hb1
      have G1 := hidV (hg.below hb1)
      clear hb1
      go_wp2_with fail
      refine (HHC.out _ G1.out).mono ?_
      rintro e w2 ⟨rfl, hb2⟩
      have HB2 := hidV hb2
      have G2 := hidV (G1.out.below hb2)
      clear hb2
      go_wp2_with fail
      refine (HHV.out _ G2.out).mono ?_
      rintro e w3 ⟨rfl, hb3⟩
      have HB3 := hidV hb3
      have G3 := hidV (G2.out.below hb3)
      clear hb3
      go_wp2_with fail
      refine (HHC2.out _ G3.out).mono ?_
      rintro e w4 ⟨rfl, hb4⟩
      have HB4 := hidV hb4
      have G4 := hidV (G3.out.below hb4)
      clear hb4
      go_wp2_with fail
      refine (HHV2.out _ G4.out).mono ?_
      rintro e w5 ⟨rfl, hb5⟩
      have HB5 := hidV hb5
      clear hb5
      go_wp2
      go_ret
      exact ⟨rfl, bel2 (bel2 (bel2 (bel2 HB1.out HB2.out) HB3.out) HB4.out) HB5.out⟩
    · have a1 := rd_long (s := bs (cv s)) (by omega)
      rw [a1] at HC2
      clear a1 he hb0 hble HV2 hvlt
      have hl' : ((bs (cv s)).size : Int) > 90 := by omega
      have HHC := hidV HC
      have HHV := hidV HV
      have HHC2 := hidV HC2
      clear HC HV HC2 hl
      generalize cv (bs (cv s)) = C2 at *
      generalize vb (bs (cv s)) = b2 at *
      generalize cv s = C at *
      generalize vv s u x = V at *
      go_enter Tryd.func5, Tryd.ntmps5
      go_wp2_with fail
      refine (fixed_any _ hg).mono ?_
      rintro e w1 ⟨rfl, hb1⟩
      have HB1 := hidV hb1
      have G1 := hidV (hg.below hb1)
      clear hb1
      go_wp2_with fail
      refine (HHC.out _ G1.out).mono ?_
      rintro e w2 ⟨rfl, hb2⟩
      have HB2 := hidV hb2
      have G2 := hidV (G1.out.below hb2)
      clear hb2
      go_wp2_with fail
      refine (HHV.out _ G2.out).mono ?_
      rintro e w3 ⟨rfl, hb3⟩
      have HB3 := hidV hb3
      have G3 := hidV (G2.out.below hb3)
      clear hb3
      go_wp2_with fail
      refine (HHC2.out _ G3.out).mono ?_
      rintro e w4 ⟨rfl, hb4⟩
      have HB4 := hidV hb4
      clear hb4
      go_wp2
      go_ret
      exact ⟨rfl, bel2 (bel2 (bel2 HB1.out HB2.out) HB3.out) HB4.out⟩
  · obtain ⟨a1, a2⟩ := cv_bad he u x
    have he' : ¬ (((rd s).e : Int) = 0) := by omega
    have hble' : ((vb s : Nat) : Int) ≤ (s.size : Int) := by omega
    have hb0 : (0 : Int) ≤ (vb s : Nat) := by omega
    have htn := bs_toList []
    rw [a1] at HC
    rw [a2] at HV
    clear HC2 HV2 hvlt hcl hbs htl a1 a2 he hble
    have HHC := hidV HC
    have HHV := hidV HV
    clear HC HV
    generalize vb s = b at *
    generalize (rd s).e = E at *
    go_enter Tryd.func5, Tryd.ntmps5
    go_wp2_with fail
    refine (fixed_any _ hg).mono ?_
    rintro e w1 ⟨rfl, hb1⟩
    have HB1 := hidV hb1
    have G1 := hidV (hg.below hb1)
    clear hb1
    go_wp2_with fail
    refine (HHC.out _ G1.out).mono ?_
    rintro e w2 ⟨rfl, hb2⟩
    have HB2 := hidV hb2
    have G2 := hidV (G1.out.below hb2)
    clear hb2
    go_wp2_with fail
    refine (HHV.out _ G2.out).mono ?_
    rintro e w3 ⟨rfl, hb3⟩
    have HB3 := hidV hb3
    have G3 := hidV (G2.out.below hb3)
    clear hb3
    go_wp2
    go_ret
    exact ⟨rfl, bel2 (bel2 HB1.out HB2.out) HB3.out⟩
end Go.Proofs.YthlmgpllapccfaaDoor
