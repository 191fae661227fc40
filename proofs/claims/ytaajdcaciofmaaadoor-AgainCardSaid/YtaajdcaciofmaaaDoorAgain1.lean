/- AGAIN: the two fixed answers; the law. -/
import Derived.Test.YtaajdcaciofmaaaDoorTrip3
import Derived.Test.YtaajdcaciofmaaaDoorCanon1
namespace Go.Proofs.YtaajdcaciofmaaaDoor
open Go.RowKit

theorem bs_toList (l : List UInt8) : (bs l).toList = l := by rw [ByteArray.toList_eq]; rfl
theorem pw_bad {f : Nat → Tok} {M : Nat} (hf : ∀ k, (f k).at' ≤ M) (bare : Bool) : ∀ (m k u x : Nat), (pw f bare m k u x).bad ≤ M := by
  intro m
  induction m with
  | zero => intro k u x; simp [pw]
  | succ m ih =>
    intro k u x
    have := hf k
    simp only [pw]
    split
    · split
      · exact ih _ _ _
      · exact this
    · split
      · split
        · exact this
        · split
          · exact ih _ _ _
          · exact this
      · simp
theorem tm_bad {f : Nat → Tok} {M : Nat} (hf : ∀ k, (f k).at' ≤ M) (bare : Bool) (N k : Nat) : (tm f bare N k).bad ≤ M := by
  unfold tm
  split
  · exact pw_bad hf _ _ _ _ _
  · split
    · exact pw_bad hf _ _ _ _ _
    · exact hf k
theorem pl_bad' {f : Nat → Tok} {M : Nat} (hf : ∀ k, (f k).at' ≤ M) (bare : Bool) (N : Nat) : ∀ (m k sg : Nat) (p : List Nat), (pl f bare N m k sg p).bad ≤ M := by
  intro m
  induction m with
  | zero => intro k sg p; simp [pl]
  | succ m ih =>
    intro k sg p
    simp only [pl]
    split
    · split
      · exact ih _ _ _
      · split
        · exact ih _ _ _
        · simp
    · exact tm_bad hf _ _ _
theorem rd_bad (s : ByteArray) : (rd s).bad ≤ s.size := by
  have hf : ∀ k, (tk s 0 k).at' ≤ s.size := fun k => (tk_facts (Nat.zero_le _) k).1
  unfold rd
  split
  · simp
  · split
    · split
      · simp
      · exact hf _
    · show (poly (tk s 0) false s.size 0).bad ≤ s.size
      unfold poly; split <;> exact pl_bad' hf _ _ _ _ _ _
theorem txt_len (p : List Nat) : (txt p).length ≤ 210 := by
  unfold txt; split
  · simp
  · exact wrt_len p 35
theorem cv_len (s : ByteArray) : (cv s).length ≤ 210 := by
  unfold cv; split
  · exact txt_len _
  · simp
theorem vv_lt (s : ByteArray) (u x : Int) : vv s u x < 7 := by
  unfold vv; split
  · exact horn_lt _ _ _ _
  · omega
set_option maxRecDepth 100000 in
theorem fix_c : cv ⟨#[51, 32, 43, 32, 120, 50, 117, 32, 45, 32, 49, 48, 120, 50, 32, 117, 43, 32, 50, 120, 120]⟩ = [53, 117, 120, 50, 43, 50, 120, 50, 43, 51] := by kernel_rfl
set_option maxRecDepth 100000 in
theorem fix_e : (rd ⟨#[51, 32, 43, 32, 120, 50, 117, 32, 45, 32, 49, 48, 120, 50, 32, 117, 43, 32, 50, 120, 120]⟩).e = 0 := by kernel_rfl
set_option maxRecDepth 100000 in
theorem fix_b : vb ⟨#[51, 32, 43, 32, 120, 50, 117, 32, 45, 32, 49, 48, 120, 50, 32, 117, 43, 32, 50, 120, 120]⟩ = 0 := by kernel_rfl
set_option maxRecDepth 100000 in
theorem fix_v : vv ⟨#[117, 120, 50, 45, 49]⟩ (-1) 8 = 5 := by kernel_rfl
set_option maxRecDepth 100000 in
theorem fix_f : (rd ⟨#[117, 120, 50, 45, 49]⟩).e = 0 := by kernel_rfl
set_option maxRecDepth 100000 in
theorem fix_p : vb ⟨#[117, 120, 50, 45, 49]⟩ = 0 := by kernel_rfl
theorem fixC (w : World) (hg : ErrT w) : Calls Tryd.prog 7 #[.string ⟨#[51, 32, 43, 32, 120, 50, 117, 32, 45, 32, 49, 48, 120, 50, 32, 117, 43, 32, 50, 120, 120]⟩] w fun e w' => e = .returned (.tuple #[.string (bs [53, 117, 120, 50, 43, 50, 120, 50, 43, 51]), .int .i64 0, .int .i64 0]) ∧ Below w.heap.size w w' := by
  have h := pCanon_any ⟨#[51, 32, 43, 32, 120, 50, 117, 32, 45, 32, 49, 48, 120, 50, 32, 117, 43, 32, 50, 120, 120]⟩ w hg (by decide)
  rw [fix_c, fix_e, fix_b] at h
  exact h
theorem fixV (w : World) (hg : ErrT w) : Calls Tryd.prog 9 #[.string ⟨#[117, 120, 50, 45, 49]⟩, .int .i64 (-1), .int .i64 8] w fun e w' => e = .returned (.tuple #[.int .i64 5, .int .i64 0, .int .i64 0]) ∧ Below w.heap.size w w' := by
  have h := pValue_any ⟨#[117, 120, 50, 45, 49]⟩ (-1) 8 w hg (by decide)
  rw [fix_v, fix_f, fix_p] at h
  exact h
set_option maxRecDepth 100000 in
theorem fixed_any (w : World) (hg : ErrT w) : Calls Tryd.prog 11 #[] w fun e w' => e = .returned (.bool true) ∧ Below w.heap.size w w' := by
  go_enter Tryd.func11, Tryd.ntmps11
  go_wp2_with fail
  refine (fixC w hg).mono ?_
  rintro e w1 ⟨rfl, hb1⟩
  have HB1 := hidV hb1
  have HG := hidV (hg.below hb1)
  clear hb1
  go_wp2_with fail
  refine (fixV _ HG.out).mono ?_
  rintro e w2 ⟨rfl, hb2⟩
  have HB2 := hidV hb2
  clear hb2
  have hq := bs_toList [53, 117, 120, 50, 43, 50, 120, 50, 43, 51]
  go_wp2
  go_ret
  exact ⟨rfl, Fr.below (bs := []) ((Fr.of_below HB1.out).trans (Fr.of_below (bs := []) (by exact HB2.out)) (by simp)) (Nat.le_refl _) (by simp)⟩

/-- What Again holds together. -/
theorem cv_bad {s : ByteArray} (h : (rd s).e ≠ 0) (u x : Int) : cv s = [] ∧ vv s u x = 0 := by
  unfold cv vv; rw [if_neg h, if_neg h]; exact ⟨rfl, rfl⟩
theorem vb_le (s : ByteArray) : vb s ≤ s.size := by
  unfold vb; split
  · omega
  · exact rd_bad s
theorem cv_again {s : ByteArray} (hg : Good (rd s).p) (h : (rd s).e = 0) (hl : (cv s).length ≤ 90) (u x : Int) : (rd (bs (cv s))).e = 0 ∧ cv (bs (cv s)) = cv s ∧ vv (bs (cv s)) u x = vv s u x := by
  have e : cv s = txt (rd s).p := by unfold cv; rw [if_pos h]
  rw [e] at hl
  have r := round_trip hg hl
  rw [e]
  refine ⟨by rw [r], ?_, ?_⟩
  · unfold cv; rw [r, if_pos rfl]
  · unfold vv; rw [r, if_pos rfl, if_pos h]
theorem rd_long {s : ByteArray} (h : 90 < s.size) : (rd s).e = 2 := by unfold rd; rw [if_pos h]
theorem pl_good (f : Nat → Tok) (bare : Bool) (N : Nat) : ∀ (m k sg : Nat) (p : List Nat), Good p → Good (pl f bare N m k sg p).p := by
  intro m
  induction m with
  | zero => intro k sg p h; simpa [pl] using h
  | succ m ih =>
    intro k sg p h
    simp only [pl]
    split
    · split
      · exact ih _ _ _ (plus_good h _ _ _)
      · split
        · exact ih _ _ _ (plus_good h _ _ _)
        · exact plus_good h _ _ _
    · exact h
theorem rd_good (s : ByteArray) : Good (rd s).p := by
  unfold rd
  split
  · exact zeros_good
  · split
    · split
      · show Good (poly (tk s 0) false s.size 0).p
        unfold poly; split <;> exact pl_good _ _ _ _ _ _ _ zeros_good
      · exact zeros_good
    · exact zeros_good
theorem bel2 {a b c : World} (h : Below a.heap.size a b) (k : Below b.heap.size b c) : Below a.heap.size a c :=
  Fr.below (bs := []) ((Fr.of_below h).trans (Fr.of_below (bs := []) k) (by simp)) (Nat.le_refl _) (by simp)

set_option maxRecDepth 100000 in
set_option maxHeartbeats 2000000 in
theorem lawAgain_any (s : ByteArray) (u x : Int) (w : World) (hg : ErrT w) (hm : s.size ≤ 140737488351232) :
    Calls Tryd.prog 5 #[.string s, .int .i64 u, .int .i64 x] w fun e w' => e = .returned (.bool true) ∧ Below w.heap.size w w' := by
  have HC := fun (w' : World) (h : ErrT w') => pCanon_any s w' h hm
  have HV := fun (w' : World) (h : ErrT w') => pValue_any s u x w' h hm
  have hcl := cv_len s
  have hbs : (bs (cv s)).size = (cv s).length := bs_size _
  have HC2 := fun (w' : World) (h : ErrT w') => pCanon_any (bs (cv s)) w' h (by omega)
  have HV2 := fun (w' : World) (h : ErrT w') => pValue_any (bs (cv s)) u x w' h (by omega)
  have hvlt := vv_lt s u x
  have hble := vb_le s
  have htl := bs_toList (cv s)
  by_cases he : (rd s).e = 0
  · have hb0 : vb s = 0 := by unfold vb; rw [if_pos he]
    rw [he] at HC HV
    rw [hb0] at HC HV
    by_cases hl : (cv s).length ≤ 90
    · obtain ⟨a1, a2, a3⟩ := cv_again (rd_good s) he hl u x
      have hb2 : vb (bs (cv s)) = 0 := by unfold vb; rw [if_pos a1]
      rw [a1, a2, hb2] at HC2
      rw [a1, a3, hb2] at HV2
      clear a1 a2 a3 hb2 he hb0 hble
      have hl' : ¬ ((bs (cv s)).size : Int) > 90 := by omega
      have HHC := hidV HC
      have HHV := hidV HV
      have HHC2 := hidV HC2
      have HHV2 := hidV HV2
      clear HC HV HC2 HV2 hl
      generalize cv s = C at *
      generalize vv s u x = V at *
      go_enter Tryd.func5, Tryd.ntmps5
      go_wp2_with fail
      refine (fixed_any _ hg).mono ?_
      rintro e w1 ⟨rfl, hb1⟩
      have HB1 := hidV hb1
      have G1 := hidV (hg.below hb1)
      clear hb1
      go_wp2_with fail
      refine (HHC.out _ G1.out).mono ?_
      rintro e w2 ⟨rfl, hb2⟩
      have HB2 := hidV hb2
      have G2 := hidV (G1.out.below hb2)
      clear hb2
      go_wp2_with fail
      refine (HHV.out _ G2.out).mono ?_
      rintro e w3 ⟨rfl, hb3⟩
      have HB3 := hidV hb3
      have G3 := hidV (G2.out.below hb3)
      clear hb3
      go_wp2_with fail
      refine (HHC2.out _ G3.out).mono ?_
      rintro e w4 ⟨rfl, hb4⟩
      have HB4 := hidV hb4
      have G4 := hidV (G3.out.below hb4)
      clear hb4
      go_wp2_with fail
      refine (HHV2.out _ G4.out).mono ?_
      rintro e w5 ⟨rfl, hb5⟩
      have HB5 := hidV hb5
      clear hb5
      go_wp2
      go_ret
      exact ⟨rfl, bel2 (bel2 (bel2 (bel2 HB1.out HB2.out) HB3.out) HB4.out) HB5.out⟩
    · have a1 := rd_long (s := bs (cv s)) (by omega)
      rw [a1] at HC2
      clear a1 he hb0 hble HV2 hvlt
      have hl' : ((bs (cv s)).size : Int) > 90 := by omega
      have HHC := hidV HC
      have HHV := hidV HV
      have HHC2 := hidV HC2
      clear HC HV HC2 hl
      generalize cv (bs (cv s)) = C2 at *
      generalize vb (bs (cv s)) = b2 at *
      generalize cv s = C at *
      generalize vv s u x = V at *
      go_enter Tryd.func5, Tryd.ntmps5
      go_wp2_with fail
      refine (fixed_any _ hg).mono ?_
      rintro e w1 ⟨rfl, hb1⟩
      have HB1 := hidV hb1
      have G1 := hidV (hg.below hb1)
      clear hb1
      go_wp2_with fail
      refine (HHC.out _ G1.out).mono ?_
      rintro e w2 ⟨rfl, hb2⟩
      have HB2 := hidV hb2
      have G2 := hidV (G1.out.below hb2)
      clear hb2
      go_wp2_with fail
      refine (HHV.out _ G2.out).mono ?_
      rintro e w3 ⟨rfl, hb3⟩
      have HB3 := hidV hb3
      have G3 := hidV (G2.out.below hb3)
      clear hb3
      go_wp2_with fail
      refine (HHC2.out _ G3.out).mono ?_
      rintro e w4 ⟨rfl, hb4⟩
      have HB4 := hidV hb4
      clear hb4
      go_wp2
      go_ret
      exact ⟨rfl, bel2 (bel2 (bel2 HB1.out HB2.out) HB3.out) HB4.out⟩
  · obtain ⟨a1, a2⟩ := cv_bad he u x
    have he' : ¬ (((rd s).e : Int) = 0) := by omega
    have hble' : ((vb s : Nat) : Int) ≤ (s.size : Int) := by omega
    have hb0 : (0 : Int) ≤ (vb s : Nat) := by omega
    have htn := bs_toList []
    rw [a1] at HC
    rw [a2] at HV
    clear HC2 HV2 hvlt hcl hbs htl a1 a2 he hble
    have HHC := hidV HC
    have HHV := hidV HV
    clear HC HV
    generalize vb s = b at *
    generalize (rd s).e = E at *
    go_enter Tryd.func5, Tryd.ntmps5
    go_wp2_with fail
    refine (fixed_any _ hg).mono ?_
    rintro e w1 ⟨rfl, hb1⟩
    have HB1 := hidV hb1
    have G1 := hidV (hg.below hb1)
    clear hb1
    go_wp2_with fail
    refine (HHC.out _ G1.out).mono ?_
    rintro e w2 ⟨rfl, hb2⟩
    have HB2 := hidV hb2
    have G2 := hidV (G1.out.below hb2)
    clear hb2
    go_wp2_with fail
    refine (HHV.out _ G2.out).mono ?_
    rintro e w3 ⟨rfl, hb3⟩
    have HB3 := hidV hb3
    have G3 := hidV (G2.out.below hb3)
    clear hb3
    go_wp2
    go_ret
    exact ⟨rfl, bel2 (bel2 HB1.out HB2.out) HB3.out⟩
end Go.Proofs.YtaajdcaciofmaaaDoor
