import Derived.Test.YthlmgpllapccfaaGreatDoorPack8
import Derived.Shelf.Strings.Builder1
import Derived.Shelf.Strings.Builder2
import Derived.Shelf.Strings.OnBuilder
import Derived.Shelf.Strconv.Itoa0
import Derived.Shelf.Strconv.Itoa1
import Derived.Shelf.LaysM
import Derived.Shelf.Strconv.Itoa2
import Derived.Shelf.Strconv.Itoa3
import Derived.Test.YthlmgpllapccfaaGreatDoorProg
import Derived.Deep.RegionHeld3
/- THE PROGRAM's Value of a polynomial. -/
namespace Go.Proofs.YthlmgpllapccfaaGreatDoor
open Go.RowKit

theorem valP_ln (p : List Nat) (a b : Nat) : valP p a b = horn (lnF a p) 5 b 5 := by
  unfold valP
  rw [horn_pows, horn_pows]
  exact pows_congr 5 (fun i hi => by unfold lnF; rw [if_pos hi, horn_pows]; rfl)

set_option maxRecDepth 100000 in
set_option maxHeartbeats 800000 in
theorem pVal_any (p : List Nat) (U X : Int) (a b : Nat) (w : World) (hp : Good p) (hU : U % 7 = a) (hX : X % 7 = b) (ha : a < 7) (hb : b < 7) :
    Calls Tryz.prog 34 #[.agg (pv p), .int .i64 U, .int .i64 X] w fun e w' => e = .returned (.int .i64 (valP p a b)) ∧ Below w.heap.size w w' := by
  rw [valP_ln]
  have HX := hidV hX
  have HAT := hidV (fun w' => At_any p U a w' hp hU ha)
  have hgl := lnF_good a p
  have HUA := hidV (fun (k : Nat) (h : k < 5) => upL_at (lnF a p) h)
  have hvec := lnF_vec a p
  obtain ⟨L, HL⟩ : ∃ L, Hid (upL (lnF a p) = L) := ⟨_, hidV rfl⟩
  rw [HL.out] at HAT hgl HUA
  clear hU hX
  generalize lnF a p = c at *
  go_enter Tryz.func34, Tryz.ntmps34
  go_upto_region 2 with (first | (refine wpList_load_row (by rfl) 76 _ (by rfl) w.heap.size (by rfl) 76 (pv p) (0, 0) _ (by exact Blk.new w _ _) Tryz.underlying76 (by rfl) (size_poly hp) ?_) | (go_at_call 47; refine (HAT.out _).mono ?_; rintro e w1 ⟨rfl, hb1⟩; have HB1 := hidV hb1; clear hb1) | (go_at_call 48; refine (Mod_any _ _).mono ?_; rintro e w2 ⟨rfl, rfl⟩) | (refine wpList_store_mid (by rfl) 76 _ _ (by rfl) w2.heap.size 0 (pv L) (by rfl) (by rfl) (by exact Blk.there (Blk.new w2 _ _) (by rw [pv_size, hgl.1]; decide)) (size_poly hgl) (pv_one _) ?_))
  rw [HX.out]
  have hw2 : w.heap.size < w2.heap.size := by have := HB1.out.size; simp at this; omega
  refine wp_forget (fun W => Blk W w2.heap.size (pv L) 76 ∧ Below w.heap.size w W) ⟨Blk.setAll (Blk.new w2 _ _) _ (by rw [pv_size, hgl.1]; rfl), Below.setCells (Below.alloc (Fr.below (bs := []) (((Fr.refl [] w).alloc _).trans (Fr.of_below (bs := []) HB1.out) (by simp)) (Nat.le_refl _) (by simp)) (by omega) _) _ _ _ (by omega)⟩ ?_
  rintro W ⟨b1, hbel⟩
  have HH := hidV (And.intro b1 hbel)
  clear b1 hbel HB1
  generalize w2.heap.size = B at *
  go_wp2
  go_loopg [8, 9] 5 (fun gm v8 v9 wr => ∃ k : Nat, gm = 5 - k ∧ k ≤ 5 ∧ v9 = .int .i64 (((5 - k : Nat) : Int) - 1) ∧ v8 = .int .i64 (horn c 5 b k) ∧ wr = W)
  case atStart => exact ⟨0, rfl, by omega, rfl, rfl, rfl⟩
  case round =>
    obtain ⟨k, hgm, hk, rfl, rfl, rfl⟩ := hrel
    by_cases h5 : k < 5
    · obtain ⟨i, hi⟩ : ∃ i : Nat, 5 - k = i + 1 := ⟨4 - k, by omega⟩
      have hi4 : i < 5 := by omega
      have e : (((5 - k : Nat) : Int) - 1) = (i : Int) := by omega
      rw [e]
      have HST : Hid (horn c 5 b (k + 1) = (horn c 5 b k * b + c i) % 7) := by unfold Hid; rw [horn, show 5 - 1 - k = i by omega]
      have HK1 : Hid ((((5 - (k + 1) : Nat) : Int) - 1) = (i : Int) - 1) := by unfold Hid; omega
      have hlt := horn_lt c 5 b k
      have hc : wr.cell? ⟨B, i * 7, none⟩ = some (.int .i64 (c i)) := by rw [HH.out.1.cell, ← HUA.out i hi4]; exact pv_get (by rw [hgl.1]; omega)
      have hc7 := (hvec i).1
      clear e hi
      generalize horn c 5 b k = G at *
      generalize c i = ci at *
      have hpb := prod_bd hlt hb
      have i0 : (0 : Int) ≤ (i : Int) := by omega
      have i1 : (i : Int) < 5 := by omega
      go_wp2_with (go_at_call 48; refine (Mod_any _ _).mono ?_; rintro e w3 ⟨rfl, rfl⟩)
      go_roundg (5 - (k + 1))
      case measure => omega
      case rel => exact ⟨k + 1, rfl, by omega, by rw [HK1.out], by rw [HST.out]; simp, rfl⟩
    · have e5 : k = 5 := by omega
      subst e5
      go_wp2
      go_ret
      exact ⟨rfl, HH.out.2⟩
end Go.Proofs.YthlmgpllapccfaaGreatDoor
/- THE PROGRAM's POLYNOMIALS WITHOUT u: Degree, inverse. -/
namespace Go.Proofs.YthlmgpllapccfaaGreatDoor
open Go.RowKit

set_option maxRecDepth 100000 in
set_option maxHeartbeats 1000000 in
theorem Degree_any (g : Nat → Nat) (w : World) :
    Calls Tryz.prog 132 #[.agg (pv (upL g))] w fun e w' => e = .returned (.int .i64 ((dg g : Int) - 1)) ∧ Below w.heap.size w w' := by
  have HU5 := hidV (fun (k : Nat) (h : k < 5) => upL_at g h)
  have HUL := hidV (upL_len g)
  obtain ⟨U, HU⟩ : ∃ U, Hid (upL g = U) := ⟨_, hidV rfl⟩
  rw [HU.out] at HU5 HUL ⊢
  go_enter Tryz.func132, Tryz.ntmps132
  go_wp2
  refine wp_forget (fun W => Blk W w.heap.size (pv U) 76 ∧ Below w.heap.size w W) ⟨Blk.new w _ _, by go_grown⟩ ?_
  rintro W ⟨b1, hbel⟩
  have HH := hidV (And.intro b1 hbel)
  clear b1 hbel
  go_loopg [3] 5 (fun gm v3 wr => ∃ k : Nat, gm = 5 - k ∧ k ≤ 5 ∧ v3 = .int .i64 (((5 - k : Nat) : Int) - 1) ∧ Hid (∀ y, 5 - k ≤ y → y < 5 → g y = 0) ∧ Hid (Blk wr w.heap.size (pv U) 76 ∧ Below w.heap.size w wr))
  case atStart => exact ⟨0, rfl, by omega, rfl, fun y h1 h2 => by omega, HH⟩
  case round =>
    obtain ⟨k, hgm, hk, rfl, HZ, HD⟩ := hrel
    clear HH W
    by_cases h5 : k < 5
    · obtain ⟨i, hi⟩ : ∃ i : Nat, 5 - k = i + 1 := ⟨4 - k, by omega⟩
      have hi4 : i < 5 := by omega
      have e : (((5 - k : Nat) : Int) - 1) = (i : Int) := by omega
      rw [e]
      have HK1 : Hid ((((5 - (k + 1) : Nat) : Int) - 1) = (i : Int) - 1) := by unfold Hid; omega
      have HI := hidV hi
      clear e hi
      have hcell := pv_get (p := U) (j := i * 7) (by rw [HUL.out]; omega)
      rw [HU5.out i hi4] at hcell
      have hc : wr.cell? ⟨w.heap.size, i * 7, none⟩ = some (.int .i64 (g i)) := by rw [HD.out.1.cell]; exact hcell
      clear hcell
      have i0 : (0 : Int) ≤ (i : Int) := by omega
      have i1 : (i : Int) < 5 := by omega
      by_cases h0 : g i = 0
      · rw [h0] at hc
        go_wp2
        go_roundg (5 - (k + 1))
        case measure => omega
        case rel =>
          refine ⟨k + 1, rfl, by omega, by rw [HK1.out], fun y h1 h2 => ?_, HD⟩
          by_cases e : y = i
          · subst e; exact h0
          · exact HZ.out y (by have := HI.out; omega) h2
      · have HG : Hid (((dg g : Nat) : Int) - 1 = (i : Int)) := by
          unfold Hid
          rw [dg_is hi4 h0 (fun y h1 h2 => HZ.out y (by have := HI.out; omega) h2)]; omega
        have hne : ¬ ((g i : Int) = 0) := by omega
        generalize (g i : Int) = v at *
        go_wp2
        go_ret
        exact ⟨by rw [HG.out]; rfl, HD.out.2⟩
    · have e5 : k = 5 := by omega
      subst e5
      go_wp2
      go_ret
      exact ⟨by rw [dg_zero (fun y h => HZ.out y (by omega) h)]; rfl, HD.out.2⟩

set_option maxRecDepth 100000 in
set_option maxHeartbeats 1000000 in
theorem inverse_any (n : Nat) (N : Int) (w : World) (hN : N = n) (hn : n < 7) :
    Calls Tryz.prog 150 #[.int .i64 N] w fun e w' => e = .returned (.int .i64 (pw7 n 5)) ∧ w' = w := by
  subst hN
  go_enter Tryz.func150, Tryz.ntmps150
  go_wp2
  go_loopg [3, 4] 5 (fun gm v3 v4 wr => ∃ k : Nat, gm = 5 - k ∧ k ≤ 5 ∧ v4 = .int .i64 k ∧ v3 = .int .i64 (pw7 n k) ∧ wr = w)
  case atStart => exact ⟨0, rfl, by omega, rfl, rfl, rfl⟩
  case round =>
    obtain ⟨k, hgm, hk, rfl, rfl, rfl⟩ := hrel
    by_cases h5 : k < 5
    · have HS : Hid (pw7 n (k + 1) = pw7 n k * n % 7) := rfl
      have h7 := pw7_lt n k
      have hpb := prod_bd h7 hn
      have k1 : (k : Int) < 5 := by omega
      generalize pw7 n k = P at *
      go_wp2_with (go_at_call 48; refine (Mod_any _ _).mono ?_; rintro e w1 ⟨rfl, rfl⟩)
      go_roundg (5 - (k + 1))
      case measure => omega
      case rel => exact ⟨k + 1, rfl, by omega, by go_num, by rw [HS.out]; simp, rfl⟩
    · have e5 : k = 5 := by omega
      subst e5
      go_wp2
      go_ret
      exact ⟨rfl, rfl⟩

/-- The first k numbers times F. -/
def mnK (g : Nat → Nat) (F k : Nat) : Nat → Nat := fun i => if i < k then g i * F % 7 else g i
theorem mnK_step (g : Nat → Nat) (F : Nat) {k : Nat} (hk : k < 5) : (upL (mnK g F k)).set (k * 7) (g k * F % 7) = upL (mnK g F (k + 1)) := by
  apply upL_set _ _ hk
  · unfold mnK; rw [if_pos (by omega)]
  · intro i hi
    unfold mnK
    by_cases h : i < k
    · rw [if_pos h, if_pos (by omega)]
    · rw [if_neg h, if_neg (by omega)]
theorem mnK_at (g : Nat → Nat) (F : Nat) {k : Nat} (hk : k < 5) : (upL (mnK g F k)).getD (k * 7) 0 = g k := by
  rw [upL_at _ hk]; unfold mnK; rw [if_neg (by omega)]
theorem mnK_zero (g : Nat → Nat) (F : Nat) : upL (mnK g F 0) = upL g := rfl
theorem mnK_end {g : Nat → Nat} (h : dg g ≠ 0) : upL (mnK g (pw7 (g (dg g - 1)) 5) (dg g)) = upL (mon g) := by
  unfold mnK mon; rw [if_neg h]
theorem mon_zero {g : Nat → Nat} (h : dg g = 0) : mon g = g := by unfold mon; rw [if_pos h]

set_option maxRecDepth 100000 in
set_option maxHeartbeats 1000000 in
theorem monic_any (g : Nat → Nat) (w : World) (hg : Vec g) :
    Calls Tryz.prog 144 #[.agg (pv (upL g))] w fun e w' => e = .returned (.agg (pv (upL (mon g)))) ∧ Below w.heap.size w w' := by
  have hgd : Good (upL g) := upL_good (fun i _ => (hg i).1)
  have hmd : Good (upL (mon g)) := upL_good (fun i _ => ((mon_any hg).1 i).1)
  obtain ⟨z, HZ, hzl⟩ : ∃ z : List Nat, Hid (z = zeros) ∧ z.length = 35 := ⟨_, hidV rfl, rfl⟩
  have hzp : pv z = pv zeros := by rw [HZ.out]
  have HDG := hidV (Degree_any g)
  have hd5 := dg_le g
  by_cases hz : dg g = 0
  · rw [mon_zero hz] at hmd ⊢
    rw [hz] at HDG
    clear hz hd5
    obtain ⟨U, HU⟩ : ∃ U, Hid (upL g = U) := ⟨_, hidV rfl⟩
    rw [HU.out] at HDG hgd ⊢
    go_enter Tryz.func144, Tryz.ntmps144
    go_upto_region 1 with fail
    refine wp_forget (fun W => Blk W w.heap.size (pv U) 76 ∧ Blk W (w.heap.size + 1) (pv z) 76 ∧ Below w.heap.size w W) ⟨Blk.alloc (Blk.new w _ _) _, by rw [hzp]; exact Blk.newAt _ _ _ (by simp), by go_grown⟩ ?_
    rintro W ⟨b1, b2, hbel⟩
    have HH := hidV (And.intro b1 (And.intro b2 hbel))
    clear b1 b2 hbel hzp
    go_wp2_with (first | (refine wpList_load_row (by rfl) 76 _ (by rfl) w.heap.size (by rfl) 76 (pv U) (0, 0) _ (by first | exact HH.out.1 | exact HB1.out.2.1) Tryz.underlying76 (by rfl) (size_poly hgd) ?_) | (go_at_call 132; refine (HDG.out _).mono ?_; rintro e w1 ⟨rfl, hb1⟩; have HB1 := hidV (And.intro (HH.out.2.2.trans (hb1.mono HH.out.2.2.size)) (And.intro (HH.out.1.fr (Fr.of_below (bs := []) hb1) (by simp)) (HH.out.2.1.fr (Fr.of_below (bs := []) hb1) (by simp)))); clear hb1) | (refine wpList_store_mid (by rfl) 76 _ _ (by rfl) (w.heap.size + 1) 0 (pv U) (by rfl) (by rfl) (by exact Blk.there HB1.out.2.2 (by rw [pv_size, pv_size, hgd.1, hzl]; exact Nat.le_refl _)) (size_poly hgd) (pv_one _) ?_))
    refine bodyPost_ret (results_cell_row Tryz.results144 _ _ (w.heap.size + 1) 76 (pv U) (0, 0) _ (by rfl) (Blk.setAll (by exact HB1.out.2.2) _ (by rw [pv_size, pv_size, hgd.1, hzl])) Tryz.underlying76 rfl (size_poly hgd)) rfl ⟨rfl, ?_⟩
    exact Below.setCells HB1.out.1 _ _ _ (by omega)
  · have HG := hidV (hg (dg g - 1)).1
    have HSTP := hidV (fun (k : Nat) (hk : k < 5) => mnK_step g (pw7 (g (dg g - 1)) 5) hk)
    have HATT := hidV (fun (k : Nat) (hk : k < 5) => mnK_at g (pw7 (g (dg g - 1)) 5) hk)
    have HEN := hidV (mnK_end hz)
    have hF7 := pw7_lt (g (dg g - 1)) 5
    have HIV := hidV (fun w' => inverse_any (g (dg g - 1)) (g (dg g - 1)) w' rfl HG.out)
    have HCT := hidV (upL_at g (k := dg g - 1) (by omega))
    obtain ⟨d, hd⟩ : ∃ d, dg g = d + 1 := ⟨dg g - 1, by omega⟩
    rw [hd] at HDG HSTP HATT HEN HIV HCT hF7 hd5
    rw [show d + 1 - 1 = d by omega] at HSTP HATT HEN HIV HCT hF7
    have HU0 : Hid (upL (mnK g (pw7 (g d) 5) 0) = upL g) := rfl
    obtain ⟨R, HR⟩ : ∃ R, Hid (upL (mon g) = R) := ⟨_, hidV rfl⟩
    rw [HR.out] at HEN hmd ⊢
    obtain ⟨U, HU⟩ : ∃ U, Hid (upL g = U) := ⟨_, hidV rfl⟩
    rw [HU.out] at HDG hgd HCT HU0 ⊢
    obtain ⟨fd, HFD⟩ : ∃ fd, Hid (g d = fd) := ⟨_, hidV rfl⟩
    rw [HFD.out] at HSTP HATT HEN HIV HCT hF7 HU0
    generalize pw7 fd 5 = F at *
    clear hz hd
    go_enter Tryz.func144, Tryz.ntmps144
    go_upto_region 1 with fail
    refine wp_forget (fun W => Blk W w.heap.size (pv U) 76 ∧ Blk W (w.heap.size + 1) (pv z) 76 ∧ Below w.heap.size w W) ⟨Blk.alloc (Blk.new w _ _) _, by rw [hzp]; exact Blk.newAt _ _ _ (by simp), by go_grown⟩ ?_
    rintro W ⟨b1, b2, hbel⟩
    have HH := hidV (And.intro b1 (And.intro b2 hbel))
    clear b1 b2 hbel hzp
    have d0 : (0 : Int) ≤ (d : Int) := by omega
    have d1 : (d : Int) < 5 := by omega
    have hdm : ((((d + 1 : Nat) : Int) - 1) == -1) = false := by rw [beq_eq_false_iff_ne]; omega
    have hdd : (((d + 1 : Nat) : Int) - 1) = (d : Int) := by omega
    rw [hdd] at HDG hdm
    go_upto_region 6 with (first | (refine wpList_load_row (by rfl) 76 _ (by rfl) w.heap.size (by rfl) 76 (pv U) (0, 0) _ (by exact HH.out.1) Tryz.underlying76 (by rfl) (size_poly hgd) ?_) | (go_at_call 132; refine (HDG.out _).mono ?_; rintro e w1 ⟨rfl, hb1⟩; have HB1 := hidV (And.intro (HH.out.2.2.trans (hb1.mono HH.out.2.2.size)) (And.intro (HH.out.1.fr (Fr.of_below (bs := []) hb1) (by simp)) (HH.out.2.1.fr (Fr.of_below (bs := []) hb1) (by simp)))); have hcd : w1.cell? ⟨w.heap.size, d * 7, none⟩ = some (.int .i64 fd) := (by rw [HB1.out.2.1.cell, ← HCT.out]; exact pv_get (by rw [hgd.1]; omega)); clear hb1) | (go_at_call 150; refine (HIV.out _).mono ?_; rintro e w2 ⟨rfl, rfl⟩))
    have HK : Hid (Blk w2 w.heap.size (pv (upL (mnK g F 0))) 76 ∧ Blk w2 (w.heap.size + 1) (pv z) 76 ∧ Below w.heap.size w w2) := ⟨by rw [HU0.out]; exact HB1.out.2.1, HB1.out.2.2, HB1.out.1⟩
    clear HH HB1 hcd
    go_loopg [18] (d + 1) (fun gm v18 wr => ∃ k : Nat, gm = d + 1 - k ∧ k ≤ d + 1 ∧ v18 = .int .i64 k ∧ Hid (Blk wr w.heap.size (pv (upL (mnK g F k))) 76 ∧ Blk wr (w.heap.size + 1) (pv z) 76 ∧ Below w.heap.size w wr))
    case atStart => exact ⟨0, rfl, by omega, rfl, HK⟩
    case round =>
      obtain ⟨k, hgm, hk, rfl, HD⟩ := hrel
      clear HK
      by_cases hkd : k < d + 1
      · have hk5 : k < 5 := by omega
        have HS := hidV (HSTP.out k hk5)
        have hc : wr.cell? ⟨w.heap.size, k * 7, none⟩ = some (.int .i64 (g k)) := by rw [HD.out.1.cell, ← HATT.out k hk5]; exact pv_get (by rw [upL_len]; omega)
        have hfz : wr.frozen? ⟨w.heap.size, k * 7, none⟩ = false := HD.out.1.frozen _
        have hgk := (hg k).1
        have hpb := prod_bd hgk hF7
        have k0 : (0 : Int) ≤ (k : Int) := by omega
        have k1 : (k : Int) < 5 := by omega
        have k2 : (k : Int) < (d : Int) + 1 := by omega
        generalize g k = gk at *
        go_wp2
        refine region_quiet_tail 10 (by kernel_rfl) (by kernel_rfl) ?_
        simp only [List.take_succ_cons, List.take_zero, List.drop_succ_cons, List.drop_zero]
        repeat (first | go_big_quiet_step ((go_at_call 48; exact Calls.quiet_of_same (Mod_any _ _))) | quiet_step ((go_at_call 48; exact Calls.quiet_of_same (Mod_any _ _))))
        refine wpQuiet_nil ?_
        rintro _ ⟨nq, rfl⟩
        go_wp2
        go_roundg (d + 1 - (k + 1))
        case measure => omega
        case rel =>
          refine ⟨k + 1, rfl, by omega, by go_num, ⟨?_, ?_, ?_⟩⟩
          · rw [← HS.out]
            exact Blk.putN (by exact HD.out.1) _ _ _ (by simp)
          · exact Blk.setOther (by exact HD.out.2.1) _ _ (by show ¬ w.heap.size + 1 = w.heap.size; omega)
          · exact Below.setCell (below_drewN HD.out.2.2 nq) (Nat.le_refl _) _
      · have ek : k = d + 1 := by omega
        subst ek
        have k2 : ¬ ((d : Int) + 1 < (d : Int) + 1) := by omega
        have HE : Hid (Blk wr w.heap.size (pv R) 76) := by unfold Hid; rw [← HEN.out]; exact HD.out.1
        go_wp2_with (first | (refine wpList_load_row (by rfl) 76 _ (by rfl) w.heap.size (by rfl) 76 (pv R) (0, 0) _ (by exact HE.out) Tryz.underlying76 (by rfl) (size_poly hmd) ?_) | (refine wpList_store_mid (by rfl) 76 _ _ (by rfl) (w.heap.size + 1) 0 (pv R) (by rfl) (by rfl) (by exact Blk.there HD.out.2.1 (by rw [pv_size, pv_size, hmd.1, hzl]; exact Nat.le_refl _)) (size_poly hmd) (pv_one _) ?_))
        refine bodyPost_ret (results_cell_row Tryz.results144 _ _ (w.heap.size + 1) 76 (pv R) (0, 0) _ (by rfl) (Blk.setAll (by exact HD.out.2.1) _ (by rw [pv_size, pv_size, hmd.1, hzl])) Tryz.underlying76 rfl (size_poly hmd)) rfl ⟨rfl, ?_⟩
        exact Below.setCells HD.out.2.2 _ _ _ (by omega)
end Go.Proofs.YthlmgpllapccfaaGreatDoor
/- THE PROGRAM's POLYNOMIALS WITHOUT u: remainder. -/
namespace Go.Proofs.YthlmgpllapccfaaGreatDoor
open Go.RowKit

theorem plus_up (h : Nat → Nat) {X : Nat} (a : Nat) (hX : X < 5) : plus (upL h) 0 X a = upL (fun j => if j = X then (h X + a) % 7 else h j) := by
  unfold plus
  rw [Nat.add_zero, Nat.mul_comm, upL_at h hX]
  exact upL_set _ _ hX (by simp) (fun i hi => by simp [hi])
theorem sb_plus (q P : Nat → Nat) (f s x : Nat) (h : s + x < 5) (hP : ∀ i, P i < 7) : plus (upL (sb q P f s x)) 0 (s + x) ((-((f : Int) * (q x : Int))) % 7).toNat = upL (sb q P f s (x + 1)) := by
  rw [plus_up _ _ h]
  congr 1
  funext j
  unfold sb
  by_cases e : j = s + x
  · subst e
    rw [if_pos rfl, if_neg (by omega), if_pos (by omega), show s + x - s = x by omega]
    have := hP (s + x)
    generalize (f : Int) * (q x : Int) = F
    omega
  · rw [if_neg e]
    by_cases h1 : s ≤ j ∧ j < s + x
    · rw [if_pos h1, if_pos (by omega)]
    · rw [if_neg h1, if_neg (by omega)]
theorem rem_go {q p : Nat → Nat} {m : Nat} (h : dg q ≤ dg p) : rem q (m + 1) p = rem q m (sb q p (p (dg p - 1) * pw7 (q (dg q - 1)) 5) (dg p - dg q) (dg q)) := by rw [rem, if_pos h]
theorem rem_stop {q p : Nat → Nat} {m : Nat} (h : ¬ dg q ≤ dg p) : rem q m p = p := by
  cases m with
  | zero => rfl
  | succ m => rw [rem, if_neg h]
theorem Plus_up (p p' : List Nat) (x : Nat) (a : Nat) (N X : Int) (w : World) (hp : Good p) (hX : X = x) (hx : x ≤ 4) (hN : N % 7 = ((a % 7 : Nat) : Int)) (h : plus p 0 x a = p') :
    Calls Tryz.prog 82 #[.agg (pv p), .agg #[.int .i64 N, .int .i64 0, .int .i64 X]] w fun e w' => e = .returned (.agg (pv p')) ∧ Below w.heap.size w w' := by
  subst h hX; exact Plus_any p 0 x a N w hp (by omega) hx hN
theorem neg_mod (f v : Nat) : (-(f : Int) * (v : Int)) % 7 = ((((-((f : Int) * (v : Int))) % 7).toNat % 7 : Nat) : Int) := by
  rw [Int.neg_mul]
  generalize (f : Int) * (v : Int) = F
  omega

theorem wpQuiet_ld {P : Program} {ops : Array Oper} {C : World → Prop} {Q : Act → Prop} {a : Act} {o : Oper} {rest : List Oper} (hgd : o.guard = none) (ty : TypeId) (x : Operand) (ho : o.op = .load ty x)
    (b : Nat) (hx : a.eval x = .pointer (some ⟨b, 0, none⟩)) (cs : Array Value) (d : TypeDesc) (hC : ∀ w, C w → w.heap[b]? = some (.cells cs ty (0, 0)))
    (hu : P.underlying ty = some d) (hd : d.isRow = true) (hi : (P.info? ty).map (·.size) = some cs.size) (h : wpQuiet P ops C Q rest (a.put o.dst (.agg cs))) : wpQuiet P ops C Q (o :: rest) a :=
  BigFrame.wpQuiet_want (by unfold Region.wanted; rw [hgd]) (fun K hK => ⟨.agg cs, fun w hw => by
    have hl := run_loadAt_mid (P := P) w b 0 ty cs.toList d (fun j v hv => by rw [Nat.zero_add, cell_of_row w b j cs ty (0, 0) (hC w hw)]; simpa using hv) hu hd (by rw [Array.length_toList]; exact hi)
    unfold Oper.quietAt execOp
    simp only [ho, hx, Sem.run_bind, hl, Result.andThen_ok, Sem.run_pure, Array.toArray_toList]
    exact ⟨rfl, rfl⟩, hK _ h⟩)

set_option maxRecDepth 100000 in
set_option maxHeartbeats 600000 in
theorem remainder_any (p q : Nat → Nat) (w : World) (hp : Vec p) (hq : Vec q) (h0 : dg q ≠ 0) :
    Calls Tryz.prog 143 #[.agg (pv (upL p)), .agg (pv (upL q))] w fun e w' => e = .returned (.agg (pv (upL (rem q 5 p)))) ∧ Below w.heap.size w w' := by
  have hgp : Good (upL p) := upL_good (fun i _ => (hp i).1)
  have hgq : Good (upL q) := upL_good (fun i _ => (hq i).1)
  have hrv := (rem_any hq h0 5 p hp (dg_le p)).1
  have hgr : Good (upL (rem q 5 p)) := upL_good (fun i _ => (hrv i).1)
  obtain ⟨z, HZ, hzl⟩ : ∃ z : List Nat, Hid (z = zeros) ∧ z.length = 35 := ⟨_, hidV rfl, rfl⟩
  have hzp : pv z = pv zeros := by rw [HZ.out]
  have HDP := hidV (Degree_any p)
  have HDQ := hidV (Degree_any q)
  have HQA := hidV (fun (k : Nat) (h : k < 5) => upL_at q h)
  obtain ⟨R, HR⟩ : ∃ R, Hid (upL (rem q 5 p) = R) := ⟨_, hidV rfl⟩
  rw [HR.out] at hgr ⊢
  obtain ⟨U, HU⟩ : ∃ U, Hid (upL p = U) := ⟨_, hidV rfl⟩
  rw [HU.out] at HDP hgp ⊢
  obtain ⟨Q, HQ⟩ : ∃ Q, Hid (upL q = Q) := ⟨_, hidV rfl⟩
  rw [HQ.out] at HDQ hgq HQA ⊢
  clear hrv
  go_enter Tryz.func143, Tryz.ntmps143
  go_upto_region 1 with fail
  refine wp_forget (fun W => Blk W w.heap.size (pv U) 76 ∧ Blk W (w.heap.size + 1) (pv Q) 76 ∧ Blk W (w.heap.size + 1 + 1) (pv z) 76 ∧ Below w.heap.size w W) ⟨Blk.alloc (Blk.alloc (Blk.new w _ _) _) _, Blk.alloc (Blk.newAt _ _ _ (by simp)) _, by rw [hzp]; exact Blk.newAt _ _ _ (by simp), by go_grown⟩ ?_
  rintro W ⟨b1, b2, b3, hbel⟩
  have HH := hidV (And.intro b1 (And.intro b2 (And.intro b3 hbel)))
  clear b1 b2 b3 hbel hzp
  go_upto_region 2 with (first | (refine wpList_load_row (by rfl) 76 _ (by rfl) (w.heap.size + 1) (by rfl) 76 (pv Q) (0, 0) _ (by exact HH.out.2.1) Tryz.underlying76 (by rfl) (size_poly hgq) ?_) | (go_at_call 132; refine (HDQ.out _).mono ?_; rintro e w1 ⟨rfl, hb1⟩; have HB1 := hidV (And.intro (HH.out.1.fr (Fr.of_below (bs := []) hb1) (by simp)) (And.intro (HH.out.2.1.fr (Fr.of_below (bs := []) hb1) (by simp)) (And.intro (HH.out.2.2.1.fr (Fr.of_below (bs := []) hb1) (by simp)) (HH.out.2.2.2.trans (hb1.mono HH.out.2.2.2.size))))); clear hb1))
  clear HH
  go_upto_region 3 with (first | (refine wpList_load_row (by rfl) 76 _ (by rfl) w.heap.size (by rfl) 76 (pv U) (0, 0) _ (by exact HB1.out.1) Tryz.underlying76 (by rfl) (size_poly hgp) ?_) | (go_at_call 132; refine (HDP.out _).mono ?_; rintro e w2 ⟨rfl, hb2⟩; have HB2 := hidV (And.intro (HB1.out.1.fr (Fr.of_below (bs := []) hb2) (by simp)) (And.intro (HB1.out.2.1.fr (Fr.of_below (bs := []) hb2) (by simp)) (And.intro (HB1.out.2.2.1.fr (Fr.of_below (bs := []) hb2) (by simp)) (HB1.out.2.2.2.trans (hb2.mono HB1.out.2.2.2.size))))); clear hb2))
  clear HB1
  obtain ⟨t, ht⟩ : ∃ t, dg q = t + 1 := ⟨dg q - 1, by omega⟩
  have ht5 := dg_le q
  have htt : ((dg q : Nat) : Int) - 1 = (t : Int) := by omega
  rw [htt]
  have HT := hidV ht
  go_loopg [6] (dg p) (fun gm v6 wr => ∃ P : Nat → Nat, ∃ m : Nat, gm = dg P ∧ v6 = .int .i64 (((dg P : Nat) : Int) - 1) ∧ Hid (Vec P ∧ dg P ≤ m ∧ upL (rem q m P) = R) ∧ Hid (Blk wr w.heap.size (pv (upL P)) 76 ∧ Blk wr (w.heap.size + 1) (pv Q) 76 ∧ Blk wr (w.heap.size + 1 + 1) (pv z) 76 ∧ Below w.heap.size w wr))
  case atStart => exact ⟨p, 5, rfl, rfl, ⟨hp, dg_le p, HR.out⟩, by rw [HU.out]; exact HB2⟩
  case round =>
    obtain ⟨P, m, hgm, rfl, HP, HD⟩ := hrel
    clear HB2
    have hP5 := dg_le P
    by_cases hge : dg q ≤ dg P
    · obtain ⟨m', hm'⟩ : ∃ m', m = m' + 1 := ⟨m - 1, by have := HP.out.2.1; omega⟩
      have HRG := hidV (rem_go (q := q) (p := P) (m := m') hge)
      obtain ⟨hs1, hs2, _⟩ := rem_step hq HP.out.1 h0 hge
      have HS2 := hidV (And.intro hs1 hs2)
      have HPV := hidV HP.out.1
      have HRR : Hid (upL (rem q m' (sb q P (P (dg P - 1) * pw7 (q (dg q - 1)) 5) (dg P - dg q) (dg q))) = R) := by unfold Hid; rw [← HRG.out, ← hm']; exact HP.out.2.2
      have HPM : Hid (dg P ≤ m' + 1) := by unfold Hid; rw [← hm']; exact HP.out.2.1
      clear hs1 hs2 HRG HP
      obtain ⟨d, hd⟩ : ∃ d, dg P = d + 1 := ⟨dg P - 1, by omega⟩
      have hdd : ((dg P : Nat) : Int) - 1 = (d : Int) := by omega
      rw [hdd]
      rw [hd, ht] at HRR HS2
      rw [show d + 1 - 1 = d by omega, show t + 1 - 1 = t by omega] at HRR HS2
      obtain ⟨s, hs⟩ : ∃ s, d + 1 - (t + 1) = s ∧ d = s + t := ⟨_, rfl, by omega⟩
      rw [hs.1] at HRR HS2
      have HSD := hidV hs.2
      have hcd : wr.cell? ⟨w.heap.size, d * 7, none⟩ = some (.int .i64 (P d)) := by rw [HD.out.1.cell, ← upL_at P (k := d) (by omega)]; exact pv_get (by rw [upL_len]; omega)
      have hct : wr.cell? ⟨w.heap.size + 1, t * 7, none⟩ = some (.int .i64 (q t)) := by rw [HD.out.2.1.cell, ← HQA.out t (by omega)]; exact pv_get (by rw [hgq.1]; omega)
      have hPd := (HPV.out d).1
      have hqt := (hq t).1
      have HIV := hidV (fun w' => inverse_any (q t) (q t) w' rfl hqt)
      have hi7 := pw7_lt (q t) 5
      have hpb := prod_bd hPd hi7
      have HFI : Hid (((P d : Nat) : Int) * ((pw7 (q t) 5 : Nat) : Int) = ((P d * pw7 (q t) 5 : Nat) : Int)) := by unfold Hid; rw [Int.natCast_mul]
      have hf36 : P d * pw7 (q t) 5 ≤ 36 := by have := HFI.out; omega
      have d0 : (0 : Int) ≤ (d : Int) := by omega
      have d1 : (d : Int) < 5 := by omega
      have t0 : (0 : Int) ≤ (t : Int) := by omega
      have t1 : (t : Int) < 5 := by omega
      have htd : (t : Int) ≤ (d : Int) := by omega
      clear hdd hs hge
      go_wp2
      go_quiet ((go_at_call 150; exact Calls.quiet_of_same (HIV.out _)))
      go_wp2
      rw [HFI.out]
      obtain ⟨f, HFF⟩ : ∃ f, Hid (P d * pw7 (q t) 5 = f) := ⟨_, hidV rfl⟩
      rw [HFF.out]
      rw [HFF.out] at HRR HS2 hf36
      clear HFI hpb hi7 hPd hqt hcd hct HIV
      go_loopg [30] (t + 1) (fun gm v30 wr => ∃ x : Nat, gm = t + 1 - x ∧ x ≤ t + 1 ∧ v30 = .int .i64 x ∧ Hid (Blk wr w.heap.size (pv (upL (sb q P f s x))) 76 ∧ Blk wr (w.heap.size + 1) (pv Q) 76 ∧ Blk wr (w.heap.size + 1 + 1) (pv z) 76 ∧ Below w.heap.size w wr))
      case atStart => exact ⟨0, rfl, by omega, rfl, by rw [sb_zero]; exact ⟨HD.out.1, HD.out.2.1, HD.out.2.2.1, below_drewN HD.out.2.2.2 _⟩⟩
      case round =>
        obtain ⟨x, hgm2, hx, rfl, HE⟩ := hrel
        clear HD
        by_cases hxt : x < t + 1
        · have hsx : s + x < 5 := by have := HSD.out; omega
          have HPL := hidV (sb_plus q P f s x hsx (fun i => (HPV.out i).1))
          have hg1 : Good (upL (sb q P f s x)) := upL_good (fun i _ => (sb_vec (p := q) HPV.out f (by omega : s + x ≤ 5) i).1)
          have hg2 : Good (upL (sb q P f s (x + 1))) := upL_good (fun i _ => (sb_vec (p := q) HPV.out f (by omega : s + (x + 1) ≤ 5) i).1)
          have HNM := hidV (neg_mod f (q x))
          have hcx : wr.cell? ⟨w.heap.size + 1, x * 7, none⟩ = some (.int .i64 (q x)) := by rw [HE.out.2.1.cell, ← HQA.out x (by omega)]; exact pv_get (by rw [hgq.1]; omega)
          have hqx := (hq x).1
          have hfq : (0 : Int) ≤ (f : Int) * (q x : Int) ∧ (f : Int) * (q x : Int) ≤ 216 := by
            have h := Nat.mul_le_mul hf36 (show q x ≤ 6 by omega)
            have h1 : ((f * q x : Nat) : Int) ≤ ((36 * 6 : Nat) : Int) := by exact_mod_cast h
            have h2 : (0 : Int) ≤ ((f * q x : Nat) : Int) := by omega
            rw [Int.natCast_mul] at h1 h2
            exact ⟨h2, by omega⟩
          have hnq : -216 ≤ -(f : Int) * (q x : Int) ∧ -(f : Int) * (q x : Int) ≤ 0 := by rw [Int.neg_mul]; omega
          have x0 : (0 : Int) ≤ (x : Int) := by omega
          have x1 : (x : Int) < 5 := by omega
          have x2 : (x : Int) < (t : Int) + 1 := by omega
          have HXE : Hid ((d : Int) - (t : Int) + (x : Int) = ((s + x : Nat) : Int)) := by unfold Hid; have := HSD.out; omega
          obtain ⟨U1, HU1⟩ : ∃ U1, Hid (upL (sb q P f s x) = U1) := ⟨_, hidV rfl⟩
          obtain ⟨U2, HU2⟩ : ∃ U2, Hid (upL (sb q P f s (x + 1)) = U2) := ⟨_, hidV rfl⟩
          rw [HU1.out] at HPL hg1
          rw [HU2.out] at HPL hg2
          have HB : Hid (Blk wr w.heap.size (pv U1) 76) := by unfold Hid; rw [← HU1.out]; exact HE.out.1
          obtain ⟨qx, HQX⟩ : ∃ qx, Hid (q x = qx) := ⟨_, hidV rfl⟩
          rw [HQX.out] at HPL HNM hcx hqx hfq hnq
          go_wp2
          refine region_quiet_tail 14 (by kernel_rfl) (by kernel_rfl) ?_
          simp only [List.take_succ_cons, List.take_zero, List.drop_succ_cons, List.drop_zero]
          refine wpQuiet_ld (by rfl) 76 _ (by rfl) w.heap.size (by rfl) (pv U1) _ (fun w' hw' => by obtain ⟨m0, rfl⟩ := hw'; exact HB.out) Tryz.underlying76 rfl (size_poly hg1) ?_
          go_frame
          repeat (first | go_big_quiet_step (fail) | quiet_step (fail))
          refine wpQuiet_nil ?_
          rintro _ ⟨nq, rfl⟩
          go_wp2_with (first | (go_at_call 82; refine (Plus_up U1 U2 (s + x) ((-((f : Int) * (qx : Int))) % 7).toNat _ _ _ hg1 (by exact HXE.out) (by omega) (by exact HNM.out) HPL.out).mono ?_; rintro e w3 ⟨rfl, hb3⟩; have HB3 := hidV (((Fr.refl [] wr).drewN nq).trans (Fr.of_below (bs := []) hb3) (by simp)); clear hb3) | (refine wpList_store_mid (by rfl) 76 _ _ (by rfl) w.heap.size 0 (pv U2) (by rfl) (by rfl) (by exact Blk.there (HB.out.fr HB3.out (by simp)) (by rw [pv_size, pv_size, hg2.1, hg1.1]; exact Nat.le_refl _)) (size_poly hg2) (pv_one _) ?_))
          go_roundg (t + 1 - (x + 1))
          case measure => omega
          case rel =>
            have hf := HB3.out
            refine ⟨x + 1, rfl, by omega, by go_num, ?_, ?_, ?_, ?_⟩
            · rw [HU2.out]
              exact Blk.setAll (HB.out.fr hf (by simp)) _ (by rw [pv_size, pv_size, hg2.1, hg1.1])
            · exact Blk.setCellsOther (HE.out.2.1.fr hf (by simp)) _ _ _ (by omega)
            · exact Blk.setCellsOther (HE.out.2.2.1.fr hf (by simp)) _ _ _ (by omega)
            · exact Below.setCells (HE.out.2.2.2.trans (hf.below (B := w.heap.size) HE.out.2.2.2.size (by simp))) _ _ _ (Nat.le_refl _)
        · have ex : x = t + 1 := by omega
          subst ex
          obtain ⟨P2, HP2⟩ : ∃ P2, Hid (sb q P f s (t + 1) = P2) := ⟨_, hidV rfl⟩
          rw [HP2.out] at HRR HS2
          have HE2 : Hid (Blk wr w.heap.size (pv (upL P2)) 76) := by unfold Hid; rw [← HP2.out]; exact HE.out.1
          have hg2 : Good (upL P2) := upL_good (fun i _ => (HS2.out.1 i).1)
          have HDP2 := hidV (Degree_any P2)
          have x2 : ¬ ((t : Int) + 1 < (t : Int) + 1) := by omega
          have HDG : Hid (dg P2 < dg P) := by unfold Hid; rw [hd]; exact HS2.out.2
          obtain ⟨U2, HU2⟩ : ∃ U2, Hid (upL P2 = U2) := ⟨_, hidV rfl⟩
          rw [HU2.out] at HE2 hg2 HDP2
          go_wp2_with (first | (refine wpList_load_row (by rfl) 76 _ (by rfl) w.heap.size (by rfl) 76 (pv U2) (0, 0) _ (by exact HE2.out) Tryz.underlying76 (by rfl) (size_poly hg2) ?_) | (go_at_call 132; refine (HDP2.out _).mono ?_; rintro e w4 ⟨rfl, hb4⟩; have HB4 := hidV (Fr.of_below (bs := []) hb4); clear hb4))
          go_roundg (dg P2)
          case measure => have := HDG.out; omega
          case rel =>
            have hf := HB4.out
            refine ⟨P2, m', rfl, rfl, ⟨HS2.out.1, by have := HDG.out; have := HPM.out; omega, HRR.out⟩, ?_, ?_, ?_, ?_⟩
            · rw [HU2.out]; exact HE2.out.fr hf (by simp)
            · exact HE.out.2.1.fr hf (by simp)
            · exact HE.out.2.2.1.fr hf (by simp)
            · exact HE.out.2.2.2.trans (hf.below (B := w.heap.size) HE.out.2.2.2.size (by simp))
    · have HRS : Hid (upL P = R) := by unfold Hid; rw [← HP.out.2.2, rem_stop hge]
      have HE : Hid (Blk wr w.heap.size (pv R) 76) := by unfold Hid; rw [← HRS.out]; exact HD.out.1
      have htd : ¬ (t : Int) ≤ ((dg P : Nat) : Int) - 1 := by omega
      generalize dg P = DP at *
      go_wp2_with (first | (refine wpList_load_row (by rfl) 76 _ (by rfl) w.heap.size (by rfl) 76 (pv R) (0, 0) _ (by exact HE.out) Tryz.underlying76 (by rfl) (size_poly hgr) ?_) | (refine wpList_store_mid (by rfl) 76 _ _ (by rfl) (w.heap.size + 1 + 1) 0 (pv R) (by rfl) (by rfl) (by exact Blk.there HD.out.2.2.1 (by rw [pv_size, pv_size, hgr.1, hzl]; exact Nat.le_refl _)) (size_poly hgr) (pv_one _) ?_))
      refine bodyPost_ret (results_cell_row Tryz.results143 _ _ (w.heap.size + 1 + 1) 76 (pv R) (0, 0) _ (by rfl) (Blk.setAll (by exact HD.out.2.2.1) _ (by rw [pv_size, pv_size, hgr.1, hzl])) Tryz.underlying76 rfl (size_poly hgr)) rfl ⟨rfl, ?_⟩
      exact Below.setCells HD.out.2.2.2 _ _ _ (by omega)
end Go.Proofs.YthlmgpllapccfaaGreatDoor
/- THE PROGRAM's POLYNOMIALS WITHOUT u: Divisor. -/
namespace Go.Proofs.YthlmgpllapccfaaGreatDoor
open Go.RowKit

/-- A region that draws its order, whose first n operations yield the same in every world of a class, and stay in it: the rest forced behind them. -/
theorem region_class_tail {P : Program} {id : Nat} {Q : Exit → Act → World → Prop} {a : Act} {w : World} {l : List Oper} (C : World → Prop) (hC : C w.drew) (n : Nat) (hm : P.follows .mixedOrders = true) (hB : Region.lexTailB .any l.toArray n = true)
    (h : wpQuiet P l.toArray C (fun a' => ∀ w', C w' → wpList P l.toArray Q (l.drop n) a' w') (l.take n) a) : (Code.region id l.toArray true).wp P Q a w := by
  simp only [Region.lexTailB, Bool.and_eq_true, decide_eq_true_eq] at hB
  obtain ⟨⟨⟨⟨hsel, hn⟩, hs⟩, hc⟩, hlex⟩ := hB
  have htl : (l.take n).length = n := by simp only [List.size_toArray] at hn; simp; omega
  have hdl : (l.drop n).length = l.toArray.size - n := by simp
  have H := headQ_lex (md := .any) (g := l.toArray.size - n) hsel hs hc hn (l.take n) 0 (Array.replicate l.toArray.size false) a (fun j hj => by
      rw [htl] at hj
      simp [hj]) (by omega)
    ⟨by simp, fun j oj _ hl => by rw [getD_replicate_false] at hl; exact absurd hl Bool.false_ne_true, fun t _ ht => getD_in (by simpa using ht) (getD_replicate_false _ _)⟩
    (by rw [htl]; exact hlex) h
  refine wp_region_any hm ?_
  have K := any_of_headQ (Q := Q) (g := l.toArray.size - n) (fun listed a' w' hw' hL => by
    have := wpAny_of_seq (md := .any) (Q' := Q) (l.drop n) n listed a' w' (fun j => by simp [List.getElem?_drop]) (by rw [hdl]; exact hL.1) (hL.2 w' hw')
    rwa [hdl] at this) _ _ _ { w with drawn := w.drawn + 1 } hC H
  rw [htl, show n + (l.toArray.size - n) = l.toArray.size by omega] at K
  exact K
theorem wpQuiet_calls {P : Program} {ops : Array Oper} {C : World → Prop} {Q : Act → Prop} {a : Act} {o : Oper} {rest : List Oper} (hgd : o.guard = none) (f : FuncId) (vs : Array Value) (v : Value) (hr : ∀ w, (execOp a.eval o).run P w = .ok (.enter f vs) w)
    (hc : ∀ w, C w → Calls P f vs w (fun e w' => e = .returned v ∧ C w')) (h : wpQuiet P ops C Q rest (a.put o.dst v)) : wpQuiet P ops C Q (o :: rest) a :=
  BigFrame.wpQuiet_want (by unfold Region.wanted; rw [hgd]) (fun K hK => ⟨v, fun w hw => by
    unfold Oper.quietAt
    rw [hr w]
    exact ⟨rfl, hc w hw⟩, hK _ h⟩)
theorem upL_zeros {g : Nat → Nat} (hg : Vec g) : upL g = zeros ↔ dg g = 0 := by
  constructor
  · intro h
    refine dg_zero (fun y hy => ?_)
    have := congrArg (fun l => l.getD (y * 7) 0) h
    rw [upL_at g hy] at this
    rw [this]
    match y, hy with
    | 0, _ => rfl
    | 1, _ => rfl
    | 2, _ => rfl
    | 3, _ => rfl
    | 4, _ => rfl
  · intro h
    unfold upL
    rw [dg_above hg (n := 0) (by omega), dg_above hg (n := 1) (by omega), dg_above hg (n := 2) (by omega), dg_above hg (n := 3) (by omega), dg_above hg (n := 4) (by omega)]
    rfl

theorem gc_stop {m : Nat} {P Q : Nat → Nat} (h : dg Q = 0) : gc m P Q = P := by
  cases m with
  | zero => rfl
  | succ m => rw [gc, if_pos h]
theorem gc_go {m : Nat} {P Q : Nat → Nat} (h : dg Q ≠ 0) : gc (m + 1) P Q = gc m Q (rem Q 5 P) := by rw [gc, if_neg h]

set_option maxRecDepth 100000 in
set_option maxHeartbeats 800000 in
theorem Divisor_any (p q : Nat → Nat) (w : World) (hp : Vec p) (hq : Vec q) :
    Calls Tryz.prog 140 #[.agg (pv (upL p)), .agg (pv (upL q))] w fun e w' => e = .returned (.agg (pv (upL (gcd2 p q)))) ∧ Below w.heap.size w w' := by
  have hgr : Good (upL (gcd2 p q)) := upL_good (fun i _ => ((gcd2_any hp hq).1 i).1)
  have hgp : Good (upL p) := upL_good (fun i _ => (hp i).1)
  have hgq : Good (upL q) := upL_good (fun i _ => (hq i).1)
  obtain ⟨z, HZ, hzl⟩ : ∃ z : List Nat, Hid (z = zeros) ∧ z.length = 35 := ⟨_, hidV rfl, rfl⟩
  have hzp : pv z = pv zeros := by rw [HZ.out]
  obtain ⟨R, HR⟩ : ∃ R, Hid (upL (gcd2 p q) = R) := ⟨_, hidV rfl⟩
  rw [HR.out] at hgr ⊢
  obtain ⟨U, HU⟩ : ∃ U, Hid (upL p = U) := ⟨_, hidV rfl⟩
  rw [HU.out] at hgp ⊢
  obtain ⟨Q0, HQ⟩ : ∃ Q, Hid (upL q = Q) := ⟨_, hidV rfl⟩
  rw [HQ.out] at hgq ⊢
  go_enter Tryz.func140, Tryz.ntmps140
  go_upto_region 1 with fail
  refine wp_forget (fun W => Blk W w.heap.size (pv U) 76 ∧ Blk W (w.heap.size + 1) (pv Q0) 76 ∧ Blk W (w.heap.size + 1 + 1) (pv z) 76 ∧ Below w.heap.size w W) ⟨Blk.alloc (Blk.alloc (Blk.new w _ _) _) _, Blk.alloc (Blk.newAt _ _ _ (by simp)) _, by rw [hzp]; exact Blk.newAt _ _ _ (by simp), by go_grown⟩ ?_
  rintro W ⟨b1, b2, b3, hbel⟩
  have HH := hidV (And.intro b1 (And.intro b2 (And.intro b3 hbel)))
  clear b1 b2 b3 hbel hzp
  go_loopg [5] (dg q) (fun gm v5 wr => ∃ P Q : Nat → Nat, ∃ m : Nat, gm = dg Q ∧ Hid (Vec P ∧ Vec Q ∧ dg Q ≤ m ∧ upL (mon (gc m P Q)) = R) ∧ Hid (Blk wr w.heap.size (pv (upL P)) 76 ∧ Blk wr (w.heap.size + 1) (pv (upL Q)) 76 ∧ Blk wr (w.heap.size + 1 + 1) (pv z) 76 ∧ Below w.heap.size w wr))
  case atStart => exact ⟨p, q, 5, rfl, ⟨hp, hq, dg_le q, HR.out⟩, by rw [HU.out, HQ.out]; exact HH⟩
  case round =>
    obtain ⟨P, Q, m, hgm, HP, HD⟩ := hrel
    clear HH W
    have hgP : Good (upL P) := upL_good (fun i _ => (HP.out.1 i).1)
    have hgQ : Good (upL Q) := upL_good (fun i _ => (HP.out.2.1 i).1)
    by_cases hz : dg Q = 0
    · have hne := fun (w' : World) => (poly_eq_zero (upL Q) w' hgQ).trans (congrArg (fun b => Result.ok b w') (decide_eq_true ((upL_zeros HP.out.2.1).2 hz)))
      have HRS : Hid (upL (mon P) = R) := by unfold Hid; rw [← HP.out.2.2.2, gc_stop hz]
      have HMO := hidV (fun w' => monic_any P w' HP.out.1)
      rw [HRS.out] at HMO
      have HE := hidV (And.intro HD.out.1 HD.out.2.1)
      obtain ⟨UP, HUP⟩ : ∃ U, Hid (upL P = U) := ⟨_, hidV rfl⟩
      obtain ⟨UQ, HUQ⟩ : ∃ U, Hid (upL Q = U) := ⟨_, hidV rfl⟩
      rw [HUP.out] at HE HMO hgP
      rw [HUQ.out] at HE hne hgQ
      go_wp2_with (first | (refine wpList_load_row (by rfl) 76 _ (by rfl) (w.heap.size + 1) (by rfl) 76 (pv UQ) (0, 0) _ (by exact HE.out.2) Tryz.underlying76 (by rfl) (size_poly hgQ) ?_) | (refine wpList_load_row (by rfl) 76 _ (by rfl) w.heap.size (by rfl) 76 (pv UP) (0, 0) _ (by exact HE.out.1) Tryz.underlying76 (by rfl) (size_poly hgP) ?_) | (go_at_call 144; refine (HMO.out _).mono ?_; rintro e w4 ⟨rfl, hb4⟩; have HB4 := hidV hb4; have HZ4 := hidV (HD.out.2.2.1.fr (Fr.of_below (bs := []) hb4) (by simp)); clear hb4) | (refine wpList_store_mid (by rfl) 76 _ _ (by rfl) (w.heap.size + 1 + 1) 0 (pv R) (by rfl) (by rfl) (by exact Blk.there HZ4.out (by rw [pv_size, pv_size, hgr.1, hzl]; exact Nat.le_refl _)) (size_poly hgr) (pv_one _) ?_))
      refine bodyPost_ret (results_cell_row Tryz.results140 _ _ (w.heap.size + 1 + 1) 76 (pv R) (0, 0) _ (by rfl) (Blk.setAll (by exact HZ4.out) _ (by rw [pv_size, pv_size, hgr.1, hzl])) Tryz.underlying76 rfl (size_poly hgr)) rfl ⟨rfl, ?_⟩
      exact Below.setCells (HD.out.2.2.2.trans (HB4.out.mono HD.out.2.2.2.size)) _ _ _ (by omega)
    · have hne := fun (w' : World) => (poly_eq_zero (upL Q) w' hgQ).trans (congrArg (fun b => Result.ok b w') (decide_eq_false (fun h => hz ((upL_zeros HP.out.2.1).1 h))))
      obtain ⟨m', hm'⟩ : ∃ m', m = m' + 1 := ⟨m - 1, by have := HP.out.2.2.1; omega⟩
      obtain ⟨r1, r2, _⟩ := rem_any HP.out.2.1 hz 5 P HP.out.1 (dg_le P)
      have HRM := hidV (And.intro r1 r2)
      have HRR : Hid (upL (mon (gc m' Q (rem Q 5 P))) = R) := by unfold Hid; rw [← gc_go hz, ← hm']; exact HP.out.2.2.2
      have HMM : Hid (dg Q ≤ m' + 1) := by unfold Hid; rw [← hm']; exact HP.out.2.2.1
      have hgR : Good (upL (rem Q 5 P)) := upL_good (fun i _ => (r1 i).1)
      have HRE := hidV (fun w' => remainder_any P Q w' HP.out.1 HP.out.2.1 hz)
      have HPQ := hidV (And.intro HP.out.1 HP.out.2.1)
      have HE := hidV (And.intro HD.out.1 HD.out.2.1)
      clear r1 r2 HP
      obtain ⟨UP, HUP⟩ : ∃ U, Hid (upL P = U) := ⟨_, hidV rfl⟩
      obtain ⟨UQ, HUQ⟩ : ∃ U, Hid (upL Q = U) := ⟨_, hidV rfl⟩
      obtain ⟨UR, HUR⟩ : ∃ U, Hid (upL (rem Q 5 P) = U) := ⟨_, hidV rfl⟩
      rw [HUR.out] at HRE hgR
      rw [HUP.out] at HE HRE hgP
      rw [HUQ.out] at HE HRE hne hgQ
      go_wp2_with (first | (refine wpList_load_row (by rfl) 76 _ (by rfl) (w.heap.size + 1) (by rfl) 76 (pv UQ) (0, 0) _ (by exact HE.out.2) Tryz.underlying76 (by rfl) (size_poly hgQ) ?_))
      refine region_class_tail (fun w' => Fr [] wr w') ((Fr.refl [] wr).drew) 4 (by kernel_rfl) (by kernel_rfl) ?_
      simp only [List.take_succ_cons, List.take_zero, List.drop_succ_cons, List.drop_zero]
      refine wpQuiet_ld (by rfl) 76 _ (by rfl) (w.heap.size + 1) (by rfl) (pv UQ) _ (fun w' hw' => HE.out.2.fr hw' (by simp)) Tryz.underlying76 rfl (size_poly hgQ) ?_
      go_frame
      refine wpQuiet_ld (by rfl) 76 _ (by rfl) w.heap.size (by rfl) (pv UP) _ (fun w' hw' => HE.out.1.fr hw' (by simp)) Tryz.underlying76 rfl (size_poly hgP) ?_
      go_frame
      refine wpQuiet_ld (by rfl) 76 _ (by rfl) (w.heap.size + 1) (by rfl) (pv UQ) _ (fun w' hw' => HE.out.2.fr hw' (by simp)) Tryz.underlying76 rfl (size_poly hgQ) ?_
      go_frame
      refine wpQuiet_calls (by rfl) 143 #[.agg (pv UP), .agg (pv UQ)] (.agg (pv UR)) (fun w' => by go_simp) (fun w' hw' => (HRE.out w').mono (fun e w'' h => ⟨h.1, hw'.trans (Fr.of_below (bs := []) h.2) (by simp)⟩)) ?_
      go_frame
      refine wpQuiet_nil ?_
      intro w3 hw3
      have HW3 := hidV hw3
      clear hw3
      go_wp2_with (first | (refine wpList_store_mid (by rfl) 76 _ _ (by rfl) w.heap.size 0 (pv UQ) (by rfl) (by rfl) (by exact Blk.there (HE.out.1.fr HW3.out (by simp)) (by rw [pv_size, pv_size, hgQ.1, hgP.1]; exact Nat.le_refl _)) (size_poly hgQ) (pv_one _) ?_) | (refine wpList_store_mid (by rfl) 76 _ _ (by rfl) (w.heap.size + 1) 0 (pv UR) (by rfl) (by rfl) (by exact Blk.there (Blk.setCellsOther (HE.out.2.fr HW3.out (by simp)) _ _ _ (by omega)) (by rw [pv_size, pv_size, hgR.1, hgQ.1]; exact Nat.le_refl _)) (size_poly hgR) (pv_one _) ?_))
      go_roundg (dg (rem Q 5 P))
      case measure => have := HRM.out.2; omega
      case rel =>
        have hf := HW3.out
        refine ⟨Q, rem Q 5 P, m', rfl, ⟨HPQ.out.2, HRM.out.1, by have := HRM.out.2; have := HMM.out; omega, HRR.out⟩, ?_, ?_, ?_, ?_⟩
        · rw [HUQ.out]
          exact Blk.setCellsOther (Blk.setAll (HE.out.1.fr hf (by simp)) _ (by rw [pv_size, pv_size, hgQ.1, hgP.1])) _ _ _ (by omega)
        · rw [HUR.out]
          exact Blk.setAll (Blk.setCellsOther (HE.out.2.fr hf (by simp)) _ _ _ (by omega)) _ (by rw [pv_size, pv_size, hgR.1, hgQ.1])
        · exact Blk.setCellsOther (Blk.setCellsOther (HD.out.2.2.1.fr hf (by simp)) _ _ _ (by omega)) _ _ _ (by omega)
        · exact Below.setCells (Below.setCells (HD.out.2.2.2.trans (hf.below (B := w.heap.size) HD.out.2.2.2.size (by simp))) _ _ _ (Nat.le_refl _)) _ _ _ (by omega)
end Go.Proofs.YthlmgpllapccfaaGreatDoor
/- THE PROGRAM's SYSTEMS: Divisor. -/
namespace Go.Proofs.YthlmgpllapccfaaGreatDoor
open Go.RowKit

def gK (ls : List (Nat → Nat)) (k : Nat) : Nat → Nat := (ls.take k).foldl gcd2 zv
theorem gK_step (ls : List (Nat → Nat)) {k : Nat} (h : k < ls.length) : gK ls (k + 1) = gcd2 (gK ls k) (ls.getD k zv) := by
  unfold gK
  rw [List.take_succ_eq_append_getElem h, List.foldl_append, List.getD_eq_getElem?_getD, List.getElem?_eq_getElem h]; rfl
theorem gK_end (ls : List (Nat → Nat)) : gK ls ls.length = gall ls := by unfold gK gall; rw [List.take_length]
theorem gK_vec {ls : List (Nat → Nat)} (h : ∀ l ∈ ls, Vec l) (k : Nat) : Vec (gK ls k) := (gall_any (ls.take k) (fun l hl => h l (List.mem_of_mem_take hl))).1
theorem wpList_load_pp {ops : Array Oper} {rest : List Oper} {op : Oper} {a : Act} {w : World} {Q : Exit → Act → World → Prop} (hgd : op.guard = none) (x : Operand) (ho : op.op = .load 76 x)
    (b o : Nat) (hx : a.eval x = .pointer (some ⟨b, o, none⟩)) (p : List Nat) (hp : Good p) (hc : w.rangeAt b o (pv p).toList)
    (h : wpList Tryz.prog ops Q rest (a.put op.dst (.agg (pv p))) w) : wpList Tryz.prog ops Q (op :: rest) a w :=
  wpList_load_mid hgd 76 x ho b o hx (pv p).toList _ hc Tryz.underlying76 rfl (by rw [Array.length_toList]; exact size_poly hp) (by rw [Array.toArray_toList]; exact h)
theorem wpQuiet_mv {P : Program} {ops : Array Oper} {C : World → Prop} {Q : Act → Prop} {a : Act} {o : Oper} {rest : List Oper} (hgd : o.guard = none) (x : Operand) (ho : o.op = .move x) (h : wpQuiet P ops C Q rest (a.put o.dst (a.eval x))) : wpQuiet P ops C Q (o :: rest) a :=
  BigFrame.wpQuiet_want (by unfold Region.wanted; rw [hgd]) (fun K hK => BigFrame.quiet_move x ho (hK _ h))

set_option maxRecDepth 100000 in
set_option maxHeartbeats 800000 in
theorem SysDivisor_any (ps : List (List Nat)) (g cap N a : Nat) (A : Int) (w : World) (hps : Goods ps) (hN : ps.length = N) (hl : N ≤ 4) (hA : A % 7 = a) (ha : a < 7) (hm : Sy w g ps) :
    Calls Tryz.prog 138 #[.slice (some ⟨g, 0, none⟩) N cap, .int .i64 A] w fun e w' => e = .returned (.agg (pv (upL (gall (lins a ps))))) ∧ Below w.heap.size w w' := by
  have HM := hidV hm
  have hgw := hm.1
  have HV := hidV (lins_vec a ps)
  have HNN := hidV hN
  have HAA := hidV hA
  have hgr : Good (upL (gall (lins a ps))) := upL_good (fun i _ => ((gall_any _ (lins_vec a ps)).1 i).1)
  obtain ⟨R, HR⟩ : ∃ R, Hid (upL (gall (lins a ps)) = R) := ⟨_, hidV rfl⟩
  rw [HR.out] at hgr ⊢
  obtain ⟨z, HZ, hzl⟩ : ∃ z : List Nat, Hid (z = zeros) ∧ z.length = 35 := ⟨_, hidV rfl, rfl⟩
  have hzp : pv z = pv zeros := by rw [HZ.out]
  have HG0 : Hid (upL (gK (lins a ps) 0) = zeros) := rfl
  clear hm hN hA
  go_enter Tryz.func138, Tryz.ntmps138
  go_upto_region 2 with fail
  refine wp_forget (fun W => Blk W w.heap.size (pv z) 76 ∧ Blk W (w.heap.size + 1) (pv (upL (gK (lins a ps) 0))) 76 ∧ Sy W g ps ∧ Below w.heap.size w W) ⟨by rw [hzp]; exact Blk.alloc (Blk.new w _ _) _, by rw [HG0.out]; exact Blk.newAt _ _ _ (by simp), HM.out.fr (Fr.alloc (Fr.alloc (Fr.refl [] w) _) _) (by simp), by go_grown⟩ ?_
  rintro W ⟨b1, b2, b3, hbel⟩
  have HH := hidV (And.intro b1 (And.intro b2 (And.intro b3 hbel)))
  clear b1 b2 b3 hbel hzp HM
  go_wp2
  go_loopg [10] N (fun gm v10 wr => ∃ i : Nat, gm = N - i ∧ i ≤ N ∧ v10 = .int .i64 i ∧ Hid (Blk wr w.heap.size (pv z) 76 ∧ Blk wr (w.heap.size + 1) (pv (upL (gK (lins a ps) i))) 76 ∧ Sy wr g ps ∧ Below w.heap.size w wr))
  case atStart => exact ⟨0, rfl, by omega, rfl, HH⟩
  case round =>
    obtain ⟨i, hgm, hi, rfl, HD⟩ := hrel
    clear HH W
    by_cases h5 : i < N
    · have hil : i < ps.length := by rw [HNN.out]; exact h5
      have HRG := hidV (HD.out.2.2.1.2 i hil)
      have hgp := hps.at hil
      have HST := hidV (gK_step (lins a ps) (k := i) (by rw [lins_len]; exact hil))
      rw [lins_at a ps hil] at HST
      have hg1 : Good (upL (gK (lins a ps) i)) := upL_good (fun j _ => (gK_vec HV.out i j).1)
      have hg3 : Good (upL (gK (lins a ps) (i + 1))) := upL_good (fun j _ => (gK_vec HV.out (i + 1) j).1)
      have hg2 := lnF_good a (ps.getD i [])
      have HAT := hidV (fun w' => At_any (ps.getD i []) A a w' hgp HAA.out ha)
      have HDI := hidV (fun w' => Divisor_any (gK (lins a ps) i) (lnF a (ps.getD i [])) w' (gK_vec HV.out i) (lnF_vec a _))
      rw [← HST.out] at HDI
      have i0 : (0 : Int) ≤ (i : Int) := by omega
      have i1 : (i : Int) < (N : Int) := by omega
      obtain ⟨p, HP⟩ : ∃ p, Hid (ps.getD i [] = p) := ⟨_, hidV rfl⟩
      rw [HP.out] at HRG hgp hg2 HAT HDI
      obtain ⟨U1, HU1⟩ : ∃ U, Hid (upL (gK (lins a ps) i) = U) := ⟨_, hidV rfl⟩
      obtain ⟨U2, HU2⟩ : ∃ U, Hid (upL (lnF a p) = U) := ⟨_, hidV rfl⟩
      obtain ⟨U3, HU3⟩ : ∃ U, Hid (upL (gK (lins a ps) (i + 1)) = U) := ⟨_, hidV rfl⟩
      rw [HU1.out] at HDI hg1
      rw [HU2.out] at HAT HDI hg2
      rw [HU3.out] at HDI hg3
      have HB1 : Hid (Blk wr (w.heap.size + 1) (pv U1) 76) := by unfold Hid; rw [← HU1.out]; exact HD.out.2.1
      go_upto_region 5 with (first | (refine wpList_load_pp (by rfl) _ (by rfl) g (i * 35) (by rfl) p hgp (by exact HRG.out) ?_) | (refine wpList_store_mid (by rfl) 76 _ _ (by rfl) wr.heap.size 0 (pv p) (by rfl) (by rfl) (by exact Blk.there (Blk.new wr _ _) (by rw [pv_size, hgp.1]; decide)) (size_poly hgp) (pv_one _) ?_))
      refine wp_forget (fun V => Blk V wr.heap.size (pv p) 76 ∧ Blk V (w.heap.size + 1) (pv U1) 76 ∧ Fr [] wr V) ?_ ?_
      · have hl2 := HB1.out.lt
        have hf0 : Fr [wr.heap.size] wr ((wr.alloc (.cells (pv zeros) 76)).setCells wr.heap.size 0 (pv p).toList) := Fr.setCells (Fr.alloc (Fr.refl _ _) _) _ _ _ (Or.inl (by simp))
        exact ⟨Blk.setAll (Blk.new wr _ _) _ (by rw [pv_size, hgp.1]; rfl), HB1.out.fr hf0 (by simp; omega), hf0.mono (by simp)⟩
      rintro V ⟨v1, v2, v3⟩
      have HVV := hidV (And.intro v1 (And.intro v2 v3))
      have hBl : w.heap.size + 1 < wr.heap.size := HB1.out.lt
      clear v1 v2 v3 HB1 HRG
      obtain ⟨B, HBB⟩ : ∃ B, Hid (wr.heap.size = B) := ⟨_, hidV rfl⟩
      rw [HBB.out] at HVV hBl ⊢
      refine region_class_tail (fun w' => Fr [] V w') ((Fr.refl [] V).drew) 5 (by kernel_rfl) (by kernel_rfl) ?_
      simp only [List.take_succ_cons, List.take_zero, List.drop_succ_cons, List.drop_zero]
      refine wpQuiet_ld (by rfl) 76 _ (by rfl) (w.heap.size + 1) (by rfl) (pv U1) _ (fun w' hw' => HVV.out.2.1.fr hw' (by simp)) Tryz.underlying76 rfl (size_poly hg1) ?_
      go_frame
      refine wpQuiet_ld (by rfl) 76 _ (by rfl) B (by rfl) (pv p) _ (fun w' hw' => HVV.out.1.fr hw' (by simp)) Tryz.underlying76 rfl (size_poly hgp) ?_
      go_frame
      refine wpQuiet_mv (by rfl) _ (by rfl) ?_
      go_frame
      refine wpQuiet_calls (by rfl) 47 #[.agg (pv p), .int .i64 A] (.agg (pv U2)) (fun w' => by go_simp) (fun w' hw' => (HAT.out w').mono (fun e w'' h => ⟨h.1, hw'.trans (Fr.of_below (bs := []) h.2) (by simp)⟩)) ?_
      go_frame
      refine wpQuiet_calls (by rfl) 140 #[.agg (pv U1), .agg (pv U2)] (.agg (pv U3)) (fun w' => by go_simp) (fun w' hw' => (HDI.out w').mono (fun e w'' h => ⟨h.1, hw'.trans (Fr.of_below (bs := []) h.2) (by simp)⟩)) ?_
      go_frame
      refine wpQuiet_nil ?_
      intro w3 hw3
      have HW3 := hidV hw3
      clear hw3
      go_wp2_with (refine wpList_store_mid (by rfl) 76 _ _ (by rfl) (w.heap.size + 1) 0 (pv U3) (by rfl) (by rfl) (by exact Blk.there (HVV.out.2.1.fr HW3.out (by simp)) (by rw [pv_size, pv_size, hg3.1, hg1.1]; exact Nat.le_refl _)) (size_poly hg3) (pv_one _) ?_)
      go_roundg (N - (i + 1))
      case measure => omega
      case rel =>
        have hf := HVV.out.2.2.trans HW3.out (by simp)
        have hf2 : Fr [w.heap.size + 1] wr (w3.setCells (w.heap.size + 1) 0 (pv U3).toList) := Fr.setCells (hf.mono (by simp)) _ _ _ (Or.inl (by simp))
        refine ⟨i + 1, rfl, by omega, by go_num, HD.out.1.fr hf2 (by simp), ?_, HD.out.2.2.1.fr hf2 (by have := HD.out.2.2.2.size; simp; omega), ?_⟩
        · rw [HU3.out]
          exact Blk.setAll (HVV.out.2.1.fr HW3.out (by simp)) _ (by rw [pv_size, pv_size, hg3.1, hg1.1])
        · exact HD.out.2.2.2.trans (hf2.below (B := w.heap.size) HD.out.2.2.2.size (by simp))
    · have ei : i = N := by omega
      have HE : Hid (Blk wr (w.heap.size + 1) (pv R) 76) := by
        unfold Hid
        rw [← HR.out, ← gK_end, lins_len, HNN.out, ← ei]; exact HD.out.2.1
      have i1 : ¬ (i : Int) < (N : Int) := by omega
      clear ei
      go_wp2_with (first | (refine wpList_load_row (by rfl) 76 _ (by rfl) (w.heap.size + 1) (by rfl) 76 (pv R) (0, 0) _ (by exact HE.out) Tryz.underlying76 (by rfl) (size_poly hgr) ?_) | (refine wpList_store_mid (by rfl) 76 _ _ (by rfl) w.heap.size 0 (pv R) (by rfl) (by rfl) (by exact Blk.there HD.out.1 (by rw [pv_size, pv_size, hgr.1, hzl]; exact Nat.le_refl _)) (size_poly hgr) (pv_one _) ?_))
      refine bodyPost_ret (results_cell_row Tryz.results138 _ _ w.heap.size 76 (pv R) (0, 0) _ (by rfl) (Blk.setAll (by exact HD.out.1) _ (by rw [pv_size, pv_size, hgr.1, hzl])) Tryz.underlying76 rfl (size_poly hgr)) rfl ⟨rfl, ?_⟩
      exact Below.setCells HD.out.2.2.2 _ _ _ (Nat.le_refl _)
end Go.Proofs.YthlmgpllapccfaaGreatDoor
/- THE LIBRARY's CONTRACTS THAT THE PROOFS TAKE, laid at this dump in plain words by the kit's own commands (wip/shelf.py keeps those that are wanted). -/
namespace Go.Proofs
open Go.Shelf
def Tryz.lays156_ren : Go.Shelf.Ren := ⟨fun | 156 => 142 | 165 => 147 | 166 => 148 | 169 => 149 | 240 => 152 | 241 => 153 | 276 => 155 | 277 => 156 | n => n, fun | 31 => 52 | 9 => 9 | 3 => 3 | 4 => 4 | 0 => 0 | 20 => 20 | 72 => 238 | 76 => 240 | 70 => 236 | 37 => 73 | 75 => 127 | 127 => 227 | 164 => 174 | 5 => 5 | 80 => 32 | n => n, fun | n => n⟩
theorem Tryz.lays156 : Go.Proofs.Lays.n156 Tryz.prog Tryz.lays156_ren := {
  mixed := by kernel_rfl
  f156 := Tryz.func142.trans (congrArg some (by kernel_rfl))
  f165 := Tryz.func147.trans (congrArg some (by kernel_rfl))
  f166 := Tryz.func148.trans (congrArg some (by kernel_rfl))
  f169 := Tryz.func149.trans (congrArg some (by kernel_rfl))
  f240 := Tryz.func152.trans (congrArg some (by kernel_rfl))
  f241 := Tryz.func153.trans (congrArg some (by kernel_rfl))
  f276 := Tryz.func155.trans (congrArg some (by kernel_rfl))
  f277 := Tryz.func156.trans (congrArg some (by kernel_rfl))
  t0 := Tryz.underlying0
  a0 := Tryz.isAgg0
  z0 := Tryz.sizeOf0
  v0 := Tryz.zeroValue0
  t3 := Tryz.underlying3
  a3 := Tryz.isAgg3
  z3 := Tryz.sizeOf3
  v3 := Tryz.zeroValue3
  t4 := Tryz.underlying4
  a4 := Tryz.isAgg4
  z4 := Tryz.sizeOf4
  v4 := Tryz.zeroValue4
  t9 := Tryz.underlying9
  a9 := Tryz.isAgg9
  z9 := Tryz.sizeOf9
  v9 := Tryz.zeroValue9
  t20 := Tryz.underlying20
  a20 := Tryz.isAgg20
  z20 := Tryz.sizeOf20
  v20 := Tryz.zeroValue20
  t31 := Tryz.underlying52
  a31 := Tryz.isAgg52
  z31 := Tryz.sizeOf52
  v31 := Tryz.zeroValue52
  t37 := Tryz.underlying73
  a37 := Tryz.isAgg73
  z37 := Tryz.sizeOf73
  v37 := Tryz.zeroValue73
  t70 := Tryz.underlying236
  a70 := Tryz.isAgg236
  z70 := Tryz.sizeOf236
  v70 := Tryz.zeroValue236
  t72 := Tryz.underlying238
  a72 := Tryz.isAgg238
  z72 := Tryz.sizeOf238
  v72 := Tryz.zeroValue238
  t75 := Tryz.underlying127
  a75 := Tryz.isAgg127
  z75 := Tryz.sizeOf127
  v75 := Tryz.zeroValue127
  t76 := Tryz.underlying240
  a76 := Tryz.isAgg240
  z76 := Tryz.sizeOf240
  v76 := Tryz.zeroValue240
  t127 := Tryz.underlying227
  a127 := Tryz.isAgg227
  z127 := Tryz.sizeOf227
  v127 := Tryz.zeroValue227
  t164 := Tryz.underlying174
  a164 := Tryz.isAgg174
  z164 := Tryz.sizeOf174
  v164 := Tryz.zeroValue174 }
theorem Tryz.Builder_Extra_156 : Builder.Extra Tryz.prog Tryz.lays156_ren := {
  sizeBuilder := by kernel_rfl
  liesBuilder := by kernel_rfl
  t5 := Tryz.underlying5
  a5 := Tryz.isAgg5
  z5 := Tryz.sizeOf5
  v5 := Tryz.zeroValue5
  infoByte := by kernel_rfl
  cellsByte := by kernel_rfl
  sizeByte := by kernel_rfl
  neB5 := by decide }
open Go.RowKit in
theorem Tryz.strings_Join_none (a : Option Addr) (c : Nat) (sep : ByteArray) (w : World) :
    Calls Tryz.prog 142 #[.slice a 0 c, .string sep] w fun e w' => e = .returned (.string ⟨#[]⟩) ∧ w' = w := Any.strings_Join_none Tryz.lays156 Tryz.Builder_Extra_156 a c sep w
open Go.RowKit in
theorem Tryz.strings_Join (bk o c : Nat) (xs : List ByteArray) (sep : ByteArray) (w : World) (hcells : ∀ (j : Nat) x, xs[j]? = some x → w.cell? ⟨bk, o + j, none⟩ = some (.string x)) (hbk : bk < w.heap.size) (hN : xs.length ≤ 140737488355328) (hcap : xs.length ≤ c) (hlen : (Lib.join (xs.map (·.data.toList)) sep.data.toList).length ≤ 140737488355328) :
    Calls Tryz.prog 142 #[.slice (some ⟨bk, o, none⟩) xs.length c, .string sep] w fun e w' => e = .returned (.string ⟨(Lib.join (xs.map (·.data.toList)) sep.data.toList).toArray⟩) ∧ Below w.heap.size w w' := Any.strings_Join Tryz.lays156 Tryz.Builder_Extra_156 bk o c xs sep w hcells hbk hN hcap hlen
def Tryz.lays171_ren : Go.Shelf.Ren := ⟨fun | 171 => 146 | 243 => 151 | 246 => 154 | 283 => 157 | 284 => 158 | 285 => 159 | 286 => 160 | 129 => 162 | 317 => 161 | 318 => 163 | 319 => 164 | 320 => 165 | 337 => 166 | 338 => 167 | n => n, fun | 3 => 3 | 9 => 9 | 2 => 2 | 4 => 4 | 171 => 245 | 0 => 0 | 53 => 246 | 37 => 73 | 5 => 5 | 173 => 249 | 212 => 252 | 51 => 224 | 20 => 20 | 213 => 253 | 46 => 255 | 232 => 258 | 233 => 259 | n => n, fun | 17 => 2 | 18 => 3 | 19 => 4 | n => n⟩
theorem Tryz.lays171 : Go.Proofs.Lays.n171 Tryz.prog Tryz.lays171_ren := {
  mixed := by kernel_rfl
  f129 := Tryz.func162.trans (congrArg some (by kernel_rfl))
  f171 := Tryz.func146.trans (congrArg some (by kernel_rfl))
  f243 := Tryz.func151.trans (congrArg some (by kernel_rfl))
  f246 := Tryz.func154.trans (congrArg some (by kernel_rfl))
  f283 := Tryz.func157.trans (congrArg some (by kernel_rfl))
  f284 := Tryz.func158.trans (congrArg some (by kernel_rfl))
  f285 := Tryz.func159.trans (congrArg some (by kernel_rfl))
  f286 := Tryz.func160.trans (congrArg some (by kernel_rfl))
  f317 := Tryz.func161.trans (congrArg some (by kernel_rfl))
  f318 := Tryz.func163.trans (congrArg some (by kernel_rfl))
  f319 := Tryz.func164.trans (congrArg some (by kernel_rfl))
  f320 := Tryz.func165.trans (congrArg some (by kernel_rfl))
  f337 := Tryz.func166.trans (congrArg some (by kernel_rfl))
  f338 := Tryz.func167.trans (congrArg some (by kernel_rfl))
  t0 := Tryz.underlying0
  a0 := Tryz.isAgg0
  z0 := Tryz.sizeOf0
  v0 := Tryz.zeroValue0
  t2 := Tryz.underlying2
  a2 := Tryz.isAgg2
  z2 := Tryz.sizeOf2
  v2 := Tryz.zeroValue2
  t3 := Tryz.underlying3
  a3 := Tryz.isAgg3
  z3 := Tryz.sizeOf3
  v3 := Tryz.zeroValue3
  t4 := Tryz.underlying4
  a4 := Tryz.isAgg4
  z4 := Tryz.sizeOf4
  v4 := Tryz.zeroValue4
  t5 := Tryz.underlying5
  a5 := Tryz.isAgg5
  z5 := Tryz.sizeOf5
  v5 := Tryz.zeroValue5
  t9 := Tryz.underlying9
  a9 := Tryz.isAgg9
  z9 := Tryz.sizeOf9
  v9 := Tryz.zeroValue9
  t20 := Tryz.underlying20
  a20 := Tryz.isAgg20
  z20 := Tryz.sizeOf20
  v20 := Tryz.zeroValue20
  t37 := Tryz.underlying73
  a37 := Tryz.isAgg73
  z37 := Tryz.sizeOf73
  v37 := Tryz.zeroValue73
  t46 := Tryz.underlying255
  a46 := Tryz.isAgg255
  z46 := Tryz.sizeOf255
  v46 := Tryz.zeroValue255
  t51 := Tryz.underlying224
  a51 := Tryz.isAgg224
  z51 := Tryz.sizeOf224
  v51 := Tryz.zeroValue224
  t53 := Tryz.underlying246
  a53 := Tryz.isAgg246
  z53 := Tryz.sizeOf246
  v53 := Tryz.zeroValue246
  t171 := Tryz.underlying245
  a171 := Tryz.isAgg245
  z171 := Tryz.sizeOf245
  v171 := Tryz.zeroValue245
  t173 := Tryz.underlying249
  a173 := Tryz.isAgg249
  z173 := Tryz.sizeOf249
  v173 := Tryz.zeroValue249
  t212 := Tryz.underlying252
  a212 := Tryz.isAgg252
  z212 := Tryz.sizeOf252
  v212 := Tryz.zeroValue252
  t213 := Tryz.underlying253
  a213 := Tryz.isAgg253
  z213 := Tryz.sizeOf253
  t232 := Tryz.underlying258
  a232 := Tryz.isAgg258
  z232 := Tryz.sizeOf258
  v232 := Tryz.zeroValue258
  t233 := Tryz.underlying259
  a233 := Tryz.isAgg259
  z233 := Tryz.sizeOf259
  v233 := Tryz.zeroValue259
  g17 := by kernel_rfl
  g18 := by kernel_rfl
  g19 := by kernel_rfl }
open Go.RowKit Go.Sort Go.Lib in
theorem Tryz.strconv_Itoa_small (i : Nat) (hi : i < 100) (w : World) :
    Calls Tryz.prog 146 #[.int .i64 i] w fun e w' => e = .returned (.string ⟨(Lib.decDigits i).toArray⟩) ∧ w' = w := Any.strconv_Itoa_small Tryz.lays171 i hi w
end Go.Proofs
/- THE PROGRAM's TEXT OF A POLYNOMIAL: powerText, termText. -/
namespace Go.Proofs.YthlmgpllapccfaaGreatDoor
open Go.RowKit
theorem Itoa_dgt (n : Nat) (N : Int) (w : World) (hN : N = n) (hn : n < 10) :
    Calls Tryz.prog 146 #[.int .i64 N] w fun e w' => e = .returned (.string (bs [dgt n])) ∧ w' = w := by
  subst hN
  have h := Tryz.strconv_Itoa_small n (by omega) w
  rw [dec_small hn] at h
  exact h

set_option maxRecDepth 100000 in
theorem powerText_any (c : UInt8) (n : Nat) (N : Int) (w : World) (hN : N = n) (hn : n ≤ 6) :
    Calls Tryz.prog 145 #[.string (bs [c]), .int .i64 N] w fun e w' => e = .returned (.string (bs (ptx c n))) ∧ w' = w := by
  subst hN
  unfold ptx
  by_cases h0 : n = 0
  · subst h0
    go_enter Tryz.func145, Tryz.ntmps145
    go_wp2
    go_ret
    exact ⟨rfl, rfl⟩
  · rw [if_neg h0]
    by_cases h1 : n = 1
    · subst h1
      go_enter Tryz.func145, Tryz.ntmps145
      go_wp2
      go_ret
      exact ⟨rfl, rfl⟩
    · rw [if_neg h1]
      have q0 : ((n : Int) == 0) = false := by rw [beq_eq_false_iff_ne]; omega
      have q1 : ((n : Int) == 1) = false := by rw [beq_eq_false_iff_ne]; omega
      go_enter Tryz.func145, Tryz.ntmps145
      go_wp2_with (go_at_call 146; refine (Itoa_dgt n _ _ rfl (by omega)).mono ?_; rintro e w1 ⟨rfl, rfl⟩)
      go_ret
      exact ⟨by rw [bs_append]; rfl, rfl⟩

theorem powerText_to (c : UInt8) (S : ByteArray) (n : Nat) (N : Int) (w : World) (hN : N = n) (hS : S = bs [c]) (hn : n ≤ 6) :
    Calls Tryz.prog 145 #[.string S, .int .i64 N] w fun e w' => e = .returned (.string (bs (ptx c n))) ∧ w' = w := by
  subst hS; exact powerText_any c n N w hN hn

set_option maxRecDepth 100000 in
set_option maxHeartbeats 2000000 in
theorem termText_any (n u x : Nat) (N U X : Int) (w : World) (hN : N = n) (hU : U = u) (hX : X = x) (hn : n < 7) (hu : u ≤ 6) (hx : x ≤ 4) :
    Calls Tryz.prog 141 #[.agg #[.int .i64 N, .int .i64 U, .int .i64 X]] w fun e w' => e = .returned (.string (bs (tmx n u x))) ∧ Below w.heap.size w w' := by
  subst hN hU hX
  have HP := hidT (pws_eq u x)
  have HN := pws_nil (u := u) (x := x)
  have HT : tmx n u x = if n = 1 ∧ (u ≠ 0 ∨ x ≠ 0) then pws u x else dgt n :: pws u x := rfl
  have hs1 : ¬ (9223372036854775807 < (bs (ptx 117 u)).size + (bs (ptx 120 x)).size) := by rw [bs_size, bs_size]; have := ptx_len 117 u; have := ptx_len 120 x; omega
  have hs2 : ¬ (9223372036854775807 < (bs [dgt n]).size + (bs (pws u x)).size) := by rw [bs_size, bs_size]; have := pws_len u x; simp; omega
  have HA := hidT (bs_append [dgt n] (pws u x))
  rw [HT]
  by_cases h1 : n = 1
  · subst h1
    by_cases hP : pws u x = []
    · have hE : (bs (pws u x)).toList.isEmpty = true := by rw [bs_empty, hP]; rfl
      have hc : ¬ ((1 : Nat) = 1 ∧ (u ≠ 0 ∨ x ≠ 0)) := by have := HN.1 hP; omega
      rw [if_neg hc]
      clear HN HT hc hP
      generalize pws u x = P at *
      go_enter Tryz.func141, Tryz.ntmps141
      go_wp2_with fail
      go_quiet ((go_at_call 145; first | exact Calls.quiet_of_same (powerText_to 117 _ u _ _ rfl rfl hu) | exact Calls.quiet_of_same (powerText_to 120 _ x _ _ rfl rfl (by omega))))
      rw [HP.out]
      clear HP hs1
      go_wp2_with (go_at_call 146; refine (Itoa_dgt 1 _ _ rfl (by omega)).mono ?_; rintro e w1 ⟨rfl, rfl⟩)
      go_ret
      refine ⟨by rw [HA.out]; rfl, below_drewN (by go_grown) nq⟩
    · have hE : (bs (pws u x)).toList.isEmpty = false := by rw [bs_empty]; simp [hP]
      have hc : ((1 : Nat) = 1 ∧ (u ≠ 0 ∨ x ≠ 0)) := ⟨rfl, by
        by_cases hu0 : u = 0
        · exact Or.inr (fun hx0 => hP (HN.2 ⟨hu0, hx0⟩))
        · exact Or.inl hu0⟩
      rw [if_pos hc]
      clear HN HT hc hP
      generalize pws u x = P at *
      go_enter Tryz.func141, Tryz.ntmps141
      go_wp2_with fail
      go_quiet ((go_at_call 145; first | exact Calls.quiet_of_same (powerText_to 117 _ u _ _ rfl rfl hu) | exact Calls.quiet_of_same (powerText_to 120 _ x _ _ rfl rfl (by omega))))
      rw [HP.out]
      clear HP hs1
      go_wp2
      go_ret
      refine ⟨rfl, below_drewN (by go_grown) nq⟩
  · rw [if_neg (fun q => h1 q.1)]
    clear HN HT
    generalize pws u x = P at *
    go_enter Tryz.func141, Tryz.ntmps141
    go_wp2_with fail
    go_quiet ((go_at_call 145; first | exact Calls.quiet_of_same (powerText_to 117 _ u _ _ rfl rfl hu) | exact Calls.quiet_of_same (powerText_to 120 _ x _ _ rfl rfl (by omega))))
    rw [HP.out]
    clear HP hs1
    have h1' : ¬ ((n : Int) = 1) := by omega
    go_wp2_with (go_at_call 146; refine (Itoa_dgt n _ _ rfl (by omega)).mono ?_; rintro e w1 ⟨rfl, rfl⟩)
    go_ret
    refine ⟨by rw [HA.out]; rfl, below_drewN (by go_grown) nq⟩
end Go.Proofs.YthlmgpllapccfaaGreatDoor
/- THE PROGRAM's TEXT OF A POLYNOMIAL: Text. -/
namespace Go.Proofs.YthlmgpllapccfaaGreatDoor
open Go.RowKit

def sv (ts : List (List UInt8)) : List Value := ts.map fun t => Value.string (bs t)
theorem sv_snoc (ts : List (List UInt8)) (t : List UInt8) : sv (ts ++ [t]) = sv ts ++ [.string (bs t)] := by simp [sv]
theorem str_info : (Tryz.prog.info? 9).map (fun i => (i.zero, i.size, i.bytes)) = some (some (.string ⟨#[]⟩), 1, 16) := by kernel_rfl
theorem tms_step (p : List Nat) (k : Nat) (h : ¬ p.getD (34 - k) 0 = 0) : tms p (k + 1) = tms p k ++ [tmx (p.getD (34 - k) 0) ((34 - k) % 7) ((34 - k) / 7)] := by rw [tms, if_neg h]
theorem tms_skip (p : List Nat) (k : Nat) (h : p.getD (34 - k) 0 = 0) : tms p (k + 1) = tms p k := by rw [tms, if_pos h]

theorem sv_get {ts : List (List UInt8)} {j : Nat} {x : ByteArray} (h : (ts.map bs)[j]? = some x) : (sv ts)[j]? = some (.string x) := by
  rw [List.getElem?_map, Option.map_eq_some_iff] at h
  obtain ⟨t, h1, rfl⟩ := h
  simp [sv, h1]
theorem own_slice {w : World} {base : Nat} {v : Value} {ts : List (List UInt8)} (h : w.ownsRow base 9 1 v ts.length (sv ts)) (hne : ts ≠ []) :
    ∃ g cap, v = .slice (some ⟨g, 0, none⟩) ts.length cap ∧ g < w.heap.size ∧ ts.length ≤ cap ∧ ∀ (j : Nat) x, (ts.map bs)[j]? = some x → w.cell? ⟨g, 0 + j, none⟩ = some (.string x) := by
  have h' := h
  obtain ⟨_, h1 | ⟨g, cap, cur, rfl, hb, hg, hn, hm, hs, ht⟩⟩ := h
  · exact absurd (List.length_eq_zero_iff.1 h1.2) hne
  · refine ⟨g, cap, rfl, (h'.lt g rfl).2, hn, ?_⟩
    intro j x hx
    have := h'.cells (g := g) rfl j (.string x) (sv_get hx)
    have hadd : (⟨g, 0, none⟩ : Addr).add j = ⟨g, 0 + j, none⟩ := by unfold Addr.add; split <;> simp_all
    rw [hadd] at this
    exact this
theorem join_to (ts : List (List UInt8)) (g cap : Nat) (w : World) (hcells : ∀ (j : Nat) x, (ts.map bs)[j]? = some x → w.cell? ⟨g, 0 + j, none⟩ = some (.string x)) (hg : g < w.heap.size) (hc : ts.length ≤ cap) (hl : ts.length ≤ 35) (hj : (Lib.join ts [43]).length ≤ 6 * 35) :
    Calls Tryz.prog 142 #[.slice (some ⟨g, 0, none⟩) ts.length cap, .string ⟨#[43]⟩] w fun e w' => e = .returned (.string (bs (Lib.join ts [43]))) ∧ Below w.heap.size w w' := by
  have e : (ts.map bs).map (·.data.toList) = ts := by
    rw [List.map_map]
    conv => rhs; rw [← List.map_id ts]
    exact List.map_congr_left (fun _ _ => rfl)
  have h := Tryz.strings_Join g 0 cap (ts.map bs) ⟨#[43]⟩ w hcells hg (by rw [List.length_map]; omega) (by rw [List.length_map]; exact hc) (by rw [e]; have : (Lib.join ts (⟨#[43]⟩ : ByteArray).data.toList).length ≤ 6 * 35 := hj; omega)
  rw [List.length_map, e] at h
  exact h

set_option maxRecDepth 100000 in
set_option maxHeartbeats 4000000 in
theorem Text_any (p : List Nat) (w : World) (hp : Good p) :
    Calls Tryz.prog 139 #[.agg (pv p)] w fun e w' => e = .returned (.string (bs (txt p))) ∧ Below w.heap.size w w' := by
  have hne := fun (w' : World) => poly_eq_zero p w' hp
  by_cases hz : p = zeros
  · have e : txt p = [48] := txt_zero p ((good_zeros hp).2 hz)
    rw [e]
    simp only [hz, decide_true] at hne
    obtain ⟨z, HZ⟩ : ∃ z, Hid (p = z) := ⟨_, rfl⟩
    rw [← hz] at hne
    clear hz e
    go_enter Tryz.func139, Tryz.ntmps139
    go_wp2_with (refine wpList_load_row (by rfl) 76 _ (by rfl) w.heap.size (by rfl) 76 (pv p) (0, 0) _ (by exact Blk.new w _ _) Tryz.underlying76 (by rfl) (size_poly hp) ?_)
    go_ret
    exact ⟨rfl, by go_grown⟩
  · have ht : tms p 35 ≠ [] := fun q => hz ((good_zeros hp).1 q)
    have HTX := hidT (txt_join p ht)
    have HT := hidT ht
    simp only [hz, decide_false] at hne
    clear hz ht
    obtain ⟨i0, hi, hz0, hz1, hz2⟩ := info_parts str_info
    go_enter Tryz.func139, Tryz.ntmps139
    go_wp2_with (refine wpList_load_row (by rfl) 76 _ (by rfl) w.heap.size (by rfl) 76 (pv p) (0, 0) _ (by exact Blk.new w _ _) Tryz.underlying76 (by rfl) (size_poly hp) ?_)
    refine wp_forget (fun W => Blk W w.heap.size (pv p) 76 ∧ Below w.heap.size w W) ⟨Blk.new w _ _, by go_grown⟩ ?_
    rintro W ⟨b1, hbW⟩
    have B1 := hidT b1
    have BW := hidT hbW
    clear b1 hbW hne
    go_loopg [3, 4] 5 (fun gm v3 v4 wr => ∃ a : Nat, gm = 5 - a ∧ a ≤ 5 ∧ v4 = .int .i64 (((5 - a : Nat) : Int) - 1) ∧ Hid (wr.ownsRow W.heap.size 9 1 v3 (tms p (a * 7)).length (sv (tms p (a * 7))) ∧ Below W.heap.size W wr))
    case atStart => exact ⟨0, rfl, by omega, rfl, ⟨World.ownsRow_nil _ _ _ _, Below.refl _ _⟩⟩
    case round =>
      obtain ⟨a, hgm, ha, rfl, HD⟩ := hrel
      by_cases h5 : a < 5
      · obtain ⟨i, hi5⟩ : ∃ i : Nat, 5 - a = i + 1 := ⟨4 - a, by omega⟩
        have hi4 : i < 5 := by omega
        have e : (((5 - a : Nat) : Int) - 1) = (i : Int) := by omega
        rw [e]
        clear e
        have i0' : (0 : Int) ≤ (i : Int) := by omega
        have i1' : (i : Int) < 5 := by omega
        have HI := hidT hi5
        clear hi5
        go_wp2
        go_loopg [3, 5] 7 (fun gm v3 v5 wr => ∃ m : Nat, gm = 7 - m ∧ m ≤ 7 ∧ v5 = .int .i64 (((7 - m : Nat) : Int) - 1) ∧ Hid (wr.ownsRow W.heap.size 9 1 v3 (tms p (a * 7 + m)).length (sv (tms p (a * 7 + m))) ∧ Below W.heap.size W wr))
        case atStart => exact ⟨0, rfl, by omega, rfl, HD⟩
        case round =>
          obtain ⟨m, hgm2, hm, rfl, HE⟩ := hrel
          clear HD
          by_cases h7 : m < 7
          · obtain ⟨j, hj7⟩ : ∃ j : Nat, 7 - m = j + 1 := ⟨6 - m, by omega⟩
            have hj6 : j < 7 := by omega
            have e : (((7 - m : Nat) : Int) - 1) = (j : Int) := by omega
            rw [e]
            clear e
            have j0 : (0 : Int) ≤ (j : Int) := by omega
            have j1 : (j : Int) < 7 := by omega
            have HM1 : Hid ((((7 - (m + 1) : Nat) : Int) - 1) = (j : Int) - 1) := by unfold Hid; omega
            have hidx : 34 - (a * 7 + m) = i * 7 + j := by have := HI.out; omega
            have HX : Hid ((34 - (a * 7 + m)) % 7 = j ∧ (34 - (a * 7 + m)) / 7 = i) := by unfold Hid; omega
            have HSK := hidT (tms_skip p (a * 7 + m))
            have HST := hidT (tms_step p (a * 7 + m))
            have HL := hidT (tms_len p (a * 7 + m))
            rw [HX.out.1, HX.out.2, hidx] at HST
            rw [hidx] at HSK
            have hq : i * 7 + j < p.length := by rw [hp.1]; omega
            have hcell := pv_get hq
            have hv7 := hp.2 (i * 7 + j)
            have BR : Hid (Blk wr w.heap.size (pv p) 76) := Blk.fr B1.out (Fr.of_below (bs := []) HE.out.2) (by simp)
            have hc : wr.cell? ⟨w.heap.size, i * 7 + j, none⟩ = some (.int .i64 (p.getD (i * 7 + j) 0)) := by rw [BR.out.cell]; exact hcell
            clear hcell hidx hj7
            generalize p.getD (i * 7 + j) 0 = v at *
            by_cases hv : v = 0
            · subst hv
              go_wp2
              go_roundg (7 - (m + 1))
              case measure => omega
              case rel => exact ⟨m + 1, rfl, by omega, by rw [HM1.out], by rw [show a * 7 + (m + 1) = a * 7 + m + 1 by omega, HSK.out (by trivial)]; exact HE⟩
            · have hv' : ¬ ((v : Int) = 0) := by omega
              have HV := hidT hv
              clear hv
              go_wp2_with (first | (go_at_call 141; refine (termText_any v j i _ _ _ _ rfl rfl rfl hv7 (by omega) (by omega)).mono ?_; rintro e w1 ⟨rfl, hb1⟩; have HB1 := hidT hb1; have HO1 := hidT (ownsRow_fr (c := wr.heap.size) HE.out.1 (Fr.of_below hb1) (ownsRow_ne HE.out.1 (Nat.le_refl _)))) | (at_builtin; refine wpList_append_lies _ (by rfl) (.tmp 23) (.tmp 33) 52 (by rfl) W.heap.size 9 i0 _ 1 16 Tryz.underlying52 hi hz0 hz1 hz2 (by rfl) (by decide) _ (tms p (a * 7 + m)).length (sv (tms p (a * 7 + m))) (by rfl) (by exact HO1.out.alloc _) ⟨w1.heap.size, 0, none⟩ 1 1 [.string (bs (tmx v j i))] (by rfl) (by rfl) (by exact World.news_of_block (Blk.new w1 _ _)) (by simp; rfl) (by decide) (by unfold maxLen; have := HL.out; omega) (by have := HL.out; omega) (by have := HE.out.2.size; have := HB1.out.size; simp; omega) _ rfl ?_; intro g cap w2 hown1 hgrow hat hlt1))
              go_roundg (7 - (m + 1))
              case measure => omega
              case rel =>
                refine ⟨m + 1, rfl, by omega, by rw [HM1.out], ?_, ?_⟩
                · rw [show a * 7 + (m + 1) = a * 7 + m + 1 by omega, HST.out HV.out, sv_snoc, List.length_append]
                  exact hown1
                · have hbb : Below W.heap.size W w1 := Fr.below (bs := []) ((Fr.of_below HE.out.2).trans (Fr.of_below (bs := []) HB1.out) (by simp)) (Nat.le_refl _) (by simp)
                  exact (hbb.alloc (by have := hbb.size; omega) _).grown hgrow (by have := hbb.size; simp; omega) (fun b hb => ((HO1.out).lt b hb).1)
          · have e7 : m = 7 := by omega
            subst e7
            have HK1 : Hid ((((5 - (a + 1) : Nat) : Int) - 1) = (i : Int) - 1) := by unfold Hid; have := HI.out; omega
            go_wp2
            go_roundg (5 - (a + 1))
            case measure => omega
            case rel => exact ⟨a + 1, rfl, by omega, by rw [HK1.out], by rw [show (a + 1) * 7 = a * 7 + 7 by omega]; exact HE⟩
      · have e5 : a = 5 := by omega
        subst e5
        have HO : Hid (wr.ownsRow W.heap.size 9 1 u3 (tms p 35).length (sv (tms p 35))) := HD.out.1
        have HB := hidT HD.out.2
        clear HD
        obtain ⟨g, cap, hu3, hglt, hcap, hcells⟩ := own_slice HO.out HT.out
        subst hu3
        have HJ := hidT (join_to (tms p 35) g cap wr hcells hglt hcap (tms_len p 35) (by rw [← wrt_join]; exact wrt_len p 35))
        rw [← HTX.out] at HJ
        clear HTX hcells
        generalize (tms p 35).length = N at *
        go_wp2_with (go_at_call 142; refine HJ.out.mono ?_; rintro e w1 ⟨rfl, hb1⟩)
        go_ret
        refine ⟨rfl, ?_⟩
        exact Fr.below (bs := []) (((Fr.of_below BW.out).trans (Fr.of_below (bs := []) HB.out) (by simp)).trans (Fr.of_below (bs := []) hb1) (by simp)) (Nat.le_refl _) (by simp)
end Go.Proofs.YthlmgpllapccfaaGreatDoor
/- THE PROGRAM's SYSTEMS: isZero, list. -/
namespace Go.Proofs.YthlmgpllapccfaaGreatDoor
open Go.RowKit

theorem val_rts (p : List Nat) (a b : Nat) : valP p a b = pows (lnF a p) b 5 := by rw [valP_ln, horn_pows]

set_option maxRecDepth 100000 in
set_option maxHeartbeats 800000 in
theorem isZero_any (ps : List (List Nat)) (g cap N a b : Nat) (A B : Int) (w : World) (hps : Goods ps) (hN : ps.length = N) (hl : N ≤ 4) (hA : A % 7 = a) (hB : B % 7 = b) (ha : a < 7) (hb : b < 7) (hm : Sy w g ps) :
    Calls Tryz.prog 172 #[.slice (some ⟨g, 0, none⟩) N cap, .int .i64 A, .int .i64 B] w fun e w' => e = .returned (.bool (rts (lins a ps) b)) ∧ Below w.heap.size w w' := by
  have HM := hidV hm
  have HNN := hidV hN
  have HAA := hidV hA
  have HBB := hidV hB
  have HRI : Hid (rts (lins a ps) b = true ↔ ∀ j, j < N → pows (lnF a (ps.getD j [])) b 5 = 0) := by
    unfold Hid
    rw [rts_iff, lins_len, hN]
    exact ⟨fun h j hj => by rw [← lins_at a ps (by omega)]; exact h j hj, fun h j hj => by rw [lins_at a ps (by omega)]; exact h j hj⟩
  obtain ⟨R, HR⟩ : ∃ R, Hid (rts (lins a ps) b = R) := ⟨_, hidV rfl⟩
  rw [HR.out] at HRI ⊢
  clear hm hN hA hB
  go_enter Tryz.func172, Tryz.ntmps172
  go_wp2
  go_loopg [11] N (fun gm v11 wr => ∃ i : Nat, gm = N - i ∧ i ≤ N ∧ v11 = .int .i64 i ∧ Hid (∀ j, j < i → pows (lnF a (ps.getD j [])) b 5 = 0) ∧ Hid (Sy wr g ps ∧ Below w.heap.size w wr))
  case atStart => exact ⟨0, rfl, by omega, rfl, fun j hj => by omega, HM.out, Below.refl _ _⟩
  case round =>
    obtain ⟨i, hgm, hi, rfl, HZ, HD⟩ := hrel
    by_cases h5 : i < N
    · have hil : i < ps.length := by rw [HNN.out]; exact h5
      have HRG := hidV (HD.out.1.2 i hil)
      have hgp := hps.at hil
      have HVA := hidV (fun w' => pVal_any (ps.getD i []) A B a b w' hgp HAA.out HBB.out ha hb)
      rw [val_rts] at HVA
      have i0 : (0 : Int) ≤ (i : Int) := by omega
      have i1 : (i : Int) < (N : Int) := by omega
      obtain ⟨p, HP⟩ : ∃ p, Hid (ps.getD i [] = p) := ⟨_, hidV rfl⟩
      rw [HP.out] at HRG hgp HVA
      obtain ⟨v, HVV⟩ : ∃ v, Hid (pows (lnF a p) b 5 = v) := ⟨_, hidV rfl⟩
      rw [HVV.out] at HVA
      have hf0 : Fr [] wr ((wr.alloc (.cells (pv zeros) 76)).setCells wr.heap.size 0 (pv p).toList) := Fr.setCells (Fr.alloc (Fr.refl _ _) _) _ _ _ (Or.inr (Nat.le_refl _))
      have HF0 := hidV hf0
      clear hf0
      by_cases hv : v = 0
      · subst hv
        have HZ2 : Hid (∀ j, j < i + 1 → pows (lnF a (ps.getD j [])) b 5 = 0) := fun j hj => by
          by_cases e : j = i
          · rw [e, HP.out]; exact HVV.out
          · exact HZ.out j (by omega)
        go_wp2_with (first | (refine wpList_load_pp (by rfl) _ (by rfl) g (i * 35) (by rfl) p hgp (by exact HRG.out) ?_) | (refine wpList_store_mid (by rfl) 76 _ _ (by rfl) wr.heap.size 0 (pv p) (by rfl) (by rfl) (by exact Blk.there (Blk.new wr _ _) (by rw [pv_size, hgp.1]; decide)) (size_poly hgp) (pv_one _) ?_) | (refine wpList_load_row (by rfl) 76 _ (by rfl) wr.heap.size (by rfl) 76 (pv p) (0, 0) _ (by exact Blk.setAll (Blk.new wr _ _) _ (by rw [pv_size, hgp.1]; rfl)) Tryz.underlying76 (by rfl) (size_poly hgp) ?_) | (go_at_call 34; refine (HVA.out _).mono ?_; rintro e w3 ⟨rfl, hb3⟩; have HB3 := hidV (HF0.out.trans (Fr.of_below (bs := []) hb3) (by simp)); clear hb3))
        go_roundg (N - (i + 1))
        case measure => omega
        case rel => exact ⟨i + 1, rfl, by omega, by go_num, HZ2, HD.out.1.fr HB3.out (by simp), HD.out.2.trans (HB3.out.below (B := w.heap.size) HD.out.2.size (by simp))⟩
      · have hne : ¬ ((v : Int) = 0) := by omega
        have HRF : Hid (R = false) := by
          unfold Hid
          cases hq : R with
          | false => rfl
          | true => exact absurd (by rw [← HVV.out, ← HP.out]; exact (HRI.out.1 hq) i h5) hv
        go_wp2_with (first | (refine wpList_load_pp (by rfl) _ (by rfl) g (i * 35) (by rfl) p hgp (by exact HRG.out) ?_) | (refine wpList_store_mid (by rfl) 76 _ _ (by rfl) wr.heap.size 0 (pv p) (by rfl) (by rfl) (by exact Blk.there (Blk.new wr _ _) (by rw [pv_size, hgp.1]; decide)) (size_poly hgp) (pv_one _) ?_) | (refine wpList_load_row (by rfl) 76 _ (by rfl) wr.heap.size (by rfl) 76 (pv p) (0, 0) _ (by exact Blk.setAll (Blk.new wr _ _) _ (by rw [pv_size, hgp.1]; rfl)) Tryz.underlying76 (by rfl) (size_poly hgp) ?_) | (go_at_call 34; refine (HVA.out _).mono ?_; rintro e w3 ⟨rfl, hb3⟩; have HB3 := hidV (HF0.out.trans (Fr.of_below (bs := []) hb3) (by simp)); clear hb3))
        go_ret
        exact ⟨by rw [HRF.out]; rfl, HD.out.2.trans (HB3.out.below (B := w.heap.size) HD.out.2.size (by simp))⟩
    · have ei : i = N := by omega
      have HRT : Hid (R = true) := HRI.out.2 (fun j hj => HZ.out j (by omega))
      have i1 : ¬ (i : Int) < (N : Int) := by omega
      clear ei
      go_wp2
      go_ret
      exact ⟨by rw [HRT.out]; rfl, HD.out.2⟩
end Go.Proofs.YthlmgpllapccfaaGreatDoor
/- THE PROGRAM's SETS: Where, Text. -/
namespace Go.Proofs.YthlmgpllapccfaaGreatDoor
open Go.RowKit

theorem bv_congr {b c : Nat → Bool} (h : ∀ i, i < 7 → b i = c i) : bv b = bv c := by
  unfold bv
  rw [h 0 (by omega), h 1 (by omega), h 2 (by omega), h 3 (by omega), h 4 (by omega), h 5 (by omega), h 6 (by omega)]
theorem size_bv (b : Nat → Bool) : (Tryz.prog.info? 155).map (·.size) = some (bv b).size := by kernel_rfl
theorem bv_one (b : Nat → Bool) : (bv b).all (·.oneCell') = true := by
  rw [Array.all_eq_true_iff_forall_mem]
  intro v hv
  simp only [bv, List.mem_toArray, List.mem_cons, List.not_mem_nil, or_false] at hv
  rcases hv with rfl | rfl | rfl | rfl | rfl | rfl | rfl <;> rfl
theorem bv_size (b : Nat → Bool) : (bv b).size = 7 := rfl
def upto (b : Nat → Bool) (k : Nat) : Nat → Bool := fun j => decide (j < k) && b j
theorem upto_step (b : Nat → Bool) (k : Nat) : (fun j => if j = k then b k else upto b k j) = upto b (k + 1) := by
  funext j
  unfold upto
  by_cases h : j = k
  · subst h; simp
  · rw [if_neg h]
    by_cases h2 : j < k
    · simp [h2, show j < k + 1 by omega]
    · simp [h2, show ¬ j < k + 1 by omega]
theorem upto_all (b : Nat → Bool) : bv (upto b 7) = bv b := bv_congr (fun i hi => by simp [upto, hi])

set_option maxRecDepth 100000 in
set_option maxHeartbeats 800000 in
theorem Where_any (fn : Nat) (cap : Array Value) (b : Nat → Bool) (w : World) (hcf : ∀ (args : Array Value) (w : World), (callFunc fn args).run Tryz.prog w = .ok (.enter fn args) w)
    (h : ∀ (v : Nat) (w' : World), v < 7 → Below w.heap.size w w' → Calls Tryz.prog fn (#[.int .i64 v] ++ cap) w' fun e w'' => e = .returned (.bool (b v)) ∧ Below w'.heap.size w' w'') :
    Calls Tryz.prog 170 #[.func (.func fn) #[] cap] w fun e w' => e = .returned (.agg (bv b)) ∧ Below w.heap.size w w' := by
  have HH := hidV h
  clear h
  go_enter Tryz.func170, Tryz.ntmps170
  go_wp2
  refine wp_forget (fun W => Blk W (w.heap.size + 1) (bv (upto b 0)) 155 ∧ Blk W w.heap.size (bv (fun _ => false)) 155 ∧ Below w.heap.size w W) ⟨Blk.newAt _ _ _ (by simp), Blk.alloc (Blk.new w _ _) _, by go_grown⟩ ?_
  rintro W ⟨b1, b2, hbel⟩
  have HI := hidV (And.intro b1 (And.intro b2 hbel))
  clear b1 b2 hbel
  go_loopg [5] 7 (fun gm v5 wr => ∃ k : Nat, gm = 7 - k ∧ k ≤ 7 ∧ v5 = .int .i64 k ∧ Hid (Blk wr (w.heap.size + 1) (bv (upto b k)) 155 ∧ Blk wr w.heap.size (bv (fun _ => false)) 155 ∧ Below w.heap.size w wr))
  case atStart => exact ⟨0, rfl, by omega, rfl, HI.out⟩
  case round =>
    obtain ⟨k, hgm, hk, rfl, HD⟩ := hrel
    clear HI
    have hl1 : w.heap.size + 1 < wr.heap.size := HD.out.1.lt
    by_cases h7 : k < 7
    · have HC := hidV (HH.out k wr h7 HD.out.2.2)
      have k0 : (0 : Int) ≤ (k : Int) := by omega
      have k1 : (k : Int) < 7 := by omega
      go_wp2_with fail
      refine (HC.out).mono ?_
      rintro e w1 ⟨rfl, hb1⟩
      have hf1 : Fr [] wr w1 := Fr.of_below hb1
      have B1 := hidV (HD.out.1.fr hf1 (by simp))
      have c1 : w1.cell? ⟨w.heap.size + 1, k, none⟩ = some (.bool (upto b k k)) := by rw [B1.out.cell]; exact bv_get _ h7
      have f1 : w1.frozen? ⟨w.heap.size + 1, k, none⟩ = false := B1.out.frozen _
      have HB1 := hidV hb1
      clear hf1 hb1
      go_wp2
      go_roundg (7 - (k + 1))
      case measure => omega
      case rel =>
        refine ⟨k + 1, rfl, by omega, by go_num, ?_, ?_, ?_⟩
        · rw [← upto_step, ← bv_upd _ _ h7]
          exact B1.out.set _ _
        · exact (HD.out.2.1.fr (Fr.of_below (bs := []) HB1.out) (by simp)).setOther _ _ (by simp)
        · exact Below.setCell (HD.out.2.2.trans (HB1.out.mono HD.out.2.2.size)) (by simp) _
    · have ek : k = 7 := by omega
      subst ek
      have HBV : Hid (bv (upto b 7) = bv b) := upto_all b
      rw [HBV.out] at HD
      have hsz := size_bv b
      have hon := bv_one b
      have HTH := hidV (Blk.there HD.out.2.1 (show (bv b).size ≤ (bv (fun _ => false)).size by exact Nat.le_refl _))
      have HSE : Hid ((bv b).size = (bv (fun _ => false)).size) := rfl
      obtain ⟨z, HZ⟩ : ∃ z, Hid (bv b = z) := ⟨_, hidV rfl⟩
      rw [HZ.out] at hsz hon HTH HSE
      have HD1 : Hid (Blk wr (w.heap.size + 1) z 155) := by unfold Hid; rw [← HZ.out]; exact HD.out.1
      have HD2 := hidV HD.out.2.1
      have HD3 := hidV HD.out.2.2
      clear HD
      go_wp2_with (first | (refine wpList_load_row (by rfl) 155 _ (by rfl) (w.heap.size + 1) (by rfl) 155 z (0, 0) _ HD1.out Tryz.underlying155 (by rfl) hsz ?_) | (refine wpList_store_mid (by rfl) 155 _ _ (by rfl) w.heap.size 0 z (by rfl) (by rfl) HTH.out hsz hon ?_))
      refine bodyPost_ret (results_cell_row Tryz.results170 _ _ w.heap.size 155 z (0, 0) _ (by rfl) (Blk.setAll HD2.out _ HSE.out) Tryz.underlying155 rfl hsz) rfl (by rw [HZ.out]; exact ⟨rfl, Below.setCells HD3.out _ _ _ (Nat.le_refl _)⟩)
end Go.Proofs.YthlmgpllapccfaaGreatDoor
