/- THE DOCUMENT's TEXT OF A POLYNOMIAL: write. -/
import Derived.Test.YtaajdcaciofmaaaDoorWrite1
import Derived.Test.YtaajdcaciofmaaaDoorArrEq
namespace Go.Proofs.YtaajdcaciofmaaaDoor
open Go.RowKit

theorem add_to (a b c : List UInt8) (S : ByteArray) (hS : S = bs b) (hc : a ++ b = c) (ha : a.length ≤ 1000) (hb : b.length ≤ 1000) (w : World) : (Op.stringOp .add (bs a) S).run Tryd.prog w = .ok (.string (bs c)) w := by
  subst hS hc
  rw [run_string_add_sum w (bs a) (bs b) (by rw [bs_size, bs_size]; omega), bs_append]
theorem wrt_step (p : List Nat) (k : Nat) (h : ¬ p.getD (34 - k) 0 = 0) : wrt p (k + 1) = (if wrt p k = [] then [] else wrt p k ++ [43]) ++ tmx (p.getD (34 - k) 0) ((34 - k) % 7) ((34 - k) / 7) := by rw [wrt, if_neg h]
theorem wrt_skip (p : List Nat) (k : Nat) (h : p.getD (34 - k) 0 = 0) : wrt p (k + 1) = wrt p k := by rw [wrt, if_pos h]
theorem tmx_full {v j i : Nat} (h : v > 1 ∨ i + j = 0) : tmx v j i = dgt v :: (ptx 117 j ++ ptx 120 i) := by
  unfold tmx pws; rw [if_neg (by omega)]
theorem tmx_bare {v j i : Nat} (hv : v ≠ 0) (h : ¬ (v > 1 ∨ i + j = 0)) : tmx v j i = ptx 117 j ++ ptx 120 i := by
  unfold tmx pws; rw [if_pos (by omega)]

set_option maxRecDepth 100000 in
set_option maxHeartbeats 4000000 in
theorem write_any (p : List Nat) (w : World) (hp : Good p) :
    Calls Tryd.prog 18 #[.agg (pv p)] w fun e w' => e = .returned (.string (bs (txt p))) ∧ Below w.heap.size w w' := by
  go_enter Tryd.func18, Tryd.ntmps18
  go_wp2
  refine wp_forget (fun W => Blk W w.heap.size (pv p) 41 ∧ Below w.heap.size w W) ⟨Blk.new w _ _, by go_grown⟩ ?_
  rintro W ⟨b1, hbW⟩
  have B1 := hidT b1
  have BW := hidT hbW
  clear b1 hbW
  go_loopg [3, 4] 5 (fun gm v3 v4 wr => ∃ a : Nat, gm = 5 - a ∧ a ≤ 5 ∧ v4 = .int .i64 (((5 - a : Nat) : Int) - 1) ∧ v3 = .string (bs (wrt p (a * 7))) ∧ Hid (Below W.heap.size W wr))
  case atStart => exact ⟨0, rfl, by omega, rfl, rfl, Below.refl _ _⟩
  case round =>
    obtain ⟨a, hgm, ha, rfl, rfl, HD⟩ := hrel
    by_cases h5 : a < 5
    · obtain ⟨i, hi5⟩ : ∃ i : Nat, 5 - a = i + 1 := ⟨4 - a, by omega⟩
      have hi4 : i < 5 := by omega
      have e : (((5 - a : Nat) : Int) - 1) = (i : Int) := by omega
      rw [e]
      clear e
      have i0' : (0 : Int) ≤ (i : Int) := by omega
      have i1' : (i : Int) < 5 := by omega
      have HI := hidT hi5
      clear hi5
      go_wp2
      go_loopg [3, 5] 7 (fun gm v3 v5 wr => ∃ m : Nat, gm = 7 - m ∧ m ≤ 7 ∧ v5 = .int .i64 (((7 - m : Nat) : Int) - 1) ∧ v3 = .string (bs (wrt p (a * 7 + m))) ∧ Hid (Below W.heap.size W wr))
      case atStart => exact ⟨0, rfl, by omega, rfl, rfl, HD⟩
      case round =>
        obtain ⟨m, hgm2, hm, rfl, rfl, HE⟩ := hrel
        clear HD
        by_cases h7 : m < 7
        · obtain ⟨j, hj7⟩ : ∃ j : Nat, 7 - m = j + 1 := ⟨6 - m, by omega⟩
          have hj6 : j < 7 := by omega
          have e : (((7 - m : Nat) : Int) - 1) = (j : Int) := by omega
          rw [e]
          clear e
          have j0 : (0 : Int) ≤ (j : Int) := by omega
          have j1 : (j : Int) < 7 := by omega
          have HM1 : Hid ((((7 - (m + 1) : Nat) : Int) - 1) = (j : Int) - 1) := by unfold Hid; omega
          have hidx : 34 - (a * 7 + m) = i * 7 + j := by have := HI.out; omega
          have HX : Hid ((34 - (a * 7 + m)) % 7 = j ∧ (34 - (a * 7 + m)) / 7 = i) := by unfold Hid; omega
          have HSK := hidT (wrt_skip p (a * 7 + m))
          have HST := hidT (wrt_step p (a * 7 + m))
          have HL : Hid ((wrt p (a * 7 + m)).length ≤ 210) := by unfold Hid; have := wrt_len p (a * 7 + m); omega
          rw [HX.out.1, HX.out.2, hidx] at HST
          rw [hidx] at HSK
          rw [show a * 7 + m + 1 = a * 7 + (m + 1) by omega] at HST HSK
          have hq : i * 7 + j < p.length := by rw [hp.1]; omega
          have hcell := pv_get hq
          have hv7 := hp.2 (i * 7 + j)
          have BR : Hid (Blk wr w.heap.size (pv p) 41) := Blk.fr B1.out (Fr.of_below (bs := []) HE.out) (by simp)
          have hc : wr.cell? ⟨w.heap.size, i * 7 + j, none⟩ = some (.int .i64 (p.getD (i * 7 + j) 0)) := by rw [BR.out.cell]; exact hcell
          clear hcell hidx hj7
          generalize p.getD (i * 7 + j) 0 = v at *
          by_cases hv : v = 0
          · subst hv
            have HSS := hidT (HSK.out rfl)
            clear HSK HST
            go_wp2
            go_roundg (7 - (m + 1))
            case measure => omega
            case rel => exact ⟨m + 1, rfl, by omega, by rw [HM1.out], by rw [HSS.out], HE⟩
          · have hv' : ¬ ((v : Int) = 0) := by omega
            have HV := hidT hv
            have HSS := hidT (HST.out hv)
            clear hv HST HSK
            have hpu := ptx_len 117 j
            have hpx := ptx_len 120 i
            have HPU := hidT hpu
            have HPX := hidT hpx
            clear hpu hpx
            have hcv := fun (w' : World) => conv_new v (by omega) w'
            have hc2 : ∀ o, (wr.alloc o).cell? ⟨w.heap.size, i * 7 + j, none⟩ = some (.int .i64 v) := fun o => by rw [(Blk.alloc BR.out o).cell, ← BR.out.cell]; exact hc
            generalize hwX : wrt p (a * 7 + m) = X at *
            have HWX := hidT hwX
            clear hwX
            by_cases hE : X = []
            · have hE' : (bs X).toList.isEmpty = true := by rw [bs_empty, hE]; rfl
              rw [if_pos hE] at HSS
              have HXE := hidT hE
              clear hE
              by_cases hd : v > 1 ∨ i + j = 0
              · have HDD := hidT hd
                by_cases h1 : 1 < v
                · have hd' : (1 : Int) < (v : Int) := by omega
                  obtain ⟨Y2, HY2⟩ : ∃ Y, Hid (X ++ [dgt v] = Y) := ⟨_, hidT rfl⟩
                  have HL2 : Hid (Y2.length ≤ 212) := by unfold Hid; rw [← HY2.out, List.length_append]; have := HL.out; (try simp only [List.length_cons, List.length_nil]); omega
                  have hadd2 := fun (w' : World) => add_to X [dgt v] Y2 (bs [dgt v]) rfl HY2.out (by have := HL.out; omega) (by simp) w'
                  obtain ⟨Y3, HY3⟩ : ∃ Y, Hid (Y2 ++ ptx 117 j = Y) := ⟨_, hidT rfl⟩
                  have HL3 : Hid (Y3.length ≤ 214) := by unfold Hid; rw [← HY3.out, List.length_append]; have := HPU.out; have := HL2.out; (try simp only [List.length_cons, List.length_nil]); omega
                  have hadd3 := fun (w' : World) => add_to Y2 (ptx 117 j) Y3 (bs (ptx 117 j)) rfl HY3.out (by have := HL2.out; omega) (by have := HPU.out; omega) w'
                  obtain ⟨Y4, HY4⟩ : ∃ Y, Hid (Y3 ++ ptx 120 i = Y) := ⟨_, hidT rfl⟩
                  have HL4 : Hid (Y4.length ≤ 216) := by unfold Hid; rw [← HY4.out, List.length_append]; have := HPX.out; have := HL3.out; (try simp only [List.length_cons, List.length_nil]); omega
                  have hadd4 := fun (w' : World) => add_to Y3 (ptx 120 i) Y4 (bs (ptx 120 i)) rfl HY4.out (by have := HL3.out; omega) (by have := HPX.out; omega) w'
                  go_wp2_with (go_at_call 34; first | (refine (letter_any 117 _ j _ _ (by rfl) (by rfl) (by omega)).mono ?_; rintro e w1 ⟨rfl, hb1⟩; have HB1 := hidT hb1) | (refine (letter_any 120 _ i _ _ (by rfl) (by rfl) (by omega)).mono ?_; rintro e w2 ⟨rfl, hb2⟩; have HB2 := hidT hb2))
                  go_roundg (7 - (m + 1))
                  case measure => omega
                  case rel =>
                    refine ⟨m + 1, rfl, by omega, by rw [HM1.out], ?_, ?_⟩
                    · rw [HSS.out, tmx_full HDD.out, ← HY4.out, ← HY3.out, ← HY2.out]; simp [HXE.out]
                    · exact Fr.below (bs := []) ((((Fr.of_below HE.out).alloc _).trans (Fr.of_below (bs := []) HB1.out) (by simp)).trans (Fr.of_below (bs := []) HB2.out) (by simp)) (Nat.le_refl _) (by simp)
                · have hd' : ¬ ((1 : Int) < (v : Int)) := by omega
                  have hd0 : (i : Int) + (j : Int) = 0 := by omega
                  obtain ⟨Y2, HY2⟩ : ∃ Y, Hid (X ++ [dgt v] = Y) := ⟨_, hidT rfl⟩
                  have HL2 : Hid (Y2.length ≤ 212) := by unfold Hid; rw [← HY2.out, List.length_append]; have := HL.out; (try simp only [List.length_cons, List.length_nil]); omega
                  have hadd2 := fun (w' : World) => add_to X [dgt v] Y2 (bs [dgt v]) rfl HY2.out (by have := HL.out; omega) (by simp) w'
                  obtain ⟨Y3, HY3⟩ : ∃ Y, Hid (Y2 ++ ptx 117 j = Y) := ⟨_, hidT rfl⟩
                  have HL3 : Hid (Y3.length ≤ 214) := by unfold Hid; rw [← HY3.out, List.length_append]; have := HPU.out; have := HL2.out; (try simp only [List.length_cons, List.length_nil]); omega
                  have hadd3 := fun (w' : World) => add_to Y2 (ptx 117 j) Y3 (bs (ptx 117 j)) rfl HY3.out (by have := HL2.out; omega) (by have := HPU.out; omega) w'
                  obtain ⟨Y4, HY4⟩ : ∃ Y, Hid (Y3 ++ ptx 120 i = Y) := ⟨_, hidT rfl⟩
                  have HL4 : Hid (Y4.length ≤ 216) := by unfold Hid; rw [← HY4.out, List.length_append]; have := HPX.out; have := HL3.out; (try simp only [List.length_cons, List.length_nil]); omega
                  have hadd4 := fun (w' : World) => add_to Y3 (ptx 120 i) Y4 (bs (ptx 120 i)) rfl HY4.out (by have := HL3.out; omega) (by have := HPX.out; omega) w'
                  go_wp2_with (go_at_call 34; first | (refine (letter_any 117 _ j _ _ (by rfl) (by rfl) (by omega)).mono ?_; rintro e w1 ⟨rfl, hb1⟩; have HB1 := hidT hb1) | (refine (letter_any 120 _ i _ _ (by rfl) (by rfl) (by omega)).mono ?_; rintro e w2 ⟨rfl, hb2⟩; have HB2 := hidT hb2))
                  go_roundg (7 - (m + 1))
                  case measure => omega
                  case rel =>
                    refine ⟨m + 1, rfl, by omega, by rw [HM1.out], ?_, ?_⟩
                    · rw [HSS.out, tmx_full HDD.out, ← HY4.out, ← HY3.out, ← HY2.out]; simp [HXE.out]
                    · exact Fr.below (bs := []) ((((Fr.of_below HE.out).alloc _).trans (Fr.of_below (bs := []) HB1.out) (by simp)).trans (Fr.of_below (bs := []) HB2.out) (by simp)) (Nat.le_refl _) (by simp)
              · have HDD := hidT hd
                have hd' : ¬ ((1 : Int) < (v : Int)) := by omega
                have hd0 : ¬ ((i : Int) + (j : Int) = 0) := by omega
                obtain ⟨Y3, HY3⟩ : ∃ Y, Hid (X ++ ptx 117 j = Y) := ⟨_, hidT rfl⟩
                have HL3 : Hid (Y3.length ≤ 214) := by unfold Hid; rw [← HY3.out, List.length_append]; have := HPU.out; have := HL.out; (try simp only [List.length_cons, List.length_nil]); omega
                have hadd3 := fun (w' : World) => add_to X (ptx 117 j) Y3 (bs (ptx 117 j)) rfl HY3.out (by have := HL.out; omega) (by have := HPU.out; omega) w'
                obtain ⟨Y4, HY4⟩ : ∃ Y, Hid (Y3 ++ ptx 120 i = Y) := ⟨_, hidT rfl⟩
                have HL4 : Hid (Y4.length ≤ 216) := by unfold Hid; rw [← HY4.out, List.length_append]; have := HPX.out; have := HL3.out; (try simp only [List.length_cons, List.length_nil]); omega
                have hadd4 := fun (w' : World) => add_to Y3 (ptx 120 i) Y4 (bs (ptx 120 i)) rfl HY4.out (by have := HL3.out; omega) (by have := HPX.out; omega) w'
                go_wp2_with (go_at_call 34; first | (refine (letter_any 117 _ j _ _ (by rfl) (by rfl) (by omega)).mono ?_; rintro e w1 ⟨rfl, hb1⟩; have HB1 := hidT hb1) | (refine (letter_any 120 _ i _ _ (by rfl) (by rfl) (by omega)).mono ?_; rintro e w2 ⟨rfl, hb2⟩; have HB2 := hidT hb2))
                go_roundg (7 - (m + 1))
                case measure => omega
                case rel =>
                  refine ⟨m + 1, rfl, by omega, by rw [HM1.out], ?_, ?_⟩
                  · rw [HSS.out, tmx_bare HV.out HDD.out, ← HY4.out, ← HY3.out]; simp [HXE.out]
                  · exact Fr.below (bs := []) (((Fr.of_below HE.out).trans (Fr.of_below (bs := []) HB1.out) (by simp)).trans (Fr.of_below (bs := []) HB2.out) (by simp)) (Nat.le_refl _) (by simp)
            · have hE' : (bs X).toList.isEmpty = false := by rw [bs_empty]; simp [hE]
              rw [if_neg hE] at HSS
              clear hE
              obtain ⟨Y1, HY1⟩ : ∃ Y, Hid (X ++ [43] = Y) := ⟨_, hidT rfl⟩
              have HL1 : Hid (Y1.length ≤ 211) := by unfold Hid; rw [← HY1.out, List.length_append]; have := HL.out; (try simp only [List.length_cons, List.length_nil]); omega
              have hadd1 := fun (w' : World) => add_to X [43] Y1 ⟨#[43]⟩ rfl HY1.out (by have := HL.out; omega) (by simp) w'
              by_cases hd : v > 1 ∨ i + j = 0
              · have HDD := hidT hd
                by_cases h1 : 1 < v
                · have hd' : (1 : Int) < (v : Int) := by omega
                  obtain ⟨Y2, HY2⟩ : ∃ Y, Hid (Y1 ++ [dgt v] = Y) := ⟨_, hidT rfl⟩
                  have HL2 : Hid (Y2.length ≤ 212) := by unfold Hid; rw [← HY2.out, List.length_append]; have := HL1.out; (try simp only [List.length_cons, List.length_nil]); omega
                  have hadd2 := fun (w' : World) => add_to Y1 [dgt v] Y2 (bs [dgt v]) rfl HY2.out (by have := HL1.out; omega) (by simp) w'
                  obtain ⟨Y3, HY3⟩ : ∃ Y, Hid (Y2 ++ ptx 117 j = Y) := ⟨_, hidT rfl⟩
                  have HL3 : Hid (Y3.length ≤ 214) := by unfold Hid; rw [← HY3.out, List.length_append]; have := HPU.out; have := HL2.out; (try simp only [List.length_cons, List.length_nil]); omega
                  have hadd3 := fun (w' : World) => add_to Y2 (ptx 117 j) Y3 (bs (ptx 117 j)) rfl HY3.out (by have := HL2.out; omega) (by have := HPU.out; omega) w'
                  obtain ⟨Y4, HY4⟩ : ∃ Y, Hid (Y3 ++ ptx 120 i = Y) := ⟨_, hidT rfl⟩
                  have HL4 : Hid (Y4.length ≤ 216) := by unfold Hid; rw [← HY4.out, List.length_append]; have := HPX.out; have := HL3.out; (try simp only [List.length_cons, List.length_nil]); omega
                  have hadd4 := fun (w' : World) => add_to Y3 (ptx 120 i) Y4 (bs (ptx 120 i)) rfl HY4.out (by have := HL3.out; omega) (by have := HPX.out; omega) w'
                  go_wp2_with (go_at_call 34; first | (refine (letter_any 117 _ j _ _ (by rfl) (by rfl) (by omega)).mono ?_; rintro e w1 ⟨rfl, hb1⟩; have HB1 := hidT hb1) | (refine (letter_any 120 _ i _ _ (by rfl) (by rfl) (by omega)).mono ?_; rintro e w2 ⟨rfl, hb2⟩; have HB2 := hidT hb2))
                  go_roundg (7 - (m + 1))
                  case measure => omega
                  case rel =>
                    refine ⟨m + 1, rfl, by omega, by rw [HM1.out], ?_, ?_⟩
                    · rw [HSS.out, tmx_full HDD.out, ← HY4.out, ← HY3.out, ← HY2.out, ← HY1.out]; simp
                    · exact Fr.below (bs := []) ((((Fr.of_below HE.out).alloc _).trans (Fr.of_below (bs := []) HB1.out) (by simp)).trans (Fr.of_below (bs := []) HB2.out) (by simp)) (Nat.le_refl _) (by simp)
                · have hd' : ¬ ((1 : Int) < (v : Int)) := by omega
                  have hd0 : (i : Int) + (j : Int) = 0 := by omega
                  obtain ⟨Y2, HY2⟩ : ∃ Y, Hid (Y1 ++ [dgt v] = Y) := ⟨_, hidT rfl⟩
                  have HL2 : Hid (Y2.length ≤ 212) := by unfold Hid; rw [← HY2.out, List.length_append]; have := HL1.out; (try simp only [List.length_cons, List.length_nil]); omega
                  have hadd2 := fun (w' : World) => add_to Y1 [dgt v] Y2 (bs [dgt v]) rfl HY2.out (by have := HL1.out; omega) (by simp) w'
                  obtain ⟨Y3, HY3⟩ : ∃ Y, Hid (Y2 ++ ptx 117 j = Y) := ⟨_, hidT rfl⟩
                  have HL3 : Hid (Y3.length ≤ 214) := by unfold Hid; rw [← HY3.out, List.length_append]; have := HPU.out; have := HL2.out; (try simp only [List.length_cons, List.length_nil]); omega
                  have hadd3 := fun (w' : World) => add_to Y2 (ptx 117 j) Y3 (bs (ptx 117 j)) rfl HY3.out (by have := HL2.out; omega) (by have := HPU.out; omega) w'
                  obtain ⟨Y4, HY4⟩ : ∃ Y, Hid (Y3 ++ ptx 120 i = Y) := ⟨_, hidT rfl⟩
                  have HL4 : Hid (Y4.length ≤ 216) := by unfold Hid; rw [← HY4.out, List.length_append]; have := HPX.out; have := HL3.out; (try simp only [List.length_cons, List.length_nil]); omega
                  have hadd4 := fun (w' : World) => add_to Y3 (ptx 120 i) Y4 (bs (ptx 120 i)) rfl HY4.out (by have := HL3.out; omega) (by have := HPX.out; omega) w'
                  go_wp2_with (go_at_call 34; first | (refine (letter_any 117 _ j _ _ (by rfl) (by rfl) (by omega)).mono ?_; rintro e w1 ⟨rfl, hb1⟩; have HB1 := hidT hb1) | (refine (letter_any 120 _ i _ _ (by rfl) (by rfl) (by omega)).mono ?_; rintro e w2 ⟨rfl, hb2⟩; have HB2 := hidT hb2))
                  go_roundg (7 - (m + 1))
                  case measure => omega
                  case rel =>
                    refine ⟨m + 1, rfl, by omega, by rw [HM1.out], ?_, ?_⟩
                    · rw [HSS.out, tmx_full HDD.out, ← HY4.out, ← HY3.out, ← HY2.out, ← HY1.out]; simp
                    · exact Fr.below (bs := []) ((((Fr.of_below HE.out).alloc _).trans (Fr.of_below (bs := []) HB1.out) (by simp)).trans (Fr.of_below (bs := []) HB2.out) (by simp)) (Nat.le_refl _) (by simp)
              · have HDD := hidT hd
                have hd' : ¬ ((1 : Int) < (v : Int)) := by omega
                have hd0 : ¬ ((i : Int) + (j : Int) = 0) := by omega
                obtain ⟨Y3, HY3⟩ : ∃ Y, Hid (Y1 ++ ptx 117 j = Y) := ⟨_, hidT rfl⟩
                have HL3 : Hid (Y3.length ≤ 214) := by unfold Hid; rw [← HY3.out, List.length_append]; have := HPU.out; have := HL1.out; (try simp only [List.length_cons, List.length_nil]); omega
                have hadd3 := fun (w' : World) => add_to Y1 (ptx 117 j) Y3 (bs (ptx 117 j)) rfl HY3.out (by have := HL1.out; omega) (by have := HPU.out; omega) w'
                obtain ⟨Y4, HY4⟩ : ∃ Y, Hid (Y3 ++ ptx 120 i = Y) := ⟨_, hidT rfl⟩
                have HL4 : Hid (Y4.length ≤ 216) := by unfold Hid; rw [← HY4.out, List.length_append]; have := HPX.out; have := HL3.out; (try simp only [List.length_cons, List.length_nil]); omega
                have hadd4 := fun (w' : World) => add_to Y3 (ptx 120 i) Y4 (bs (ptx 120 i)) rfl HY4.out (by have := HL3.out; omega) (by have := HPX.out; omega) w'
                go_wp2_with (go_at_call 34; first | (refine (letter_any 117 _ j _ _ (by rfl) (by rfl) (by omega)).mono ?_; rintro e w1 ⟨rfl, hb1⟩; have HB1 := hidT hb1) | (refine (letter_any 120 _ i _ _ (by rfl) (by rfl) (by omega)).mono ?_; rintro e w2 ⟨rfl, hb2⟩; have HB2 := hidT hb2))
                go_roundg (7 - (m + 1))
                case measure => omega
                case rel =>
                  refine ⟨m + 1, rfl, by omega, by rw [HM1.out], ?_, ?_⟩
                  · rw [HSS.out, tmx_bare HV.out HDD.out, ← HY4.out, ← HY3.out, ← HY1.out]; simp
                  · exact Fr.below (bs := []) (((Fr.of_below HE.out).trans (Fr.of_below (bs := []) HB1.out) (by simp)).trans (Fr.of_below (bs := []) HB2.out) (by simp)) (Nat.le_refl _) (by simp)
        · have e7 : m = 7 := by omega
          subst e7
          have HK1 : Hid ((((5 - (a + 1) : Nat) : Int) - 1) = (i : Int) - 1) := by unfold Hid; have := HI.out; omega
          go_wp2
          go_roundg (5 - (a + 1))
          case measure => omega
          case rel => exact ⟨a + 1, rfl, by omega, by rw [HK1.out], by rw [show (a + 1) * 7 = a * 7 + 7 by omega], HE⟩
    · have e5 : a = 5 := by omega
      subst e5
      have HT : Hid (txt p = if wrt p (5 * 7) = [] then [48] else wrt p (5 * 7)) := rfl
      generalize hwX : wrt p (5 * 7) = X at *
      by_cases hE : X = []
      · have hE' : (bs X).toList.isEmpty = true := by rw [bs_empty, hE]; rfl
        rw [if_pos hE] at HT
        clear hE hwX
        go_wp2
        go_ret
        exact ⟨by rw [HT.out]; rfl, Fr.below (bs := []) ((Fr.of_below BW.out).trans (Fr.of_below (bs := []) HD.out) (by simp)) (Nat.le_refl _) (by simp)⟩
      · have hE' : (bs X).toList.isEmpty = false := by rw [bs_empty]; simp [hE]
        rw [if_neg hE] at HT
        clear hE hwX
        go_wp2
        go_ret
        exact ⟨by rw [HT.out]; rfl, Fr.below (bs := []) ((Fr.of_below BW.out).trans (Fr.of_below (bs := []) HD.out) (by simp)) (Nat.le_refl _) (by simp)⟩
end Go.Proofs.YtaajdcaciofmaaaDoor
