import Derived.Test.YthlmgpllapccfaaGreatDoorPack11
/- ADDED: the statement's own function term. -/
namespace Go.Proofs.YthlmgpllapccfaaGreatDoor
open Go.RowKit
set_option maxRecDepth 100000 in
set_option maxHeartbeats 2000000 in
theorem kterm_111 (v : Int) (top n u x : Nat) (Tp : Int) (w : World) (hT : Tp = top) (ht : top ≤ 4) (h1 : -9223372036854775808 ≤ v) (h2 : v ≤ 9223372036854775807) (HN : Hid (pck v 14 = n)) (HU : Hid (pck (Int.tdiv v 14) 3 = u)) (HX : Hid (pck (Int.tdiv v 42) (top + 1) = x)) (hn : n ≤ 13) (hu : u ≤ 2) (hx : x ≤ 4) (c1 : 9 < n) (c2 : 0 < u) (c3 : 0 < x) :
    Calls Tryz.prog 32 #[.int .i64 v, .int .i64 Tp] w fun e w' => e = .returned (.string (bs (ktx n u x))) ∧ Below w.heap.size w w' := by
  subst hT
  have b1 : -9223372036854775808 ≤ Int.tdiv v 14 ∧ Int.tdiv v 14 ≤ 9223372036854775807 := tdiv_bd v 14 (by omega) h1 h2
  have b2 : -9223372036854775808 ≤ Int.tdiv v 42 ∧ Int.tdiv v 42 ≤ 9223372036854775807 := tdiv_bd v 42 (by omega) h1 h2
  have hn9 : (9 : Int) < (n : Int) := by omega
  have hu0 : (0 : Int) < (u : Int) := by omega
  have hx0 : (0 : Int) < (x : Int) := by omega
  obtain ⟨Y1, HY1⟩ : ∃ Y, Hid ([49] ++ [dgt (n - 10)] = Y) := ⟨_, hidT rfl⟩
  have HL1 : Hid (Y1.length ≤ 2) := by unfold Hid; rw [← HY1.out]; simp
  have hadd1 := fun (w' : World) => add_to0 [49] ⟨#[49]⟩ [dgt (n - 10)] Y1 (bs [dgt (n - 10)]) rfl rfl HY1.out (by simp) (by simp) w'
  obtain ⟨Y2, HY2⟩ : ∃ Y, Hid (Y1 ++ [117] = Y) := ⟨_, hidT rfl⟩
  have HL2 : Hid (Y2.length ≤ 3) := by unfold Hid; rw [← HY2.out, List.length_append]; have := HL1.out; simp; omega
  have hadd2 := fun (w' : World) => add_to Y1 [117] Y2 ⟨#[117]⟩ rfl HY2.out (by have := HL1.out; omega) (by simp) w'
  obtain ⟨Y3, HY3⟩ : ∃ Y, Hid (Y2 ++ [dgt u] = Y) := ⟨_, hidT rfl⟩
  have HL3 : Hid (Y3.length ≤ 4) := by unfold Hid; rw [← HY3.out, List.length_append]; have := HL2.out; simp; omega
  have hadd3 := fun (w' : World) => add_to Y2 [dgt u] Y3 (bs [dgt u]) rfl HY3.out (by have := HL2.out; omega) (by simp) w'
  obtain ⟨Y4, HY4⟩ : ∃ Y, Hid (Y3 ++ [32, 120] = Y) := ⟨_, hidT rfl⟩
  have HL4 : Hid (Y4.length ≤ 6) := by unfold Hid; rw [← HY4.out, List.length_append]; have := HL3.out; simp; omega
  have hadd4 := fun (w' : World) => add_to Y3 [32, 120] Y4 ⟨#[32, 120]⟩ rfl HY4.out (by have := HL3.out; omega) (by simp) w'
  obtain ⟨Y5, HY5⟩ : ∃ Y, Hid (Y4 ++ [dgt x] = Y) := ⟨_, hidT rfl⟩
  have hadd5 := fun (w' : World) => add_to Y4 [dgt x] Y5 (bs [dgt x]) rfl HY5.out (by have := HL4.out; omega) (by simp) w'
  have HF : Hid (ktx n u x = Y5) := by unfold Hid ktx knum pku pkx; rw [if_pos (by omega), if_neg (by omega), if_neg (by omega), ← HY5.out, ← HY4.out, ← HY3.out, ← HY2.out, ← HY1.out]; simp
  rw [HF.out]
  go_enter Tryz.func32, Tryz.ntmps32
  go_wp2_with (first | (go_at_call 12; first | (refine (kpick_to v 14 _ _ _ (by rfl) (by rfl) (by omega) (by omega) h1 h2).mono ?_; rintro e wp ⟨rfl, rfl⟩; rw [HN.out]) | (refine (kpick_to (Int.tdiv v 14) 3 _ _ _ (by rfl) (by rfl) (by omega) (by omega) (by omega) (by omega)).mono ?_; rintro e wp ⟨rfl, rfl⟩; rw [HU.out]) | (refine (kpick_to (Int.tdiv v 42) (top + 1) _ _ _ (by rfl) (by omega) (by omega) (by omega) (by omega) (by omega)).mono ?_; rintro e wp ⟨rfl, rfl⟩; rw [HX.out])) | (go_at_call 17; first | (refine (kdigit_any (n - 10) _ _ (by omega) (by omega)).mono ?_; rintro e w1 ⟨rfl, hb1⟩; have HB1 := hidT hb1) | (refine (kdigit_any u _ _ (by rfl) (by omega)).mono ?_; rintro e w2 ⟨rfl, hb2⟩; have HB2 := hidT hb2) | (refine (kdigit_any x _ _ (by rfl) (by omega)).mono ?_; rintro e w3 ⟨rfl, hb3⟩; have HB3 := hidT hb3)))
  go_ret
  exact ⟨rfl, bel2 (bel2 (HB1.out) HB2.out) HB3.out⟩
set_option maxRecDepth 100000 in
set_option maxHeartbeats 2000000 in
theorem kterm_110 (v : Int) (top n u x : Nat) (Tp : Int) (w : World) (hT : Tp = top) (ht : top ≤ 4) (h1 : -9223372036854775808 ≤ v) (h2 : v ≤ 9223372036854775807) (HN : Hid (pck v 14 = n)) (HU : Hid (pck (Int.tdiv v 14) 3 = u)) (HX : Hid (pck (Int.tdiv v 42) (top + 1) = x)) (hn : n ≤ 13) (hu : u ≤ 2) (_hx : x ≤ 4) (c1 : 9 < n) (c2 : 0 < u) (c3 : x = 0) :
    Calls Tryz.prog 32 #[.int .i64 v, .int .i64 Tp] w fun e w' => e = .returned (.string (bs (ktx n u x))) ∧ Below w.heap.size w w' := by
  subst hT
  have b1 : -9223372036854775808 ≤ Int.tdiv v 14 ∧ Int.tdiv v 14 ≤ 9223372036854775807 := tdiv_bd v 14 (by omega) h1 h2
  have b2 : -9223372036854775808 ≤ Int.tdiv v 42 ∧ Int.tdiv v 42 ≤ 9223372036854775807 := tdiv_bd v 42 (by omega) h1 h2
  have hn9 : (9 : Int) < (n : Int) := by omega
  have hu0 : (0 : Int) < (u : Int) := by omega
  have hx0 : ¬ ((0 : Int) < (x : Int)) := by omega
  obtain ⟨Y1, HY1⟩ : ∃ Y, Hid ([49] ++ [dgt (n - 10)] = Y) := ⟨_, hidT rfl⟩
  have HL1 : Hid (Y1.length ≤ 2) := by unfold Hid; rw [← HY1.out]; simp
  have hadd1 := fun (w' : World) => add_to0 [49] ⟨#[49]⟩ [dgt (n - 10)] Y1 (bs [dgt (n - 10)]) rfl rfl HY1.out (by simp) (by simp) w'
  obtain ⟨Y2, HY2⟩ : ∃ Y, Hid (Y1 ++ [117] = Y) := ⟨_, hidT rfl⟩
  have HL2 : Hid (Y2.length ≤ 3) := by unfold Hid; rw [← HY2.out, List.length_append]; have := HL1.out; simp; omega
  have hadd2 := fun (w' : World) => add_to Y1 [117] Y2 ⟨#[117]⟩ rfl HY2.out (by have := HL1.out; omega) (by simp) w'
  obtain ⟨Y3, HY3⟩ : ∃ Y, Hid (Y2 ++ [dgt u] = Y) := ⟨_, hidT rfl⟩
  have HL3 : Hid (Y3.length ≤ 4) := by unfold Hid; rw [← HY3.out, List.length_append]; have := HL2.out; simp; omega
  have hadd3 := fun (w' : World) => add_to Y2 [dgt u] Y3 (bs [dgt u]) rfl HY3.out (by have := HL2.out; omega) (by simp) w'
  have HF : Hid (ktx n u x = Y3) := by unfold Hid ktx knum pku pkx; rw [if_pos (by omega), if_neg (by omega), if_pos (by omega), ← HY3.out, ← HY2.out, ← HY1.out]; simp
  rw [HF.out]
  go_enter Tryz.func32, Tryz.ntmps32
  go_wp2_with (first | (go_at_call 12; first | (refine (kpick_to v 14 _ _ _ (by rfl) (by rfl) (by omega) (by omega) h1 h2).mono ?_; rintro e wp ⟨rfl, rfl⟩; rw [HN.out]) | (refine (kpick_to (Int.tdiv v 14) 3 _ _ _ (by rfl) (by rfl) (by omega) (by omega) (by omega) (by omega)).mono ?_; rintro e wp ⟨rfl, rfl⟩; rw [HU.out]) | (refine (kpick_to (Int.tdiv v 42) (top + 1) _ _ _ (by rfl) (by omega) (by omega) (by omega) (by omega) (by omega)).mono ?_; rintro e wp ⟨rfl, rfl⟩; rw [HX.out])) | (go_at_call 17; first | (refine (kdigit_any (n - 10) _ _ (by omega) (by omega)).mono ?_; rintro e w1 ⟨rfl, hb1⟩; have HB1 := hidT hb1) | (refine (kdigit_any u _ _ (by rfl) (by omega)).mono ?_; rintro e w2 ⟨rfl, hb2⟩; have HB2 := hidT hb2)))
  go_ret
  exact ⟨rfl, bel2 (HB1.out) HB2.out⟩
set_option maxRecDepth 100000 in
set_option maxHeartbeats 2000000 in
theorem kterm_101 (v : Int) (top n u x : Nat) (Tp : Int) (w : World) (hT : Tp = top) (ht : top ≤ 4) (h1 : -9223372036854775808 ≤ v) (h2 : v ≤ 9223372036854775807) (HN : Hid (pck v 14 = n)) (HU : Hid (pck (Int.tdiv v 14) 3 = u)) (HX : Hid (pck (Int.tdiv v 42) (top + 1) = x)) (hn : n ≤ 13) (_hu : u ≤ 2) (hx : x ≤ 4) (c1 : 9 < n) (c2 : u = 0) (c3 : 0 < x) :
    Calls Tryz.prog 32 #[.int .i64 v, .int .i64 Tp] w fun e w' => e = .returned (.string (bs (ktx n u x))) ∧ Below w.heap.size w w' := by
  subst hT
  have b1 : -9223372036854775808 ≤ Int.tdiv v 14 ∧ Int.tdiv v 14 ≤ 9223372036854775807 := tdiv_bd v 14 (by omega) h1 h2
  have b2 : -9223372036854775808 ≤ Int.tdiv v 42 ∧ Int.tdiv v 42 ≤ 9223372036854775807 := tdiv_bd v 42 (by omega) h1 h2
  have hn9 : (9 : Int) < (n : Int) := by omega
  have hu0 : ¬ ((0 : Int) < (u : Int)) := by omega
  have hx0 : (0 : Int) < (x : Int) := by omega
  obtain ⟨Y1, HY1⟩ : ∃ Y, Hid ([49] ++ [dgt (n - 10)] = Y) := ⟨_, hidT rfl⟩
  have HL1 : Hid (Y1.length ≤ 2) := by unfold Hid; rw [← HY1.out]; simp
  have hadd1 := fun (w' : World) => add_to0 [49] ⟨#[49]⟩ [dgt (n - 10)] Y1 (bs [dgt (n - 10)]) rfl rfl HY1.out (by simp) (by simp) w'
  obtain ⟨Y4, HY4⟩ : ∃ Y, Hid (Y1 ++ [32, 120] = Y) := ⟨_, hidT rfl⟩
  have HL4 : Hid (Y4.length ≤ 6) := by unfold Hid; rw [← HY4.out, List.length_append]; have := HL1.out; simp; omega
  have hadd4 := fun (w' : World) => add_to Y1 [32, 120] Y4 ⟨#[32, 120]⟩ rfl HY4.out (by have := HL1.out; omega) (by simp) w'
  obtain ⟨Y5, HY5⟩ : ∃ Y, Hid (Y4 ++ [dgt x] = Y) := ⟨_, hidT rfl⟩
  have hadd5 := fun (w' : World) => add_to Y4 [dgt x] Y5 (bs [dgt x]) rfl HY5.out (by have := HL4.out; omega) (by simp) w'
  have HF : Hid (ktx n u x = Y5) := by unfold Hid ktx knum pku pkx; rw [if_pos (by omega), if_pos (by omega), if_neg (by omega), ← HY5.out, ← HY4.out, ← HY1.out]; simp
  rw [HF.out]
  go_enter Tryz.func32, Tryz.ntmps32
  go_wp2_with (first | (go_at_call 12; first | (refine (kpick_to v 14 _ _ _ (by rfl) (by rfl) (by omega) (by omega) h1 h2).mono ?_; rintro e wp ⟨rfl, rfl⟩; rw [HN.out]) | (refine (kpick_to (Int.tdiv v 14) 3 _ _ _ (by rfl) (by rfl) (by omega) (by omega) (by omega) (by omega)).mono ?_; rintro e wp ⟨rfl, rfl⟩; rw [HU.out]) | (refine (kpick_to (Int.tdiv v 42) (top + 1) _ _ _ (by rfl) (by omega) (by omega) (by omega) (by omega) (by omega)).mono ?_; rintro e wp ⟨rfl, rfl⟩; rw [HX.out])) | (go_at_call 17; first | (refine (kdigit_any (n - 10) _ _ (by omega) (by omega)).mono ?_; rintro e w1 ⟨rfl, hb1⟩; have HB1 := hidT hb1) | (refine (kdigit_any x _ _ (by rfl) (by omega)).mono ?_; rintro e w3 ⟨rfl, hb3⟩; have HB3 := hidT hb3)))
  go_ret
  exact ⟨rfl, bel2 (HB1.out) HB3.out⟩
set_option maxRecDepth 100000 in
set_option maxHeartbeats 2000000 in
theorem kterm_100 (v : Int) (top n u x : Nat) (Tp : Int) (w : World) (hT : Tp = top) (ht : top ≤ 4) (h1 : -9223372036854775808 ≤ v) (h2 : v ≤ 9223372036854775807) (HN : Hid (pck v 14 = n)) (HU : Hid (pck (Int.tdiv v 14) 3 = u)) (HX : Hid (pck (Int.tdiv v 42) (top + 1) = x)) (hn : n ≤ 13) (_hu : u ≤ 2) (_hx : x ≤ 4) (c1 : 9 < n) (c2 : u = 0) (c3 : x = 0) :
    Calls Tryz.prog 32 #[.int .i64 v, .int .i64 Tp] w fun e w' => e = .returned (.string (bs (ktx n u x))) ∧ Below w.heap.size w w' := by
  subst hT
  have b1 : -9223372036854775808 ≤ Int.tdiv v 14 ∧ Int.tdiv v 14 ≤ 9223372036854775807 := tdiv_bd v 14 (by omega) h1 h2
  have b2 : -9223372036854775808 ≤ Int.tdiv v 42 ∧ Int.tdiv v 42 ≤ 9223372036854775807 := tdiv_bd v 42 (by omega) h1 h2
  have hn9 : (9 : Int) < (n : Int) := by omega
  have hu0 : ¬ ((0 : Int) < (u : Int)) := by omega
  have hx0 : ¬ ((0 : Int) < (x : Int)) := by omega
  obtain ⟨Y1, HY1⟩ : ∃ Y, Hid ([49] ++ [dgt (n - 10)] = Y) := ⟨_, hidT rfl⟩
  have HL1 : Hid (Y1.length ≤ 2) := by unfold Hid; rw [← HY1.out]; simp
  have hadd1 := fun (w' : World) => add_to0 [49] ⟨#[49]⟩ [dgt (n - 10)] Y1 (bs [dgt (n - 10)]) rfl rfl HY1.out (by simp) (by simp) w'
  have HF : Hid (ktx n u x = Y1) := by unfold Hid ktx knum pku pkx; rw [if_pos (by omega), if_pos (by omega), if_pos (by omega), ← HY1.out]; simp
  rw [HF.out]
  go_enter Tryz.func32, Tryz.ntmps32
  go_wp2_with (first | (go_at_call 12; first | (refine (kpick_to v 14 _ _ _ (by rfl) (by rfl) (by omega) (by omega) h1 h2).mono ?_; rintro e wp ⟨rfl, rfl⟩; rw [HN.out]) | (refine (kpick_to (Int.tdiv v 14) 3 _ _ _ (by rfl) (by rfl) (by omega) (by omega) (by omega) (by omega)).mono ?_; rintro e wp ⟨rfl, rfl⟩; rw [HU.out]) | (refine (kpick_to (Int.tdiv v 42) (top + 1) _ _ _ (by rfl) (by omega) (by omega) (by omega) (by omega) (by omega)).mono ?_; rintro e wp ⟨rfl, rfl⟩; rw [HX.out])) | (go_at_call 17; first | (refine (kdigit_any (n - 10) _ _ (by omega) (by omega)).mono ?_; rintro e w1 ⟨rfl, hb1⟩; have HB1 := hidT hb1)))
  go_ret
  exact ⟨rfl, HB1.out⟩
set_option maxRecDepth 100000 in
set_option maxHeartbeats 2000000 in
theorem kterm_011 (v : Int) (top n u x : Nat) (Tp : Int) (w : World) (hT : Tp = top) (ht : top ≤ 4) (h1 : -9223372036854775808 ≤ v) (h2 : v ≤ 9223372036854775807) (HN : Hid (pck v 14 = n)) (HU : Hid (pck (Int.tdiv v 14) 3 = u)) (HX : Hid (pck (Int.tdiv v 42) (top + 1) = x)) (hn : n ≤ 13) (hu : u ≤ 2) (hx : x ≤ 4) (c1 : ¬ 9 < n) (c2 : 0 < u) (c3 : 0 < x) :
    Calls Tryz.prog 32 #[.int .i64 v, .int .i64 Tp] w fun e w' => e = .returned (.string (bs (ktx n u x))) ∧ Below w.heap.size w w' := by
  subst hT
  have b1 : -9223372036854775808 ≤ Int.tdiv v 14 ∧ Int.tdiv v 14 ≤ 9223372036854775807 := tdiv_bd v 14 (by omega) h1 h2
  have b2 : -9223372036854775808 ≤ Int.tdiv v 42 ∧ Int.tdiv v 42 ≤ 9223372036854775807 := tdiv_bd v 42 (by omega) h1 h2
  have hn9 : ¬ ((9 : Int) < (n : Int)) := by omega
  have hu0 : (0 : Int) < (u : Int) := by omega
  have hx0 : (0 : Int) < (x : Int) := by omega
  obtain ⟨Y1, HY1⟩ : ∃ Y, Hid ([] ++ [dgt n] = Y) := ⟨_, hidT rfl⟩
  have HL1 : Hid (Y1.length ≤ 2) := by unfold Hid; rw [← HY1.out]; simp
  have hadd1 := fun (w' : World) => add_to0 [] ⟨#[]⟩ [dgt n] Y1 (bs [dgt n]) rfl rfl HY1.out (by simp) (by simp) w'
  obtain ⟨Y2, HY2⟩ : ∃ Y, Hid (Y1 ++ [117] = Y) := ⟨_, hidT rfl⟩
  have HL2 : Hid (Y2.length ≤ 3) := by unfold Hid; rw [← HY2.out, List.length_append]; have := HL1.out; simp; omega
  have hadd2 := fun (w' : World) => add_to Y1 [117] Y2 ⟨#[117]⟩ rfl HY2.out (by have := HL1.out; omega) (by simp) w'
  obtain ⟨Y3, HY3⟩ : ∃ Y, Hid (Y2 ++ [dgt u] = Y) := ⟨_, hidT rfl⟩
  have HL3 : Hid (Y3.length ≤ 4) := by unfold Hid; rw [← HY3.out, List.length_append]; have := HL2.out; simp; omega
  have hadd3 := fun (w' : World) => add_to Y2 [dgt u] Y3 (bs [dgt u]) rfl HY3.out (by have := HL2.out; omega) (by simp) w'
  obtain ⟨Y4, HY4⟩ : ∃ Y, Hid (Y3 ++ [32, 120] = Y) := ⟨_, hidT rfl⟩
  have HL4 : Hid (Y4.length ≤ 6) := by unfold Hid; rw [← HY4.out, List.length_append]; have := HL3.out; simp; omega
  have hadd4 := fun (w' : World) => add_to Y3 [32, 120] Y4 ⟨#[32, 120]⟩ rfl HY4.out (by have := HL3.out; omega) (by simp) w'
  obtain ⟨Y5, HY5⟩ : ∃ Y, Hid (Y4 ++ [dgt x] = Y) := ⟨_, hidT rfl⟩
  have hadd5 := fun (w' : World) => add_to Y4 [dgt x] Y5 (bs [dgt x]) rfl HY5.out (by have := HL4.out; omega) (by simp) w'
  have HF : Hid (ktx n u x = Y5) := by unfold Hid ktx knum pku pkx; rw [if_neg (by omega), if_neg (by omega), if_neg (by omega), ← HY5.out, ← HY4.out, ← HY3.out, ← HY2.out, ← HY1.out]; simp
  rw [HF.out]
  go_enter Tryz.func32, Tryz.ntmps32
  go_wp2_with (first | (go_at_call 12; first | (refine (kpick_to v 14 _ _ _ (by rfl) (by rfl) (by omega) (by omega) h1 h2).mono ?_; rintro e wp ⟨rfl, rfl⟩; rw [HN.out]) | (refine (kpick_to (Int.tdiv v 14) 3 _ _ _ (by rfl) (by rfl) (by omega) (by omega) (by omega) (by omega)).mono ?_; rintro e wp ⟨rfl, rfl⟩; rw [HU.out]) | (refine (kpick_to (Int.tdiv v 42) (top + 1) _ _ _ (by rfl) (by omega) (by omega) (by omega) (by omega) (by omega)).mono ?_; rintro e wp ⟨rfl, rfl⟩; rw [HX.out])) | (go_at_call 17; first | (refine (kdigit_any n _ _ (by omega) (by omega)).mono ?_; rintro e w1 ⟨rfl, hb1⟩; have HB1 := hidT hb1) | (refine (kdigit_any u _ _ (by rfl) (by omega)).mono ?_; rintro e w2 ⟨rfl, hb2⟩; have HB2 := hidT hb2) | (refine (kdigit_any x _ _ (by rfl) (by omega)).mono ?_; rintro e w3 ⟨rfl, hb3⟩; have HB3 := hidT hb3)))
  go_ret
  exact ⟨rfl, bel2 (bel2 (HB1.out) HB2.out) HB3.out⟩
set_option maxRecDepth 100000 in
set_option maxHeartbeats 2000000 in
theorem kterm_010 (v : Int) (top n u x : Nat) (Tp : Int) (w : World) (hT : Tp = top) (ht : top ≤ 4) (h1 : -9223372036854775808 ≤ v) (h2 : v ≤ 9223372036854775807) (HN : Hid (pck v 14 = n)) (HU : Hid (pck (Int.tdiv v 14) 3 = u)) (HX : Hid (pck (Int.tdiv v 42) (top + 1) = x)) (hn : n ≤ 13) (hu : u ≤ 2) (_hx : x ≤ 4) (c1 : ¬ 9 < n) (c2 : 0 < u) (c3 : x = 0) :
    Calls Tryz.prog 32 #[.int .i64 v, .int .i64 Tp] w fun e w' => e = .returned (.string (bs (ktx n u x))) ∧ Below w.heap.size w w' := by
  subst hT
  have b1 : -9223372036854775808 ≤ Int.tdiv v 14 ∧ Int.tdiv v 14 ≤ 9223372036854775807 := tdiv_bd v 14 (by omega) h1 h2
  have b2 : -9223372036854775808 ≤ Int.tdiv v 42 ∧ Int.tdiv v 42 ≤ 9223372036854775807 := tdiv_bd v 42 (by omega) h1 h2
  have hn9 : ¬ ((9 : Int) < (n : Int)) := by omega
  have hu0 : (0 : Int) < (u : Int) := by omega
  have hx0 : ¬ ((0 : Int) < (x : Int)) := by omega
  obtain ⟨Y1, HY1⟩ : ∃ Y, Hid ([] ++ [dgt n] = Y) := ⟨_, hidT rfl⟩
  have HL1 : Hid (Y1.length ≤ 2) := by unfold Hid; rw [← HY1.out]; simp
  have hadd1 := fun (w' : World) => add_to0 [] ⟨#[]⟩ [dgt n] Y1 (bs [dgt n]) rfl rfl HY1.out (by simp) (by simp) w'
  obtain ⟨Y2, HY2⟩ : ∃ Y, Hid (Y1 ++ [117] = Y) := ⟨_, hidT rfl⟩
  have HL2 : Hid (Y2.length ≤ 3) := by unfold Hid; rw [← HY2.out, List.length_append]; have := HL1.out; simp; omega
  have hadd2 := fun (w' : World) => add_to Y1 [117] Y2 ⟨#[117]⟩ rfl HY2.out (by have := HL1.out; omega) (by simp) w'
  obtain ⟨Y3, HY3⟩ : ∃ Y, Hid (Y2 ++ [dgt u] = Y) := ⟨_, hidT rfl⟩
  have HL3 : Hid (Y3.length ≤ 4) := by unfold Hid; rw [← HY3.out, List.length_append]; have := HL2.out; simp; omega
  have hadd3 := fun (w' : World) => add_to Y2 [dgt u] Y3 (bs [dgt u]) rfl HY3.out (by have := HL2.out; omega) (by simp) w'
  have HF : Hid (ktx n u x = Y3) := by unfold Hid ktx knum pku pkx; rw [if_neg (by omega), if_neg (by omega), if_pos (by omega), ← HY3.out, ← HY2.out, ← HY1.out]; simp
  rw [HF.out]
  go_enter Tryz.func32, Tryz.ntmps32
  go_wp2_with (first | (go_at_call 12; first | (refine (kpick_to v 14 _ _ _ (by rfl) (by rfl) (by omega) (by omega) h1 h2).mono ?_; rintro e wp ⟨rfl, rfl⟩; rw [HN.out]) | (refine (kpick_to (Int.tdiv v 14) 3 _ _ _ (by rfl) (by rfl) (by omega) (by omega) (by omega) (by omega)).mono ?_; rintro e wp ⟨rfl, rfl⟩; rw [HU.out]) | (refine (kpick_to (Int.tdiv v 42) (top + 1) _ _ _ (by rfl) (by omega) (by omega) (by omega) (by omega) (by omega)).mono ?_; rintro e wp ⟨rfl, rfl⟩; rw [HX.out])) | (go_at_call 17; first | (refine (kdigit_any n _ _ (by omega) (by omega)).mono ?_; rintro e w1 ⟨rfl, hb1⟩; have HB1 := hidT hb1) | (refine (kdigit_any u _ _ (by rfl) (by omega)).mono ?_; rintro e w2 ⟨rfl, hb2⟩; have HB2 := hidT hb2)))
  go_ret
  exact ⟨rfl, bel2 (HB1.out) HB2.out⟩
set_option maxRecDepth 100000 in
set_option maxHeartbeats 2000000 in
theorem kterm_001 (v : Int) (top n u x : Nat) (Tp : Int) (w : World) (hT : Tp = top) (ht : top ≤ 4) (h1 : -9223372036854775808 ≤ v) (h2 : v ≤ 9223372036854775807) (HN : Hid (pck v 14 = n)) (HU : Hid (pck (Int.tdiv v 14) 3 = u)) (HX : Hid (pck (Int.tdiv v 42) (top + 1) = x)) (hn : n ≤ 13) (_hu : u ≤ 2) (hx : x ≤ 4) (c1 : ¬ 9 < n) (c2 : u = 0) (c3 : 0 < x) :
    Calls Tryz.prog 32 #[.int .i64 v, .int .i64 Tp] w fun e w' => e = .returned (.string (bs (ktx n u x))) ∧ Below w.heap.size w w' := by
  subst hT
  have b1 : -9223372036854775808 ≤ Int.tdiv v 14 ∧ Int.tdiv v 14 ≤ 9223372036854775807 := tdiv_bd v 14 (by omega) h1 h2
  have b2 : -9223372036854775808 ≤ Int.tdiv v 42 ∧ Int.tdiv v 42 ≤ 9223372036854775807 := tdiv_bd v 42 (by omega) h1 h2
  have hn9 : ¬ ((9 : Int) < (n : Int)) := by omega
  have hu0 : ¬ ((0 : Int) < (u : Int)) := by omega
  have hx0 : (0 : Int) < (x : Int) := by omega
  obtain ⟨Y1, HY1⟩ : ∃ Y, Hid ([] ++ [dgt n] = Y) := ⟨_, hidT rfl⟩
  have HL1 : Hid (Y1.length ≤ 2) := by unfold Hid; rw [← HY1.out]; simp
  have hadd1 := fun (w' : World) => add_to0 [] ⟨#[]⟩ [dgt n] Y1 (bs [dgt n]) rfl rfl HY1.out (by simp) (by simp) w'
  obtain ⟨Y4, HY4⟩ : ∃ Y, Hid (Y1 ++ [32, 120] = Y) := ⟨_, hidT rfl⟩
  have HL4 : Hid (Y4.length ≤ 6) := by unfold Hid; rw [← HY4.out, List.length_append]; have := HL1.out; simp; omega
  have hadd4 := fun (w' : World) => add_to Y1 [32, 120] Y4 ⟨#[32, 120]⟩ rfl HY4.out (by have := HL1.out; omega) (by simp) w'
  obtain ⟨Y5, HY5⟩ : ∃ Y, Hid (Y4 ++ [dgt x] = Y) := ⟨_, hidT rfl⟩
  have hadd5 := fun (w' : World) => add_to Y4 [dgt x] Y5 (bs [dgt x]) rfl HY5.out (by have := HL4.out; omega) (by simp) w'
  have HF : Hid (ktx n u x = Y5) := by unfold Hid ktx knum pku pkx; rw [if_neg (by omega), if_pos (by omega), if_neg (by omega), ← HY5.out, ← HY4.out, ← HY1.out]; simp
  rw [HF.out]
  go_enter Tryz.func32, Tryz.ntmps32
  go_wp2_with (first | (go_at_call 12; first | (refine (kpick_to v 14 _ _ _ (by rfl) (by rfl) (by omega) (by omega) h1 h2).mono ?_; rintro e wp ⟨rfl, rfl⟩; rw [HN.out]) | (refine (kpick_to (Int.tdiv v 14) 3 _ _ _ (by rfl) (by rfl) (by omega) (by omega) (by omega) (by omega)).mono ?_; rintro e wp ⟨rfl, rfl⟩; rw [HU.out]) | (refine (kpick_to (Int.tdiv v 42) (top + 1) _ _ _ (by rfl) (by omega) (by omega) (by omega) (by omega) (by omega)).mono ?_; rintro e wp ⟨rfl, rfl⟩; rw [HX.out])) | (go_at_call 17; first | (refine (kdigit_any n _ _ (by omega) (by omega)).mono ?_; rintro e w1 ⟨rfl, hb1⟩; have HB1 := hidT hb1) | (refine (kdigit_any x _ _ (by rfl) (by omega)).mono ?_; rintro e w3 ⟨rfl, hb3⟩; have HB3 := hidT hb3)))
  go_ret
  exact ⟨rfl, bel2 (HB1.out) HB3.out⟩
set_option maxRecDepth 100000 in
set_option maxHeartbeats 2000000 in
theorem kterm_000 (v : Int) (top n u x : Nat) (Tp : Int) (w : World) (hT : Tp = top) (ht : top ≤ 4) (h1 : -9223372036854775808 ≤ v) (h2 : v ≤ 9223372036854775807) (HN : Hid (pck v 14 = n)) (HU : Hid (pck (Int.tdiv v 14) 3 = u)) (HX : Hid (pck (Int.tdiv v 42) (top + 1) = x)) (hn : n ≤ 13) (_hu : u ≤ 2) (_hx : x ≤ 4) (c1 : ¬ 9 < n) (c2 : u = 0) (c3 : x = 0) :
    Calls Tryz.prog 32 #[.int .i64 v, .int .i64 Tp] w fun e w' => e = .returned (.string (bs (ktx n u x))) ∧ Below w.heap.size w w' := by
  subst hT
  have b1 : -9223372036854775808 ≤ Int.tdiv v 14 ∧ Int.tdiv v 14 ≤ 9223372036854775807 := tdiv_bd v 14 (by omega) h1 h2
  have b2 : -9223372036854775808 ≤ Int.tdiv v 42 ∧ Int.tdiv v 42 ≤ 9223372036854775807 := tdiv_bd v 42 (by omega) h1 h2
  have hn9 : ¬ ((9 : Int) < (n : Int)) := by omega
  have hu0 : ¬ ((0 : Int) < (u : Int)) := by omega
  have hx0 : ¬ ((0 : Int) < (x : Int)) := by omega
  obtain ⟨Y1, HY1⟩ : ∃ Y, Hid ([] ++ [dgt n] = Y) := ⟨_, hidT rfl⟩
  have HL1 : Hid (Y1.length ≤ 2) := by unfold Hid; rw [← HY1.out]; simp
  have hadd1 := fun (w' : World) => add_to0 [] ⟨#[]⟩ [dgt n] Y1 (bs [dgt n]) rfl rfl HY1.out (by simp) (by simp) w'
  have HF : Hid (ktx n u x = Y1) := by unfold Hid ktx knum pku pkx; rw [if_neg (by omega), if_pos (by omega), if_pos (by omega), ← HY1.out]; simp
  rw [HF.out]
  go_enter Tryz.func32, Tryz.ntmps32
  go_wp2_with (first | (go_at_call 12; first | (refine (kpick_to v 14 _ _ _ (by rfl) (by rfl) (by omega) (by omega) h1 h2).mono ?_; rintro e wp ⟨rfl, rfl⟩; rw [HN.out]) | (refine (kpick_to (Int.tdiv v 14) 3 _ _ _ (by rfl) (by rfl) (by omega) (by omega) (by omega) (by omega)).mono ?_; rintro e wp ⟨rfl, rfl⟩; rw [HU.out]) | (refine (kpick_to (Int.tdiv v 42) (top + 1) _ _ _ (by rfl) (by omega) (by omega) (by omega) (by omega) (by omega)).mono ?_; rintro e wp ⟨rfl, rfl⟩; rw [HX.out])) | (go_at_call 17; first | (refine (kdigit_any n _ _ (by omega) (by omega)).mono ?_; rintro e w1 ⟨rfl, hb1⟩; have HB1 := hidT hb1)))
  go_ret
  exact ⟨rfl, HB1.out⟩

/-- The term that a raw number gives. -/
def kT (sg : Nat) (v : Int) (top : Nat) : T4 := ⟨sg, pck v 14, pck (Int.tdiv v 14) 3, pck (Int.tdiv v 42) (top + 1)⟩
theorem kT_ok (sg : Nat) (v : Int) {top : Nat} (ht : top ≤ 4) : okT (kT sg v top) := by
  have a := pck_lt v (n := 14) (by omega)
  have b := pck_lt (Int.tdiv v 14) (n := 3) (by omega)
  have c := pck_lt (Int.tdiv v 42) (n := top + 1) (by omega)
  unfold kT okT
  refine ⟨?_, ?_, ?_⟩ <;> simp only <;> omega
theorem kterm_any (sg : Nat) (v : Int) (top : Nat) (Tp : Int) (w : World) (hT : Tp = top) (ht : top ≤ 4) (h1 : -9223372036854775808 ≤ v) (h2 : v ≤ 9223372036854775807) :
    Calls Tryz.prog 32 #[.int .i64 v, .int .i64 Tp] w fun e w' => e = .returned (.string (bs (ktx (kT sg v top).n (kT sg v top).u (kT sg v top).x))) ∧ Below w.heap.size w w' := by
  have a := pck_lt v (n := 14) (by omega)
  have b := pck_lt (Int.tdiv v 14) (n := 3) (by omega)
  have c := pck_lt (Int.tdiv v 42) (n := top + 1) (by omega)
  show Calls Tryz.prog 32 #[.int .i64 v, .int .i64 Tp] w fun e w' => e = .returned (.string (bs (ktx (pck v 14) (pck (Int.tdiv v 14) 3) (pck (Int.tdiv v 42) (top + 1))))) ∧ Below w.heap.size w w'
  by_cases c1 : 9 < pck v 14
  · by_cases c2 : pck (Int.tdiv v 14) 3 = 0
    · by_cases c3 : pck (Int.tdiv v 42) (top + 1) = 0
      · exact kterm_100 v top _ _ _ Tp w hT ht h1 h2 rfl rfl rfl (by omega) (by omega) (by omega) c1 c2 c3
      · exact kterm_101 v top _ _ _ Tp w hT ht h1 h2 rfl rfl rfl (by omega) (by omega) (by omega) c1 c2 (by omega)
    · by_cases c3 : pck (Int.tdiv v 42) (top + 1) = 0
      · exact kterm_110 v top _ _ _ Tp w hT ht h1 h2 rfl rfl rfl (by omega) (by omega) (by omega) c1 (by omega) c3
      · exact kterm_111 v top _ _ _ Tp w hT ht h1 h2 rfl rfl rfl (by omega) (by omega) (by omega) c1 (by omega) (by omega)
  · by_cases c2 : pck (Int.tdiv v 14) 3 = 0
    · by_cases c3 : pck (Int.tdiv v 42) (top + 1) = 0
      · exact kterm_000 v top _ _ _ Tp w hT ht h1 h2 rfl rfl rfl (by omega) (by omega) (by omega) c1 c2 c3
      · exact kterm_001 v top _ _ _ Tp w hT ht h1 h2 rfl rfl rfl (by omega) (by omega) (by omega) c1 c2 (by omega)
    · by_cases c3 : pck (Int.tdiv v 42) (top + 1) = 0
      · exact kterm_010 v top _ _ _ Tp w hT ht h1 h2 rfl rfl rfl (by omega) (by omega) (by omega) c1 (by omega) c3
      · exact kterm_011 v top _ _ _ Tp w hT ht h1 h2 rfl rfl rfl (by omega) (by omega) (by omega) c1 (by omega) (by omega)
end Go.Proofs.YthlmgpllapccfaaGreatDoor
/- PLAIN, FOR SUMS: the texts that the statement writes, and their sums. -/
namespace Go.Proofs.YthlmgpllapccfaaGreatDoor

theorem its_append : ∀ a b : List It, its (a ++ b) = its a ++ its b
  | [], b => rfl
  | t :: a, b => by
    show t.sep ++ (ktx t.t.n t.t.u t.t.x ++ its (a ++ b)) = t.sep ++ (ktx t.t.n t.t.u t.t.x ++ its a) ++ its b
    rw [its_append a b]; simp
/-- What a raw number behind the first adds. -/
def kI (y : Int) : It := if pck y 2 = 0 then ⟨[32, 45, 32], kT 6 (Int.tdiv y 2) 4⟩ else ⟨[43], kT 1 (Int.tdiv y 2) 4⟩
theorem kI_ok (y : Int) : okI (kI y) := by
  unfold kI; split
  · exact ⟨Or.inr (Or.inr (Or.inl ⟨rfl, rfl⟩)), kT_ok _ _ (by omega)⟩
  · exact ⟨Or.inl ⟨rfl, rfl⟩, kT_ok _ _ (by omega)⟩
/-- The first term; the others. -/
def kF : List Int → T4
  | [] => ⟨1, 0, 0, 0⟩
  | x :: _ => kT 1 (Int.tdiv x 2) 4
def kR : List Int → List It
  | [] => []
  | _ :: ys => (ys.take 2).map kI
theorem kF_ok (xs : List Int) : okT (kF xs) := by
  cases xs with
  | nil => exact ⟨by simp [kF], by simp [kF], by simp [kF]⟩
  | cons x ys => exact kT_ok _ _ (by omega)
theorem kF_sg (xs : List Int) : (kF xs).sg = 1 := by cases xs <;> rfl
theorem kR_ok (xs : List Int) : ∀ a ∈ kR xs, okI a := by
  cases xs with
  | nil => intro a h; simp [kR] at h
  | cons x ys =>
    intro a h
    simp only [kR, List.mem_map] at h
    obtain ⟨y, _, rfl⟩ := h
    exact kI_ok y
/-- The text; its terms. -/
def kX (xs : List Int) : List UInt8 := ktx (kF xs).n (kF xs).u (kF xs).x ++ its (kR xs)
def kTs (xs : List Int) : List T4 := kF xs :: (kR xs).map It.t
theorem ok4_of {t : T4} (h : okT t) : ok4 t := ⟨h.2.1, h.2.2⟩
theorem kTs_ok (xs : List Int) : ∀ t ∈ kTs xs, ok4 t := by
  intro t h
  simp only [kTs, List.mem_cons, List.mem_map] at h
  rcases h with rfl | ⟨a, ha, rfl⟩
  · exact ok4_of (kF_ok xs)
  · exact ok4_of (kR_ok xs a ha).2
theorem ktx_le (n u x : Nat) : (ktx n u x).length ≤ 7 := by
  rw [ktx_len]
  have h1 : (knum n).length ≤ 2 := by unfold knum; split <;> simp
  have h2 : (pku u).length ≤ 2 := by unfold pku; split <;> simp
  have h3 : (pkx x).length ≤ 3 := by unfold pkx; split <;> simp
  omega
theorem its_le : ∀ r : List It, (∀ a ∈ r, okI a) → (its r).length ≤ 10 * r.length
  | [], _ => by simp [its]
  | a :: r, h => by
    have ih := its_le r (fun y hy => h y (by simp [hy]))
    have hk := ktx_le a.t.n a.t.u a.t.x
    have hs : a.sep.length ≤ 3 := by
      rcases (h a (by simp)).1 with ⟨e, _⟩ | ⟨e, _⟩ | ⟨e, _⟩ | ⟨e, _⟩ <;> rw [e] <;> simp
    simp only [its, List.length_append, List.length_cons]
    omega
theorem kR_len (xs : List Int) : (kR xs).length ≤ 2 := by
  cases xs with
  | nil => simp [kR]
  | cons x ys => simp only [kR, List.length_map, List.length_take]; omega
theorem kX_len (xs : List Int) : (kX xs).length ≤ 27 := by
  have h1 := ktx_le (kF xs).n (kF xs).u (kF xs).x
  have h2 := its_le (kR xs) (kR_ok xs)
  have h3 := kR_len xs
  unfold kX; rw [List.length_append]; omega
/-- The text itself is read as its terms. -/
theorem rd_one (xs : List Int) : rd (bs (kX xs)) = ⟨0, 0, sumP (kTs xs)⟩ :=
  rd_sum (kF xs) (kR xs) (kF_ok xs) (kF_sg xs) (kR_ok xs) (by have := kX_len xs; unfold kX at this; omega)
/-- Two texts with a plus between them. -/
theorem rd_two (xs ys : List Int) (sep : List UInt8) (hs : okSep sep 1) : rd (bs (kX xs ++ sep ++ kX ys)) = ⟨0, 0, sumP (kTs xs ++ kTs ys)⟩ := by
  have e : kX xs ++ sep ++ kX ys = ktx (kF xs).n (kF xs).u (kF xs).x ++ its (kR xs ++ (⟨sep, kF ys⟩ :: kR ys)) := by
    rw [its_append]; unfold kX; simp [its]
  have hsl : sep.length ≤ 3 := by rcases hs with ⟨e, _⟩ | ⟨e, _⟩ | ⟨_, e⟩ | ⟨_, e⟩ <;> first | (rw [e]; simp; done) | omega
  have hl : (kX xs ++ sep ++ kX ys).length ≤ 90 := by
    have := kX_len xs; have := kX_len ys
    rw [List.length_append, List.length_append]; omega
  rw [e] at hl ⊢
  have hok : ∀ a ∈ kR xs ++ (⟨sep, kF ys⟩ :: kR ys), okI a := by
    intro a ha
    rw [List.mem_append, List.mem_cons] at ha
    rcases ha with h | rfl | h
    · exact kR_ok xs a h
    · exact ⟨by show okSep sep (kF ys).sg; rw [kF_sg]; exact hs, kF_ok ys⟩
    · exact kR_ok ys a h
  have r := rd_sum (kF xs) _ (kF_ok xs) (kF_sg xs) hok hl
  rw [r]
  simp [kTs]
/-- A text less 0. -/
theorem rd_less (xs : List Int) : rd (bs (kX xs ++ [45] ++ ktx 0 0 0)) = ⟨0, 0, sumP (kTs xs)⟩ := by
  have e : kX xs ++ [45] ++ ktx 0 0 0 = ktx (kF xs).n (kF xs).u (kF xs).x ++ its (kR xs ++ [⟨[45], ⟨6, 0, 0, 0⟩⟩]) := by
    rw [its_append]; unfold kX; simp [its]
  have hl : (kX xs ++ [45] ++ ktx 0 0 0).length ≤ 90 := by
    have := kX_len xs
    have := ktx_le 0 0 0
    rw [List.length_append, List.length_append]; simp only [List.length_cons, List.length_nil]; omega
  rw [e] at hl ⊢
  have hok : ∀ a ∈ kR xs ++ [(⟨[45], ⟨6, 0, 0, 0⟩⟩ : It)], okI a := by
    intro a ha
    rw [List.mem_append, List.mem_singleton] at ha
    rcases ha with h | rfl
    · exact kR_ok xs a h
    · exact ⟨Or.inr (Or.inr (Or.inr ⟨rfl, rfl⟩)), by simp, by simp, by simp⟩
  have r := rd_sum (kF xs) _ (kF_ok xs) (kF_sg xs) hok hl
  rw [r]
  have q := sumP_none (kTs_ok xs) 6
  rw [← q]
  simp [kTs]
end Go.Proofs.YthlmgpllapccfaaGreatDoor
/- THE STATEMENTS' own degree. -/
namespace Go.Proofs.YthlmgpllapccfaaGreatDoor
open Go.RowKit

set_option maxRecDepth 100000 in
set_option maxHeartbeats 2000000 in
theorem kdegree_any (g : Nat → Nat) (w : World) :
    Calls Tryz.prog 19 #[.agg (pv (lst g))] w fun e w' => e = .returned (.int .i64 ((dg g : Int) - 1)) ∧ Below w.heap.size w w' := by
  go_enter Tryz.func19, Tryz.ntmps19
  go_wp2
  refine wp_forget (fun W => Blk W w.heap.size (pv (lst g)) 30 ∧ Below w.heap.size w W) ⟨Blk.new w _ _, by go_grown⟩ ?_
  rintro W ⟨b1, hbel⟩
  have HH := hidV (And.intro b1 hbel)
  clear b1 hbel
  go_loopg [3] 5 (fun gm v3 wr => ∃ k : Nat, gm = 5 - k ∧ k ≤ 5 ∧ v3 = .int .i64 (((5 - k : Nat) : Int) - 1) ∧ Hid (∀ y, 5 - k ≤ y → y < 5 → g y = 0) ∧ Hid (Blk wr w.heap.size (pv (lst g)) 30 ∧ Below w.heap.size w wr))
  case atStart => exact ⟨0, rfl, by omega, rfl, fun y h1 h2 => by omega, HH⟩
  case round =>
    obtain ⟨k, hgm, hk, rfl, HZ, HD⟩ := hrel
    clear HH W
    by_cases h5 : k < 5
    · obtain ⟨i, hi⟩ : ∃ i : Nat, 5 - k = i + 1 := ⟨4 - k, by omega⟩
      have hi4 : i < 5 := by omega
      have e : (((5 - k : Nat) : Int) - 1) = (i : Int) := by omega
      rw [e]
      have HK1 : Hid ((((5 - (k + 1) : Nat) : Int) - 1) = (i : Int) - 1) := by unfold Hid; omega
      have HI := hidV hi
      clear e hi
      have hcell := pv_get (p := lst g) (j := i) (by rw [lst_len]; omega)
      rw [lst_get g hi4] at hcell
      have hc : wr.cell? ⟨w.heap.size, i, none⟩ = some (.int .i64 (g i)) := by rw [HD.out.1.cell]; exact hcell
      clear hcell
      have i0 : (0 : Int) ≤ (i : Int) := by omega
      have i1 : (i : Int) < 5 := by omega
      by_cases h0 : g i = 0
      · rw [h0] at hc
        go_wp2
        go_roundg (5 - (k + 1))
        case measure => omega
        case rel =>
          refine ⟨k + 1, rfl, by omega, by rw [HK1.out], fun y h1 h2 => ?_, HD⟩
          by_cases e : y = i
          · subst e; exact h0
          · exact HZ.out y (by have := HI.out; omega) h2
      · have HG : Hid (((dg g : Nat) : Int) - 1 = (i : Int)) := by
          unfold Hid
          rw [dg_is hi4 h0 (fun y h1 h2 => HZ.out y (by have := HI.out; omega) h2)]; omega
        have hne : ¬ ((g i : Int) = 0) := by omega
        generalize (g i : Int) = v at *
        go_wp2
        go_ret
        exact ⟨by rw [HG.out]; rfl, HD.out.2⟩
    · have e5 : k = 5 := by omega
      subst e5
      go_wp2
      go_ret
      exact ⟨by rw [dg_zero (fun y h => HZ.out y (by omega) h)]; rfl, HD.out.2⟩
end Go.Proofs.YthlmgpllapccfaaGreatDoor
/- THE STATEMENTS' own divides. -/
namespace Go.Proofs.YthlmgpllapccfaaGreatDoor
open Go.RowKit

theorem w64 (n : Int) (h : -100000 ≤ n ∧ n ≤ 100000) : wrap64 n = n := by unfold wrap64; omega
theorem kdiv_num {v f c : Nat} (hv : v < 7) (hf : f < 7) (hc : c < 7) : (wrap64 ((v : Int) + wrap64 ((7 - (f : Int)) * (c : Int)))).tmod 7 = (((((v : Int) - (f : Int) * (c : Int)) % 7).toNat : Nat) : Int) := by
  have hb := prod_bd hf hc
  have hs : (7 - (f : Int)) * (c : Int) = 7 * (c : Int) - (f : Int) * (c : Int) := Int.sub_mul _ _ _
  have h0 : 0 ≤ (7 - (f : Int)) * (c : Int) := Int.mul_nonneg (by omega) (by omega)
  rw [hs] at h0 ⊢
  clear hs
  generalize (f : Int) * (c : Int) = j at *
  rw [w64 (7 * (c : Int) - j) (by omega), w64 _ (by omega), Int.tmod_eq_emod_of_nonneg (by omega)]
  omega

set_option maxRecDepth 100000 in
set_option maxHeartbeats 800000 in
theorem kdivides_any (p q : Nat → Nat) (d : Nat) (w : World) (hp : Mon p d) (hq : Vec q) :
    Calls Tryz.prog 20 #[.agg (pv (lst p)), .agg (pv (lst q))] w fun e w' => e = .returned (.bool (decide (dg (dv p d q (5 - d)) = 0))) ∧ Below w.heap.size w w' := by
  have hd := hp.le
  obtain ⟨L, HL⟩ : ∃ L, Hid (dv p d q (5 - d) = L) := ⟨_, rfl⟩
  rw [HL.out]
  have HDG := hidV (kdegree_any L)
  generalize dg L = G at *
  have HKP := hidV (kdegree_any p)
  have hdp : ((dg p : Int) - 1) = (d : Int) := by
    rw [dg_is (x := d) (by omega) (by rw [hp.one]; omega) (fun y h1 _ => hp.above y h1)]; omega
  rw [hdp] at HKP
  clear hdp
  have hszp := size_line (lst_len p)
  go_enter Tryz.func20, Tryz.ntmps20
  go_wp2_with (first | (refine wpList_load_row (by rfl) 30 _ (by rfl) w.heap.size (by rfl) 30 (pv (lst p)) (0, 0) _ (by exact Blk.alloc (Blk.new w _ _) _) Tryz.underlying30 (by rfl) hszp ?_) | (go_at_call 19; refine (HKP.out _).mono ?_; rintro e w1 ⟨rfl, hb1⟩; have HB1 := hidV hb1; clear hb1))
  refine wp_forget (fun W => Blk W w.heap.size (pv (lst p)) 30 ∧ Blk W (w.heap.size + 1) (pv (lst (dv p d q 0))) 30 ∧ Below w.heap.size w W) ⟨(Blk.alloc (Blk.new w _ _) _).fr (Fr.of_below (bs := []) HB1.out) (by simp), Blk.fr (Blk.newAt _ _ _ (by simp)) (Fr.of_below (bs := []) HB1.out) (by simp), bel2 (by go_grown) HB1.out⟩ ?_
  clear HB1
  rintro V ⟨b1, b2, hbel⟩
  have HH := hidV (And.intro b1 (And.intro b2 hbel))
  clear b1 b2 hbel
  go_loopg [6] (5 - d) (fun gm v6 wr => ∃ k : Nat, gm = 5 - d - k ∧ k ≤ 5 - d ∧ v6 = .int .i64 (((5 - k : Nat) : Int) - 1) ∧ Hid (Blk wr w.heap.size (pv (lst p)) 30 ∧ Blk wr (w.heap.size + 1) (pv (lst (dv p d q k))) 30 ∧ Below w.heap.size w wr))
  case atStart => exact ⟨0, rfl, by omega, rfl, HH⟩
  case round =>
    obtain ⟨k, hgm, hk, rfl, HD⟩ := hrel
    clear HH V
    by_cases h5 : k < 5 - d
    · obtain ⟨x, s, hs, HX⟩ : ∃ x s : Nat, 5 - k = x + 1 ∧ Hid (x = s + d) := ⟨4 - k, 4 - k - d, by omega, by unfold Hid; omega⟩
      have e : (((5 - k : Nat) : Int) - 1) = (x : Int) := by omega
      rw [e]
      have HK1 : Hid ((((5 - (k + 1) : Nat) : Int) - 1) = (x : Int) - 1) := by unfold Hid; omega
      have HR : Hid (dv p d q (k + 1) = sb p (dv p d q k) (dv p d q k x) s (d + 1)) := by
        unfold Hid; rw [dv, show 4 - k = x by omega, show x - d = s by have := HX.out; omega]
      have hx5 : x < 5 := by omega
      have hrv : Vec (dv p d q k) := (dv_any hp hq k (by omega)).1
      clear e hs
      generalize dv p d q k = r at *
      have hcell := pv_get (p := lst r) (j := x) (by rw [lst_len]; omega)
      rw [lst_get r hx5] at hcell
      have hc : wr.cell? ⟨w.heap.size + 1, x, none⟩ = some (.int .i64 (r x)) := by rw [HD.out.2.1.cell]; exact hcell
      clear hcell
      have hf7 := (hrv x).1
      generalize r x = f at *
      have i0 : (0 : Int) ≤ (x : Int) := by omega
      have i1 : (x : Int) < 5 := by omega
      have i2 : (d : Int) ≤ (x : Int) := by have := HX.out; omega
      go_wp2
      go_loopg [8] (d + 1) (fun gm v8 ws => ∃ i : Nat, gm = d + 1 - i ∧ i ≤ d + 1 ∧ v8 = .int .i64 i ∧ Hid (Blk ws w.heap.size (pv (lst p)) 30 ∧ Blk ws (w.heap.size + 1) (pv (lst (sb p r f s i))) 30 ∧ Below w.heap.size w ws))
      case atStart => exact ⟨0, rfl, by omega, rfl, by rw [sb_zero]; exact HD⟩
      case round =>
        obtain ⟨i, hgm2, hi, rfl, HE⟩ := hrel
        clear HD
        by_cases h7 : i < d + 1
        · have hsi : s + i < 5 := by have := HX.out; omega
          have HST := hidV (sb_set p r f s i hsi)
          have hcell1 := pv_get (p := lst (sb p r f s i)) (j := s + i) (by rw [lst_len]; omega)
          rw [sb_at p r f s i hsi] at hcell1
          have hcell2 := pv_get (p := lst p) (j := i) (by rw [lst_len]; omega)
          rw [lst_get p (by omega)] at hcell2
          have hc1 : wr.cell? ⟨w.heap.size + 1, s + i, none⟩ = some (.int .i64 (r (s + i))) := by rw [HE.out.2.1.cell]; exact hcell1
          have hc2 : wr.frozen? ⟨w.heap.size + 1, s + i, none⟩ = false := HE.out.2.1.frozen _
          have hc3 : wr.cell? ⟨w.heap.size, i, none⟩ = some (.int .i64 (p i)) := by rw [HE.out.1.cell]; exact hcell2
          have hv7 := (hrv (s + i)).1
          have hp7 := (hp.vec i).1
          have HNUM := hidV (kdiv_num hv7 hf7 hp7)
          have hpb := prod_bd (a := f) (b := p i) hf7 hp7
          have j0 : (0 : Int) ≤ (i : Int) := by omega
          have j1 : (i : Int) < 5 := by omega
          have j2 : (0 : Int) ≤ ((s + i : Nat) : Int) := by omega
          have j3 : ((s + i : Nat) : Int) < 5 := by omega
          have hxi : (x : Int) - (d : Int) + (i : Int) = ((s + i : Nat) : Int) := by have := HX.out; omega
          clear hcell1 hcell2 hc
          generalize r (s + i) = v at *
          generalize p i = pi at *
          go_wp2
          refine region_quiet_tail 20 (by kernel_rfl) (by kernel_rfl) ?_
          simp only [List.take_succ_cons, List.take_zero, List.drop_succ_cons, List.drop_zero]
          repeat (first | go_big_quiet_step (fail) | quiet_step (fail))
          refine wpQuiet_nil ?_
          rintro _ ⟨nq, rfl⟩
          go_wp2
          go_roundg (d + 1 - (i + 1))
          case measure => omega
          case rel =>
            refine ⟨i + 1, rfl, by omega, by go_num, ⟨?_, ?_, ?_⟩⟩
            · exact Blk.setOther (by exact HE.out.1) _ _ (by show ¬ w.heap.size = w.heap.size + 1; omega)
            · rw [← HST.out _ rfl]
              exact Blk.putN (by exact HE.out.2.1) _ _ _ (by exact HNUM.out)
            · exact Below.setCell (below_drewN HE.out.2.2 nq) (by show w.heap.size ≤ w.heap.size + 1; omega) _
        · have e7 : i = d + 1 := by omega
          subst e7
          go_wp2
          go_roundg (5 - d - (k + 1))
          case measure => omega
          case rel => exact ⟨k + 1, rfl, by omega, by rw [HK1.out], by rw [HR.out]; exact HE⟩
    · have e5 : k = 5 - d := by omega
      subst e5
      have hsz := size_line (lst_len L)
      have HB : Hid (Blk wr (w.heap.size + 1) (pv (lst L)) 30 ∧ Below w.heap.size w wr) := ⟨by rw [← HL.out]; exact HD.out.2.1, HD.out.2.2⟩
      have hx1 : ¬ (d : Int) ≤ ((5 - (5 - d) : Nat) : Int) - 1 := by omega
      clear HD HL
      go_wp2_with (first | (refine wpList_load_row (by rfl) 30 _ (by rfl) (w.heap.size + 1) (by rfl) 30 (pv (lst L)) (0, 0) _ (by exact HB.out.1) Tryz.underlying30 (by rfl) hsz ?_) | (go_at_call 19; refine (HDG.out _).mono ?_; rintro e w1 ⟨rfl, hb1⟩; have HB1 := hidV hb1; clear hb1))
      go_ret
      refine ⟨?_, Fr.below (bs := []) ((Fr.of_below HB.out.2).trans (Fr.of_below (bs := []) HB1.out) (by simp)) (Nat.le_refl _) (by simp)⟩
      by_cases hg : G = 0
      · subst hg; rfl
      · show Ending.returned (.bool (decide ((G : Int) - 1 < 0))) = _
        rw [decide_eq_false hg, decide_eq_false (by omega)]
end Go.Proofs.YthlmgpllapccfaaGreatDoor
/- THE STATEMENTS' own times. -/
namespace Go.Proofs.YthlmgpllapccfaaGreatDoor
open Go.RowKit

/-- p times q, the rounds (0, *) .. (i-1, *) and (i, 0) .. (i, k-1) done. -/
def tmr (p q : Nat → Nat) (i k : Nat) : Nat → Nat := fun n => if 5 ≤ n then 0 else (((List.range 5).map fun j => if j ≤ n ∧ (j < i ∨ (j = i ∧ n - j < k)) then p j * q (n - j) else 0).sum) % 7
theorem tmr_start (p q : Nat → Nat) : tmr p q 0 0 = fun _ => 0 := by
  funext n
  unfold tmr
  split
  · rfl
  · simp [List.range, List.range.loop]
theorem tmr_next (p q : Nat → Nat) (i : Nat) : tmr p q i (5 - i) = tmr p q (i + 1) 0 := by
  funext n
  unfold tmr
  split
  · rfl
  · have e : ∀ j, (j ≤ n ∧ (j < i ∨ (j = i ∧ n - j < 5 - i))) ↔ (j ≤ n ∧ (j < i + 1 ∨ (j = i + 1 ∧ n - j < 0))) := fun j => by omega
    simp only [e]
theorem tmr_vec (p q : Nat → Nat) (i k : Nat) : Vec (tmr p q i k) := fun n => by
  unfold tmr
  split
  · exact ⟨by omega, fun _ => rfl⟩
  · exact ⟨Nat.mod_lt _ (by omega), fun h => by omega⟩
theorem tmr_other (p q : Nat → Nat) (i k n : Nat) (h : n ≠ i + k) : tmr p q i (k + 1) n = tmr p q i k n := by
  unfold tmr
  split
  · rfl
  · have e : ∀ j, (j ≤ n ∧ (j < i ∨ (j = i ∧ n - j < k + 1))) ↔ (j ≤ n ∧ (j < i ∨ (j = i ∧ n - j < k))) := fun j => by omega
    simp only [e]
theorem sum_one (f g : Nat → Nat) (i : Nat) (v : Nat) (hi : f i = g i + v) (ho : ∀ j, j ≠ i → f j = g j) : ∀ m, ((List.range m).map f).sum = ((List.range m).map g).sum + if i < m then v else 0
  | 0 => by simp
  | m + 1 => by
    rw [List.range_succ, List.map_append, List.map_append, List.sum_append, List.sum_append, sum_one f g i v hi ho m]
    simp only [List.map_cons, List.map_nil, List.sum_cons, List.sum_nil]
    by_cases h : m = i
    · subst h; rw [hi, if_neg (by omega), if_pos (by omega)]; omega
    · rw [ho m h]
      by_cases h2 : i < m
      · rw [if_pos h2, if_pos (by omega)]; omega
      · rw [if_neg h2, if_neg (by omega)]; omega
theorem tmr_at (p q : Nat → Nat) (i k : Nat) (h : i + k < 5) : tmr p q i (k + 1) (i + k) = (tmr p q i k (i + k) + p i * q k) % 7 := by
  unfold tmr
  rw [if_neg (by omega), if_neg (by omega)]
  rw [sum_one _ (fun j => if j ≤ i + k ∧ (j < i ∨ (j = i ∧ i + k - j < k)) then p j * q (i + k - j) else 0) i (p i * q k) ?_ ?_ 5, if_pos (by omega)]
  · rw [Nat.mod_add_mod]
  · rw [if_pos (by omega), if_neg (by omega), show i + k - i = k by omega]; omega
  · intro j hj
    have e : (j ≤ i + k ∧ (j < i ∨ (j = i ∧ i + k - j < k + 1))) ↔ (j ≤ i + k ∧ (j < i ∨ (j = i ∧ i + k - j < k))) := by omega
    simp only [e]
theorem tmr_set (p q : Nat → Nat) (i k : Nat) (h : i + k < 5) (v : Nat) (hv : v = (tmr p q i k (i + k) + p i * q k) % 7) : (lst (tmr p q i k)).set (i + k) v = lst (tmr p q i (k + 1)) := by
  apply lst_set _ _ h
  · rw [hv, tmr_at p q i k h]
  · intro j hj; rw [tmr_other p q i k j hj]
/-- The product of p and q, up to the fourth power. -/
def tim (p q : Nat → Nat) : Nat → Nat := tmr p q 5 0

theorem ktim_num (v a b : Nat) : ((v : Int) + (a : Int) * (b : Int)) % 7 = (((v + a * b) % 7 : Nat) : Int) := by rw [Int.natCast_emod, Int.natCast_add, Int.natCast_mul]; rfl

set_option maxRecDepth 100000 in
set_option maxHeartbeats 800000 in
theorem ktimes_any (p q : Nat → Nat) (w : World) (hp : Vec p) (hq : Vec q) :
    Calls Tryz.prog 13 #[.agg (pv (lst p)), .agg (pv (lst q))] w fun e w' => e = .returned (.agg (pv (lst (tim p q)))) ∧ Below w.heap.size w w' := by
  obtain ⟨L, HL, hlen⟩ : ∃ L, Hid (lst (tim p q) = L) ∧ L.length = 5 := ⟨_, rfl, rfl⟩
  rw [HL.out]
  go_enter Tryz.func13, Tryz.ntmps13
  go_wp2
  refine wp_forget (fun W => Blk W w.heap.size (pv (lst p)) 30 ∧ Blk W (w.heap.size + 1) (pv (lst q)) 30 ∧ Blk W (w.heap.size + 1 + 1) (pv [0, 0, 0, 0, 0]) 30 ∧ Blk W (w.heap.size + 1 + 1 + 1) (pv (lst (tmr p q 0 0))) 30 ∧ Below w.heap.size w W) ⟨Blk.alloc (Blk.alloc (Blk.alloc (Blk.new w _ _) _) _) _, Blk.alloc (Blk.alloc (Blk.newAt _ _ _ (by simp)) _) _, Blk.alloc (Blk.newAt _ _ _ (by simp)) _, by rw [tmr_start]; exact Blk.newAt _ _ _ (by simp), by go_grown⟩ ?_
  rintro W ⟨b1, b2, b3, b4, hbel⟩
  have HH := hidV (And.intro b1 (And.intro b2 (And.intro b3 (And.intro b4 hbel))))
  clear b1 b2 b3 b4 hbel
  go_loopg [6] 5 (fun gm v6 wr => ∃ i : Nat, gm = 5 - i ∧ i ≤ 5 ∧ v6 = .int .i64 i ∧ Hid (Blk wr w.heap.size (pv (lst p)) 30 ∧ Blk wr (w.heap.size + 1) (pv (lst q)) 30 ∧ Blk wr (w.heap.size + 1 + 1) (pv [0, 0, 0, 0, 0]) 30 ∧ Blk wr (w.heap.size + 1 + 1 + 1) (pv (lst (tmr p q i 0))) 30 ∧ Below w.heap.size w wr))
  case atStart => exact ⟨0, rfl, by omega, rfl, HH⟩
  case round =>
    obtain ⟨i, hgm, hi, rfl, HD⟩ := hrel
    clear HH W
    by_cases h5 : i < 5
    · have i0 : (0 : Int) ≤ (i : Int) := by omega
      have i1 : (i : Int) < 5 := by omega
      go_wp2
      go_loopg [7] (5 - i) (fun gm v7 ws => ∃ k : Nat, gm = 5 - i - k ∧ i + k ≤ 5 ∧ v7 = .int .i64 k ∧ Hid (Blk ws w.heap.size (pv (lst p)) 30 ∧ Blk ws (w.heap.size + 1) (pv (lst q)) 30 ∧ Blk ws (w.heap.size + 1 + 1) (pv [0, 0, 0, 0, 0]) 30 ∧ Blk ws (w.heap.size + 1 + 1 + 1) (pv (lst (tmr p q i k))) 30 ∧ Below w.heap.size w ws))
      case atStart => exact ⟨0, rfl, by omega, rfl, HD⟩
      case round =>
        obtain ⟨k, hgm2, hk, rfl, HE⟩ := hrel
        clear HD
        by_cases h7 : i + k < 5
        · have HST := hidV (tmr_set p q i k h7)
          have hv7 := (tmr_vec p q i k (i + k)).1
          generalize hr : tmr p q i k = r at *
          clear hr
          have hcell1 := pv_get (p := lst r) (j := i + k) (by rw [lst_len]; omega)
          rw [lst_get r h7] at hcell1
          have hcell2 := pv_get (p := lst p) (j := i) (by rw [lst_len]; omega)
          rw [lst_get p (by omega)] at hcell2
          have hcell3 := pv_get (p := lst q) (j := k) (by rw [lst_len]; omega)
          rw [lst_get q (by omega)] at hcell3
          have hc1 : wr.cell? ⟨w.heap.size + 1 + 1 + 1, i + k, none⟩ = some (.int .i64 (r (i + k))) := by rw [HE.out.2.2.2.1.cell]; exact hcell1
          have hc2 : wr.frozen? ⟨w.heap.size + 1 + 1 + 1, i + k, none⟩ = false := HE.out.2.2.2.1.frozen _
          have hc3 : wr.cell? ⟨w.heap.size, i, none⟩ = some (.int .i64 (p i)) := by rw [HE.out.1.cell]; exact hcell2
          have hc4 : wr.cell? ⟨w.heap.size + 1, k, none⟩ = some (.int .i64 (q k)) := by rw [HE.out.2.1.cell]; exact hcell3
          have hpb := prod_bd (a := p i) (b := q k) (hp i).1 (hq k).1
          have HNUM := hidV (ktim_num (r (i + k)) (p i) (q k))
          have j0 : (0 : Int) ≤ (k : Int) := by omega
          have j1 : (k : Int) < 5 := by omega
          have j2 : (0 : Int) ≤ (i : Int) + (k : Int) := by omega
          have j3 : (i : Int) + (k : Int) < 5 := by omega
          have hik : ((i : Int) + (k : Int)).toNat = i + k := by omega
          clear hcell1 hcell2 hcell3
          generalize r (i + k) = v at *
          generalize p i = a at *
          generalize q k = b at *
          go_wp2
          refine region_quiet_tail 18 (by kernel_rfl) (by kernel_rfl) ?_
          simp only [List.take_succ_cons, List.take_zero, List.drop_succ_cons, List.drop_zero]
          repeat (first | go_big_quiet_step (fail) | quiet_step (fail))
          refine wpQuiet_nil ?_
          rintro _ ⟨nq, rfl⟩
          go_wp2
          go_roundg (5 - i - (k + 1))
          case measure => omega
          case rel =>
            refine ⟨k + 1, rfl, by omega, by go_num, ⟨?_, ?_, ?_, ?_, ?_⟩⟩
            · exact Blk.setOther (by exact HE.out.1) _ _ (by show ¬ w.heap.size = w.heap.size + 1 + 1 + 1; omega)
            · exact Blk.setOther (by exact HE.out.2.1) _ _ (by show ¬ w.heap.size + 1 = w.heap.size + 1 + 1 + 1; omega)
            · exact Blk.setOther (by exact HE.out.2.2.1) _ _ (by show ¬ w.heap.size + 1 + 1 = w.heap.size + 1 + 1 + 1; omega)
            · rw [← HST.out _ rfl]
              exact Blk.putN (by exact HE.out.2.2.2.1) _ _ _ (by exact HNUM.out)
            · exact Below.setCell (below_drewN HE.out.2.2.2.2 nq) (by show w.heap.size ≤ w.heap.size + 1 + 1 + 1; omega) _
        · have e7 : k = 5 - i := by omega
          subst e7
          have hx1 : ¬ ((i : Int) + ((5 - i : Nat) : Int) ≤ 4) := by omega
          go_wp2
          go_roundg (5 - (i + 1))
          case measure => omega
          case rel => exact ⟨i + 1, rfl, by omega, by go_num, by rw [← tmr_next]; exact HE⟩
    · have e5 : i = 5 := by omega
      subst e5
      have hsz := size_line hlen
      have HB : Hid (Blk wr (w.heap.size + 1 + 1 + 1) (pv L) 30) := by rw [← HL.out]; exact HD.out.2.2.2.1
      go_wp2_with (first | (refine wpList_load_row (by rfl) 30 _ (by rfl) (w.heap.size + 1 + 1 + 1) (by rfl) 30 (pv L) (0, 0) _ (by exact HB.out) Tryz.underlying30 (by rfl) hsz ?_) | (refine wpList_store_mid (by rfl) 30 _ _ (by rfl) (w.heap.size + 1 + 1) 0 (pv L) (by rfl) (by rfl) (by exact Blk.there HD.out.2.2.1 (by rw [pv_size, pv_size, hlen]; exact Nat.le_refl _)) hsz (pv_one _) ?_))
      refine bodyPost_ret (results_cell_row Tryz.results13 _ _ (w.heap.size + 1 + 1) 30 (pv L) (0, 0) _ (by rfl) (Blk.setAll (by exact HD.out.2.2.1) _ (by rw [pv_size, pv_size, hlen]; rfl)) Tryz.underlying30 rfl hsz) rfl ⟨rfl, ?_⟩
      exact Below.setCells HD.out.2.2.2.2 _ _ _ (by show w.heap.size ≤ w.heap.size + 1 + 1; omega)
end Go.Proofs.YthlmgpllapccfaaGreatDoor
/- THE STATEMENTS' own written. -/
namespace Go.Proofs.YthlmgpllapccfaaGreatDoor
open Go.RowKit

/-- The text of a polynomial without u, up to the k-th power. -/
def ktw (p : Nat → Nat) : Nat → List UInt8
  | 0 => [dgt (p 0)]
  | k + 1 => (((ktw p k ++ [43]) ++ [dgt (p (k + 1))]) ++ [120]) ++ [dgt (k + 1)]
theorem ktw_len (p : Nat → Nat) : ∀ k, (ktw p k).length = 4 * k + 1
  | 0 => rfl
  | k + 1 => by rw [ktw, List.length_append, List.length_append, List.length_append, List.length_append, ktw_len p k]; simp only [List.length_cons, List.length_nil]; omega

set_option maxRecDepth 100000 in
set_option maxHeartbeats 800000 in
theorem kwritten_any (p : Nat → Nat) (w : World) (hp : Vec p) :
    Calls Tryz.prog 14 #[.agg (pv (lst p))] w fun e w' => e = .returned (.string (bs (ktw p 4))) ∧ Below w.heap.size w w' := by
  have HP0 := hidV (pv_get (p := lst p) (j := 0) (by rw [lst_len]; omega))
  rw [lst_get p (by omega)] at HP0
  have hp0 := (hp 0).1
  obtain ⟨p0, HE0⟩ : ∃ p0, Hid (p 0 = p0) := ⟨_, rfl⟩
  rw [HE0.out] at HP0 hp0
  go_enter Tryz.func14, Tryz.ntmps14
  have hc : (w.alloc (.cells (pv (lst p)) 30)).cell? ⟨w.heap.size, 0, none⟩ = some (.int .i64 p0) := by rw [(Blk.new w _ _).cell]; exact HP0.out
  go_wp2_with (go_at_call 17; refine (kdigit_any p0 _ _ (by rfl) (by omega)).mono ?_; rintro e w1 ⟨rfl, hb1⟩; have HB1 := hidV hb1; clear hb1)
  refine wp_forget (fun W => Blk W w.heap.size (pv (lst p)) 30 ∧ Below w.heap.size w W) ⟨(Blk.new w _ _).fr (Fr.of_below (bs := []) HB1.out) (by simp), bel2 (by go_grown) HB1.out⟩ ?_
  clear HB1 hc
  rintro W ⟨b1, hbel⟩
  have HH := hidV (And.intro b1 hbel)
  clear b1 hbel
  go_loopg [3, 4] 4 (fun gm v3 v4 wr => ∃ k : Nat, gm = 4 - k ∧ k ≤ 4 ∧ v4 = .int .i64 ((k : Int) + 1) ∧ v3 = .string (bs (ktw p k)) ∧ Hid (Blk wr w.heap.size (pv (lst p)) 30 ∧ Below w.heap.size w wr))
  case atStart => exact ⟨0, rfl, by omega, rfl, by rw [ktw, HE0.out], HH⟩
  case round =>
    obtain ⟨k, hgm, hk, rfl, rfl, HD⟩ := hrel
    clear HH W
    by_cases h5 : k < 4
    · have hcell := pv_get (p := lst p) (j := k + 1) (by rw [lst_len]; omega)
      rw [lst_get p (by omega)] at hcell
      have hc : wr.cell? ⟨w.heap.size, k + 1, none⟩ = some (.int .i64 (p (k + 1))) := by rw [HD.out.1.cell]; exact hcell
      clear hcell
      have h9 := (hp (k + 1)).1
      have HS : Hid (ktw p (k + 1) = (((ktw p k ++ [43]) ++ [dgt (p (k + 1))]) ++ [120]) ++ [dgt (k + 1)]) := rfl
      have HL := hidV (ktw_len p k)
      generalize p (k + 1) = c at *
      generalize ktw p k = X at *
      obtain ⟨Y1, HY1⟩ : ∃ Y, Hid (X ++ [43] = Y) := ⟨_, hidV rfl⟩
      have HL1 : Hid (Y1.length ≤ 20) := by unfold Hid; rw [← HY1.out, List.length_append, HL.out]; simp only [List.length_cons, List.length_nil]; omega
      have hadd1 := fun (w' : World) => add_to X [43] Y1 ⟨#[43]⟩ rfl HY1.out (by have := HL.out; omega) (by simp) w'
      obtain ⟨Y2, HY2⟩ : ∃ Y, Hid (Y1 ++ [dgt c] = Y) := ⟨_, hidV rfl⟩
      have HL2 : Hid (Y2.length ≤ 21) := by unfold Hid; rw [← HY2.out, List.length_append]; have := HL1.out; simp only [List.length_cons, List.length_nil]; omega
      have hadd2 := fun (w' : World) => add_to Y1 [dgt c] Y2 (bs [dgt c]) rfl HY2.out (by have := HL1.out; omega) (by simp) w'
      obtain ⟨Y3, HY3⟩ : ∃ Y, Hid (Y2 ++ [120] = Y) := ⟨_, hidV rfl⟩
      have HL3 : Hid (Y3.length ≤ 22) := by unfold Hid; rw [← HY3.out, List.length_append]; have := HL2.out; simp only [List.length_cons, List.length_nil]; omega
      have hadd3 := fun (w' : World) => add_to Y2 [120] Y3 ⟨#[120]⟩ rfl HY3.out (by have := HL2.out; omega) (by simp) w'
      obtain ⟨Y4, HY4⟩ : ∃ Y, Hid (Y3 ++ [dgt (k + 1)] = Y) := ⟨_, hidV rfl⟩
      have hadd4 := fun (w' : World) => add_to Y3 [dgt (k + 1)] Y4 (bs [dgt (k + 1)]) rfl HY4.out (by have := HL3.out; omega) (by simp) w'
      rw [HY1.out, HY2.out, HY3.out, HY4.out] at HS
      have k0 : (0 : Int) ≤ (k : Int) + 1 := by omega
      have k1 : (k : Int) + 1 < 5 := by omega
      have hkn : ((k : Int) + 1).toNat = k + 1 := by omega
      go_wp2_with (go_at_call 17; first | (refine (kdigit_any c _ _ (by rfl) (by omega)).mono ?_; rintro e w1 ⟨rfl, hb1⟩; have HB1 := hidV hb1; clear hb1) | (refine (kdigit_any (k + 1) _ _ (by omega) (by omega)).mono ?_; rintro e w2 ⟨rfl, hb2⟩; have HB2 := hidV hb2; clear hb2))
      go_roundg (4 - (k + 1))
      case measure => omega
      case rel => exact ⟨k + 1, rfl, by omega, by go_num, by rw [HS.out], (HD.out.1.fr (Fr.of_below (bs := []) HB1.out) (by simp)).fr (Fr.of_below (bs := []) HB2.out) (by simp), bel2 (bel2 HD.out.2 HB1.out) HB2.out⟩
    · have e5 : k = 4 := by omega
      subst e5
      go_wp2
      go_ret
      exact ⟨rfl, HD.out.2⟩
end Go.Proofs.YthlmgpllapccfaaGreatDoor
/- PLAIN: the texts that the statements write, as sums of a line. -/
namespace Go.Proofs.YthlmgpllapccfaaGreatDoor
open Go.RowKit

/-- A polynomial without u as written. -/
def wIt (p : Nat → Nat) (x : Nat) : Jt := ⟨[43], kwx (p x) x, ⟨1, p x, 0, x⟩⟩
def wSm (p : Nat → Nat) : Sm := ⟨ktx (p 0) 0 0, ⟨1, p 0, 0, 0⟩, [wIt p 1, wIt p 2, wIt p 3, wIt p 4]⟩
theorem wSm_txt {p : Nat → Nat} (hp : Vec p) : (wSm p).txt = ktw p 4 := by
  have h := (hp 0).1
  have e : ktx (p 0) 0 0 = [dgt (p 0)] := by unfold ktx knum pku pkx; rw [if_neg (by omega), if_pos rfl, if_pos rfl]; rfl
  unfold Sm.txt wSm
  show ktx (p 0) 0 0 ++ jts [wIt p 1, wIt p 2, wIt p 3, wIt p 4] = _
  rw [e]
  simp [jts, wIt, kwx, ktw]
theorem wSm_ok {p : Nat → Nat} (hp : Vec p) : (wSm p).ok := by
  have h : ∀ n, p n ≤ 9 := fun n => by have := (hp n).1; omega
  refine ⟨ktx_ok (t := ⟨1, p 0, 0, 0⟩) ⟨by have := h 0; show p 0 ≤ 13; omega, by show 0 ≤ 6; omega, by show 0 ≤ 4; omega⟩, rfl, fun b hb => ?_⟩
  simp only [wSm, List.mem_cons, List.not_mem_nil, or_false] at hb
  rcases hb with rfl | rfl | rfl | rfl
  · exact ⟨Or.inl ⟨rfl, rfl⟩, kwx_ok (h 1) (by omega) 1⟩
  · exact ⟨Or.inl ⟨rfl, rfl⟩, kwx_ok (h 2) (by omega) 1⟩
  · exact ⟨Or.inl ⟨rfl, rfl⟩, kwx_ok (h 3) (by omega) 1⟩
  · exact ⟨Or.inl ⟨rfl, rfl⟩, kwx_ok (h 4) (by omega) 1⟩
theorem wSm_val {p : Nat → Nat} (hp : Vec p) : (wSm p).val = upL p := by
  have h : ∀ n, p n % 7 = p n := fun n => Nat.mod_eq_of_lt (hp n).1
  show sumP [⟨1, p 0, 0, 0⟩, ⟨1, p 1, 0, 1⟩, ⟨1, p 2, 0, 2⟩, ⟨1, p 3, 0, 3⟩, ⟨1, p 4, 0, 4⟩] = _
  simp [sumP, add4, plus, zeros, List.replicate, upL, h]
theorem lnF_up {p : Nat → Nat} (hp : Vec p) (a : Nat) : lnF a (upL p) = p := by
  funext i
  unfold lnF
  by_cases hi : i < 5
  · rw [if_pos hi]
    have h7 := (hp i).1
    have h0 : rowN (upL p) i 0 = p i := by unfold rowN; rw [show i * 7 + 0 = i * 7 by omega]; exact upL_at p hi
    have hu : ∀ u, 0 < u → u < 7 → rowN (upL p) i u = 0 := fun u h1 h2 => upL_off p h1 h2 hi
    simp only [pows, h0, hu 1 (by omega) (by omega), hu 2 (by omega) (by omega), hu 3 (by omega) (by omega), hu 4 (by omega) (by omega), hu 5 (by omega) (by omega), hu 6 (by omega) (by omega), pw7, Nat.zero_mul, Nat.add_zero, Nat.mul_one, Nat.zero_add]
    omega
  · rw [if_neg hi, (hp i).2 (by omega)]
/-- A polynomial out of raw numbers. -/
def kSm (xs : List Int) : Sm := ⟨ktx (kF xs).n (kF xs).u (kF xs).x, kF xs, (kR xs).map fun a => ⟨a.sep, ktx a.t.n a.t.u a.t.x, a.t⟩⟩
theorem jts_its : ∀ r : List It, jts (r.map fun a => ⟨a.sep, ktx a.t.n a.t.u a.t.x, a.t⟩) = its r
  | [] => rfl
  | a :: r => by rw [List.map_cons, jts, its, jts_its r]
theorem kSm_txt (xs : List Int) : (kSm xs).txt = kX xs := by unfold Sm.txt kSm kX; rw [jts_its]
theorem kSm_ok (xs : List Int) : (kSm xs).ok := by
  refine ⟨ktx_ok (kF_ok xs), kF_sg xs, fun b hb => ?_⟩
  simp only [kSm, List.mem_map] at hb
  obtain ⟨a, ha, rfl⟩ := hb
  exact ⟨(kR_ok xs a ha).1, ktx_ok (kR_ok xs a ha).2⟩
theorem kSm_val (xs : List Int) : (kSm xs).val = sumP (kTs xs) := by
  unfold Sm.val kSm kTs
  simp [List.map_map, Function.comp_def]
end Go.Proofs.YthlmgpllapccfaaGreatDoor
/- A canonical text without u, term by term. -/
namespace Go.Proofs.YthlmgpllapccfaaGreatDoor
open Go.RowKit

/-- From byte i on the text is l, to its end. -/
def At (s : ByteArray) (i : Nat) (l : List UInt8) : Prop := i + l.length = s.size ∧ ∀ j, (h : j < l.length) → byt s (i + j) = (l[j]'h).toNat
theorem At.start (l : List UInt8) : At (bs l) 0 l := by
  refine ⟨by rw [bs_size]; omega, fun j h => ?_⟩
  rw [byt_lt (by rw [bs_size]; omega)]
  simp [bs, ByteArray.getElem_eq_getElem_data]
theorem At.cons {s : ByteArray} {i : Nat} {b : UInt8} {l : List UInt8} (h : At s i (b :: l)) : byt s i = b.toNat ∧ i < s.size ∧ At s (i + 1) l := by
  obtain ⟨h1, h2⟩ := h
  refine ⟨h2 0 (by simp), by simp at h1; omega, by simp at h1; omega, fun j hj => ?_⟩
  have := h2 (j + 1) (by simp; omega)
  rw [show i + 1 + j = i + (j + 1) by omega, this]
  simp
theorem At.nil {s : ByteArray} {i : Nat} (h : At s i []) : i = s.size := by have := h.1; simpa using this

def updp (f : Nat → Nat) (x c : Nat) : Nat → Nat := fun n => if n = x then c else f n
/-- Terms c x^n, the text of some, what they come to. -/
def ktl : List (Nat × Nat) → List UInt8
  | [] => []
  | (c, x) :: t => tmx c 0 x ++ if t = [] then [] else 43 :: ktl t
def putl (f : Nat → Nat) : List (Nat × Nat) → Nat → Nat
  | [] => f
  | (c, x) :: t => putl (updp f x c) t
def Okl (f : Nat → Nat) : List (Nat × Nat) → Prop
  | [] => True
  | (c, x) :: t => c < 7 ∧ x < 5 ∧ f x = 0 ∧ Okl (updp f x c) t
theorem updp_set (f : Nat → Nat) {x : Nat} (c : Nat) (h : x < 5) : (lst f).set x c = lst (updp f x c) := by
  apply lst_set _ _ h
  · unfold updp; rw [if_pos rfl]
  · intro j hj; unfold updp; rw [if_neg hj]
theorem ktl_ne {t : List (Nat × Nat)} (h : t ≠ []) : ktl t ≠ [] := by
  match t, h with
  | (c, x) :: t, _ => rw [ktl]; intro e; exact tmx_ne c 0 x (List.append_eq_nil_iff.1 e).1

/-- The terms of g from the power x - 1 down. -/
def trm (g : Nat → Nat) : Nat → List (Nat × Nat)
  | 0 => []
  | x + 1 => if g x = 0 then trm g x else (g x, x) :: trm g x
theorem trm_put (g : Nat → Nat) : ∀ (x : Nat) (f : Nat → Nat), (∀ n, n < x → f n = 0) → putl f (trm g x) = fun n => if n < x then g n else f n
  | 0, f, _ => by funext n; rw [trm, putl, if_neg (by omega)]
  | x + 1, f, h => by
    rw [trm]
    split
    · rename_i h0
      rw [trm_put g x f (fun n hn => h n (by omega))]
      funext n
      by_cases e : n = x
      · subst e; rw [if_neg (by omega), if_pos (by omega), h0, h n (by omega)]
      · by_cases l : n < x
        · rw [if_pos l, if_pos (by omega)]
        · rw [if_neg l, if_neg (by omega)]
    · rw [putl, trm_put g x _ (fun n hn => by unfold updp; rw [if_neg (by omega)]; exact h n (by omega))]
      funext n
      by_cases e : n = x
      · subst e; rw [if_neg (by omega), if_pos (by omega)]; unfold updp; rw [if_pos rfl]
      · by_cases l : n < x
        · rw [if_pos l, if_pos (by omega)]
        · rw [if_neg l, if_neg (by omega)]; unfold updp; rw [if_neg e]
theorem trm_ok (g : Nat → Nat) (hg : ∀ n, n < 5 → g n < 7) : ∀ (x : Nat) (f : Nat → Nat), x ≤ 5 → (∀ n, n < x → f n = 0) → Okl f (trm g x)
  | 0, _, _, _ => trivial
  | x + 1, f, hx, h => by
    rw [trm]
    split
    · exact trm_ok g hg x f (by omega) (fun n hn => h n (by omega))
    · exact ⟨hg x (by omega), by omega, h x (by omega), trm_ok g hg x _ (by omega) (fun n hn => by unfold updp; rw [if_neg (by omega)]; exact h n (by omega))⟩
/-- A text that ends with more terms. -/
def app (X : List UInt8) (t : List (Nat × Nat)) : List UInt8 := if t = [] then X else if X = [] then ktl t else X ++ 43 :: ktl t
theorem wrt_add (p : List Nat) (k : Nat) (h : p.getD (34 - k) 0 = 0) : wrt p (k + 1) = wrt p k := by rw [wrt, if_pos h]
theorem wrt_up (g : Nat → Nat) (x : Nat) (hx : x < 5) : wrt (upL g) (35 - 7 * x) = if g x = 0 then wrt (upL g) (35 - 7 * (x + 1)) else (if wrt (upL g) (35 - 7 * (x + 1)) = [] then [] else wrt (upL g) (35 - 7 * (x + 1)) ++ [43]) ++ tmx (g x) 0 x := by
  have hz : ∀ u, 0 < u → u < 7 → (upL g).getD (x * 7 + u) 0 = 0 := fun u h1 h2 => upL_off g h1 h2 hx
  have e : ∀ m, m ≤ 6 → wrt (upL g) (35 - 7 * (x + 1) + m) = wrt (upL g) (35 - 7 * (x + 1)) := by
    intro m
    induction m with
    | zero => intro _; rfl
    | succ m ih =>
      intro hm
      rw [← Nat.add_assoc, wrt_add _ _ (by rw [show 34 - (35 - 7 * (x + 1) + m) = x * 7 + (6 - m) by omega]; exact hz _ (by omega) (by omega)), ih (by omega)]
  rw [show 35 - 7 * x = (35 - 7 * (x + 1) + 6) + 1 by omega, wrt, e 6 (by omega), show 34 - (35 - 7 * (x + 1) + 6) = x * 7 by omega, upL_at g hx, show x * 7 % 7 = 0 by omega, show x * 7 / 7 = x by omega]
theorem wrt_trm (g : Nat → Nat) : ∀ x, x ≤ 5 → wrt (upL g) 35 = app (wrt (upL g) (35 - 7 * x)) (trm g x)
  | 0, _ => by rw [trm, app, if_pos rfl]
  | x + 1, hx => by
    rw [wrt_trm g x (by omega), wrt_up g x (by omega), trm]
    split
    · rfl
    · generalize wrt (upL g) (35 - 7 * (x + 1)) = X
      have hn : tmx (g x) 0 x ≠ [] := tmx_ne _ _ _
      unfold app
      rw [if_neg (by simp : ¬ ((g x, x) :: trm g x) = []), ktl]
      by_cases ht : trm g x = []
      · rw [if_pos ht, if_pos ht]
        by_cases hX : X = []
        · rw [if_pos hX, if_pos hX]; simp
        · rw [if_neg hX, if_neg hX]; simp
      · rw [if_neg ht, if_neg ht]
        by_cases hX : X = []
        · rw [if_pos hX, if_pos hX, if_neg (by simp [hn])]; simp
        · rw [if_neg hX, if_neg hX, if_neg (by simp)]; simp
/-- The terms whose text is written of g. -/
def tml (g : Nat → Nat) : List (Nat × Nat) := if trm g 5 = [] then [(0, 0)] else trm g 5
theorem tml_ne (g : Nat → Nat) : tml g ≠ [] := by
  unfold tml
  split
  · simp
  · assumption
theorem txt_tml (g : Nat → Nat) : txt (upL g) = ktl (tml g) := by
  unfold txt tml
  rw [wrt_trm g 5 (by omega)]
  have e : wrt (upL g) (35 - 7 * 5) = [] := rfl
  rw [e, app]
  by_cases h : trm g 5 = []
  · rw [if_pos h, if_pos h, if_pos rfl]; rfl
  · rw [if_neg h, if_neg h, if_pos rfl, if_neg (ktl_ne h)]
theorem trm_none (g : Nat → Nat) : ∀ x, trm g x = [] → ∀ n, n < x → g n = 0
  | 0, _, n, hn => by omega
  | x + 1, h, n, hn => by
    rw [trm] at h
    split at h
    · rename_i h0
      by_cases e : n = x
      · subst e; exact h0
      · exact trm_none g x h n (by omega)
    · simp at h
theorem tml_ok (g : Nat → Nat) (hg : ∀ n, n < 5 → g n < 7) : Okl (fun _ => 0) (tml g) := by
  unfold tml
  split
  · exact ⟨by omega, by omega, rfl, trivial⟩
  · exact trm_ok g hg 5 _ (by omega) (fun _ _ => rfl)
theorem tml_put (g : Nat → Nat) : lst (putl (fun _ => 0) (tml g)) = lst g := by
  have h : ∀ n, n < 5 → putl (fun _ => 0) (tml g) n = g n := by
    intro n hn
    unfold tml
    split
    · rename_i h0
      rw [trm_none g 5 h0 n hn]
      simp [putl, updp]
    · rw [trm_put g 5 _ (fun _ _ => rfl)]; simp [hn]
  unfold lst
  rw [h 0 (by omega), h 1 (by omega), h 2 (by omega), h 3 (by omega), h 4 (by omega)]
end Go.Proofs.YthlmgpllapccfaaGreatDoor
/- THE STATEMENTS' own plain, at canonical texts. -/
namespace Go.Proofs.YthlmgpllapccfaaGreatDoor
open Go.RowKit

theorem At.digit {s : ByteArray} {i c : Nat} {l : List UInt8} (hc : c < 7) (h : At s i (dgt c :: l)) : ∃ hi : i < s.size, ((s[i]'hi).toNat : Int) = 48 + (c : Int) ∧ At s (i + 1) l := by
  obtain ⟨h1, h2, h3⟩ := h.cons
  refine ⟨h2, ?_, h3⟩
  rw [byt_cast h2, h1]
  exact dgt_int (by omega)
theorem At.byte {s : ByteArray} {i : Nat} {b : UInt8} {l : List UInt8} (h : At s i (b :: l)) : ∃ hi : i < s.size, ((s[i]'hi).toNat : Int) = (b.toNat : Int) ∧ At s (i + 1) l := by
  obtain ⟨h1, h2, h3⟩ := h.cons
  exact ⟨h2, by rw [byt_cast h2, h1], h3⟩
theorem ktl_pos {t : List (Nat × Nat)} (h : t ≠ []) : 0 < (ktl t).length := List.length_pos_iff.2 (ktl_ne h)
theorem str_some {s : ByteArray} {l : List UInt8} (hs : At s 0 l) (hl : l ≠ []) : s.toList.isEmpty = false := by
  have h1 := hs.1
  have h2 : 0 < l.length := List.length_pos_iff.2 hl
  rw [ByteArray.toList_eq]
  have h3 : s.data.toList.length = s.size := rfl
  cases h4 : s.data.toList with
  | nil => rw [h4] at h3; simp at h3; omega
  | cons _ _ => rfl
set_option maxRecDepth 100000 in
theorem results_pl {fn : Func} {p u : Tmp} (h : fn.results = #[.cell p 30, .tmp u]) (tmps : Array Value) (w : World) (g : Nat) (L : List Nat)
    (hp : tmps.getD p undef = .pointer (some ⟨g, 0, none⟩)) (hg : Blk w g (pv L) 30) (hL : L.length = 5) :
    (results fn tmps).run Tryz.prog w = .ok (.tuple #[.agg (pv L), tmps.getD u undef]) w := by
  rw [results_cell_tmp h, hp]
  simp [asAddr, run_loadVar_row (P := Tryz.prog) w g 30 30 (pv L) (0, 0) _ hg Tryz.underlying30 rfl (size_line hL)]

set_option maxRecDepth 100000 in
set_option maxHeartbeats 8000000 in
theorem kplain_any (s : ByteArray) (l : List (Nat × Nat)) (w : World) (hl : l ≠ []) (hs : At s 0 (ktl l)) (hok : Okl (fun _ => 0) l) (hsz : s.size ≤ 1000) :
    Calls Tryz.prog 18 #[.string s] w fun e w' => e = .returned (.tuple #[.agg (pv (lst (putl (fun _ => 0) l))), .bool true]) ∧ Below w.heap.size w w' := by
  obtain ⟨L, HL, hlen⟩ : ∃ L, Hid (lst (putl (fun _ => 0) l) = L) ∧ L.length = 5 := ⟨_, rfl, rfl⟩
  rw [HL.out]
  have hne := str_some hs (ktl_ne hl)
  go_enter Tryz.func18, Tryz.ntmps18
  go_wp2
  refine wp_forget (fun W => Blk W w.heap.size (pv [0, 0, 0, 0, 0]) 30 ∧ Blk W (w.heap.size + 1) (pv (lst fun _ => 0)) 30 ∧ Below w.heap.size w W) ⟨Blk.alloc (Blk.new w _ _) _, Blk.newAt _ _ _ (by simp), by go_grown⟩ ?_
  rintro W ⟨b1, b2, hbel⟩
  have HH := hidV (And.intro b1 (And.intro b2 hbel))
  clear b1 b2 hbel
  go_loopg [5] l.length (fun gm v5 wr => ∃ (i : Nat) (t : List (Nat × Nat)) (f : Nat → Nat), gm = t.length ∧ v5 = .int .i64 i ∧ Hid (At s i (ktl t) ∧ Okl f t ∧ lst (putl f t) = L) ∧ Hid (Blk wr w.heap.size (pv [0, 0, 0, 0, 0]) 30 ∧ Blk wr (w.heap.size + 1) (pv (lst f)) 30 ∧ Below w.heap.size w wr))
  case atStart => exact ⟨0, l, _, rfl, rfl, ⟨hs, hok, HL.out⟩, HH⟩
  case round =>
    obtain ⟨i, t, f, hgm, rfl, HT, HD⟩ := hrel
    clear HH W HL hl hs hok
    match t with
    | [] =>
      have hi := HT.out.1.nil
      have hF : lst f = L := HT.out.2.2
      have hsz5 := size_line hlen
      have HB : Hid (Blk wr (w.heap.size + 1) (pv L) 30) := by rw [← hF]; exact HD.out.2.1
      have hx1 : ¬ ((i : Int) < (s.size : Int)) := by omega
      clear hF HT
      go_wp2_with (first | (refine wpList_load_row (by rfl) 30 _ (by rfl) (w.heap.size + 1) (by rfl) 30 (pv L) (0, 0) _ (by exact HB.out) Tryz.underlying30 (by rfl) hsz5 ?_) | (refine wpList_store_mid (by rfl) 30 _ _ (by rfl) w.heap.size 0 (pv L) (by rfl) (by rfl) (by exact Blk.there HD.out.1 (by rw [pv_size, pv_size, hlen]; exact Nat.le_refl _)) hsz5 (pv_one _) ?_))
      refine bodyPost_ret (results_pl Tryz.results18 _ _ w.heap.size L (by rfl) (Blk.setAll (by exact HD.out.1) _ (by rw [pv_size, pv_size, hlen]; rfl)) hlen) rfl ⟨rfl, ?_⟩
      exact Below.setCells HD.out.2.2 _ _ _ (Nat.le_refl _)
    | (c, x) :: t =>
      obtain ⟨hc7, hx5, hf0, hok2⟩ := HT.out.2.1
      have HP : Hid (lst (putl (updp f x c) t) = L) := HT.out.2.2
      have HO := hidV hok2
      have hat := HT.out.1
      have HU := hidV (updp_set f c hx5)
      have hcell := pv_get (p := lst f) (j := x) (by rw [lst_len]; omega)
      rw [lst_get f hx5, hf0] at hcell
      have hpc : wr.cell? ⟨w.heap.size + 1, x, none⟩ = some (.int .i64 (0 : Nat)) := by rw [HD.out.2.1.cell]; exact hcell
      have hpf : wr.frozen? ⟨w.heap.size + 1, x, none⟩ = false := HD.out.2.1.frozen _
      clear hcell hok2 hf0 HT
      rw [ktl] at hat
      by_cases hx0 : x = 0
      · subst hx0
        have e1 : tmx c 0 0 = [dgt c] := by simp [tmx, pws, ptx]
        rw [e1] at hat
        clear e1
        simp only [List.cons_append, List.nil_append] at hat
        obtain ⟨hi1, hb1, hat1⟩ := hat.digit hc7
        clear hat
        have hat := hat1
        clear hat1
        by_cases ht : t = []
        · subst ht
          rw [if_pos rfl] at hat
          have hn := hat.nil
          have hy1 : ¬ ((i : Int) + 1 < (s.size : Int)) := by omega
          go_wp2
          go_roundg 0
          case measure => simp only [List.length_cons] at hgm; omega
          case rel =>
            refine ⟨i + 1, [], updp f 0 c, rfl, by go_num, ⟨hat, HO.out, HP.out⟩, ⟨?_, ?_, ?_⟩⟩
            · exact Blk.setOther (by exact HD.out.1) _ _ (by show ¬ w.heap.size = w.heap.size + 1; omega)
            · rw [← HU.out]
              exact Blk.putN (by exact HD.out.2.1) _ _ _ (by omega)
            · exact Below.setCell HD.out.2.2 (by show w.heap.size ≤ w.heap.size + 1; omega) _
        · rw [if_neg ht] at hat
          obtain ⟨hi9, hb9, hat1⟩ := hat.byte
          clear hat
          have hat := hat1
          clear hat1
          have hb9' : ((s[i + 1]'hi9).toNat : Int) = 43 := hb9
          clear hb9
          have hne9 := ktl_pos ht
          have hs9 := hat.1
          have hy2 : ¬ ((i : Int) + 1 + 1 = (s.size : Int)) := by omega
          clear hne9 hs9
          go_wp2
          go_roundg t.length
          case measure => simp only [List.length_cons] at hgm; omega
          case rel =>
            refine ⟨i + 1 + 1, t, updp f 0 c, rfl, by go_num, ⟨hat, HO.out, HP.out⟩, ⟨?_, ?_, ?_⟩⟩
            · exact Blk.setOther (by exact HD.out.1) _ _ (by show ¬ w.heap.size = w.heap.size + 1; omega)
            · rw [← HU.out]
              exact Blk.putN (by exact HD.out.2.1) _ _ _ (by omega)
            · exact Below.setCell HD.out.2.2 (by show w.heap.size ≤ w.heap.size + 1; omega) _
      · by_cases hc1 : c = 1
        · subst hc1
          by_cases hx1 : x = 1
          · subst hx1
            have e1 : tmx 1 0 1 = [120] := by simp [tmx, pws, ptx]
            rw [e1] at hat
            clear e1
            simp only [List.cons_append, List.nil_append] at hat
            obtain ⟨hi2, hb2, hat1⟩ := hat.byte
            clear hat
            have hat := hat1
            clear hat1
            have hb2' : ((s[i]'hi2).toNat : Int) = 120 := hb2
            clear hb2
            by_cases ht : t = []
            · subst ht
              rw [if_pos rfl] at hat
              have hn := hat.nil
              have hy1 : ¬ ((i : Int) + 1 < (s.size : Int)) := by omega
              go_wp2
              go_roundg 0
              case measure => simp only [List.length_cons] at hgm; omega
              case rel =>
                refine ⟨i + 1, [], updp f 1 1, rfl, by go_num, ⟨hat, HO.out, HP.out⟩, ⟨?_, ?_, ?_⟩⟩
                · exact Blk.setOther (by exact HD.out.1) _ _ (by show ¬ w.heap.size = w.heap.size + 1; omega)
                · rw [← HU.out]
                  exact Blk.putN (by exact HD.out.2.1) _ _ _ (by omega)
                · exact Below.setCell HD.out.2.2 (by show w.heap.size ≤ w.heap.size + 1; omega) _
            · rw [if_neg ht] at hat
              obtain ⟨hi9, hb9, hat1⟩ := hat.byte
              clear hat
              have hat := hat1
              clear hat1
              have hb9' : ((s[i + 1]'hi9).toNat : Int) = 43 := hb9
              clear hb9
              have hne9 := ktl_pos ht
              have hs9 := hat.1
              have hy2 : ¬ ((i : Int) + 1 + 1 = (s.size : Int)) := by omega
              clear hne9 hs9
              go_wp2
              go_roundg t.length
              case measure => simp only [List.length_cons] at hgm; omega
              case rel =>
                refine ⟨i + 1 + 1, t, updp f 1 1, rfl, by go_num, ⟨hat, HO.out, HP.out⟩, ⟨?_, ?_, ?_⟩⟩
                · exact Blk.setOther (by exact HD.out.1) _ _ (by show ¬ w.heap.size = w.heap.size + 1; omega)
                · rw [← HU.out]
                  exact Blk.putN (by exact HD.out.2.1) _ _ _ (by omega)
                · exact Below.setCell HD.out.2.2 (by show w.heap.size ≤ w.heap.size + 1; omega) _
          · have e1 : tmx 1 0 x = [120, dgt x] := by simp [tmx, pws, ptx, hx0, hx1]
            rw [e1] at hat
            clear e1
            simp only [List.cons_append, List.nil_append] at hat
            obtain ⟨hi2, hb2, hat1⟩ := hat.byte
            clear hat
            have hat := hat1
            clear hat1
            have hb2' : ((s[i]'hi2).toNat : Int) = 120 := hb2
            clear hb2
            obtain ⟨hi3, hb3, hat1⟩ := hat.digit (by omega : x < 7)
            clear hat
            have hat := hat1
            clear hat1
            have hxx : 48 + (x : Int) - 48 = (x : Int) := by omega
            have hxl : (2 : Int) ≤ (x : Int) := by omega
            by_cases ht : t = []
            · subst ht
              rw [if_pos rfl] at hat
              have hn := hat.nil
              have hy1 : ¬ ((i : Int) + 1 + 1 < (s.size : Int)) := by omega
              go_wp2
              go_roundg 0
              case measure => simp only [List.length_cons] at hgm; omega
              case rel =>
                refine ⟨i + 1 + 1, [], updp f x 1, rfl, by go_num, ⟨hat, HO.out, HP.out⟩, ⟨?_, ?_, ?_⟩⟩
                · exact Blk.setOther (by exact HD.out.1) _ _ (by show ¬ w.heap.size = w.heap.size + 1; omega)
                · rw [← HU.out]
                  exact Blk.putN (by exact HD.out.2.1) _ _ _ (by omega)
                · exact Below.setCell HD.out.2.2 (by show w.heap.size ≤ w.heap.size + 1; omega) _
            · rw [if_neg ht] at hat
              obtain ⟨hi9, hb9, hat1⟩ := hat.byte
              clear hat
              have hat := hat1
              clear hat1
              have hb9' : ((s[i + 1 + 1]'hi9).toNat : Int) = 43 := hb9
              clear hb9
              have hne9 := ktl_pos ht
              have hs9 := hat.1
              have hy2 : ¬ ((i : Int) + 1 + 1 + 1 = (s.size : Int)) := by omega
              clear hne9 hs9
              go_wp2
              go_roundg t.length
              case measure => simp only [List.length_cons] at hgm; omega
              case rel =>
                refine ⟨i + 1 + 1 + 1, t, updp f x 1, rfl, by go_num, ⟨hat, HO.out, HP.out⟩, ⟨?_, ?_, ?_⟩⟩
                · exact Blk.setOther (by exact HD.out.1) _ _ (by show ¬ w.heap.size = w.heap.size + 1; omega)
                · rw [← HU.out]
                  exact Blk.putN (by exact HD.out.2.1) _ _ _ (by omega)
                · exact Below.setCell HD.out.2.2 (by show w.heap.size ≤ w.heap.size + 1; omega) _
        · by_cases hx1 : x = 1
          · subst hx1
            have e1 : tmx c 0 1 = [dgt c, 120] := by simp [tmx, pws, ptx, hc1]
            rw [e1] at hat
            clear e1
            simp only [List.cons_append, List.nil_append] at hat
            obtain ⟨hi1, hb1, hat1⟩ := hat.digit hc7
            clear hat
            have hat := hat1
            clear hat1
            obtain ⟨hi2, hb2, hat1⟩ := hat.byte
            clear hat
            have hat := hat1
            clear hat1
            have hb2' : ((s[i + 1]'hi2).toNat : Int) = 120 := hb2
            clear hb2
            by_cases ht : t = []
            · subst ht
              rw [if_pos rfl] at hat
              have hn := hat.nil
              have hy1 : ¬ ((i : Int) + 1 + 1 < (s.size : Int)) := by omega
              go_wp2
              go_roundg 0
              case measure => simp only [List.length_cons] at hgm; omega
              case rel =>
                refine ⟨i + 1 + 1, [], updp f 1 c, rfl, by go_num, ⟨hat, HO.out, HP.out⟩, ⟨?_, ?_, ?_⟩⟩
                · exact Blk.setOther (by exact HD.out.1) _ _ (by show ¬ w.heap.size = w.heap.size + 1; omega)
                · rw [← HU.out]
                  exact Blk.putN (by exact HD.out.2.1) _ _ _ (by omega)
                · exact Below.setCell HD.out.2.2 (by show w.heap.size ≤ w.heap.size + 1; omega) _
            · rw [if_neg ht] at hat
              obtain ⟨hi9, hb9, hat1⟩ := hat.byte
              clear hat
              have hat := hat1
              clear hat1
              have hb9' : ((s[i + 1 + 1]'hi9).toNat : Int) = 43 := hb9
              clear hb9
              have hne9 := ktl_pos ht
              have hs9 := hat.1
              have hy2 : ¬ ((i : Int) + 1 + 1 + 1 = (s.size : Int)) := by omega
              clear hne9 hs9
              go_wp2
              go_roundg t.length
              case measure => simp only [List.length_cons] at hgm; omega
              case rel =>
                refine ⟨i + 1 + 1 + 1, t, updp f 1 c, rfl, by go_num, ⟨hat, HO.out, HP.out⟩, ⟨?_, ?_, ?_⟩⟩
                · exact Blk.setOther (by exact HD.out.1) _ _ (by show ¬ w.heap.size = w.heap.size + 1; omega)
                · rw [← HU.out]
                  exact Blk.putN (by exact HD.out.2.1) _ _ _ (by omega)
                · exact Below.setCell HD.out.2.2 (by show w.heap.size ≤ w.heap.size + 1; omega) _
          · have e1 : tmx c 0 x = [dgt c, 120, dgt x] := by simp [tmx, pws, ptx, hc1, hx0, hx1]
            rw [e1] at hat
            clear e1
            simp only [List.cons_append, List.nil_append] at hat
            obtain ⟨hi1, hb1, hat1⟩ := hat.digit hc7
            clear hat
            have hat := hat1
            clear hat1
            obtain ⟨hi2, hb2, hat1⟩ := hat.byte
            clear hat
            have hat := hat1
            clear hat1
            have hb2' : ((s[i + 1]'hi2).toNat : Int) = 120 := hb2
            clear hb2
            obtain ⟨hi3, hb3, hat1⟩ := hat.digit (by omega : x < 7)
            clear hat
            have hat := hat1
            clear hat1
            have hxx : 48 + (x : Int) - 48 = (x : Int) := by omega
            have hxl : (2 : Int) ≤ (x : Int) := by omega
            by_cases ht : t = []
            · subst ht
              rw [if_pos rfl] at hat
              have hn := hat.nil
              have hy1 : ¬ ((i : Int) + 1 + 1 + 1 < (s.size : Int)) := by omega
              go_wp2
              go_roundg 0
              case measure => simp only [List.length_cons] at hgm; omega
              case rel =>
                refine ⟨i + 1 + 1 + 1, [], updp f x c, rfl, by go_num, ⟨hat, HO.out, HP.out⟩, ⟨?_, ?_, ?_⟩⟩
                · exact Blk.setOther (by exact HD.out.1) _ _ (by show ¬ w.heap.size = w.heap.size + 1; omega)
                · rw [← HU.out]
                  exact Blk.putN (by exact HD.out.2.1) _ _ _ (by omega)
                · exact Below.setCell HD.out.2.2 (by show w.heap.size ≤ w.heap.size + 1; omega) _
            · rw [if_neg ht] at hat
              obtain ⟨hi9, hb9, hat1⟩ := hat.byte
              clear hat
              have hat := hat1
              clear hat1
              have hb9' : ((s[i + 1 + 1 + 1]'hi9).toNat : Int) = 43 := hb9
              clear hb9
              have hne9 := ktl_pos ht
              have hs9 := hat.1
              have hy2 : ¬ ((i : Int) + 1 + 1 + 1 + 1 = (s.size : Int)) := by omega
              clear hne9 hs9
              go_wp2
              go_roundg t.length
              case measure => simp only [List.length_cons] at hgm; omega
              case rel =>
                refine ⟨i + 1 + 1 + 1 + 1, t, updp f x c, rfl, by go_num, ⟨hat, HO.out, HP.out⟩, ⟨?_, ?_, ?_⟩⟩
                · exact Blk.setOther (by exact HD.out.1) _ _ (by show ¬ w.heap.size = w.heap.size + 1; omega)
                · rw [← HU.out]
                  exact Blk.putN (by exact HD.out.2.1) _ _ _ (by omega)
                · exact Below.setCell HD.out.2.2 (by show w.heap.size ≤ w.heap.size + 1; omega) _
end Go.Proofs.YthlmgpllapccfaaGreatDoor
/- COMMON: what holds of the greatest common divisor of two products. -/
namespace Go.Proofs.YthlmgpllapccfaaGreatDoor
open Go.RowKit

theorem tim_vec (p q : Nat → Nat) : Vec (tim p q) := tmr_vec p q 5 0
theorem tim_dvd {d p : Nat → Nat} {e : Nat} (hd : Mon d e) (he : e ≤ 2) (hp : ∀ n, 3 ≤ n → p n = 0) : Dvd (iv d) (iv (tim d p)) := by
  refine ⟨iv p, 3, fun k hk => by unfold iv; rw [hp k hk]; rfl, fun n => ?_⟩
  have c : ∀ a b, (iv p a) * (iv d b) = ((d b * p a : Nat) : Int) := fun a b => by unfold iv; rw [Int.natCast_mul, Int.mul_comm]
  by_cases hn : 5 ≤ n
  · have h1 : cnv (iv p) (iv d) n = 0 := by
      unfold cnv
      refine sg_zero _ fun k hk => ?_
      rw [c]
      by_cases h3 : 3 ≤ k
      · rw [hp k h3]; simp
      · rw [hd.above (n - k) (by omega)]; simp
    rw [h1]
    unfold iv
    rw [((tim_vec d p) n).2 hn]
    rfl
  · unfold cnv iv tim tmr
    rw [if_neg hn]
    have c' : ∀ a b, ((p a : Nat) : Int) * ((d b : Nat) : Int) = ((d b * p a : Nat) : Int) := c
    match n, hn with
    | 0, _ => simp only [sg, c', List.range, List.range.loop, List.map, List.sum_cons, List.sum_nil]; simp
    | 1, _ => simp only [sg, c', List.range, List.range.loop, List.map, List.sum_cons, List.sum_nil]; simp; omega
    | 2, _ => simp only [sg, c', List.range, List.range.loop, List.map, List.sum_cons, List.sum_nil]; simp; omega
    | 3, _ => simp only [sg, c', List.range, List.range.loop, List.map, List.sum_cons, List.sum_nil]; simp; omega
    | 4, _ => simp only [sg, c', List.range, List.range.loop, List.map, List.sum_cons, List.sum_nil]; simp; omega
    | n + 5, hn => exact absurd (by omega) hn

/-- Of two products with the factor d: what their greatest common divisor is. -/
theorem common_law {d p q : Nat → Nat} {e : Nat} (hd : Mon d e) (he : e ≤ 2) (hp : ∀ n, 3 ≤ n → p n = 0) (hq : ∀ n, 3 ≤ n → q n = 0) :
    let g := gall [tim d p, tim d q]
    Vec g ∧ (dg (tim d p) = 0 ∧ dg (tim d q) = 0 → g = zv) ∧
    (¬ (dg (tim d p) = 0 ∧ dg (tim d q) = 0) → dg g ≠ 0 ∧ Mon g (dg g - 1) ∧ dg (dv g (dg g - 1) (tim d p) (5 - (dg g - 1))) = 0 ∧ dg (dv g (dg g - 1) (tim d q) (5 - (dg g - 1))) = 0 ∧ dg (dv d e g (5 - e)) = 0) := by
  intro g
  have hv : ∀ l ∈ [tim d p, tim d q], Vec l := by
    intro l hl
    simp only [List.mem_cons, List.not_mem_nil, or_false] at hl
    rcases hl with rfl | rfl
    · exact tim_vec d p
    · exact tim_vec d q
  obtain ⟨h1, h2, h3⟩ := gall_any _ hv
  refine ⟨h1, fun h => gall_zero hv ?_, fun h => ?_⟩
  · intro l hl
    simp only [List.mem_cons, List.not_mem_nil, or_false] at hl
    rcases hl with rfl | rfl
    · exact h.1
    · exact h.2
  · have h0 : dg g ≠ 0 := fun h0 => h ⟨(gall_zero_iff hv).1 h0 _ (by simp), (gall_zero_iff hv).1 h0 _ (by simp)⟩
    have hm := h2 h0
    have hall := (h3 (Dvd (iv g)) (Dvd.idl _)).2 (Dvd.refl _)
    refine ⟨h0, hm, (dv_iff hm (tim_vec d p)).2 (hall _ (by simp)), (dv_iff hm (tim_vec d q)).2 (hall _ (by simp)), (dv_iff hd h1).2 ((h3 (Dvd (iv d)) (Dvd.idl _)).1 ?_)⟩
    intro l hl
    simp only [List.mem_cons, List.not_mem_nil, or_false] at hl
    rcases hl with rfl | rfl
    · exact tim_dvd hd he hp
    · exact tim_dvd hd he hq
end Go.Proofs.YthlmgpllapccfaaGreatDoor
/- PLAIN: the lines of Common, Rooted and Parted. -/
namespace Go.Proofs.YthlmgpllapccfaaGreatDoor
open Go.RowKit

theorem upd_at (st : Nat → Mng) (n : Nat) (m : Mng) : upd st n m n = m := by unfold upd; rw [if_pos rfl]
theorem ktw_let {p q : Nat → Nat} (n : Nat) : (letL n (ktw p 4 ++ ([44] ++ ktw q 4))).length ≤ 90 := by
  unfold letL
  simp only [List.length_append, List.length_cons, List.length_nil, ktw_len]
  omega
/-- Two polynomials without u are let, and asked for their greatest common divisor. -/
theorem two_let (st : Nat → Mng) {n : Nat} (hn : n < 26) {p q : Nat → Nat} (hp : Vec p) (hq : Vec q) :
    lnR st (bs (letL n (ktw p 4 ++ ([44] ++ ktw q 4)))) = ⟨0, 0, [], upd st n (.sys [upL p, upL q])⟩ := by
  have h := line_let st hn (wSm p) (wSm q) (wSm_ok hp) (wSm_ok hq) [44] (Or.inl rfl) (by rw [wSm_txt hp, wSm_txt hq]; exact ktw_let n)
  rw [wSm_txt hp, wSm_txt hq, wSm_val hp, wSm_val hq] at h
  exact h
theorem two_gcd (st : Nat → Mng) {n d : Nat} (hn : n < 26) (hd : d < 10) {p q : Nat → Nat} (hp : Vec p) (hq : Vec q) :
    lnR (upd st n (.sys [upL p, upL q])) (bs (qG n d)) = ⟨0, 0, ktl (tml (gall [p, q])), upd st n (.sys [upL p, upL q])⟩ := by
  rw [ask_gcd _ hn hd (by rw [upd_at]; rfl), upd_at]
  have e : lins (d % 7) (Mng.sys [upL p, upL q]).ps = [p, q] := by
    show [lnF (d % 7) (upL p), lnF (d % 7) (upL q)] = _
    rw [lnF_up hp, lnF_up hq]
  rw [e, txt_tml]
/-- Two polynomials out of raw numbers are let; what may be asked. -/
theorem raw_let (st : Nat → Mng) {n : Nat} (hn : n < 26) (a b : List Int) (cm : List UInt8) (hc : cm = [44] ∨ cm = [32, 44, 32]) (hl : (letL n (kX a ++ (cm ++ kX b))).length ≤ 90) :
    lnR st (bs (letL n (kX a ++ (cm ++ kX b)))) = ⟨0, 0, [], upd st n (.sys [sumP (kTs a), sumP (kTs b)])⟩ := by
  have h := line_let st hn (kSm a) (kSm b) (kSm_ok a) (kSm_ok b) cm hc (by rw [kSm_txt, kSm_txt]; exact hl)
  rw [kSm_txt, kSm_txt, kSm_val, kSm_val] at h
  exact h
theorem raw_gcd (st : Nat → Mng) {n d : Nat} (hn : n < 26) (hd : d < 10) (P Q : List Nat) :
    lnR (upd st n (.sys [P, Q])) (bs (qG n d)) = ⟨0, 0, ktl (tml (gall [lnF (d % 7) P, lnF (d % 7) Q])), upd st n (.sys [P, Q])⟩ := by
  rw [ask_gcd _ hn hd (by rw [upd_at]; rfl), upd_at, ← txt_tml]
  rfl
theorem raw_roots (st : Nat → Mng) {n d : Nat} (hn : n < 26) (hd : d < 10) (P Q : List Nat) :
    lnR (upd st n (.sys [P, Q])) (bs (qR n d)) = ⟨0, 0, lsd (rts [lnF (d % 7) P, lnF (d % 7) Q]) 7, upd st n (.sys [P, Q])⟩ := by
  rw [ask_roots _ hn hd (by rw [upd_at]; rfl), upd_at]
  rfl
theorem raw_split (st : Nat → Mng) {n : Nat} (hn : n < 26) (P Q : List Nat) :
    lnR (upd st n (.sys [P, Q])) (bs (qS n)) = ⟨0, 0, spl (ofD [P, Q]) 6, upd st n (.sys [P, Q])⟩ := by
  rw [ask_split _ hn (by rw [upd_at]; rfl), upd_at]
  rfl
end Go.Proofs.YthlmgpllapccfaaGreatDoor
