/- THE PROGRAM's TEXT OF A POLYNOMIAL: powerText, termText. -/
import Derived.Test.YtaajdcaciofmaaaDoorText1
import Derived.Test.YtaajdcaciofmaaaDoorShelf
import Derived.Test.YtaajdcaciofmaaaDoorArr
import Derived.Deep.RegionHeld3
namespace Go.Proofs.YtaajdcaciofmaaaDoor
open Go.RowKit
theorem hidT {p : Prop} (h : p) : Hid p := h
theorem Itoa_dgt (n : Nat) (N : Int) (w : World) (hN : N = n) (hn : n < 10) :
    Calls Tryd.prog 47 #[.int .i64 N] w fun e w' => e = .returned (.string (bs [dgt n])) ∧ w' = w := by
  subst hN
  have h := Tryd.strconv_Itoa_small n (by omega) w
  rw [dec_small hn] at h
  exact h

set_option maxRecDepth 100000 in
theorem powerText_any (c : UInt8) (n : Nat) (N : Int) (w : World) (hN : N = n) (hn : n ≤ 6) :
    Calls Tryd.prog 46 #[.string (bs [c]), .int .i64 N] w fun e w' => e = .returned (.string (bs (ptx c n))) ∧ w' = w := by
  subst hN
  unfold ptx
  by_cases h0 : n = 0
  · subst h0
    go_enter Tryd.func46, Tryd.ntmps46
    go_wp2
    go_ret
    exact ⟨rfl, rfl⟩
  · rw [if_neg h0]
    by_cases h1 : n = 1
    · subst h1
      go_enter Tryd.func46, Tryd.ntmps46
      go_wp2
      go_ret
      exact ⟨rfl, rfl⟩
    · rw [if_neg h1]
      have q0 : ((n : Int) == 0) = false := by rw [beq_eq_false_iff_ne]; omega
      have q1 : ((n : Int) == 1) = false := by rw [beq_eq_false_iff_ne]; omega
      go_enter Tryd.func46, Tryd.ntmps46
      go_wp2_with (go_at_call 47; refine (Itoa_dgt n _ _ rfl (by omega)).mono ?_; rintro e w1 ⟨rfl, rfl⟩)
      go_ret
      exact ⟨by rw [bs_append]; rfl, rfl⟩

theorem powerText_to (c : UInt8) (S : ByteArray) (n : Nat) (N : Int) (w : World) (hN : N = n) (hS : S = bs [c]) (hn : n ≤ 6) :
    Calls Tryd.prog 46 #[.string S, .int .i64 N] w fun e w' => e = .returned (.string (bs (ptx c n))) ∧ w' = w := by
  subst hS; exact powerText_any c n N w hN hn

theorem bs_size (l : List UInt8) : (bs l).size = l.length := by simp [bs, ByteArray.size]
theorem ptx_len (c : UInt8) (n : Nat) : (ptx c n).length ≤ 2 := by
  unfold ptx; split
  · simp
  · split <;> simp
theorem pws_len (u x : Nat) : (pws u x).length ≤ 4 := by
  have := ptx_len 117 u; have := ptx_len 120 x
  unfold pws; simp; omega
theorem pws_eq (u x : Nat) : bs (ptx 117 u) ++ bs (ptx 120 x) = bs (pws u x) := bs_append _ _
theorem bs_empty (l : List UInt8) : (bs l).toList.isEmpty = l.isEmpty := by rw [ByteArray.toList_eq]; rfl
set_option maxRecDepth 100000 in
set_option maxHeartbeats 2000000 in
theorem termText_any (n u x : Nat) (N U X : Int) (w : World) (hN : N = n) (hU : U = u) (hX : X = x) (hn : n < 7) (hu : u ≤ 6) (hx : x ≤ 4) :
    Calls Tryd.prog 29 #[.agg #[.int .i64 N, .int .i64 U, .int .i64 X]] w fun e w' => e = .returned (.string (bs (tmx n u x))) ∧ Below w.heap.size w w' := by
  subst hN hU hX
  have HP := hidT (pws_eq u x)
  have HN := pws_nil (u := u) (x := x)
  have HT : tmx n u x = if n = 1 ∧ (u ≠ 0 ∨ x ≠ 0) then pws u x else dgt n :: pws u x := rfl
  have hs1 : ¬ (9223372036854775807 < (bs (ptx 117 u)).size + (bs (ptx 120 x)).size) := by rw [bs_size, bs_size]; have := ptx_len 117 u; have := ptx_len 120 x; omega
  have hs2 : ¬ (9223372036854775807 < (bs [dgt n]).size + (bs (pws u x)).size) := by rw [bs_size, bs_size]; have := pws_len u x; simp; omega
  have HA := hidT (bs_append [dgt n] (pws u x))
  rw [HT]
  by_cases h1 : n = 1
  · subst h1
    by_cases hP : pws u x = []
    · have hE : (bs (pws u x)).toList.isEmpty = true := by rw [bs_empty, hP]; rfl
      have hc : ¬ ((1 : Nat) = 1 ∧ (u ≠ 0 ∨ x ≠ 0)) := by have := HN.1 hP; omega
      rw [if_neg hc]
      clear HN HT hc hP
      generalize pws u x = P at *
      go_enter Tryd.func29, Tryd.ntmps29
      go_wp2_with fail
      go_quiet ((go_at_call 46; first | exact Calls.quiet_of_same (powerText_to 117 _ u _ _ rfl rfl hu) | exact Calls.quiet_of_same (powerText_to 120 _ x _ _ rfl rfl (by omega))))
      rw [HP.out]
      clear HP hs1
      go_wp2_with (go_at_call 47; refine (Itoa_dgt 1 _ _ rfl (by omega)).mono ?_; rintro e w1 ⟨rfl, rfl⟩)
      go_ret
      refine ⟨by rw [HA.out]; rfl, below_drewN (by go_grown) nq⟩
    · have hE : (bs (pws u x)).toList.isEmpty = false := by rw [bs_empty]; simp [hP]
      have hc : ((1 : Nat) = 1 ∧ (u ≠ 0 ∨ x ≠ 0)) := ⟨rfl, by
        by_cases hu0 : u = 0
        · exact Or.inr (fun hx0 => hP (HN.2 ⟨hu0, hx0⟩))
        · exact Or.inl hu0⟩
      rw [if_pos hc]
      clear HN HT hc hP
      generalize pws u x = P at *
      go_enter Tryd.func29, Tryd.ntmps29
      go_wp2_with fail
      go_quiet ((go_at_call 46; first | exact Calls.quiet_of_same (powerText_to 117 _ u _ _ rfl rfl hu) | exact Calls.quiet_of_same (powerText_to 120 _ x _ _ rfl rfl (by omega))))
      rw [HP.out]
      clear HP hs1
      go_wp2
      go_ret
      refine ⟨rfl, below_drewN (by go_grown) nq⟩
  · rw [if_neg (fun q => h1 q.1)]
    clear HN HT
    generalize pws u x = P at *
    go_enter Tryd.func29, Tryd.ntmps29
    go_wp2_with fail
    go_quiet ((go_at_call 46; first | exact Calls.quiet_of_same (powerText_to 117 _ u _ _ rfl rfl hu) | exact Calls.quiet_of_same (powerText_to 120 _ x _ _ rfl rfl (by omega))))
    rw [HP.out]
    clear HP hs1
    have h1' : ¬ ((n : Int) = 1) := by omega
    go_wp2_with (go_at_call 47; refine (Itoa_dgt n _ _ rfl (by omega)).mono ?_; rintro e w1 ⟨rfl, rfl⟩)
    go_ret
    refine ⟨by rw [HA.out]; rfl, below_drewN (by go_grown) nq⟩
end Go.Proofs.YtaajdcaciofmaaaDoor
