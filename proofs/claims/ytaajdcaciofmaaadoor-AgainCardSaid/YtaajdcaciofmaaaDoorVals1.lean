/- THE PROGRAM's Value of a polynomial. -/
import Derived.Test.YtaajdcaciofmaaaDoorArr
import Derived.Test.YtaajdcaciofmaaaDoorHorner
namespace Go.Proofs.YtaajdcaciofmaaaDoor
open Go.RowKit

theorem prod_bd {a b : Nat} (ha : a < 7) (hb : b < 7) : 0 ≤ (a : Int) * (b : Int) ∧ (a : Int) * (b : Int) ≤ 36 := by
  have h := Nat.mul_le_mul (show a ≤ 6 by omega) (show b ≤ 6 by omega)
  have h1 : ((a * b : Nat) : Int) ≤ ((6 * 6 : Nat) : Int) := by exact_mod_cast h
  have h2 : (0 : Int) ≤ ((a * b : Nat) : Int) := by omega
  rw [Int.natCast_mul] at h1 h2
  exact ⟨h2, by omega⟩
theorem hidV {p : Prop} (h : p) : Hid p := h

set_option maxRecDepth 100000 in
set_option maxHeartbeats 2000000 in
theorem pVal_any (p : List Nat) (U X : Int) (a b : Nat) (w : World) (hp : Good p) (hU : U % 7 = a) (hX : X % 7 = b) (ha : a < 7) (hb : b < 7) :
    Calls Tryd.prog 19 #[.agg (pv p), .int .i64 U, .int .i64 X] w fun e w' => e = .returned (.int .i64 (valP p a b)) ∧ Below w.heap.size w w' := by
  have HU := hidV hU
  have HX := hidV hX
  clear hU hX
  go_enter Tryd.func19, Tryd.ntmps19
  go_wp2_with fail
  refine (Mod_any U _).mono ?_
  rintro e w1 ⟨rfl, rfl⟩
  rw [HU.out]
  go_wp2_with fail
  refine (Mod_any X _).mono ?_
  rintro e w2 ⟨rfl, rfl⟩
  rw [HX.out]
  go_wp2
  go_loop [7, 8] (fun v7 v8 => ∃ k : Nat, k ≤ 5 ∧ v8 = .int .i64 (((5 - k : Nat) : Int) - 1) ∧ v7 = .int .i64 (horn (fun i => horn (fun j => p.getD (i * 7 + j) 0) 7 a 7) 5 b k)) (fun _ v8 => (intOf v8 + 1).toNat)
  case atStart => exact ⟨0, by omega, rfl, rfl⟩
  case round =>
    obtain ⟨k, hk, rfl, rfl⟩ := hrel
    have hlt := horn_lt (fun i => horn (fun j => p.getD (i * 7 + j) 0) 7 a 7) 5 b k
    by_cases h5 : k < 5
    · obtain ⟨i, hi⟩ : ∃ i : Nat, 5 - k = i + 1 := ⟨4 - k, by omega⟩
      have hi4 : i < 5 := by omega
      have e : (((5 - k : Nat) : Int) - 1) = (i : Int) := by omega
      rw [e]
      have HST : Hid (horn (fun i => horn (fun j => p.getD (i * 7 + j) 0) 7 a 7) 5 b (k + 1) = (horn (fun i => horn (fun j => p.getD (i * 7 + j) 0) 7 a 7) 5 b k * b + horn (fun j => p.getD (i * 7 + j) 0) 7 a 7) % 7) := by
        unfold Hid
        rw [horn, show 5 - 1 - k = i by omega]
      have HK1 : Hid ((((5 - (k + 1) : Nat) : Int) - 1) = (i : Int) - 1) := by unfold Hid; omega
      clear e hi
      generalize horn (fun i => horn (fun j => p.getD (i * 7 + j) 0) 7 a 7) 5 b k = H at *
      have hpb := prod_bd hlt hb
      go_wp2
      go_loop [9, 10] (fun v9 v10 => ∃ m : Nat, m ≤ 7 ∧ v10 = .int .i64 (((7 - m : Nat) : Int) - 1) ∧ v9 = .int .i64 (horn (fun j => p.getD (i * 7 + j) 0) 7 a m)) (fun _ v10 => (intOf v10 + 1).toNat)
      case atStart => exact ⟨0, by omega, rfl, rfl⟩
      case round =>
        obtain ⟨m, hm, rfl, rfl⟩ := hrel
        have hlt2 := horn_lt (fun j => p.getD (i * 7 + j) 0) 7 a m
        by_cases h7 : m < 7
        · obtain ⟨j, hj⟩ : ∃ j : Nat, 7 - m = j + 1 := ⟨6 - m, by omega⟩
          have hj6 : j < 7 := by omega
          have e2 : (((7 - m : Nat) : Int) - 1) = (j : Int) := by omega
          rw [e2]
          have HS2 : Hid (horn (fun j => p.getD (i * 7 + j) 0) 7 a (m + 1) = (horn (fun j => p.getD (i * 7 + j) 0) 7 a m * a + p.getD (i * 7 + j) 0) % 7) := by
            unfold Hid
            rw [horn, show 7 - 1 - m = j by omega]
          have HM1 : Hid ((((7 - (m + 1) : Nat) : Int) - 1) = (j : Int) - 1) := by unfold Hid; omega
          clear e2 hj
          generalize horn (fun j => p.getD (i * 7 + j) 0) 7 a m = G at *
          have hq : i * 7 + j < p.length := by rw [hp.1]; omega
          have hcell := pv_get hq
          have hv7 := hp.2 (i * 7 + j)
          generalize p.getD (i * 7 + j) 0 = v at *
          have hpb2 := prod_bd hlt2 ha
          have i0 : (0 : Int) ≤ (i : Int) := by omega
          have i1 : (i : Int) < 5 := by omega
          have j0 : (0 : Int) ≤ (j : Int) := by omega
          have j1 : (j : Int) < 7 := by omega
          have hc : (w.alloc (.cells (pv p) 37)).cell? ⟨w.heap.size, i * 7 + j, none⟩ = some (.int .i64 v) := by rw [(Blk.new w _ _).cell]; exact hcell
          clear hcell
          go_wp2_with fail
          refine (Mod_any _ _).mono ?_
          rintro e w3 ⟨rfl, rfl⟩
          go_wp2
          go_round
          case rel =>
            refine ⟨m + 1, by omega, ?_, ?_⟩
            · rw [HM1.out]
            · rw [HS2.out]; simp
          case measure => simp [intOf]
        · have e7 : m = 7 := by omega
          subst e7
          have hlt3 := horn_lt (fun j => p.getD (i * 7 + j) 0) 7 a 7
          generalize horn (fun j => p.getD (i * 7 + j) 0) 7 a 7 = G at *
          go_wp2_with fail
          refine (Mod_any _ _).mono ?_
          rintro e w3 ⟨rfl, rfl⟩
          go_wp2
          go_round
          case rel =>
            refine ⟨k + 1, by omega, ?_, ?_⟩
            · rw [HK1.out]
            · rw [HST.out]; simp
          case measure => simp [intOf]
    · have e5 : k = 5 := by omega
      subst e5
      go_wp2
      go_ret
      exact ⟨rfl, by go_grown⟩
end Go.Proofs.YtaajdcaciofmaaaDoor
