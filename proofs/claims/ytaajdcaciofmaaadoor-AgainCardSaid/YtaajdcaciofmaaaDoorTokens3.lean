/- THE PROGRAM's TOKENS: tokenAt. -/
import Derived.Test.YtaajdcaciofmaaaDoorTokens2
namespace Go.Proofs.YtaajdcaciofmaaaDoor
open Go.RowKit

theorem below_alloc {w w1 : World} {o : Obj} (h : Below (w.alloc o).heap.size (w.alloc o) w1) : Below w.heap.size w w1 :=
  ((Below.refl _ _).alloc (Nat.le_refl _) _).trans (h.mono (by simp))

theorem ret4v {a b c d a' b' c' d' : Int} (h1 : a = a') (h2 : b = b') (h3 : c = c') (h4 : d = d') : Value.agg #[.int .i64 a, .int .i64 b, .int .i64 c, .int .i64 d] = Value.agg #[.int .i64 a', .int .i64 b', .int .i64 c', .int .i64 d'] := by subst h1 h2 h3 h4; rfl

set_option maxHeartbeats 1000000 in
theorem tokenAt_any (s : ByteArray) (i : Nat) (a : Int) (w : World) (ha : a = i) (hs : s.size ≤ 1000) (hi : i ≤ s.size) :
    Calls Tryd.prog 41 #[.string s, .int .i64 a] w fun e w' => e = .returned (.agg #[.int .i64 (pk (tok s i).c), .int .i64 (tok s i).at', .int .i64 (tok s i).to, .int .i64 (tok s i).v]) ∧ Below w.heap.size w w' := by
  subst ha
  go_enter Tryd.func41, Tryd.ntmps41
  go_wp2
  go_loop [1] (fun v => ∃ k : Nat, k ≤ s.size ∧ v = .int .i64 k ∧ Hid (skip s k = skip s i)) (fun v => s.size - (intOf v).toNat)
  case atStart => exact ⟨i, hi, rfl, rfl⟩
  case round =>
    obtain ⟨k, hk, rfl, HK⟩ := hrel
    by_cases hlt : k < s.size
    · have hb := byt_cast hlt
      by_cases hsp : byt s k = 32
      · have H2 : Hid (skip s (k + 1) = skip s i) := by unfold Hid; rw [← skip_space hsp]; exact HK.out
        go_wp2
        go_round
        case rel => exact ⟨k + 1, by omega, by go_num, H2⟩
        case measure => simp [intOf]; omega
      · have HT : Hid (tok s i = tokAt s k) := by unfold Hid tok; rw [← HK.out, skip_here hsp]
        have hsm := byt_small hlt
        have hz : byt s k ≠ 256 := by omega
        by_cases hd : isD s k = true
        · have HC : Hid (pk (tokAt s k).c = 1) := by
            unfold Hid tokAt; rw [if_neg hz, if_pos hd]; split <;> rfl
          have H1 : Hid (isD s k = true) := hd
          go_wp2_with (first | (go_at_call 63; refine (isDigit_any s k _ _ (by omega) (by omega) (by omega)).mono ?_; rintro e w' ⟨rfl, rfl⟩) | (go_at_call 64; refine (numberAt_any s k _ _ (by omega) (by omega) H1.out).mono ?_; rintro e w1 ⟨rfl, hbel⟩; obtain ⟨hc1, hf1⟩ := bcell hbel))
          have hbw := below_alloc hbel
          refine bodyPost_ret (v := .agg #[.int .i64 1, .int .i64 (tokAt s k).at', .int .i64 (tokAt s k).to, .int .i64 (tokAt s k).v]) (by simp [results, Tryd.results41, go_sem, hc1]) rfl ?_
          exact ⟨by rw [HT.out]; exact ret4 (by rw [HC.out]) rfl rfl rfl, by go_grown⟩
        · have hd' : isD s k = false := by simpa using hd
          by_cases hu : byt s k = 117
          · have HC : Hid (pk (tokAt s k).c = 2) := by
              unfold Hid tokAt; rw [if_neg hz, if_neg hd, if_pos hu]; split <;> rfl
            go_wp2_with (first | (go_at_call 63; refine (isDigit_any s k _ _ (by omega) (by omega) (by omega)).mono ?_; rintro e w' ⟨rfl, rfl⟩) | (go_at_call 65; refine (powerAt_any s k _ _ _ (by omega) (by omega) hlt (by omega)).mono ?_; rintro e w1 ⟨rfl, hbel⟩; obtain ⟨hc1, hf1⟩ := bcell hbel))
            have hbw := below_alloc hbel
            refine bodyPost_ret (v := .agg #[.int .i64 2, .int .i64 (tokAt s k).at', .int .i64 (tokAt s k).to, .int .i64 (tokAt s k).v]) (by simp [results, Tryd.results41, go_sem, hc1]) rfl ?_
            exact ⟨by rw [HT.out]; exact ret4 (by rw [HC.out]) rfl rfl rfl, by go_grown⟩
          · by_cases hx : byt s k = 120
            · have HC : Hid (pk (tokAt s k).c = 3) := by
                unfold Hid tokAt; rw [if_neg hz, if_neg hd, if_neg hu, if_pos hx]; split <;> rfl
              go_wp2_with (first | (go_at_call 63; refine (isDigit_any s k _ _ (by omega) (by omega) (by omega)).mono ?_; rintro e w' ⟨rfl, rfl⟩) | (go_at_call 65; refine (powerAt_any s k _ _ _ (by omega) (by omega) hlt (by omega)).mono ?_; rintro e w1 ⟨rfl, hbel⟩; obtain ⟨hc1, hf1⟩ := bcell hbel))
              have hbw := below_alloc hbel
              refine bodyPost_ret (v := .agg #[.int .i64 3, .int .i64 (tokAt s k).at', .int .i64 (tokAt s k).to, .int .i64 (tokAt s k).v]) (by simp [results, Tryd.results41, go_sem, hc1]) rfl ?_
              exact ⟨by rw [HT.out]; exact ret4 (by rw [HC.out]) rfl rfl rfl, by go_grown⟩
            · have HC : Hid (tokAt s k = ⟨byt s k + 4, k, k + 1, 0⟩) := by
                unfold Hid tokAt; rw [if_neg hz, if_neg hd, if_neg hu, if_neg hx]
              have HP : Hid (pk (byt s k + 4) = if byt s k = 43 then 4 else if byt s k = 45 then 5 else 6) := by
                unfold Hid pk
                rw [if_neg (by omega), if_neg (by omega), if_neg (by omega), if_neg (by omega)]
                by_cases hp : byt s k = 43
                · rw [if_pos (by omega), if_pos hp]
                · rw [if_neg (by omega), if_neg hp]
                  by_cases hm : byt s k = 45
                  · rw [if_pos (by omega), if_pos hm]
                  · rw [if_neg (by omega), if_neg hm]
              by_cases hp : byt s k = 43
              · have HP' : Hid (pk (byt s k + 4) = 4) := by unfold Hid; rw [HP.out, if_pos hp]
                go_wp2_with (first | (go_at_call 63; refine (isDigit_any s k _ _ (by omega) (by omega) (by omega)).mono ?_; rintro e w' ⟨rfl, rfl⟩))
                go_returns
                exact ⟨by rw [HT.out, HC.out]; dsimp only; exact ret4 (by rw [HP'.out]) (by omega) (by omega) (by omega), by go_grown⟩
              · by_cases hm : byt s k = 45
                · have HP' : Hid (pk (byt s k + 4) = 5) := by unfold Hid; rw [HP.out, if_neg hp, if_pos hm]
                  go_wp2_with (first | (go_at_call 63; refine (isDigit_any s k _ _ (by omega) (by omega) (by omega)).mono ?_; rintro e w' ⟨rfl, rfl⟩))
                  go_returns
                  exact ⟨by rw [HT.out, HC.out]; dsimp only; exact ret4 (by rw [HP'.out]) (by omega) (by omega) (by omega), by go_grown⟩
                · have HP' : Hid (pk (byt s k + 4) = 6) := by unfold Hid; rw [HP.out, if_neg hp, if_neg hm]
                  go_wp2_with (first | (go_at_call 63; refine (isDigit_any s k _ _ (by omega) (by omega) (by omega)).mono ?_; rintro e w' ⟨rfl, rfl⟩))
                  go_returns
                  exact ⟨by rw [HT.out, HC.out]; dsimp only; exact ret4 (by rw [HP'.out]) (by omega) (by omega) (by omega), by go_grown⟩
    · have hz := byt_ge hlt
      have HT : Hid (tok s i = ⟨0, k, k, 0⟩) := by
        unfold Hid tok
        rw [← HK.out, skip_here (by omega)]; unfold tokAt; rw [if_pos hz]
      go_wp2
      go_returns
      exact ⟨by rw [HT.out]; exact ret4 rfl rfl rfl rfl, by go_grown⟩
end Go.Proofs.YtaajdcaciofmaaaDoor
