/- THE DOCUMENT's ANSWER: tokens in memory; number, power. -/
import Derived.Test.YtaajdcaciofmaaaDoorRef1
import Derived.Test.YtaajdcaciofmaaaDoorFrame
import Derived.Laws.ResultCell
import Derived.Laws.Rows
namespace Go.Proofs.YtaajdcaciofmaaaDoor
open Go.RowKit

/-- The kind and the text of a token in the document's answer. -/
def rk (c : Nat) : Int := if c = 0 then 6 else if c = 1 then 1 else if c = 2 ∨ c = 3 then 2 else if 69 ≤ c ∧ c ≤ 94 then 3 else if sgn (c - 4) = true then ((c - 4 : Nat) : Int) else 5
def rs (c : Nat) : ByteArray := if c = 2 then ⟨#[117]⟩ else if c = 3 then ⟨#[120]⟩ else if 69 ≤ c ∧ c ≤ 94 then ⟨#[UInt8.ofNat (c - 4)]⟩ else ⟨#[]⟩

theorem one_byte {s : ByteArray} {i : Nat} (h : i < s.size) : s.extract i (i + 1) = ⟨#[UInt8.ofNat (byt s i)]⟩ := by
  rw [byt_lt h]
  apply ByteArray.ext
  apply Array.ext
  · simp; omega
  · intro j h1 h2
    have : j = 0 := by simp at h2; omega
    subst this
    simp
    rfl

theorem results_tok {fn : Func} {p u : Tmp} (h : fn.results = #[.cell p 103, .tmp u]) (tmps : Array Value) (w : World) (g : Nat) (x0 x1 x2 x3 : Value)
    (hp : tmps.getD p undef = .pointer (some ⟨g, 0, none⟩)) (hg : Blk w g #[x0, x1, x2, x3] 103) :
    (results fn tmps).run Tryd.prog w = .ok (.tuple #[.agg #[x0, x1, x2, x3], tmps.getD u undef]) w := by
  rw [results_cell_tmp h, hp]
  simp [asAddr, run_loadVar_row (P := Tryd.prog) w g 103 103 #[x0, x1, x2, x3] (0, 0) _ hg Tryd.underlying103 rfl (by kernel_rfl)]
theorem retTok {a b c d a' b' c' d' : Int} {s s' : ByteArray} (h1 : a = a') (h2 : b = b') (h3 : c = c') (hs : s = s') (h4 : d = d') : Ending.returned (.tuple #[.agg #[.int .i64 a, .int .i64 b, .int .i64 c, .string s], .int .i64 d]) = Ending.returned (.tuple #[.agg #[.int .i64 a', .int .i64 b', .int .i64 c', .string s'], .int .i64 d']) := by subst h1 h2 h3 h4 hs; rfl

set_option maxHeartbeats 1000000 in
theorem number_any (s : ByteArray) (i : Nat) (a : Int) (w : World) (ha : a = i) (hs : s.size ≤ 1000) (hd : isD s i = true) :
    Calls Tryd.prog 54 #[.string s, .int .i64 a] w fun e w' => e = .returned (.tuple #[.agg #[.int .i64 1, .int .i64 (tokAt s i).at', .int .i64 (tokAt s i).v, .string ⟨#[]⟩], .int .i64 (tokAt s i).to]) ∧ Below w.heap.size w w' := by
  subst ha
  have hi := isD_in hd
  have hb := byt_cast hi
  have hD := (isD_iff s i).1 hd
  have ht : byt s i ≠ 256 := by omega
  by_cases h2 : isD s (i + 1) = true
  · have hi2 := isD_in h2
    have hb2 := byt_cast hi2
    have hD2 := (isD_iff s (i + 1)).1 h2
    have HT : Hid (tokAt s i = ⟨1, i, i + 2, 10 * (byt s i - 48) + (byt s (i + 1) - 48)⟩) := by unfold Hid tokAt; rw [if_neg ht, if_pos hd, if_pos h2]
    have hdec : (decide (48 ≤ byt s (i + 1)) && decide (byt s (i + 1) ≤ 57)) = true := h2
    clear hd ht h2
    go_enter Tryd.func54, Tryd.ntmps54
    go_wp2_with (go_at_call 53; refine (rdigit_any (byt s (i + 1)) _ _ (by omega) (by omega)).mono ?_; rintro e w' ⟨rfl, rfl⟩)
    refine bodyPost_ret (results_tok Tryd.results54 _ _ w.heap.size _ _ _ _ (by rfl) (Blk.new w _ _)) rfl ⟨?_, by go_grown⟩
    rw [HT.out]; dsimp only
    exact retTok (by omega) (by omega) (by omega) rfl (by omega)
  · have HT : Hid (tokAt s i = ⟨1, i, i + 1, byt s i - 48⟩) := by unfold Hid tokAt; rw [if_neg ht, if_pos hd, if_neg h2]
    by_cases hi2 : i + 1 < s.size
    · have hb2 := byt_cast hi2
      have hsm := byt_small hi2
      have hdec : (decide (48 ≤ byt s (i + 1)) && decide (byt s (i + 1) ≤ 57)) = false := by
        cases q : (decide (48 ≤ byt s (i + 1)) && decide (byt s (i + 1) ≤ 57)) with
        | false => rfl
        | true => exact absurd q h2
      clear hd ht h2
      go_enter Tryd.func54, Tryd.ntmps54
      go_wp2_with (go_at_call 53; refine (rdigit_any (byt s (i + 1)) _ _ (by omega) (by omega)).mono ?_; rintro e w' ⟨rfl, rfl⟩)
      refine bodyPost_ret (results_tok Tryd.results54 _ _ w.heap.size _ _ _ _ (by rfl) (Blk.new w _ _)) rfl ⟨?_, by go_grown⟩
      rw [HT.out]; dsimp only
      exact retTok (by omega) (by omega) (by omega) rfl (by omega)
    · clear hd ht h2
      go_enter Tryd.func54, Tryd.ntmps54
      go_wp2
      refine bodyPost_ret (results_tok Tryd.results54 _ _ w.heap.size _ _ _ _ (by rfl) (Blk.new w _ _)) rfl ⟨?_, by go_grown⟩
      rw [HT.out]; dsimp only
      exact retTok (by omega) (by omega) (by omega) rfl (by omega)

set_option maxHeartbeats 1000000 in
theorem rpower_any (s : ByteArray) (i : Nat) (a : Int) (w : World) (ha : a = i) (hs : s.size ≤ 1000) (hi : i < s.size) (hx : byt s i = 117 ∨ byt s i = 120) :
    Calls Tryd.prog 55 #[.string s, .int .i64 a] w fun e w' => e = .returned (.tuple #[.agg #[.int .i64 2, .int .i64 (tokAt s i).at', .int .i64 (tokAt s i).v, .string (rs (tokAt s i).c)], .int .i64 (tokAt s i).to]) ∧ Below w.heap.size w w' := by
  subst ha
  have h0 : byt s i ≠ 256 := by omega
  have h1 : ¬ isD s i = true := by rw [isD_iff]; omega
  have HS : Hid (s.extract i (i + 1) = rs (tokAt s i).c) := by
    unfold Hid
    rw [one_byte hi]
    unfold tokAt
    rw [if_neg h0, if_neg h1]
    rcases hx with hx | hx
    · rw [if_pos hx, hx]; split <;> rfl
    · rw [if_neg (by omega), if_pos hx, hx]; split <;> rfl
  by_cases h2 : isD s (i + 1) = true
  · have hi2 := isD_in h2
    have hb2 := byt_cast hi2
    have hD2 := (isD_iff s (i + 1)).1 h2
    have HT : Hid ((tokAt s i).at' = i ∧ (tokAt s i).to = i + 2 ∧ (tokAt s i).v = byt s (i + 1) - 48) := by
      unfold Hid tokAt
      rcases hx with hx | hx <;> simp [h1, h2, hx]
    have hdec : (decide (48 ≤ byt s (i + 1)) && decide (byt s (i + 1) ≤ 57)) = true := h2
    clear h0 h1 hx h2
    go_enter Tryd.func55, Tryd.ntmps55
    go_wp2_with (go_at_call 53; refine (rdigit_any (byt s (i + 1)) _ _ (by omega) (by omega)).mono ?_; rintro e w' ⟨rfl, rfl⟩)
    go_region
    go_wp2
    obtain ⟨e1, e2, e3⟩ := HT.out
    refine bodyPost_ret (results_tok Tryd.results55 _ _ w.heap.size _ _ _ _ (by rfl) (Blk.drew (Blk.new w _ _))) rfl ⟨?_, by go_grown⟩
    rw [e1, e2, e3]
    exact retTok (by omega) (by omega) (by omega) HS.out (by omega)
  · have HT : Hid ((tokAt s i).at' = i ∧ (tokAt s i).to = i + 1 ∧ (tokAt s i).v = 1) := by
      unfold Hid tokAt
      rcases hx with hx | hx <;> simp [h1, h2, hx]
    by_cases hi2 : i + 1 < s.size
    · have hb2 := byt_cast hi2
      have hsm := byt_small hi2
      have hdec : (decide (48 ≤ byt s (i + 1)) && decide (byt s (i + 1) ≤ 57)) = false := by
        cases q : (decide (48 ≤ byt s (i + 1)) && decide (byt s (i + 1) ≤ 57)) with
        | false => rfl
        | true => exact absurd q h2
      clear h0 h1 hx h2
      go_enter Tryd.func55, Tryd.ntmps55
      go_wp2_with (go_at_call 53; refine (rdigit_any (byt s (i + 1)) _ _ (by omega) (by omega)).mono ?_; rintro e w' ⟨rfl, rfl⟩)
      obtain ⟨e1, e2, e3⟩ := HT.out
      refine bodyPost_ret (results_tok Tryd.results55 _ _ w.heap.size _ _ _ _ (by rfl) (Blk.new w _ _)) rfl ⟨?_, by go_grown⟩
      rw [e1, e2, e3]
      exact retTok (by omega) (by omega) (by omega) HS.out (by omega)
    · clear h0 h1 hx h2
      go_enter Tryd.func55, Tryd.ntmps55
      go_wp2
      obtain ⟨e1, e2, e3⟩ := HT.out
      refine bodyPost_ret (results_tok Tryd.results55 _ _ w.heap.size _ _ _ _ (by rfl) (Blk.new w _ _)) rfl ⟨?_, by go_grown⟩
      rw [e1, e2, e3]
      exact retTok (by omega) (by omega) (by omega) HS.out (by omega)
end Go.Proofs.YtaajdcaciofmaaaDoor
