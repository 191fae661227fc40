import Derived.Test.YthlmgpllapccfaaDoorPack2
import Derived.Laws.ResultCell
import Derived.Laws.Rows
import Derived.Deep.AppendLies
import Derived.Deep.LoopGhost
import Derived.Deep.Cut
/- THE DOCUMENT's ANSWER: tokens in memory; number, power. -/
namespace Go.Proofs.YthlmgpllapccfaaDoor
open Go.RowKit

/-- A word's letters as one number, and back. -/
def wenc : List UInt8 → Nat
  | [] => 0
  | b :: l => 1 + b.toNat + 256 * wenc l
def wdF : Nat → Nat → List UInt8
  | 0, _ => []
  | m + 1, n => if n = 0 then [] else UInt8.ofNat ((n - 1) % 256) :: wdF m ((n - 1) / 256)
theorem wdF_enc : ∀ (l : List UInt8) (m : Nat), l.length ≤ m → wdF m (wenc l) = l
  | [], m, _ => by cases m <;> simp [wdF, wenc]
  | b :: l, 0, h => by simp at h
  | b :: l, m + 1, h => by
    have hb : b.toNat < 256 := b.toNat_lt
    rw [wdF, wenc, if_neg (by omega), show (1 + b.toNat + 256 * wenc l - 1) % 256 = b.toNat by omega, show (1 + b.toNat + 256 * wenc l - 1) / 256 = wenc l by omega, wdF_enc l m (by simp at h; omega)]
    simp
theorem wenc_len : ∀ l : List UInt8, l.length ≤ wenc l
  | [] => Nat.le_refl _
  | b :: l => by have := wenc_len l; simp only [List.length_cons, wenc]; omega
/-- The kind and the text of a token in the document's answer (from 1000 on: a word). -/
def rk (c : Nat) : Int := if c = 0 then 6 else if c = 1 then 1 else if c = 2 ∨ c = 3 then 2 else if 69 ≤ c ∧ c ≤ 94 then 3 else if sgn (c - 4) = true then ((c - 4 : Nat) : Int) else if 1000 ≤ c then 4 else 5
def rs (c : Nat) : ByteArray := if c = 2 then ⟨#[117]⟩ else if c = 3 then ⟨#[120]⟩ else if 69 ≤ c ∧ c ≤ 94 then ⟨#[UInt8.ofNat (c - 4)]⟩ else if 1000 ≤ c then ⟨(wdF c (c - 1000)).toArray⟩ else ⟨#[]⟩
theorem sgn_small {c : Nat} (h : sgn c = true) : c ≤ 126 := by
  unfold sgn at h
  simp only [Bool.or_eq_true, beq_iff_eq] at h
  omega
theorem rk_word (t : ByteArray) : rk (1000 + wenc t.data.toList) = 4 ∧ rs (1000 + wenc t.data.toList) = t := by
  constructor
  · unfold rk
    rw [if_neg (by omega), if_neg (by omega), if_neg (by omega), if_neg (by omega), if_neg (fun h => by have := sgn_small h; omega), if_pos (by omega)]
  · unfold rs
    rw [if_neg (by omega), if_neg (by omega), if_neg (by omega), if_pos (by omega), Nat.add_sub_cancel_left, wdF_enc _ _ (by have := wenc_len t.data.toList; omega)]

theorem one_byte {s : ByteArray} {i : Nat} (h : i < s.size) : s.extract i (i + 1) = ⟨#[UInt8.ofNat (byt s i)]⟩ := by
  rw [byt_lt h]
  apply ByteArray.ext
  apply Array.ext
  · simp; omega
  · intro j h1 h2
    have : j = 0 := by simp at h2; omega
    subst this
    simp
    rfl

theorem results_tok {fn : Func} {p u : Tmp} (h : fn.results = #[.cell p 94, .tmp u]) (tmps : Array Value) (w : World) (g : Nat) (x0 x1 x2 x3 : Value)
    (hp : tmps.getD p undef = .pointer (some ⟨g, 0, none⟩)) (hg : Blk w g #[x0, x1, x2, x3] 94) :
    (results fn tmps).run Tryd.prog w = .ok (.tuple #[.agg #[x0, x1, x2, x3], tmps.getD u undef]) w := by
  rw [results_cell_tmp h, hp]
  simp [asAddr, run_loadVar_row (P := Tryd.prog) w g 94 94 #[x0, x1, x2, x3] (0, 0) _ hg Tryd.underlying94 rfl (by kernel_rfl)]
theorem retTok {a b c d a' b' c' d' : Int} {s s' : ByteArray} (h1 : a = a') (h2 : b = b') (h3 : c = c') (hs : s = s') (h4 : d = d') : Ending.returned (.tuple #[.agg #[.int .i64 a, .int .i64 b, .int .i64 c, .string s], .int .i64 d]) = Ending.returned (.tuple #[.agg #[.int .i64 a', .int .i64 b', .int .i64 c', .string s'], .int .i64 d']) := by subst h1 h2 h3 h4 hs; rfl

set_option maxHeartbeats 1000000 in
theorem number_any (s : ByteArray) (i : Nat) (a : Int) (w : World) (ha : a = i) (hs : s.size ≤ 1000) (hd : isD s i = true) :
    Calls Tryd.prog 50 #[.string s, .int .i64 a] w fun e w' => e = .returned (.tuple #[.agg #[.int .i64 1, .int .i64 (tokAt s i).at', .int .i64 (tokAt s i).v, .string ⟨#[]⟩], .int .i64 (tokAt s i).to]) ∧ Below w.heap.size w w' := by
  subst ha
  have hi := isD_in hd
  have hb := byt_cast hi
  have hD := (isD_iff s i).1 hd
  have ht : byt s i ≠ 256 := by omega
  by_cases h2 : isD s (i + 1) = true
  · have hi2 := isD_in h2
    have hb2 := byt_cast hi2
    have hD2 := (isD_iff s (i + 1)).1 h2
    have HT : Hid (tokAt s i = ⟨1, i, i + 2, 10 * (byt s i - 48) + (byt s (i + 1) - 48)⟩) := by unfold Hid tokAt; rw [if_neg ht, if_pos hd, if_pos h2]
    have hdec : (decide (48 ≤ byt s (i + 1)) && decide (byt s (i + 1) ≤ 57)) = true := h2
    clear hd ht h2
    go_enter Tryd.func50, Tryd.ntmps50
    go_wp2_with (go_at_call 49; refine (rdigit_any (byt s (i + 1)) _ _ (by omega) (by omega)).mono ?_; rintro e w' ⟨rfl, rfl⟩)
    refine bodyPost_ret (results_tok Tryd.results50 _ _ w.heap.size _ _ _ _ (by rfl) (Blk.new w _ _)) rfl ⟨?_, by go_grown⟩
    rw [HT.out]; dsimp only
    exact retTok (by omega) (by omega) (by omega) rfl (by omega)
  · have HT : Hid (tokAt s i = ⟨1, i, i + 1, byt s i - 48⟩) := by unfold Hid tokAt; rw [if_neg ht, if_pos hd, if_neg h2]
    by_cases hi2 : i + 1 < s.size
    · have hb2 := byt_cast hi2
      have hsm := byt_small hi2
      have hdec : (decide (48 ≤ byt s (i + 1)) && decide (byt s (i + 1) ≤ 57)) = false := by
        cases q : (decide (48 ≤ byt s (i + 1)) && decide (byt s (i + 1) ≤ 57)) with
        | false => rfl
        | true => exact absurd q h2
      clear hd ht h2
      go_enter Tryd.func50, Tryd.ntmps50
      go_wp2_with (go_at_call 49; refine (rdigit_any (byt s (i + 1)) _ _ (by omega) (by omega)).mono ?_; rintro e w' ⟨rfl, rfl⟩)
      refine bodyPost_ret (results_tok Tryd.results50 _ _ w.heap.size _ _ _ _ (by rfl) (Blk.new w _ _)) rfl ⟨?_, by go_grown⟩
      rw [HT.out]; dsimp only
      exact retTok (by omega) (by omega) (by omega) rfl (by omega)
    · clear hd ht h2
      go_enter Tryd.func50, Tryd.ntmps50
      go_wp2
      refine bodyPost_ret (results_tok Tryd.results50 _ _ w.heap.size _ _ _ _ (by rfl) (Blk.new w _ _)) rfl ⟨?_, by go_grown⟩
      rw [HT.out]; dsimp only
      exact retTok (by omega) (by omega) (by omega) rfl (by omega)

set_option maxHeartbeats 1000000 in
theorem rpower_any (s : ByteArray) (i : Nat) (a : Int) (w : World) (ha : a = i) (hs : s.size ≤ 1000) (hi : i < s.size) (hx : byt s i = 117 ∨ byt s i = 120) :
    Calls Tryd.prog 51 #[.string s, .int .i64 a] w fun e w' => e = .returned (.tuple #[.agg #[.int .i64 2, .int .i64 (tokAt s i).at', .int .i64 (tokAt s i).v, .string (rs (tokAt s i).c)], .int .i64 (tokAt s i).to]) ∧ Below w.heap.size w w' := by
  subst ha
  have h0 : byt s i ≠ 256 := by omega
  have h1 : ¬ isD s i = true := by rw [isD_iff]; omega
  have HS : Hid (s.extract i (i + 1) = rs (tokAt s i).c) := by
    unfold Hid
    rw [one_byte hi]
    unfold tokAt
    rw [if_neg h0, if_neg h1]
    rcases hx with hx | hx
    · rw [if_pos hx, hx]; split <;> rfl
    · rw [if_neg (by omega), if_pos hx, hx]; split <;> rfl
  by_cases h2 : isD s (i + 1) = true
  · have hi2 := isD_in h2
    have hb2 := byt_cast hi2
    have hD2 := (isD_iff s (i + 1)).1 h2
    have HT : Hid ((tokAt s i).at' = i ∧ (tokAt s i).to = i + 2 ∧ (tokAt s i).v = byt s (i + 1) - 48) := by
      unfold Hid tokAt
      rcases hx with hx | hx <;> simp [h1, h2, hx]
    have hdec : (decide (48 ≤ byt s (i + 1)) && decide (byt s (i + 1) ≤ 57)) = true := h2
    clear h0 h1 hx h2
    go_enter Tryd.func51, Tryd.ntmps51
    go_wp2_with (go_at_call 49; refine (rdigit_any (byt s (i + 1)) _ _ (by omega) (by omega)).mono ?_; rintro e w' ⟨rfl, rfl⟩)
    go_region
    go_wp2
    obtain ⟨e1, e2, e3⟩ := HT.out
    refine bodyPost_ret (results_tok Tryd.results51 _ _ w.heap.size _ _ _ _ (by rfl) (Blk.drew (Blk.new w _ _))) rfl ⟨?_, by go_grown⟩
    rw [e1, e2, e3]
    exact retTok (by omega) (by omega) (by omega) HS.out (by omega)
  · have HT : Hid ((tokAt s i).at' = i ∧ (tokAt s i).to = i + 1 ∧ (tokAt s i).v = 1) := by
      unfold Hid tokAt
      rcases hx with hx | hx <;> simp [h1, h2, hx]
    by_cases hi2 : i + 1 < s.size
    · have hb2 := byt_cast hi2
      have hsm := byt_small hi2
      have hdec : (decide (48 ≤ byt s (i + 1)) && decide (byt s (i + 1) ≤ 57)) = false := by
        cases q : (decide (48 ≤ byt s (i + 1)) && decide (byt s (i + 1) ≤ 57)) with
        | false => rfl
        | true => exact absurd q h2
      clear h0 h1 hx h2
      go_enter Tryd.func51, Tryd.ntmps51
      go_wp2_with (go_at_call 49; refine (rdigit_any (byt s (i + 1)) _ _ (by omega) (by omega)).mono ?_; rintro e w' ⟨rfl, rfl⟩)
      obtain ⟨e1, e2, e3⟩ := HT.out
      refine bodyPost_ret (results_tok Tryd.results51 _ _ w.heap.size _ _ _ _ (by rfl) (Blk.new w _ _)) rfl ⟨?_, by go_grown⟩
      rw [e1, e2, e3]
      exact retTok (by omega) (by omega) (by omega) HS.out (by omega)
    · clear h0 h1 hx h2
      go_enter Tryd.func51, Tryd.ntmps51
      go_wp2
      obtain ⟨e1, e2, e3⟩ := HT.out
      refine bodyPost_ret (results_tok Tryd.results51 _ _ w.heap.size _ _ _ _ (by rfl) (Blk.new w _ _)) rfl ⟨?_, by go_grown⟩
      rw [e1, e2, e3]
      exact retTok (by omega) (by omega) (by omega) HS.out (by omega)
end Go.Proofs.YthlmgpllapccfaaDoor
/- THE DOCUMENT's ANSWER: cut. -/
namespace Go.Proofs.YthlmgpllapccfaaDoor
open Go.RowKit

/-- A token's cells; the first k tokens' cells. -/
def tokL (t : Tok) : List Value := [.int .i64 (rk t.c), .int .i64 t.at', .int .i64 t.v, .string (rs t.c)]
def toksL (s : ByteArray) (a : Nat) : Nat → List Value
  | 0 => []
  | k + 1 => toksL s a k ++ tokL (tk s a k)
theorem toksL_length (s : ByteArray) (a : Nat) : ∀ k, (toksL s a k).length = k * 4
  | 0 => rfl
  | k + 1 => by simp [toksL, toksL_length s a k, tokL]; omega
theorem toksL_get (s : ByteArray) (a : Nat) : ∀ (k j i : Nat), j < k → i < 4 → (toksL s a k)[j * 4 + i]? = (tokL (tk s a j))[i]?
  | 0, _, _, h, _ => by omega
  | k + 1, j, i, h, hi => by
    show (toksL s a k ++ tokL (tk s a k))[j * 4 + i]? = _
    by_cases hj : j < k
    · rw [List.getElem?_append_left (by rw [toksL_length]; omega)]
      exact toksL_get s a k j i hj hi
    · have e : j = k := by omega
      subst e
      rw [List.getElem?_append_right (by rw [toksL_length]; omega), toksL_length]
      congr 1; omega
theorem Token_info : (Tryd.prog.info? 94).map (fun i => (i.zero, i.size, i.bytes)) = some (some (.agg #[.int .i64 0, .int .i64 0, .int .i64 0, .string ⟨#[]⟩]), 4, 40) := by kernel_rfl
theorem tokL_one (t : Tok) : ∀ u ∈ tokL t, u.oneCell' = true := by
  intro u hu
  simp only [tokL, List.mem_cons, List.not_mem_nil, or_false] at hu
  rcases hu with rfl | rfl | rfl | rfl <;> rfl

theorem hideR {p : Prop} (h : p) : Hid p := h
/-- What is owned stays owned where nothing old but one other block has turned. -/
theorem ownsRow_fr {w w' : World} {base : Nat} {e : TypeId} {size : Nat} {v : Value} {n : Nat} {xs : List Value} {c : Nat} (h : w.ownsRow base e size v n xs) (hf : Fr [c] w w') (hc : v.ownBlock ≠ some c) : w'.ownsRow base e size v n xs :=
  h.kept (row := some c) ⟨hf.os, hf.tape, hf.output, hf.size, fun k hk hn => hf.block k hk (by simp; intro q; exact hn (by rw [q]))⟩ (Or.inr hc)
theorem ownsRow_ne {w : World} {base : Nat} {e : TypeId} {size : Nat} {v : Value} {n : Nat} {xs : List Value} (h : w.ownsRow base e size v n xs) {c : Nat} (hc : w.heap.size ≤ c) : v.ownBlock ≠ some c := fun q => by
  have := (h.lt c q).2; omega

set_option maxRecDepth 100000 in
set_option maxHeartbeats 8000000 in
theorem cut_plain (s : ByteArray) (w : World) (hs : s.size ≤ 1000) :
    Calls Tryd.prog 28 #[.string s, .bool false] w fun e w' => ∃ n g cap, e = .returned (.slice (some ⟨g, 0, none⟩) (n + 1) cap) ∧ n ≤ s.size ∧ (∀ j, j < n → (tk s 0 j).c ≠ 0) ∧ (tk s 0 n).c = 0 ∧ w'.ownsRow w.heap.size 94 4 (.slice (some ⟨g, 0, none⟩) (n + 1) cap) (n + 1) (toksL s 0 (n + 1)) ∧ w.heap.size ≤ g ∧ Below w.heap.size w w' := by
  obtain ⟨i0, hi, hz0, hz1, hz2⟩ := info_parts Token_info
  go_enter Tryd.func28, Tryd.ntmps28
  go_wp2
  go_loopg [5, 6] (s.size) (fun m v5 v6 wr => ∃ k i : Nat, m = s.size - i ∧ v6 = .int .i64 i ∧ i ≤ s.size ∧ k ≤ i ∧ Hid (skip s i = skip s (pos s 0 k)) ∧ Hid (∀ j, j < k → (tk s 0 j).c ≠ 0) ∧ wr.ownsRow w.heap.size 94 4 v5 k (toksL s 0 k) ∧ Below w.heap.size w wr)
  case atStart => exact ⟨0, 0, rfl, rfl, by omega, by omega, rfl, fun j hj => by omega, World.ownsRow_nil _ _ _ _, Below.refl _ _⟩
  case round =>
    obtain ⟨k, i, hm, rfl, hi', hki, HS, HC, hown, hbel⟩ := hrel
    by_cases hlt : i < s.size
    · have hb := byt_cast hlt
      have hsm := byt_small hlt
      by_cases hsp : byt s i = 32
      · have H2 : Hid (skip s (i + 1) = skip s (pos s 0 k)) := by unfold Hid; rw [← skip_space hsp]; exact HS.out
        go_wp2
        go_roundg (s.size - (i + 1))
        case measure => omega
        case rel => exact ⟨k, i + 1, rfl, by go_num, by omega, by omega, H2, HC, hown.alloc _, hbel.alloc hbel.size _⟩
      · have hz : byt s i ≠ 256 := by omega
        have HT : Hid (tk s 0 k = tokAt s i) := by unfold Hid tk tok; rw [← HS.out, skip_here hsp]
        by_cases hd : isD s i = true
        · have HD := hideR hd
          have hd' : (decide (48 ≤ byt s i) && decide (byt s i ≤ 57)) = true := hd
          have HK : Hid (rk (tokAt s i).c = 1 ∧ rs (tokAt s i).c = ⟨#[]⟩) := by
            unfold Hid tokAt; rw [if_neg hz, if_pos hd]; split <;> exact ⟨rfl, rfl⟩
          clear hd
          have HF : Hid ((tk s 0 k).to ≤ s.size ∧ i < (tk s 0 k).to ∧ (tk s 0 k).c ≠ 0) := by
            obtain ⟨_, _, f1, _, _, f2, f3⟩ := tokAt_facts hi'
            have f4 : (tokAt s i).c ≠ 0 := fun q => by have := f2.1 q; omega
            unfold Hid; rw [HT.out]; exact ⟨f1, f3 f4, f4⟩

          go_upto_region 19 with (first | (go_at_call 49; refine (rdigit_any (byt s i) _ _ (by omega) (by omega)).mono ?_; rintro e w' ⟨rfl, rfl⟩) | (go_at_call 50; refine (number_any s i _ _ (by omega) (by omega) HD.out).mono ?_; rintro e w1 ⟨rfl, hb1⟩; obtain ⟨hc1, hf1⟩ := bcell hb1))
          refine wp_forget (fun W => Blk W wr.heap.size #[.int .i64 (rk (tk s 0 k).c), .int .i64 (tk s 0 k).at', .int .i64 (tk s 0 k).v, .string (rs (tk s 0 k).c)] 94 ∧ W.ownsRow w.heap.size 94 4 u5 k (toksL s 0 k) ∧ Below w.heap.size w W) ?_ ?_
          · have hf8 : Fr [] (wr.alloc (.cells #[.int .i64 5, .int .i64 i, .int .i64 0, .string ⟨#[]⟩] 94)) w1 := Fr.of_below hb1
            have b8 : Blk w1 wr.heap.size #[.int .i64 5, .int .i64 i, .int .i64 0, .string ⟨#[]⟩] 94 := Blk.fr (Blk.new wr _ _) hf8 (by simp)
            refine ⟨?_, ?_, ?_⟩
            · rw [HT.out, HK.out.1, HK.out.2]
              exact Blk.store4 b8 _ _ _ _
            · refine ownsRow_fr (c := wr.heap.size) (hown.alloc (.cells #[.int .i64 5, .int .i64 i, .int .i64 0, .string ⟨#[]⟩] 94)) ?_ (ownsRow_ne hown (Nat.le_refl _))
              repeat (refine Fr.setCell ?_ _ _ (by simp))
              exact hf8.mono (by simp)
            · repeat (refine Below.setCell ?_ hbel.size _)
              exact (hbel.alloc hbel.size _).trans (hb1.mono (by have := hbel.size; simp; omega))
          rintro W ⟨b8, hownW, hbelW⟩
          have k0 : W.cell? ⟨wr.heap.size, 0, none⟩ = some (.int .i64 (rk (tk s 0 k).c)) := b8.cell 0
          have k1 : W.cell? ⟨wr.heap.size, 1, none⟩ = some (.int .i64 (tk s 0 k).at') := b8.cell 1
          have k2 : W.cell? ⟨wr.heap.size, 2, none⟩ = some (.int .i64 (tk s 0 k).v) := b8.cell 2
          have k3 : W.cell? ⟨wr.heap.size, 3, none⟩ = some (.string (rs (tk s 0 k).c)) := b8.cell 3
          have HOWN := hideR hownW
          have HBEL := hideR hbelW
          clear b8 hownW hbelW hown hbel
          go_wp2_with (at_builtin; refine wpList_append_lies _ (by rfl) (.tmp 86) (.tmp 88) 68 (by rfl) w.heap.size 94 i0 _ 4 40 Tryd.underlying68 hi hz0 hz1 hz2 (by rfl) (by decide) _ k (toksL s 0 k) (by rfl) (by exact HOWN.out.alloc _) ⟨W.heap.size, 0, none⟩ 1 1 (tokL (tk s 0 k)) (by rfl) (by rfl) (by exact World.news_of_block (Blk.new W _ _)) (tokL_one _) (by decide) (by unfold maxLen; omega) (by omega) (by have := HBEL.out.size; simp; omega) _ rfl ?_; intro g cap w1 hown1 hgrow hat hlt1)
          go_roundg (s.size - (tk s 0 k).to)
          case measure => have := HF.out.2.1; omega
          case rel =>
            have hq := HOWN.out
            refine ⟨k + 1, (tk s 0 k).to, rfl, (by rw [HT.out]), HF.out.1, (by have := HF.out.2.1; omega), rfl, ?_, hown1, ?_⟩
            · intro j hj
              by_cases q : j < k
              · exact HC.out j q
              · have e : j = k := by omega
                subst e; exact HF.out.2.2
            · exact (HBEL.out.alloc (by have := HBEL.out.size; omega) _).grown hgrow (by have := HBEL.out.size; simp; omega) (fun b hb => (hq.lt b hb).1)
        · have hd' : (decide (48 ≤ byt s i) && decide (byt s i ≤ 57)) = false := by
            cases q : (decide (48 ≤ byt s i) && decide (byt s i ≤ 57)) with
            | false => rfl
            | true => exact absurd q hd
          by_cases hux : byt s i = 117 ∨ byt s i = 120
          · have HK : Hid (rk (tokAt s i).c = 2) := by
              unfold Hid tokAt; rw [if_neg hz, if_neg hd]
              rcases hux with q | q
              · rw [if_pos q]; split <;> rfl
              · rw [if_neg (by omega), if_pos q]; split <;> rfl
            have HU := hideR hux
            clear hd
            rcases hux with hu | hu
            all_goals
              have HF : Hid ((tk s 0 k).to ≤ s.size ∧ i < (tk s 0 k).to ∧ (tk s 0 k).c ≠ 0) := by
                obtain ⟨_, _, f1, _, _, f2, f3⟩ := tokAt_facts hi'
                have f4 : (tokAt s i).c ≠ 0 := fun q => by have := f2.1 q; omega
                unfold Hid; rw [HT.out]; exact ⟨f1, f3 f4, f4⟩

              go_upto_region 19 with (first | (go_at_call 49; refine (rdigit_any (byt s i) _ _ (by omega) (by omega)).mono ?_; rintro e w' ⟨rfl, rfl⟩) | (go_at_call 51; refine (rpower_any s i _ _ (by omega) (by omega) hlt HU.out).mono ?_; rintro e w1 ⟨rfl, hb1⟩; obtain ⟨hc1, hf1⟩ := bcell hb1))
              refine wp_forget (fun W => Blk W wr.heap.size #[.int .i64 (rk (tk s 0 k).c), .int .i64 (tk s 0 k).at', .int .i64 (tk s 0 k).v, .string (rs (tk s 0 k).c)] 94 ∧ W.ownsRow w.heap.size 94 4 u5 k (toksL s 0 k) ∧ Below w.heap.size w W) ?_ ?_
              · have hf8 : Fr [] (wr.alloc (.cells #[.int .i64 5, .int .i64 i, .int .i64 0, .string ⟨#[]⟩] 94)) w1 := Fr.of_below hb1
                have b8 : Blk w1 wr.heap.size #[.int .i64 5, .int .i64 i, .int .i64 0, .string ⟨#[]⟩] 94 := Blk.fr (Blk.new wr _ _) hf8 (by simp)
                refine ⟨?_, ?_, ?_⟩
                · rw [HT.out, HK.out]
                  exact Blk.store4 b8 _ _ _ _
                · refine ownsRow_fr (c := wr.heap.size) (hown.alloc (.cells #[.int .i64 5, .int .i64 i, .int .i64 0, .string ⟨#[]⟩] 94)) ?_ (ownsRow_ne hown (Nat.le_refl _))
                  repeat (refine Fr.setCell ?_ _ _ (by simp))
                  exact hf8.mono (by simp)
                · repeat (refine Below.setCell ?_ hbel.size _)
                  exact (hbel.alloc hbel.size _).trans (hb1.mono (by have := hbel.size; simp; omega))
              rintro W ⟨b8, hownW, hbelW⟩
              have k0 : W.cell? ⟨wr.heap.size, 0, none⟩ = some (.int .i64 (rk (tk s 0 k).c)) := b8.cell 0
              have k1 : W.cell? ⟨wr.heap.size, 1, none⟩ = some (.int .i64 (tk s 0 k).at') := b8.cell 1
              have k2 : W.cell? ⟨wr.heap.size, 2, none⟩ = some (.int .i64 (tk s 0 k).v) := b8.cell 2
              have k3 : W.cell? ⟨wr.heap.size, 3, none⟩ = some (.string (rs (tk s 0 k).c)) := b8.cell 3
              have HOWN := hideR hownW
              have HBEL := hideR hbelW
              clear b8 hownW hbelW hown hbel
              go_wp2_with (at_builtin; refine wpList_append_lies _ (by rfl) (.tmp 86) (.tmp 88) 68 (by rfl) w.heap.size 94 i0 _ 4 40 Tryd.underlying68 hi hz0 hz1 hz2 (by rfl) (by decide) _ k (toksL s 0 k) (by rfl) (by exact HOWN.out.alloc _) ⟨W.heap.size, 0, none⟩ 1 1 (tokL (tk s 0 k)) (by rfl) (by rfl) (by exact World.news_of_block (Blk.new W _ _)) (tokL_one _) (by decide) (by unfold maxLen; omega) (by omega) (by have := HBEL.out.size; simp; omega) _ rfl ?_; intro g cap w1 hown1 hgrow hat hlt1)
              go_roundg (s.size - (tk s 0 k).to)
              case measure => have := HF.out.2.1; omega
              case rel =>
                have hq := HOWN.out
                refine ⟨k + 1, (tk s 0 k).to, rfl, (by rw [HT.out]), HF.out.1, (by have := HF.out.2.1; omega), rfl, ?_, hown1, ?_⟩
                · intro j hj
                  by_cases q : j < k
                  · exact HC.out j q
                  · have e : j = k := by omega
                    subst e; exact HF.out.2.2
                · exact (HBEL.out.alloc (by have := HBEL.out.size; omega) _).grown hgrow (by have := HBEL.out.size; simp; omega) (fun b hb => (hq.lt b hb).1)
          · have hu : byt s i ≠ 117 := by omega
            have hx : byt s i ≠ 120 := by omega
            have qu : ((byt s i : Int) == 117) = false := by rw [beq_eq_false_iff_ne]; omega
            have qx : ((byt s i : Int) == 120) = false := by rw [beq_eq_false_iff_ne]; omega
            have HA : Hid (tokAt s i = ⟨byt s i + 4, i, i + 1, 0⟩) := by unfold Hid tokAt; rw [if_neg hz, if_neg hd, if_neg hu, if_neg hx]
            by_cases hname : 65 ≤ byt s i ∧ byt s i ≤ 90
            · obtain ⟨hn1, hn2⟩ := hname
              have HX : Hid (s.extract i (i + 1) = ⟨#[UInt8.ofNat (byt s i)]⟩) := one_byte hlt
              have HF : Hid ((tk s 0 k).to ≤ s.size ∧ i < (tk s 0 k).to ∧ (tk s 0 k).c ≠ 0) := by unfold Hid; rw [HT.out, HA.out]; refine ⟨?_, ?_, ?_⟩ <;> dsimp only <;> omega
              have HK : Hid (rk (byt s i + 4) = 3 ∧ rs (byt s i + 4) = s.extract i (i + 1)) := by
                unfold Hid rk rs
                rw [if_neg (by omega), if_neg (by omega), if_neg (by omega), if_pos (by omega), if_neg (by omega), if_neg (by omega), if_pos (by omega), HX.out]; exact ⟨rfl, rfl⟩
              clear hd hux hu hx
              go_upto_region 19 with ((go_at_call 49; refine (rdigit_any (byt s i) _ _ (by omega) (by omega)).mono ?_; rintro e w' ⟨rfl, rfl⟩))
              refine wp_forget (fun W => Blk W wr.heap.size #[.int .i64 (rk (tk s 0 k).c), .int .i64 (tk s 0 k).at', .int .i64 (tk s 0 k).v, .string (rs (tk s 0 k).c)] 94 ∧ W.ownsRow w.heap.size 94 4 u5 k (toksL s 0 k) ∧ Below w.heap.size w W) ?_ ?_
              · refine ⟨?_, hown.alloc _, hbel.alloc hbel.size _⟩
                rw [HT.out, HA.out]; dsimp only
                rw [HK.out.1, HK.out.2]
                exact Blk.new wr _ _
              rintro W ⟨b8, hownW, hbelW⟩
              have k0 : W.cell? ⟨wr.heap.size, 0, none⟩ = some (.int .i64 (rk (tk s 0 k).c)) := b8.cell 0
              have k1 : W.cell? ⟨wr.heap.size, 1, none⟩ = some (.int .i64 (tk s 0 k).at') := b8.cell 1
              have k2 : W.cell? ⟨wr.heap.size, 2, none⟩ = some (.int .i64 (tk s 0 k).v) := b8.cell 2
              have k3 : W.cell? ⟨wr.heap.size, 3, none⟩ = some (.string (rs (tk s 0 k).c)) := b8.cell 3
              have HOWN := hideR hownW
              have HBEL := hideR hbelW
              clear b8 hownW hbelW hown hbel
              go_wp2_with (at_builtin; refine wpList_append_lies _ (by rfl) (.tmp 86) (.tmp 88) 68 (by rfl) w.heap.size 94 i0 _ 4 40 Tryd.underlying68 hi hz0 hz1 hz2 (by rfl) (by decide) _ k (toksL s 0 k) (by rfl) (by exact HOWN.out.alloc _) ⟨W.heap.size, 0, none⟩ 1 1 (tokL (tk s 0 k)) (by rfl) (by rfl) (by exact World.news_of_block (Blk.new W _ _)) (tokL_one _) (by decide) (by unfold maxLen; omega) (by omega) (by have := HBEL.out.size; simp; omega) _ rfl ?_; intro g cap w1 hown1 hgrow hat hlt1)
              go_roundg (s.size - (tk s 0 k).to)
              case measure => have := HF.out.2.1; omega
              case rel =>
                have hq := HOWN.out
                refine ⟨k + 1, (tk s 0 k).to, rfl, (by rw [HT.out, HA.out]; go_num), HF.out.1, (by have := HF.out.2.1; omega), rfl, ?_, hown1, ?_⟩
                · intro j hj
                  by_cases q : j < k
                  · exact HC.out j q
                  · have e : j = k := by omega
                    subst e; exact HF.out.2.2
                · exact (HBEL.out.alloc (by have := HBEL.out.size; omega) _).grown hgrow (by have := HBEL.out.size; simp; omega) (fun b hb => (hq.lt b hb).1)
            · by_cases hsg : sgn (byt s i) = true
              · have HF : Hid ((tk s 0 k).to ≤ s.size ∧ i < (tk s 0 k).to ∧ (tk s 0 k).c ≠ 0) := by unfold Hid; rw [HT.out, HA.out]; refine ⟨?_, ?_, ?_⟩ <;> dsimp only <;> omega
                have HK : Hid (rk (byt s i + 4) = (byt s i : Int) ∧ rs (byt s i + 4) = ⟨#[]⟩) := by
                  unfold Hid rk rs
                  rw [if_neg (by omega), if_neg (by omega), if_neg (by omega), if_neg (by omega), Nat.add_sub_cancel, if_pos hsg, if_neg (by omega), if_neg (by omega), if_neg (by omega), if_neg (by omega)]; exact ⟨rfl, rfl⟩
                have hnn : byt s i < 65 ∨ 90 < byt s i := by omega
                clear hd hux hu hx hname
                rcases hnn with hnn | hnn
                all_goals
                  go_upto_region 19 with (first | (go_at_call 49; refine (rdigit_any (byt s i) _ _ (by omega) (by omega)).mono ?_; rintro e w' ⟨rfl, rfl⟩) | (go_at_call 52; refine (sign_any (byt s i) _ _ (by omega) (by omega)).mono ?_; rintro e w' ⟨rfl, rfl⟩))
                  refine wp_forget (fun W => Blk W wr.heap.size #[.int .i64 (rk (tk s 0 k).c), .int .i64 (tk s 0 k).at', .int .i64 (tk s 0 k).v, .string (rs (tk s 0 k).c)] 94 ∧ W.ownsRow w.heap.size 94 4 u5 k (toksL s 0 k) ∧ Below w.heap.size w W) ?_ ?_
                  · refine ⟨?_, hown.alloc _, hbel.alloc hbel.size _⟩
                    rw [HT.out, HA.out]; dsimp only
                    rw [HK.out.1, HK.out.2]
                    exact Blk.new wr _ _
                  rintro W ⟨b8, hownW, hbelW⟩
                  have k0 : W.cell? ⟨wr.heap.size, 0, none⟩ = some (.int .i64 (rk (tk s 0 k).c)) := b8.cell 0
                  have k1 : W.cell? ⟨wr.heap.size, 1, none⟩ = some (.int .i64 (tk s 0 k).at') := b8.cell 1
                  have k2 : W.cell? ⟨wr.heap.size, 2, none⟩ = some (.int .i64 (tk s 0 k).v) := b8.cell 2
                  have k3 : W.cell? ⟨wr.heap.size, 3, none⟩ = some (.string (rs (tk s 0 k).c)) := b8.cell 3
                  have HOWN := hideR hownW
                  have HBEL := hideR hbelW
                  clear b8 hownW hbelW hown hbel
                  go_wp2_with (at_builtin; refine wpList_append_lies _ (by rfl) (.tmp 86) (.tmp 88) 68 (by rfl) w.heap.size 94 i0 _ 4 40 Tryd.underlying68 hi hz0 hz1 hz2 (by rfl) (by decide) _ k (toksL s 0 k) (by rfl) (by exact HOWN.out.alloc _) ⟨W.heap.size, 0, none⟩ 1 1 (tokL (tk s 0 k)) (by rfl) (by rfl) (by exact World.news_of_block (Blk.new W _ _)) (tokL_one _) (by decide) (by unfold maxLen; omega) (by omega) (by have := HBEL.out.size; simp; omega) _ rfl ?_; intro g cap w1 hown1 hgrow hat hlt1)
                  go_roundg (s.size - (tk s 0 k).to)
                  case measure => have := HF.out.2.1; omega
                  case rel =>
                    have hq := HOWN.out
                    refine ⟨k + 1, (tk s 0 k).to, rfl, (by rw [HT.out, HA.out]; go_num), HF.out.1, (by have := HF.out.2.1; omega), rfl, ?_, hown1, ?_⟩
                    · intro j hj
                      by_cases q : j < k
                      · exact HC.out j q
                      · have e : j = k := by omega
                        subst e; exact HF.out.2.2
                    · exact (HBEL.out.alloc (by have := HBEL.out.size; omega) _).grown hgrow (by have := HBEL.out.size; simp; omega) (fun b hb => (hq.lt b hb).1)
                
              · have hsg' : sgn (byt s i) = false := by simpa using hsg
                have HF : Hid ((tk s 0 k).to ≤ s.size ∧ i < (tk s 0 k).to ∧ (tk s 0 k).c ≠ 0) := by unfold Hid; rw [HT.out, HA.out]; refine ⟨?_, ?_, ?_⟩ <;> dsimp only <;> omega
                have HK : Hid (rk (byt s i + 4) = 5 ∧ rs (byt s i + 4) = ⟨#[]⟩) := by
                  unfold Hid rk rs
                  rw [if_neg (by omega), if_neg (by omega), if_neg (by omega), if_neg (by omega), Nat.add_sub_cancel, if_neg hsg, if_neg (by omega), if_neg (by omega), if_neg (by omega), if_neg (by omega), if_neg (by omega)]; exact ⟨rfl, rfl⟩
                have hnn : byt s i < 65 ∨ 90 < byt s i := by omega
                clear hd hux hu hx hname hsg
                rcases hnn with hnn | hnn
                all_goals
                  go_upto_region 19 with (first | (go_at_call 49; refine (rdigit_any (byt s i) _ _ (by omega) (by omega)).mono ?_; rintro e w' ⟨rfl, rfl⟩) | (go_at_call 52; refine (sign_any (byt s i) _ _ (by omega) (by omega)).mono ?_; rintro e w' ⟨rfl, rfl⟩))
                  refine wp_forget (fun W => Blk W wr.heap.size #[.int .i64 (rk (tk s 0 k).c), .int .i64 (tk s 0 k).at', .int .i64 (tk s 0 k).v, .string (rs (tk s 0 k).c)] 94 ∧ W.ownsRow w.heap.size 94 4 u5 k (toksL s 0 k) ∧ Below w.heap.size w W) ?_ ?_
                  · refine ⟨?_, hown.alloc _, hbel.alloc hbel.size _⟩
                    rw [HT.out, HA.out]; dsimp only
                    rw [HK.out.1, HK.out.2]
                    exact Blk.new wr _ _
                  rintro W ⟨b8, hownW, hbelW⟩
                  have k0 : W.cell? ⟨wr.heap.size, 0, none⟩ = some (.int .i64 (rk (tk s 0 k).c)) := b8.cell 0
                  have k1 : W.cell? ⟨wr.heap.size, 1, none⟩ = some (.int .i64 (tk s 0 k).at') := b8.cell 1
                  have k2 : W.cell? ⟨wr.heap.size, 2, none⟩ = some (.int .i64 (tk s 0 k).v) := b8.cell 2
                  have k3 : W.cell? ⟨wr.heap.size, 3, none⟩ = some (.string (rs (tk s 0 k).c)) := b8.cell 3
                  have HOWN := hideR hownW
                  have HBEL := hideR hbelW
                  clear b8 hownW hbelW hown hbel
                  go_wp2_with (at_builtin; refine wpList_append_lies _ (by rfl) (.tmp 86) (.tmp 88) 68 (by rfl) w.heap.size 94 i0 _ 4 40 Tryd.underlying68 hi hz0 hz1 hz2 (by rfl) (by decide) _ k (toksL s 0 k) (by rfl) (by exact HOWN.out.alloc _) ⟨W.heap.size, 0, none⟩ 1 1 (tokL (tk s 0 k)) (by rfl) (by rfl) (by exact World.news_of_block (Blk.new W _ _)) (tokL_one _) (by decide) (by unfold maxLen; omega) (by omega) (by have := HBEL.out.size; simp; omega) _ rfl ?_; intro g cap w1 hown1 hgrow hat hlt1)
                  go_roundg (s.size - (tk s 0 k).to)
                  case measure => have := HF.out.2.1; omega
                  case rel =>
                    have hq := HOWN.out
                    refine ⟨k + 1, (tk s 0 k).to, rfl, (by rw [HT.out, HA.out]; go_num), HF.out.1, (by have := HF.out.2.1; omega), rfl, ?_, hown1, ?_⟩
                    · intro j hj
                      by_cases q : j < k
                      · exact HC.out j q
                      · have e : j = k := by omega
                        subst e; exact HF.out.2.2
                    · exact (HBEL.out.alloc (by have := HBEL.out.size; omega) _).grown hgrow (by have := HBEL.out.size; simp; omega) (fun b hb => (hq.lt b hb).1)
                
    · have hz := byt_ge hlt
      have ei : i = s.size := by omega
      have HT : Hid (tk s 0 k = ⟨0, i, i, 0⟩) := by
        unfold Hid tk tok; rw [← HS.out, skip_here (by omega)]; unfold tokAt; rw [if_pos hz]
      have HL : Hid (tokL (tk s 0 k) = [.int .i64 6, .int .i64 (s.size : Nat), .int .i64 0, .string ⟨#[]⟩]) := by
        unfold Hid; rw [HT.out, ei]; rfl
      have HOWN := hideR hown
      have HBEL := hideR hbel
      have HEI := hideR ei
      clear hown hbel ei
      go_wp2_with (at_builtin; refine wpList_append_lies _ (by rfl) (.tmp 91) (.tmp 95) 68 (by rfl) w.heap.size 94 i0 _ 4 40 Tryd.underlying68 hi hz0 hz1 hz2 (by rfl) (by decide) _ k (toksL s 0 k) (by rfl) (by exact HOWN.out.alloc _) ⟨wr.heap.size, 0, none⟩ 1 1 (tokL (tk s 0 k)) (by rfl) (by rfl) (by rw [HL.out]; exact World.news_of_block (Blk.new wr _ _)) (tokL_one _) (by decide) (by unfold maxLen; omega) (by omega) (by have := HBEL.out.size; simp; omega) _ rfl ?_; intro g cap w1 hown1 hgrow hat hlt1)
      go_ret
      have hb1 : Below w.heap.size w w1 := (HBEL.out.alloc HBEL.out.size _).grown hgrow (by have := HBEL.out.size; simp; omega) (fun b hb => (HOWN.out.lt b hb).1)
      refine ⟨k, g, cap, rfl, by omega, HC.out, ?_, hown1, ?_, hb1⟩
      · rw [HT.out]
      · exact (hown1.lt g rfl).1
end Go.Proofs.YthlmgpllapccfaaDoor
/- THE PROGRAM's TEXT OF A POLYNOMIAL: Text. -/
namespace Go.Proofs.YthlmgpllapccfaaDoor
open Go.RowKit

def sv (ts : List (List UInt8)) : List Value := ts.map fun t => Value.string (bs t)
theorem sv_snoc (ts : List (List UInt8)) (t : List UInt8) : sv (ts ++ [t]) = sv ts ++ [.string (bs t)] := by simp [sv]
theorem str_info : (Tryd.prog.info? 9).map (fun i => (i.zero, i.size, i.bytes)) = some (some (.string ⟨#[]⟩), 1, 16) := by kernel_rfl
theorem tms_step (p : List Nat) (k : Nat) (h : ¬ p.getD (34 - k) 0 = 0) : tms p (k + 1) = tms p k ++ [tmx (p.getD (34 - k) 0) ((34 - k) % 7) ((34 - k) / 7)] := by rw [tms, if_neg h]
theorem tms_skip (p : List Nat) (k : Nat) (h : p.getD (34 - k) 0 = 0) : tms p (k + 1) = tms p k := by rw [tms, if_pos h]

theorem sv_get {ts : List (List UInt8)} {j : Nat} {x : ByteArray} (h : (ts.map bs)[j]? = some x) : (sv ts)[j]? = some (.string x) := by
  rw [List.getElem?_map, Option.map_eq_some_iff] at h
  obtain ⟨t, h1, rfl⟩ := h
  simp [sv, h1]
theorem own_slice {w : World} {base : Nat} {v : Value} {ts : List (List UInt8)} (h : w.ownsRow base 9 1 v ts.length (sv ts)) (hne : ts ≠ []) :
    ∃ g cap, v = .slice (some ⟨g, 0, none⟩) ts.length cap ∧ g < w.heap.size ∧ ts.length ≤ cap ∧ ∀ (j : Nat) x, (ts.map bs)[j]? = some x → w.cell? ⟨g, 0 + j, none⟩ = some (.string x) := by
  have h' := h
  obtain ⟨_, h1 | ⟨g, cap, cur, rfl, hb, hg, hn, hm, hs, ht⟩⟩ := h
  · exact absurd (List.length_eq_zero_iff.1 h1.2) hne
  · refine ⟨g, cap, rfl, (h'.lt g rfl).2, hn, ?_⟩
    intro j x hx
    have := h'.cells (g := g) rfl j (.string x) (sv_get hx)
    have hadd : (⟨g, 0, none⟩ : Addr).add j = ⟨g, 0 + j, none⟩ := by unfold Addr.add; split <;> simp_all
    rw [hadd] at this
    exact this
theorem join_to (ts : List (List UInt8)) (g cap : Nat) (w : World) (hcells : ∀ (j : Nat) x, (ts.map bs)[j]? = some x → w.cell? ⟨g, 0 + j, none⟩ = some (.string x)) (hg : g < w.heap.size) (hc : ts.length ≤ cap) (hl : ts.length ≤ 35) (hj : (Lib.join ts [43]).length ≤ 6 * 35) :
    Calls Tryd.prog 27 #[.slice (some ⟨g, 0, none⟩) ts.length cap, .string ⟨#[43]⟩] w fun e w' => e = .returned (.string (bs (Lib.join ts [43]))) ∧ Below w.heap.size w w' := by
  have e : (ts.map bs).map (·.data.toList) = ts := by
    rw [List.map_map]
    conv => rhs; rw [← List.map_id ts]
    exact List.map_congr_left (fun _ _ => rfl)
  have h := Tryd.strings_Join g 0 cap (ts.map bs) ⟨#[43]⟩ w hcells hg (by rw [List.length_map]; omega) (by rw [List.length_map]; exact hc) (by rw [e]; have : (Lib.join ts (⟨#[43]⟩ : ByteArray).data.toList).length ≤ 6 * 35 := hj; omega)
  rw [List.length_map, e] at h
  exact h

set_option maxRecDepth 100000 in
set_option maxHeartbeats 4000000 in
theorem Text_any (p : List Nat) (w : World) (hp : Good p) :
    Calls Tryd.prog 16 #[.agg (pv p)] w fun e w' => e = .returned (.string (bs (txt p))) ∧ Below w.heap.size w w' := by
  have hne := fun (w' : World) => poly_eq_zero p w' hp
  by_cases hz : p = zeros
  · have e : txt p = [48] := txt_zero p ((good_zeros hp).2 hz)
    rw [e]
    simp only [hz, decide_true] at hne
    obtain ⟨z, HZ⟩ : ∃ z, Hid (p = z) := ⟨_, rfl⟩
    rw [← hz] at hne
    clear hz e
    go_enter Tryd.func16, Tryd.ntmps16
    go_wp2_with (refine wpList_load_row (by rfl) 37 _ (by rfl) w.heap.size (by rfl) 37 (pv p) (0, 0) _ (by exact Blk.new w _ _) Tryd.underlying37 (by rfl) (size_poly hp) ?_)
    go_ret
    exact ⟨rfl, by go_grown⟩
  · have ht : tms p 35 ≠ [] := fun q => hz ((good_zeros hp).1 q)
    have HTX := hidT (txt_join p ht)
    have HT := hidT ht
    simp only [hz, decide_false] at hne
    clear hz ht
    obtain ⟨i0, hi, hz0, hz1, hz2⟩ := info_parts str_info
    go_enter Tryd.func16, Tryd.ntmps16
    go_wp2_with (refine wpList_load_row (by rfl) 37 _ (by rfl) w.heap.size (by rfl) 37 (pv p) (0, 0) _ (by exact Blk.new w _ _) Tryd.underlying37 (by rfl) (size_poly hp) ?_)
    refine wp_forget (fun W => Blk W w.heap.size (pv p) 37 ∧ Below w.heap.size w W) ⟨Blk.new w _ _, by go_grown⟩ ?_
    rintro W ⟨b1, hbW⟩
    have B1 := hidT b1
    have BW := hidT hbW
    clear b1 hbW hne
    go_loopg [3, 4] 5 (fun gm v3 v4 wr => ∃ a : Nat, gm = 5 - a ∧ a ≤ 5 ∧ v4 = .int .i64 (((5 - a : Nat) : Int) - 1) ∧ Hid (wr.ownsRow W.heap.size 9 1 v3 (tms p (a * 7)).length (sv (tms p (a * 7))) ∧ Below W.heap.size W wr))
    case atStart => exact ⟨0, rfl, by omega, rfl, ⟨World.ownsRow_nil _ _ _ _, Below.refl _ _⟩⟩
    case round =>
      obtain ⟨a, hgm, ha, rfl, HD⟩ := hrel
      by_cases h5 : a < 5
      · obtain ⟨i, hi5⟩ : ∃ i : Nat, 5 - a = i + 1 := ⟨4 - a, by omega⟩
        have hi4 : i < 5 := by omega
        have e : (((5 - a : Nat) : Int) - 1) = (i : Int) := by omega
        rw [e]
        clear e
        have i0' : (0 : Int) ≤ (i : Int) := by omega
        have i1' : (i : Int) < 5 := by omega
        have HI := hidT hi5
        clear hi5
        go_wp2
        go_loopg [3, 5] 7 (fun gm v3 v5 wr => ∃ m : Nat, gm = 7 - m ∧ m ≤ 7 ∧ v5 = .int .i64 (((7 - m : Nat) : Int) - 1) ∧ Hid (wr.ownsRow W.heap.size 9 1 v3 (tms p (a * 7 + m)).length (sv (tms p (a * 7 + m))) ∧ Below W.heap.size W wr))
        case atStart => exact ⟨0, rfl, by omega, rfl, HD⟩
        case round =>
          obtain ⟨m, hgm2, hm, rfl, HE⟩ := hrel
          clear HD
          by_cases h7 : m < 7
          · obtain ⟨j, hj7⟩ : ∃ j : Nat, 7 - m = j + 1 := ⟨6 - m, by omega⟩
            have hj6 : j < 7 := by omega
            have e : (((7 - m : Nat) : Int) - 1) = (j : Int) := by omega
            rw [e]
            clear e
            have j0 : (0 : Int) ≤ (j : Int) := by omega
            have j1 : (j : Int) < 7 := by omega
            have HM1 : Hid ((((7 - (m + 1) : Nat) : Int) - 1) = (j : Int) - 1) := by unfold Hid; omega
            have hidx : 34 - (a * 7 + m) = i * 7 + j := by have := HI.out; omega
            have HX : Hid ((34 - (a * 7 + m)) % 7 = j ∧ (34 - (a * 7 + m)) / 7 = i) := by unfold Hid; omega
            have HSK := hidT (tms_skip p (a * 7 + m))
            have HST := hidT (tms_step p (a * 7 + m))
            have HL := hidT (tms_len p (a * 7 + m))
            rw [HX.out.1, HX.out.2, hidx] at HST
            rw [hidx] at HSK
            have hq : i * 7 + j < p.length := by rw [hp.1]; omega
            have hcell := pv_get hq
            have hv7 := hp.2 (i * 7 + j)
            have BR : Hid (Blk wr w.heap.size (pv p) 37) := Blk.fr B1.out (Fr.of_below (bs := []) HE.out.2) (by simp)
            have hc : wr.cell? ⟨w.heap.size, i * 7 + j, none⟩ = some (.int .i64 (p.getD (i * 7 + j) 0)) := by rw [BR.out.cell]; exact hcell
            clear hcell hidx hj7
            generalize p.getD (i * 7 + j) 0 = v at *
            by_cases hv : v = 0
            · subst hv
              go_wp2
              go_roundg (7 - (m + 1))
              case measure => omega
              case rel => exact ⟨m + 1, rfl, by omega, by rw [HM1.out], by rw [show a * 7 + (m + 1) = a * 7 + m + 1 by omega, HSK.out (by trivial)]; exact HE⟩
            · have hv' : ¬ ((v : Int) = 0) := by omega
              have HV := hidT hv
              clear hv
              go_wp2_with (first | (go_at_call 26; refine (termText_any v j i _ _ _ _ rfl rfl rfl hv7 (by omega) (by omega)).mono ?_; rintro e w1 ⟨rfl, hb1⟩; have HB1 := hidT hb1; have HO1 := hidT (ownsRow_fr (c := wr.heap.size) HE.out.1 (Fr.of_below hb1) (ownsRow_ne HE.out.1 (Nat.le_refl _)))) | (at_builtin; refine wpList_append_lies _ (by rfl) (.tmp 23) (.tmp 33) 62 (by rfl) W.heap.size 9 i0 _ 1 16 Tryd.underlying62 hi hz0 hz1 hz2 (by rfl) (by decide) _ (tms p (a * 7 + m)).length (sv (tms p (a * 7 + m))) (by rfl) (by exact HO1.out.alloc _) ⟨w1.heap.size, 0, none⟩ 1 1 [.string (bs (tmx v j i))] (by rfl) (by rfl) (by exact World.news_of_block (Blk.new w1 _ _)) (by simp; rfl) (by decide) (by unfold maxLen; have := HL.out; omega) (by have := HL.out; omega) (by have := HE.out.2.size; have := HB1.out.size; simp; omega) _ rfl ?_; intro g cap w2 hown1 hgrow hat hlt1))
              go_roundg (7 - (m + 1))
              case measure => omega
              case rel =>
                refine ⟨m + 1, rfl, by omega, by rw [HM1.out], ?_, ?_⟩
                · rw [show a * 7 + (m + 1) = a * 7 + m + 1 by omega, HST.out HV.out, sv_snoc, List.length_append]
                  exact hown1
                · have hbb : Below W.heap.size W w1 := Fr.below (bs := []) ((Fr.of_below HE.out.2).trans (Fr.of_below (bs := []) HB1.out) (by simp)) (Nat.le_refl _) (by simp)
                  exact (hbb.alloc (by have := hbb.size; omega) _).grown hgrow (by have := hbb.size; simp; omega) (fun b hb => ((HO1.out).lt b hb).1)
          · have e7 : m = 7 := by omega
            subst e7
            have HK1 : Hid ((((5 - (a + 1) : Nat) : Int) - 1) = (i : Int) - 1) := by unfold Hid; have := HI.out; omega
            go_wp2
            go_roundg (5 - (a + 1))
            case measure => omega
            case rel => exact ⟨a + 1, rfl, by omega, by rw [HK1.out], by rw [show (a + 1) * 7 = a * 7 + 7 by omega]; exact HE⟩
      · have e5 : a = 5 := by omega
        subst e5
        have HO : Hid (wr.ownsRow W.heap.size 9 1 u3 (tms p 35).length (sv (tms p 35))) := HD.out.1
        have HB := hidT HD.out.2
        clear HD
        obtain ⟨g, cap, hu3, hglt, hcap, hcells⟩ := own_slice HO.out HT.out
        subst hu3
        have HJ := hidT (join_to (tms p 35) g cap wr hcells hglt hcap (tms_len p 35) (by rw [← wrt_join]; exact wrt_len p 35))
        rw [← HTX.out] at HJ
        clear HTX hcells
        generalize (tms p 35).length = N at *
        go_wp2_with (go_at_call 27; refine HJ.out.mono ?_; rintro e w1 ⟨rfl, hb1⟩)
        go_ret
        refine ⟨rfl, ?_⟩
        exact Fr.below (bs := []) (((Fr.of_below BW.out).trans (Fr.of_below (bs := []) HB.out) (by simp)).trans (Fr.of_below (bs := []) hb1) (by simp)) (Nat.le_refl _) (by simp)
end Go.Proofs.YthlmgpllapccfaaDoor
/- THE DOCUMENT's worth and at. -/
namespace Go.Proofs.YthlmgpllapccfaaDoor
open Go.RowKit

def lst (g : Nat → Nat) : List Nat := [g 0, g 1, g 2, g 3, g 4]
theorem lst_get (g : Nat → Nat) {i : Nat} (h : i < 5) : (lst g).getD i 0 = g i := by
  match i, h with
  | 0, _ => rfl
  | 1, _ => rfl
  | 2, _ => rfl
  | 3, _ => rfl
  | 4, _ => rfl
theorem lst_set (g d : Nat → Nat) {k v : Nat} (hk : k < 5) (hv : d k = v) (ho : ∀ i, i ≠ k → d i = g i) : (lst g).set k v = lst d := by
  subst hv
  unfold lst
  match k, hk with
  | 0, _ => simp [ho 1, ho 2, ho 3, ho 4]
  | 1, _ => simp [ho 0, ho 2, ho 3, ho 4]
  | 2, _ => simp [ho 0, ho 1, ho 3, ho 4]
  | 3, _ => simp [ho 0, ho 1, ho 2, ho 4]
  | 4, _ => simp [ho 0, ho 1, ho 2, ho 3]
theorem lst_congr {g d : Nat → Nat} (h : ∀ i, i < 5 → g i = d i) : lst g = lst d := by
  unfold lst; rw [h 0 (by omega), h 1 (by omega), h 2 (by omega), h 3 (by omega), h 4 (by omega)]
theorem size_line {l : List Nat} (hl : l.length = 5) : (Tryd.prog.info? 47).map (·.size) = some (pv l).size := by rw [pv_size, hl]; kernel_rfl

set_option maxRecDepth 100000 in
set_option maxHeartbeats 2000000 in
theorem worth_any (l : List Nat) (b : Nat) (B : Int) (w : World) (hl : l.length = 5) (hl7 : ∀ i, l.getD i 0 < 7) (hB : B = b) (hb : b < 7) :
    Calls Tryd.prog 20 #[.agg (pv l), .int .i64 B] w fun e w' => e = .returned (.int .i64 (valL l b)) ∧ Below w.heap.size w w' := by
  subst hB
  unfold valL
  go_enter Tryd.func20, Tryd.ntmps20
  go_wp2
  refine wp_forget (fun W => Blk W w.heap.size (pv l) 47 ∧ Below w.heap.size w W) ⟨Blk.new w _ _, by go_grown⟩ ?_
  rintro W ⟨b1, hbel⟩
  have B1 := hidV b1
  have BB := hidV hbel
  clear b1 hbel
  go_loopg [5, 6] 5 (fun gm v5 v6 wr => ∃ k : Nat, gm = 5 - k ∧ k ≤ 5 ∧ v6 = .int .i64 k ∧ v5 = .int .i64 (pows (fun i => l.getD i 0) b k) ∧ Hid (Blk wr w.heap.size (pv l) 47 ∧ Below w.heap.size w wr))
  case atStart => exact ⟨0, rfl, by omega, rfl, rfl, ⟨B1.out, BB.out⟩⟩
  case round =>
    obtain ⟨k, hgm, hk, rfl, rfl, HD⟩ := hrel
    have B2 := hidV HD.out.1
    have BB2 := hidV HD.out.2
    clear HD B1 BB
    clear W
    have hlt := pows_lt (fun i => l.getD i 0) b k
    by_cases h5 : k < 5
    · have HS : Hid (pows (fun i => l.getD i 0) b (k + 1) = (pows (fun i => l.getD i 0) b k + l.getD k 0 * pw7 b k) % 7) := rfl
      generalize pows (fun i => l.getD i 0) b k = G at *
      have hq : k < l.length := by omega
      have hcell := pv_get hq
      have hv7 := hl7 k
      generalize l.getD k 0 = v at *
      have hpw := pw7_lt b k
      have hpb := prod_bd hv7 hpw
      have i0 : (0 : Int) ≤ (k : Int) := by omega
      have i1 : (k : Int) < 5 := by omega
      have hc : wr.cell? ⟨w.heap.size, k, none⟩ = some (.int .i64 v) := by rw [B2.out.cell]; exact hcell
      clear hcell
      go_wp2
      go_quiet ((go_at_call 34; exact Calls.quiet_of_same (raised_any b k _ _ _ rfl rfl hb (by omega))))
      go_wp2
      go_roundg (5 - (k + 1))
      case measure => omega
      case rel => exact ⟨k + 1, rfl, by omega, by go_num, by rw [HS.out]; simp, ⟨B2.out, below_drewN BB2.out _⟩⟩
    · have e5 : k = 5 := by omega
      subst e5
      go_wp2
      go_ret
      exact ⟨rfl, BB2.out⟩
end Go.Proofs.YthlmgpllapccfaaDoor
/- THE DOCUMENT's at. -/
namespace Go.Proofs.YthlmgpllapccfaaDoor
open Go.RowKit

def rowN (p : List Nat) (i : Nat) : Nat → Nat := fun j => p.getD (i * 7 + j) 0
def atG (p : List Nat) (a k m i : Nat) : Nat := if i < k then pows (rowN p i) a 7 else if i = k then pows (rowN p i) a m else 0
theorem atG_lt (p : List Nat) (a k m i : Nat) : atG p a k m i < 7 := by
  unfold atG; split
  · exact pows_lt _ _ _
  · split
    · exact pows_lt _ _ _
    · omega
theorem atG_roll (p : List Nat) (a k : Nat) : lst (atG p a k 7) = lst (atG p a (k + 1) 0) := by
  apply lst_congr
  intro i _
  unfold atG
  by_cases h1 : i < k
  · rw [if_pos h1, if_pos (by omega)]
  · rw [if_neg h1]
    by_cases h2 : i = k
    · rw [if_pos h2, if_pos (by omega)]
    · rw [if_neg h2, if_neg (by omega)]
      split <;> simp [pows]
theorem atG_step (p : List Nat) (a k m : Nat) (hk : k < 5) : (lst (atG p a k m)).set k (pows (rowN p k) a (m + 1)) = lst (atG p a k (m + 1)) := by
  apply lst_set _ _ hk
  · unfold atG; rw [if_neg (by omega), if_pos rfl]
  · intro i hi; unfold atG; simp [hi]
theorem atG_end (p : List Nat) (a : Nat) : lst (atG p a 5 0) = lineR p a := rfl
theorem atG_zero (p : List Nat) (a : Nat) : lst (atG p a 0 0) = [0, 0, 0, 0, 0] := rfl
theorem atG_at (p : List Nat) (a k m : Nat) (hk : k < 5) : (lst (atG p a k m)).getD k 0 = pows (rowN p k) a m := by
  rw [lst_get _ hk]; unfold atG; rw [if_neg (by omega), if_pos rfl]
theorem lst_len (g : Nat → Nat) : (lst g).length = 5 := rfl

set_option maxRecDepth 100000 in
set_option maxHeartbeats 2000000 in
theorem at_any (p : List Nat) (a : Nat) (A : Int) (w : World) (hp : Good p) (hA : A = a) (ha : a < 7) :
    Calls Tryd.prog 21 #[.agg (pv p), .int .i64 A] w fun e w' => e = .returned (.agg (pv (lineR p a))) ∧ Below w.heap.size w w' := by
  subst hA
  rw [← atG_end]
  go_enter Tryd.func21, Tryd.ntmps21
  go_wp2
  refine wp_forget (fun W => Blk W w.heap.size (pv p) 41 ∧ Blk W (w.heap.size + 1) (pv [0, 0, 0, 0, 0]) 47 ∧ Blk W (w.heap.size + 1 + 1) (pv [0, 0, 0, 0, 0]) 47 ∧ Below w.heap.size w W) ⟨Blk.alloc (Blk.alloc (Blk.new w _ _) _) _, Blk.alloc (Blk.newAt _ _ _ (by simp)) _, Blk.newAt _ _ _ (by simp), by go_grown⟩ ?_
  rintro W ⟨b1, b2, b3, hbel⟩
  have HH := hidV (And.intro b1 (And.intro b2 (And.intro b3 hbel)))
  clear b1 b2 b3 hbel
  go_loopg [6] 5 (fun gm v6 wr => ∃ k : Nat, gm = 5 - k ∧ k ≤ 5 ∧ v6 = .int .i64 k ∧ Hid (Blk wr w.heap.size (pv p) 41 ∧ Blk wr (w.heap.size + 1) (pv [0, 0, 0, 0, 0]) 47 ∧ Blk wr (w.heap.size + 1 + 1) (pv (lst (atG p a k 0))) 47 ∧ Below w.heap.size w wr))
  case atStart => exact ⟨0, rfl, by omega, rfl, HH⟩
  case round =>
    obtain ⟨k, hgm, hk, rfl, HD⟩ := hrel
    clear HH W
    by_cases h5 : k < 5
    · have i0 : (0 : Int) ≤ (k : Int) := by omega
      have i1 : (k : Int) < 5 := by omega
      go_wp2
      go_loopg [7] 7 (fun gm v7 ws => ∃ m : Nat, gm = 7 - m ∧ m ≤ 7 ∧ v7 = .int .i64 m ∧ Hid (Blk ws w.heap.size (pv p) 41 ∧ Blk ws (w.heap.size + 1) (pv [0, 0, 0, 0, 0]) 47 ∧ Blk ws (w.heap.size + 1 + 1) (pv (lst (atG p a k m))) 47 ∧ Below w.heap.size w ws))
      case atStart => exact ⟨0, rfl, by omega, rfl, HD⟩
      case round =>
        obtain ⟨m, hgm2, hm, rfl, HE⟩ := hrel
        clear HD
        by_cases h7 : m < 7
        · have HS : Hid (pows (rowN p k) a (m + 1) = (pows (rowN p k) a m + rowN p k m * pw7 a m) % 7) := rfl
          have HST := hidV (atG_step p a k m h5)
          have hlt := pows_lt (rowN p k) a m
          have hg5 := atG_at p a k m h5
          have hq1 : k < (lst (atG p a k m)).length := by rw [lst_len]; exact h5
          have hcell1 := pv_get hq1
          rw [hg5] at hcell1
          have hq : k * 7 + m < p.length := by rw [hp.1]; omega
          have hcell := pv_get hq
          have hv7 : rowN p k m < 7 := hp.2 (k * 7 + m)
          have hc : wr.cell? ⟨w.heap.size, k * 7 + m, none⟩ = some (.int .i64 (rowN p k m)) := by rw [HE.out.1.cell]; exact hcell
          have hc1 : wr.cell? ⟨w.heap.size + 1 + 1, k, none⟩ = some (.int .i64 (pows (rowN p k) a m)) := by rw [HE.out.2.2.1.cell]; exact hcell1
          have hc2 : wr.frozen? ⟨w.heap.size + 1 + 1, k, none⟩ = false := HE.out.2.2.1.frozen _
          have hpw := pw7_lt a m
          have hpb := prod_bd hv7 hpw
          have j0 : (0 : Int) ≤ (m : Int) := by omega
          have j1 : (m : Int) < 7 := by omega
          clear hcell hcell1 hg5 hq1
          generalize rowN p k m = v at *
          generalize pows (rowN p k) a m = G at *
          go_wp2
          refine region_quiet_tail 16 (by kernel_rfl) (by kernel_rfl) ?_
          simp only [List.take_succ_cons, List.take_zero, List.drop_succ_cons, List.drop_zero]
          repeat (first | go_big_quiet_step ((go_at_call 34; exact Calls.quiet_of_same (raised_any a m _ _ _ rfl rfl ha (by omega)))) | quiet_step ((go_at_call 34; exact Calls.quiet_of_same (raised_any a m _ _ _ rfl rfl ha (by omega)))))
          refine wpQuiet_nil ?_
          rintro _ ⟨nq, rfl⟩
          go_wp2
          go_roundg (7 - (m + 1))
          case measure => omega
          case rel =>
            refine ⟨m + 1, rfl, by omega, by go_num, ⟨?_, ?_, ?_, ?_⟩⟩
            · exact Blk.setOther (by exact HE.out.1) _ _ (by show ¬ w.heap.size = w.heap.size + 1 + 1; omega)
            · exact Blk.setOther (by exact HE.out.2.1) _ _ (by show ¬ w.heap.size + 1 = w.heap.size + 1 + 1; omega)
            · rw [← HST.out, HS.out]
              exact Blk.putN (by exact HE.out.2.2.1) _ _ _ (by simp)
            · exact Below.setCell (below_drewN HE.out.2.2.2 nq) (by show w.heap.size ≤ w.heap.size + 1 + 1; omega) _
        · have e7 : m = 7 := by omega
          subst e7
          go_wp2
          go_roundg (5 - (k + 1))
          case measure => omega
          case rel => exact ⟨k + 1, rfl, by omega, by go_num, by rw [← atG_roll]; exact HE⟩
    · have e5 : k = 5 := by omega
      subst e5
      have hsz := size_line (lst_len (atG p a 5 0))
      go_wp2_with (first | (refine wpList_load_row (by rfl) 47 _ (by rfl) (w.heap.size + 1 + 1) (by rfl) 47 (pv (lst (atG p a 5 0))) (0, 0) _ (by exact HD.out.2.2.1) Tryd.underlying47 (by rfl) hsz ?_) | (refine wpList_store_mid (by rfl) 47 _ _ (by rfl) (w.heap.size + 1) 0 (pv (lst (atG p a 5 0))) (by rfl) (by rfl) (by exact Blk.there HD.out.2.1 (by rw [pv_size, pv_size, lst_len]; exact Nat.le_refl _)) hsz (pv_one _) ?_))
      refine bodyPost_ret (results_cell_row Tryd.results21 _ _ (w.heap.size + 1) 47 (pv (lst (atG p a 5 0))) (0, 0) _ (by rfl) (Blk.setAll (by exact HD.out.2.1) _ (by rw [pv_size, pv_size, lst_len]; rfl)) Tryd.underlying47 rfl hsz) rfl ⟨rfl, ?_⟩
      exact Below.setCells (by exact HD.out.2.2.2) _ _ _ (by omega)
end Go.Proofs.YthlmgpllapccfaaDoor
/- THE PROGRAM's POLYNOMIALS: Plus. -/
namespace Go.Proofs.YthlmgpllapccfaaDoor
open Go.RowKit

set_option maxRecDepth 100000 in
set_option maxHeartbeats 1000000 in
theorem Plus_any (p : List Nat) (u x a : Nat) (N : Int) (w : World) (hp : Good p) (hu : u ≤ 6) (hx : x ≤ 4) (hN : N % 7 = ((a % 7 : Nat) : Int)) :
    Calls Tryd.prog 41 #[.agg (pv p), .agg #[.int .i64 N, .int .i64 u, .int .i64 x]] w fun e w' => e = .returned (.agg (pv (plus p u x a))) ∧ Below w.heap.size w w' := by
  have hx0 : (0 : Int) ≤ (x : Int) := by omega
  have hx1 : (x : Int) < 5 := by omega
  have hu0 : (0 : Int) ≤ (u : Int) := by omega
  have hu1 : (u : Int) < 7 := by omega
  have hq : x * 7 + u < p.length := by rw [hp.1]; omega
  have hcell := pv_get hq
  have hv7 := hp.2 (x * 7 + u)
  have HV : Hid (plus p u x a = p.set (x * 7 + u) ((p.getD (x * 7 + u) 0 + a) % 7)) := by unfold Hid plus; rw [Nat.mul_comm 7 x]
  generalize p.getD (x * 7 + u) 0 = v at *
  go_enter Tryd.func41, Tryd.ntmps41
  go_wp2
  refine wp_forget (fun W => Blk W w.heap.size (pv p) 37 ∧ Blk W (w.heap.size + 1) #[.int .i64 N, .int .i64 u, .int .i64 x] 65 ∧ Blk W (w.heap.size + 1 + 1) (pv zeros) 37 ∧ Below w.heap.size w W) ⟨Blk.alloc (Blk.alloc (Blk.new w _ _) _) _, Blk.alloc (Blk.newAt _ _ _ (by simp)) _, Blk.newAt _ _ _ (by simp), by go_grown⟩ ?_
  rintro W ⟨b1, b2, b3, hbel⟩
  have B1 : Hid (Blk W w.heap.size (pv p) 37) := b1
  have B3 : Hid (Blk W (w.heap.size + 1 + 1) (pv zeros) 37) := b3
  obtain ⟨e0, e1, e2⟩ := b2.cells3
  have e3 : W.cell? ⟨w.heap.size, x * 7 + u, none⟩ = some (.int .i64 v) := by rw [b1.cell]; exact hcell
  have e4 : W.frozen? ⟨w.heap.size, x * 7 + u, none⟩ = false := b1.frozen _
  clear b1 b2 b3 hcell
  refine region_quiet_tail 18 (by kernel_rfl) (by kernel_rfl) ?_
  simp only [List.take_succ_cons, List.take_zero, List.drop_succ_cons, List.drop_zero]
  repeat (first | go_big_quiet_step ((go_at_call 33; exact Calls.quiet_of_same (Mod_any _ _))) | quiet_step ((go_at_call 33; exact Calls.quiet_of_same (Mod_any _ _))))
  refine wpQuiet_nil ?_
  rintro _ ⟨nq, rfl⟩
  have hg : Good (plus p u x a) := plus_good hp u x a
  go_wp2_with (first | (refine wpList_load_row (by rfl) 37 _ (by rfl) w.heap.size (by rfl) 37 (pv (plus p u x a)) (0, 0) _ (by rw [HV.out]; exact Blk.putN B1.out _ _ _ (by omega)) Tryd.underlying37 (by rfl) (size_poly hg) ?_) | (refine wpList_store_mid (by rfl) 37 _ _ (by rfl) (w.heap.size + 1 + 1) 0 (pv (plus p u x a)) (by rfl) (by rfl) (by exact Blk.there (Blk.setOther B3.out _ _ (by show ¬ w.heap.size + 1 + 1 = w.heap.size; omega)) (by rw [pv_size, pv_size, hg.1]; simp [zeros])) (size_poly hg) (pv_one _) ?_))
  refine bodyPost_ret (results_cell_row Tryd.results41 _ _ (w.heap.size + 1 + 1) 37 (pv (plus p u x a)) (0, 0) _ (by rfl) (Blk.setAll (Blk.setOther (by exact B3.out) _ _ (by show ¬ w.heap.size + 1 + 1 = w.heap.size; omega)) _ (by rw [pv_size, pv_size, hg.1]; rfl)) Tryd.underlying37 rfl (size_poly hg)) rfl ⟨rfl, ?_⟩
  exact Below.setCells (Below.setCell (below_drewN hbel nq) (Nat.le_refl _) _) _ _ _ (by omega)
end Go.Proofs.YthlmgpllapccfaaDoor
/- PLAIN: polynomials modulo 7, ideals, division. Nothing of the program. -/
namespace Go.Proofs.YthlmgpllapccfaaDoor

/-- The same, modulo 7. -/
def Eqv (p q : Nat → Int) : Prop := ∀ n, (p n - q n) % 7 = 0
theorem Eqv.refl (p : Nat → Int) : Eqv p p := fun n => by simp
theorem Eqv.symm {p q : Nat → Int} (h : Eqv p q) : Eqv q p := fun n => by have := h n; omega
theorem Eqv.trans {p q r : Nat → Int} (h : Eqv p q) (k : Eqv q r) : Eqv p r := fun n => by have := h n; have := k n; omega

/-- What is closed under sums and multiples. -/
structure Idl (I : (Nat → Int) → Prop) : Prop where
  same : ∀ p q, Eqv p q → I p → I q
  zero : I (fun _ => 0)
  add : ∀ p q, I p → I q → I (fun n => p n + q n)
  smul : ∀ (c : Int) p, I p → I (fun n => c * p n)
  shift : ∀ p, I p → I (fun n => if n = 0 then 0 else p (n - 1))
/-- Times x to the s. -/
def shK (s : Nat) (p : Nat → Int) : Nat → Int := fun n => if n < s then 0 else p (n - s)
theorem Idl.shK {I : (Nat → Int) → Prop} (h : Idl I) {p : Nat → Int} (hp : I p) : ∀ s, I (shK s p)
  | 0 => h.same _ _ (fun n => by simp [Go.Proofs.YthlmgpllapccfaaDoor.shK]) hp
  | s + 1 => by
    refine h.same _ _ (fun n => ?_) (h.shift _ (h.shK hp s))
    unfold Go.Proofs.YthlmgpllapccfaaDoor.shK
    by_cases h0 : n = 0
    · subst h0; simp
    · rw [if_neg h0]
      by_cases h1 : n - 1 < s
      · rw [if_pos h1, if_pos (by omega)]; rfl
      · rw [if_neg h1, if_neg (by omega), show n - 1 - s = n - (s + 1) by omega]; simp
/-- One less a multiple of the other. -/
theorem Idl.less {I : (Nat → Int) → Prop} (h : Idl I) {p q r : Nat → Int} (f : Int) (s : Nat) (hr : Eqv r (fun n => q n - f * Go.Proofs.YthlmgpllapccfaaDoor.shK s p n)) (hp : I p) : I q ↔ I r := by
  have hm := h.shK hp s
  constructor
  · intro hq
    exact h.same _ _ (fun n => by have := hr n; dsimp only at this ⊢; rw [Int.neg_mul]; omega) (h.add _ _ hq (h.smul (-f) _ hm))
  · intro hq
    exact h.same _ _ (fun n => by have := hr n; dsimp only at this ⊢; omega) (h.add _ _ hq (h.smul f _ hm))

def sg (f : Nat → Int) : Nat → Int
  | 0 => 0
  | m + 1 => sg f m + f m
theorem sg_add (f g : Nat → Int) : ∀ m, sg (fun k => f k + g k) m = sg f m + sg g m
  | 0 => rfl
  | m + 1 => by simp only [sg]; rw [sg_add f g m]; omega
theorem sg_mul (c : Int) (f : Nat → Int) : ∀ m, sg (fun k => c * f k) m = c * sg f m
  | 0 => by simp [sg]
  | m + 1 => by simp only [sg]; rw [sg_mul c f m, Int.mul_add]
theorem sg_congr {f g : Nat → Int} : ∀ m, (∀ k, k < m → f k = g k) → sg f m = sg g m
  | 0, _ => rfl
  | m + 1, h => by simp only [sg]; rw [sg_congr m (fun k hk => h k (by omega)), h m (by omega)]
theorem sg_zero {f : Nat → Int} : ∀ m, (∀ k, k < m → f k = 0) → sg f m = 0
  | 0, _ => rfl
  | m + 1, h => by simp only [sg]; rw [sg_zero m (fun k hk => h k (by omega)), h m (by omega)]; rfl
theorem sg_front (f : Nat → Int) : ∀ m, sg f (m + 1) = f 0 + sg (fun k => f (k + 1)) m
  | 0 => by simp [sg]
  | m + 1 => by rw [sg, sg_front f m]; simp only [sg]; omega
theorem sg_mod {f g : Nat → Int} : ∀ m, (∀ k, k < m → (f k - g k) % 7 = 0) → (sg f m - sg g m) % 7 = 0
  | 0, _ => by simp [sg]
  | m + 1, h => by
    have h1 := sg_mod m (fun k hk => h k (by omega))
    have h2 := h m (by omega)
    simp only [sg]; omega

/-- The product. -/
def cnv (c p : Nat → Int) (n : Nat) : Int := sg (fun k => c k * p (n - k)) (n + 1)
/-- p divides q. -/
def Dvd (p q : Nat → Int) : Prop := ∃ (c : Nat → Int) (N : Nat), (∀ k, N ≤ k → c k = 0) ∧ Eqv q (cnv c p)

theorem Dvd.refl (p : Nat → Int) : Dvd p p := by
  refine ⟨fun k => if k = 0 then 1 else 0, 1, fun k hk => by dsimp only; rw [if_neg (by omega)], fun n => ?_⟩
  unfold cnv
  rw [sg_front, sg_zero n (fun k _ => by simp)]
  simp
theorem Dvd.idl (p : Nat → Int) : Idl (Dvd p) where
  same := fun a b h ⟨c, N, h1, h2⟩ => ⟨c, N, h1, h.symm.trans h2⟩
  zero := ⟨fun _ => 0, 0, fun _ _ => rfl, fun n => by unfold cnv; rw [sg_zero _ (fun k _ => by simp)]; rfl⟩
  add := fun a b ⟨c, N, h1, h2⟩ ⟨d, M, k1, k2⟩ => ⟨fun k => c k + d k, N + M, fun k hk => by dsimp only; rw [h1 k (by omega), k1 k (by omega)]; rfl, fun n => by
    have e : cnv (fun k => c k + d k) p n = cnv c p n + cnv d p n := by
      unfold cnv
      rw [← sg_add]
      exact sg_congr _ (fun k _ => by rw [Int.add_mul])
    dsimp only
    rw [e]
    have := h2 n
    have := k2 n
    omega⟩
  smul := fun f a ⟨c, N, h1, h2⟩ => ⟨fun k => f * c k, N, fun k hk => by dsimp only; rw [h1 k hk]; simp, fun n => by
    have e : cnv (fun k => f * c k) p n = f * cnv c p n := by
      unfold cnv
      rw [← sg_mul]
      exact sg_congr _ (fun k _ => by rw [Int.mul_assoc])
    dsimp only
    rw [e, ← Int.mul_sub, Int.mul_emod, h2 n]
    simp⟩
  shift := fun a ⟨c, N, h1, h2⟩ => ⟨fun k => if k = 0 then 0 else c (k - 1), N + 1, fun k hk => by dsimp only; rw [if_neg (by omega)]; exact h1 _ (by omega), fun n => by
    have e : cnv (fun k => if k = 0 then 0 else c (k - 1)) p n = if n = 0 then 0 else cnv c p (n - 1) := by
      unfold cnv
      rw [sg_front]
      by_cases h0 : n = 0
      · subst h0; simp [sg]
      · rw [if_neg h0, show n - 1 + 1 = n by omega]
        have : sg (fun k => (if k + 1 = 0 then 0 else c (k + 1 - 1)) * p (n - (k + 1))) n = sg (fun k => c k * p (n - 1 - k)) n := sg_congr _ (fun k hk => by
          rw [if_neg (by omega), show k + 1 - 1 = k by omega, show n - (k + 1) = n - 1 - k by omega])
        simp only [Nat.add_eq_zero_iff, Nat.succ_ne_self, and_false, if_false, if_true, Int.zero_mul, Int.zero_add] at this ⊢
        exact this
    dsimp only
    rw [e]
    split
    · rfl
    · exact h2 _⟩

/-- What a monic polynomial of the degree d divides, and is of a lesser degree, is 0. -/
theorem Dvd.small {p q : Nat → Int} {d : Nat} (h : Dvd p q) (h1 : p d = 1) (h2 : ∀ n, d < n → p n = 0) (h3 : ∀ n, d ≤ n → q n % 7 = 0) : ∀ n, q n % 7 = 0 := by
  obtain ⟨c, N, hN, hq⟩ := h
  have key : ∀ m k, N ≤ k + m → c k % 7 = 0 := by
    intro m
    induction m with
    | zero => intro k hk; rw [hN k (by omega)]; rfl
    | succ m ih =>
      intro k hk
      have e := hq (k + d)
      have e3 := h3 (k + d) (by omega)
      have s : (cnv c p (k + d) - sg (fun j => if j = k then c k else 0) (k + d + 1)) % 7 = 0 := by
        refine sg_mod _ (fun j hj => ?_)
        by_cases hjk : j = k
        · subst hjk
          rw [if_pos rfl, show j + d - j = d by omega, h1]; simp
        · rw [if_neg hjk]
          by_cases hlt : j < k
          · rw [h2 _ (by omega)]; simp
          · have := ih j (by omega)
            rw [Int.sub_zero, Int.mul_emod, this]; simp
      have t : sg (fun j => if j = k then c k else 0) (k + d + 1) = c k := by
        have : ∀ m, sg (fun j => if j = k then c k else 0) m = if k < m then c k else 0 := by
          intro m
          induction m with
          | zero => simp [sg]
          | succ m ih2 =>
            rw [sg, ih2]
            by_cases h : k < m
            · rw [if_pos h, if_neg (by omega), if_pos (by omega)]; omega
            · rw [if_neg h]
              by_cases h4 : m = k
              · rw [if_pos h4, if_pos (by omega)]; omega
              · rw [if_neg h4, if_neg (by omega)]; rfl
        rw [this, if_pos (by omega)]
      rw [t] at s
      omega
  intro n
  have e := hq n
  have s : (cnv c p n - sg (fun _ => 0) (n + 1)) % 7 = 0 := by
    refine sg_mod _ (fun j _ => ?_)
    have := key N j (by omega)
    rw [Int.sub_zero, Int.mul_emod, this]; simp
  rw [sg_zero _ (fun _ _ => rfl)] at s
  omega
end Go.Proofs.YthlmgpllapccfaaDoor
/- PLAIN: polynomials of a degree below 5, as their numbers: division, the greatest common divisor by rests. -/
namespace Go.Proofs.YthlmgpllapccfaaDoor

def iv (g : Nat → Nat) : Nat → Int := fun n => (g n : Int)
/-- Numbers below 7, none from the fifth on. -/
def Vec (g : Nat → Nat) : Prop := ∀ n, g n < 7 ∧ (5 ≤ n → g n = 0)
/-- f times p, s places up, taken off q: at the first i places. -/
def sb (p q : Nat → Nat) (f s i : Nat) : Nat → Nat := fun j => if s ≤ j ∧ j < s + i then (((q j : Int) - (f : Int) * (p (j - s) : Int)) % 7).toNat else q j
theorem sb_vec {p q : Nat → Nat} (hq : Vec q) (f : Nat) {s i : Nat} (h : s + i ≤ 5) : Vec (sb p q f s i) := by
  intro n
  unfold sb
  split
  · exact ⟨by omega, fun hn => by omega⟩
  · exact hq n
theorem sb_eqv {p : Nat → Nat} (q : Nat → Nat) (f s : Nat) {d : Nat} (hp : ∀ n, d ≤ n → p n = 0) : Eqv (iv (sb p q f s d)) (fun n => iv q n - f * shK s (iv p) n) := by
  intro n
  unfold sb iv shK
  dsimp only
  by_cases h1 : n < s
  · rw [if_neg (by omega), if_pos h1]; simp
  · rw [if_neg h1]
    by_cases h2 : n < s + d
    · rw [if_pos (by omega)]
      generalize (f : Int) * (p (n - s) : Int) = F
      omega
    · rw [if_neg (by omega), hp _ (by omega)]; simp

/-- One more than the degree; 0 of the polynomial 0. -/
def dg (g : Nat → Nat) : Nat := if g 4 ≠ 0 then 5 else if g 3 ≠ 0 then 4 else if g 2 ≠ 0 then 3 else if g 1 ≠ 0 then 2 else if g 0 ≠ 0 then 1 else 0
theorem dg_le (g : Nat → Nat) : dg g ≤ 5 := by unfold dg; (repeat' split) <;> omega
theorem dg_top {g : Nat → Nat} (h : dg g ≠ 0) : g (dg g - 1) ≠ 0 := by
  unfold dg at *
  by_cases h4 : g 4 ≠ 0
  · rw [if_pos h4]; exact h4
  · rw [if_neg h4] at h ⊢
    by_cases h3 : g 3 ≠ 0
    · rw [if_pos h3]; exact h3
    · rw [if_neg h3] at h ⊢
      by_cases h2 : g 2 ≠ 0
      · rw [if_pos h2]; exact h2
      · rw [if_neg h2] at h ⊢
        by_cases h1 : g 1 ≠ 0
        · rw [if_pos h1]; exact h1
        · rw [if_neg h1] at h ⊢
          by_cases h0 : g 0 ≠ 0
          · rw [if_pos h0]; exact h0
          · rw [if_neg h0] at h; exact absurd rfl h
theorem dg_above {g : Nat → Nat} (hg : Vec g) {n : Nat} (h : dg g ≤ n) : g n = 0 := by
  by_cases h5 : 5 ≤ n
  · exact (hg n).2 h5
  · unfold dg at h
    have : n = 0 ∨ n = 1 ∨ n = 2 ∨ n = 3 ∨ n = 4 := by omega
    rcases this with rfl | rfl | rfl | rfl | rfl
    all_goals (repeat' split at h) <;> omega
theorem dg_is {g : Nat → Nat} {x : Nat} (hx : x < 5) (h0 : g x ≠ 0) (h : ∀ y, x < y → y < 5 → g y = 0) : dg g = x + 1 := by
  unfold dg
  have : x = 0 ∨ x = 1 ∨ x = 2 ∨ x = 3 ∨ x = 4 := by omega
  rcases this with rfl | rfl | rfl | rfl | rfl
  · rw [if_neg (by simp [h 4]), if_neg (by simp [h 3]), if_neg (by simp [h 2]), if_neg (by simp [h 1]), if_pos h0]
  · rw [if_neg (by simp [h 4]), if_neg (by simp [h 3]), if_neg (by simp [h 2]), if_pos h0]
  · rw [if_neg (by simp [h 4]), if_neg (by simp [h 3]), if_pos h0]
  · rw [if_neg (by simp [h 4]), if_pos h0]
  · rw [if_pos h0]
theorem dg_zero {g : Nat → Nat} (h : ∀ y, y < 5 → g y = 0) : dg g = 0 := by
  unfold dg; simp [h 0, h 1, h 2, h 3, h 4]
theorem dg_lt {g : Nat → Nat} {n : Nat} (h : ∀ y, n ≤ y → y < 5 → g y = 0) : dg g ≤ n := by
  by_cases h0 : dg g = 0
  · omega
  · have h1 := dg_top h0
    have h2 := dg_le g
    rcases Nat.lt_or_ge (dg g - 1) n with h3 | h3
    · omega
    · exact absurd (h _ h3 (by omega)) h1
theorem dg_idl {I : (Nat → Int) → Prop} (hI : Idl I) {g : Nat → Nat} (hg : Vec g) (h : dg g = 0) : I (iv g) :=
  hI.same _ _ (fun n => by unfold iv; rw [dg_above hg (by omega)]; rfl) hI.zero

/-- The division of q by the monic p of the degree d: k rounds. -/
def dv (p : Nat → Nat) (d : Nat) (q : Nat → Nat) : Nat → Nat → Nat
  | 0 => q
  | k + 1 => sb p (dv p d q k) (dv p d q k (4 - k)) (4 - k - d) (d + 1)
structure Mon (p : Nat → Nat) (d : Nat) : Prop where
  le : d ≤ 4
  vec : Vec p
  one : p d = 1
  above : ∀ n, d < n → p n = 0
theorem dv_any {p : Nat → Nat} {d : Nat} (hp : Mon p d) {q : Nat → Nat} (hq : Vec q) : ∀ k, k ≤ 5 - d → Vec (dv p d q k) ∧ (∀ I, Idl I → I (iv p) → (I (iv q) ↔ I (iv (dv p d q k)))) ∧ ∀ n, 5 - k ≤ n → dv p d q k n = 0
  | 0, _ => ⟨hq, fun _ _ _ => Iff.rfl, fun n hn => (hq n).2 (by omega)⟩
  | k + 1, hk => by
    obtain ⟨h1, h2, h3⟩ := dv_any hp hq k (by omega)
    have hd := hp.le
    refine ⟨sb_vec h1 _ (by omega), fun I hI hip => (h2 I hI hip).trans (hI.less _ _ (sb_eqv _ _ _ (fun n hn => hp.above n (by omega))) hip), fun n hn => ?_⟩
    rw [dv]
    generalize dv p d q k = r at *
    unfold sb
    by_cases hx : n = 4 - k
    · subst hx
      rw [if_pos (by omega), show 4 - k - (4 - k - d) = d by omega, hp.one]
      simp
    · rw [if_neg (by omega)]
      exact h3 n (by omega)
theorem dv_iff {p : Nat → Nat} {d : Nat} (hp : Mon p d) {q : Nat → Nat} (hq : Vec q) : dg (dv p d q (5 - d)) = 0 ↔ Dvd (iv p) (iv q) := by
  obtain ⟨h1, h2, h3⟩ := dv_any hp hq (5 - d) (Nat.le_refl _)
  have hd := hp.le
  rw [h2 _ (Dvd.idl _) (Dvd.refl _)]
  constructor
  · intro h; exact dg_idl (Dvd.idl _) h1 h
  · intro h
    have := h.small (d := d) (by unfold iv; rw [hp.one]; rfl) (fun n hn => by unfold iv; rw [hp.above n hn]; rfl) (fun n hn => by unfold iv; rw [h3 n (by omega)]; rfl)
    exact dg_zero (fun y _ => by have a := this y; have b := (h1 y).1; unfold iv at a; omega)
/-- Of a lesser degree and not 0: not divided. -/
theorem Mon.not {p : Nat → Nat} {d : Nat} (hp : Mon p d) {g : Nat → Nat} (hg : Vec g) (h : Dvd (iv p) (iv g)) (h0 : dg g ≠ 0) : d < dg g := by
  rcases Nat.lt_or_ge d (dg g) with h1 | h1
  · exact h1
  · have := h.small (d := d) (by unfold iv; rw [hp.one]; rfl) (fun n hn => by unfold iv; rw [hp.above n hn]; rfl) (fun n hn => by unfold iv; rw [dg_above hg (by omega)]; rfl)
    have a := this (dg g - 1)
    have b := (hg (dg g - 1)).1
    have c := dg_top h0
    unfold iv at a
    omega
/-- Both monic, of the same degree: the same. -/
theorem Mon.same {p g : Nat → Nat} {d : Nat} (hp : Mon p d) (hg : Mon g d) (h : Dvd (iv p) (iv g)) : p = g := by
  have k := (Dvd.idl (iv p)).add _ _ h ((Dvd.idl (iv p)).smul (-1) _ (Dvd.refl _))
  have := k.small (d := d) (by unfold iv; rw [hp.one]; rfl) (fun n hn => by unfold iv; rw [hp.above n hn]; rfl) (fun n hn => by
    unfold iv
    rcases Nat.lt_or_ge d n with h1 | h1
    · rw [hp.above n h1, hg.above n h1]; rfl
    · rw [show n = d by omega, hp.one, hg.one]; rfl)
  funext n
  have a := this n
  have b := (hp.vec n).1
  have c := (hg.vec n).1
  unfold iv at a
  omega

theorem inv_spec : ∀ t, t < 7 → t ≠ 0 → t * pw7 t 5 % 7 = 1 := by decide
/-- What is left of p, divided by q. -/
def rem (q : Nat → Nat) : Nat → (Nat → Nat) → Nat → Nat
  | 0, p => p
  | m + 1, p => if dg q ≤ dg p then rem q m (sb q p (p (dg p - 1) * pw7 (q (dg q - 1)) 5) (dg p - dg q) (dg q)) else p
theorem rem_step {q p : Nat → Nat} (hq : Vec q) (hp : Vec p) (h0 : dg q ≠ 0) (h : dg q ≤ dg p) : Vec (sb q p (p (dg p - 1) * pw7 (q (dg q - 1)) 5) (dg p - dg q) (dg q)) ∧ dg (sb q p (p (dg p - 1) * pw7 (q (dg q - 1)) 5) (dg p - dg q) (dg q)) < dg p ∧ ∀ I, Idl I → I (iv q) → (I (iv p) ↔ I (iv (sb q p (p (dg p - 1) * pw7 (q (dg q - 1)) 5) (dg p - dg q) (dg q)))) := by
  have hl := dg_le p
  refine ⟨sb_vec hp _ (by omega), ?_, fun I hI hiq => hI.less _ _ (sb_eqv _ _ _ (fun n hn => dg_above hq hn)) hiq⟩
  have : dg (sb q p (p (dg p - 1) * pw7 (q (dg q - 1)) 5) (dg p - dg q) (dg q)) ≤ dg p - 1 := dg_lt (fun y hy hy5 => by
    unfold sb
    by_cases hx : y = dg p - 1
    · subst hx
      rw [if_pos (by omega), show dg p - 1 - (dg p - dg q) = dg q - 1 by omega]
      have h1 := dg_top h0
      have h2 := (hq (dg q - 1)).1
      have h3 := inv_spec _ h2 h1
      generalize q (dg q - 1) = t at *
      generalize p (dg p - 1) = a at *
      generalize pw7 t 5 = i at *
      have e : ((a * i : Nat) : Int) * (t : Int) = (a : Int) * ((t * i : Nat) : Int) := by
        rw [Int.natCast_mul, Int.natCast_mul, Int.mul_assoc, Int.mul_comm (i : Int)]
      rw [e]
      obtain ⟨k, hk⟩ : ∃ k, t * i = 7 * k + 1 := ⟨t * i / 7, by omega⟩
      rw [hk]
      have e2 : (a : Int) - (a : Int) * ((7 * k + 1 : Nat) : Int) = 7 * (-((a : Int) * k)) := by
        rw [Int.natCast_add, Int.natCast_mul, Int.mul_add, ← Int.mul_assoc, Int.mul_comm (a : Int) ((7 : Nat) : Int), Int.mul_assoc]
        generalize (a : Int) * (k : Int) = z
        omega
      rw [e2]
      simp
    · rw [if_neg (by omega)]
      exact dg_above hp (by omega))
  omega
theorem rem_any {q : Nat → Nat} (hq : Vec q) (h0 : dg q ≠ 0) : ∀ (m : Nat) (p : Nat → Nat), Vec p → dg p ≤ m → Vec (rem q m p) ∧ dg (rem q m p) < dg q ∧ ∀ I, Idl I → I (iv q) → (I (iv p) ↔ I (iv (rem q m p)))
  | 0, p, hp, hm => ⟨hp, by rw [rem]; omega, fun _ _ _ => Iff.rfl⟩
  | m + 1, p, hp, hm => by
    by_cases h : dg q ≤ dg p
    · rw [rem, if_pos h]
      obtain ⟨h1, h2, h3⟩ := rem_step hq hp h0 h
      obtain ⟨k1, k2, k3⟩ := rem_any hq h0 m _ h1 (by omega)
      exact ⟨k1, k2, fun I hI hiq => (h3 I hI hiq).trans (k3 I hI hiq)⟩
    · rw [rem, if_neg h]
      exact ⟨hp, by omega, fun _ _ _ => Iff.rfl⟩
/-- The last one that is not 0. -/
def gc : Nat → (Nat → Nat) → (Nat → Nat) → Nat → Nat
  | 0, p, _ => p
  | m + 1, p, q => if dg q = 0 then p else gc m q (rem q 5 p)
theorem gc_any : ∀ (m : Nat) (p q : Nat → Nat), Vec p → Vec q → dg q ≤ m → Vec (gc m p q) ∧ ∀ I, Idl I → ((I (iv p) ∧ I (iv q)) ↔ I (iv (gc m p q)))
  | 0, p, q, hp, hq, hm => ⟨hp, fun I hI => ⟨fun h => h.1, fun h => ⟨h, dg_idl hI hq (by omega)⟩⟩⟩
  | m + 1, p, q, hp, hq, hm => by
    by_cases h : dg q = 0
    · rw [gc, if_pos h]
      exact ⟨hp, fun I hI => ⟨fun h => h.1, fun k => ⟨k, dg_idl hI hq h⟩⟩⟩
    · rw [gc, if_neg h]
      obtain ⟨h1, h2, h3⟩ := rem_any hq h 5 p hp (dg_le p)
      obtain ⟨k1, k2⟩ := gc_any m q _ hq h1 (by omega)
      refine ⟨k1, fun I hI => ?_⟩
      rw [← k2 I hI]
      exact ⟨fun ⟨a, b⟩ => ⟨b, (h3 I hI b).1 a⟩, fun ⟨a, b⟩ => ⟨(h3 I hI a).2 b, a⟩⟩
/-- Made monic. -/
def mon (p : Nat → Nat) : Nat → Nat := if dg p = 0 then p else fun j => if j < dg p then p j * pw7 (p (dg p - 1)) 5 % 7 else p j
theorem mon_any {p : Nat → Nat} (hp : Vec p) : Vec (mon p) ∧ dg (mon p) = dg p ∧ (dg p ≠ 0 → mon p (dg p - 1) = 1) ∧ ∀ I, Idl I → (I (iv p) ↔ I (iv (mon p))) := by
  by_cases h0 : dg p = 0
  · have e : mon p = p := by unfold mon; rw [if_pos h0]
    rw [e]
    exact ⟨hp, rfl, fun h => absurd h0 h, fun _ _ => Iff.rfl⟩
  · have ht := dg_top h0
    have hl := dg_le p
    have h7 := (hp (dg p - 1)).1
    have hs := inv_spec _ h7 ht
    have e : ∀ j, mon p j = if j < dg p then p j * pw7 (p (dg p - 1)) 5 % 7 else p j := fun j => by unfold mon; rw [if_neg h0]
    have h1 : mon p (dg p - 1) = 1 := by rw [e, if_pos (by omega)]; exact hs
    have hv : Vec (mon p) := fun n => by
      rw [e]; split
      · exact ⟨by omega, fun _ => by omega⟩
      · exact hp n
    have ha : ∀ n, dg p ≤ n → mon p n = 0 := fun n hn => by rw [e, if_neg (by omega)]; exact dg_above hp hn
    have hd : dg (mon p) = dg p := by
      have := dg_is (g := mon p) (x := dg p - 1) (by omega) (by omega) (fun y hy _ => ha y (by omega))
      omega
    refine ⟨hv, hd, fun _ => h1, fun I hI => ?_⟩
    generalize p (dg p - 1) = t at *
    have hm : ∀ n, mon p n = p n * pw7 t 5 % 7 := fun n => by
      by_cases h : n < dg p
      · rw [e, if_pos h]
      · rw [ha n (by omega), dg_above hp (by omega)]; simp
    have hpn : ∀ n, p n = t * mon p n % 7 := fun n => by
      rw [hm n, Nat.mul_mod_mod, Nat.mul_comm (p n), ← Nat.mul_assoc, Nat.mul_mod, hs, Nat.one_mul, Nat.mod_mod]
      have := (hp n).1
      omega
    constructor
    · intro h
      refine hI.same _ _ (fun n => ?_) (hI.smul (pw7 t 5) _ h)
      unfold iv
      rw [hm n, Nat.mul_comm]
      have : ((pw7 t 5 : Nat) : Int) * (p n : Int) = ((pw7 t 5 * p n : Nat) : Int) := by rw [Int.natCast_mul]
      rw [this]
      omega
    · intro h
      refine hI.same _ _ (fun n => ?_) (hI.smul (t : Int) _ h)
      have k := hpn n
      unfold iv
      have : ((t : Nat) : Int) * (mon p n : Int) = ((t * mon p n : Nat) : Int) := by rw [Int.natCast_mul]
      rw [this]
      omega
def zv : Nat → Nat := fun _ => 0
theorem zv_vec : Vec zv := fun _ => ⟨by unfold zv; decide, fun _ => rfl⟩
/-- The greatest common divisor of two, and of many. -/
def gcd2 (p q : Nat → Nat) : Nat → Nat := mon (gc 5 p q)
def gall (ls : List (Nat → Nat)) : Nat → Nat := ls.foldl gcd2 zv
theorem gcd2_any {p q : Nat → Nat} (hp : Vec p) (hq : Vec q) : Vec (gcd2 p q) ∧ (dg (gcd2 p q) ≠ 0 → Mon (gcd2 p q) (dg (gcd2 p q) - 1)) ∧ ∀ I, Idl I → ((I (iv p) ∧ I (iv q)) ↔ I (iv (gcd2 p q))) := by
  obtain ⟨h1, h2⟩ := gc_any 5 p q hp hq (dg_le q)
  obtain ⟨k1, k2, k3, k4⟩ := mon_any h1
  unfold gcd2
  refine ⟨k1, fun h => ⟨by have := dg_le (mon (gc 5 p q)); omega, k1, by rw [k2]; exact k3 (by omega), fun n hn => dg_above k1 (by omega)⟩, fun I hI => (h2 I hI).trans (k4 I hI)⟩
theorem foldl_any : ∀ (ls : List (Nat → Nat)) (a : Nat → Nat), Vec a → (dg a ≠ 0 → Mon a (dg a - 1)) → (∀ l ∈ ls, Vec l) → Vec (ls.foldl gcd2 a) ∧ (dg (ls.foldl gcd2 a) ≠ 0 → Mon (ls.foldl gcd2 a) (dg (ls.foldl gcd2 a) - 1)) ∧ ∀ I, Idl I → ((I (iv a) ∧ ∀ l ∈ ls, I (iv l)) ↔ I (iv (ls.foldl gcd2 a)))
  | [], a, h1, h2, _ => ⟨h1, h2, fun I hI => by simp⟩
  | l :: ls, a, h1, h2, h3 => by
    obtain ⟨k1, k2, k3⟩ := gcd2_any h1 (h3 l (by simp))
    obtain ⟨m1, m2, m3⟩ := foldl_any ls _ k1 k2 (fun x hx => h3 x (by simp [hx]))
    refine ⟨m1, m2, fun I hI => ?_⟩
    rw [List.foldl_cons, ← m3 I hI, ← k3 I hI]
    simp [and_assoc]
theorem gall_any (ls : List (Nat → Nat)) (h : ∀ l ∈ ls, Vec l) : Vec (gall ls) ∧ (dg (gall ls) ≠ 0 → Mon (gall ls) (dg (gall ls) - 1)) ∧ ∀ I, Idl I → ((∀ l ∈ ls, I (iv l)) ↔ I (iv (gall ls))) := by
  obtain ⟨h1, h2, h3⟩ := foldl_any ls zv zv_vec (fun h => absurd (dg_zero (fun _ _ => rfl)) h) h
  refine ⟨h1, h2, fun I hI => ?_⟩
  unfold gall
  rw [← h3 I hI]
  exact ⟨fun h => ⟨dg_idl hI zv_vec (dg_zero (fun _ _ => rfl)), h⟩, fun h => h.2⟩
end Go.Proofs.YthlmgpllapccfaaDoor
/- PLAIN: a polynomial at u = a; a polynomial without u as one with it. -/
namespace Go.Proofs.YthlmgpllapccfaaDoor

/-- A polynomial at u = a, as numbers of the powers of x. -/
def lnF (a : Nat) (p : List Nat) : Nat → Nat := fun i => if i < 5 then pows (rowN p i) a 7 else 0
theorem lnF_vec (a : Nat) (p : List Nat) : Vec (lnF a p) := fun n => by
  unfold lnF
  split
  · exact ⟨pows_lt _ _ _, fun h => by omega⟩
  · exact ⟨by omega, fun _ => rfl⟩
/-- A polynomial without u as one with it. -/
def upL (g : Nat → Nat) : List Nat := [g 0, 0, 0, 0, 0, 0, 0, g 1, 0, 0, 0, 0, 0, 0, g 2, 0, 0, 0, 0, 0, 0, g 3, 0, 0, 0, 0, 0, 0, g 4, 0, 0, 0, 0, 0, 0]
def cutF (g : Nat → Nat) (k : Nat) : Nat → Nat := fun i => if i < k then g i else 0
theorem upL_set (g d : Nat → Nat) {k v : Nat} (hk : k < 5) (hv : d k = v) (ho : ∀ i, i ≠ k → d i = g i) : (upL g).set (k * 7) v = upL d := by
  subst hv
  unfold upL
  match k, hk with
  | 0, _ => simp [ho 1, ho 2, ho 3, ho 4]
  | 1, _ => simp [ho 0, ho 2, ho 3, ho 4]
  | 2, _ => simp [ho 0, ho 1, ho 3, ho 4]
  | 3, _ => simp [ho 0, ho 1, ho 2, ho 4]
  | 4, _ => simp [ho 0, ho 1, ho 2, ho 3]
theorem upL_step (g : Nat → Nat) {k : Nat} (hk : k < 5) : (upL (cutF g k)).set (k * 7) (g k) = upL (cutF g (k + 1)) := by
  apply upL_set _ _ hk
  · unfold cutF; rw [if_pos (by omega)]
  · intro i hi
    unfold cutF
    by_cases h : i < k
    · rw [if_pos h, if_pos (by omega)]
    · rw [if_neg h, if_neg (by omega)]
theorem upL_end (g : Nat → Nat) : upL (cutF g 5) = upL g := rfl
theorem upL_zero (g : Nat → Nat) : upL (cutF g 0) = zeros := rfl
theorem upL_at (g : Nat → Nat) {k : Nat} (hk : k < 5) : (upL g).getD (k * 7) 0 = g k := by
  match k, hk with
  | 0, _ => rfl
  | 1, _ => rfl
  | 2, _ => rfl
  | 3, _ => rfl
  | 4, _ => rfl
theorem upL_off (g : Nat → Nat) {k u : Nat} (hu : 0 < u) (hu7 : u < 7) (hk : k < 5) : (upL g).getD (k * 7 + u) 0 = 0 := by
  have h1 : k = 0 ∨ k = 1 ∨ k = 2 ∨ k = 3 ∨ k = 4 := by omega
  have h2 : u = 1 ∨ u = 2 ∨ u = 3 ∨ u = 4 ∨ u = 5 ∨ u = 6 := by omega
  rcases h1 with rfl | rfl | rfl | rfl | rfl <;> rcases h2 with rfl | rfl | rfl | rfl | rfl | rfl <;> rfl
theorem upL_len (g : Nat → Nat) : (upL g).length = 35 := rfl
theorem upL_good {g : Nat → Nat} (hg : ∀ i, i < 5 → g i < 7) : Good (upL g) := by
  refine ⟨rfl, fun i => ?_⟩
  by_cases h : i < 35
  · by_cases hu : i % 7 = 0
    · rw [show i = i / 7 * 7 by omega, upL_at g (by omega)]
      exact hg _ (by omega)
    · rw [show i = i / 7 * 7 + i % 7 by omega, upL_off g (by omega) (by omega) (by omega)]
      omega
  · rw [List.getD_eq_getElem?_getD, List.getElem?_eq_none (by rw [upL_len]; omega)]; simp

end Go.Proofs.YthlmgpllapccfaaDoor
/- THE DOCUMENT's ANSWER: the way in memory; wrong, next, passes, end. -/
namespace Go.Proofs.YthlmgpllapccfaaDoor
open Go.RowKit

/-- The way: its tokens (n in block g), where it stands, what is wrong and where, how many are open. -/
def Wy (w : World) (b g n cap : Nat) (k : Nat) (e bad op : Int) : Prop := Blk w b #[.slice (some ⟨g, 0, none⟩) n cap, .int .i64 k, .int .i64 e, .int .i64 bad, .int .i64 op] 71
theorem Wy.cells {w : World} {b g n cap k : Nat} {e bad op : Int} (h : Wy w b g n cap k e bad op) : w.cell? ⟨b, 0, none⟩ = some (.slice (some ⟨g, 0, none⟩) n cap) ∧ w.cell? ⟨b, 1, none⟩ = some (.int .i64 k) ∧ w.cell? ⟨b, 2, none⟩ = some (.int .i64 e) ∧ w.cell? ⟨b, 3, none⟩ = some (.int .i64 bad) ∧ w.cell? ⟨b, 4, none⟩ = some (.int .i64 op) :=
  ⟨Blk.cell h 0, Blk.cell h 1, Blk.cell h 2, Blk.cell h 3, Blk.cell h 4⟩
theorem Wy.free {w : World} {b g n cap k : Nat} {e bad op : Int} (h : Wy w b g n cap k e bad op) : w.frozen? ⟨b, 0, none⟩ = false ∧ w.frozen? ⟨b, 1, none⟩ = false ∧ w.frozen? ⟨b, 2, none⟩ = false ∧ w.frozen? ⟨b, 3, none⟩ = false ∧ w.frozen? ⟨b, 4, none⟩ = false :=
  ⟨Blk.frozen h 0, Blk.frozen h 1, Blk.frozen h 2, Blk.frozen h 3, Blk.frozen h 4⟩

/-- The tokens in memory. -/
def Tk (w : World) (g n : Nat) (f : Nat → Tok) : Prop := g < w.heap.size ∧ ∀ k, k < n → ∀ i, i < 4 → w.cell? ⟨g, k * 4 + i, none⟩ = (tokL (f k))[i]?
theorem Tk.cells {w : World} {g n : Nat} {f : Nat → Tok} (h : Tk w g n f) {k : Nat} (hk : k < n) : w.cell? ⟨g, k * 4, none⟩ = some (.int .i64 (rk (f k).c)) ∧ w.cell? ⟨g, k * 4 + 1, none⟩ = some (.int .i64 (f k).at') ∧ w.cell? ⟨g, k * 4 + 2, none⟩ = some (.int .i64 (f k).v) ∧ w.cell? ⟨g, k * 4 + 3, none⟩ = some (.string (rs (f k).c)) :=
  ⟨h.2 k hk 0 (by omega), h.2 k hk 1 (by omega), h.2 k hk 2 (by omega), h.2 k hk 3 (by omega)⟩
theorem Tk.fr {bs : List Nat} {w w' : World} {g n : Nat} {f : Nat → Tok} (h : Tk w g n f) (hf : Fr bs w w') (hn : g ∉ bs) : Tk w' g n f :=
  ⟨Nat.lt_of_lt_of_le h.1 hf.size, fun k hk i hi => by rw [hf.cell _ h.1 hn]; exact h.2 k hk i hi⟩
theorem Tk.of_owns {w : World} {base g n cap : Nat} {s : ByteArray} {a : Nat} (h : w.ownsRow base 94 4 (.slice (some ⟨g, 0, none⟩) n cap) n (toksL s a n)) : Tk w g n (tk s a) := by
  have hg : (Value.slice (some ⟨g, 0, none⟩) n cap).ownBlock = some g := rfl
  refine ⟨(h.lt g hg).2, fun k hk i hi => ?_⟩
  have e := toksL_get s a n k i hk hi
  have hc := h.cells hg (k * 4 + i)
  rw [Addr.add_mid, Nat.zero_add] at hc
  cases q : (tokL (tk s a k))[i]? with
  | none => simp [tokL] at q; omega
  | some u => exact hc u (by rw [e]; exact q)

set_option maxHeartbeats 400000 in
theorem wrong_first (b g n cap k : Nat) (e0 at0 bad op : Int) (w : World) (h : Wy w b g n cap k 0 bad op) :
    Calls Tryd.prog 55 #[.pointer (some ⟨b, 0, none⟩), .int .i64 e0, .int .i64 at0] w fun e w' => e = .returned (.tuple #[]) ∧ Wy w' b g n cap k e0 at0 op ∧ Fr [b] w w' := by
  obtain ⟨c0, c1, c2, c3, c4⟩ := h.cells
  obtain ⟨f0, f1, f2, f3, f4⟩ := h.free
  have H := hideR h
  clear h
  go_enter Tryd.func55, Tryd.ntmps55
  go_wp2
  go_end0
  exact ⟨rfl, Blk.set (Blk.set H.out 2 _) 3 _, ((Fr.refl [b] w).setCell _ _ (by simp)).setCell _ _ (by simp)⟩
set_option maxHeartbeats 400000 in
theorem wrong_later (b g n cap k : Nat) (e0 at0 x bad op : Int) (w : World) (h : Wy w b g n cap k x bad op) (hx : x ≠ 0) :
    Calls Tryd.prog 55 #[.pointer (some ⟨b, 0, none⟩), .int .i64 e0, .int .i64 at0] w fun e w' => e = .returned (.tuple #[]) ∧ w' = w := by
  obtain ⟨c0, c1, c2, c3, c4⟩ := h.cells
  have q : (x == 0) = false := by rw [beq_eq_false_iff_ne]; exact hx
  clear hx h
  go_enter Tryd.func55, Tryd.ntmps55
  go_wp2
  go_end0
  exact ⟨rfl, rfl⟩

set_option maxRecDepth 100000 in
set_option maxHeartbeats 1000000 in
theorem next_any (b g n cap k : Nat) (f : Nat → Tok) (x bad op : Int) (w : World) (h : Wy w b g n cap k x bad op) (ht : Tk w g n f) (hk : k < n) (_hn : n ≤ 2000) :
    Calls Tryd.prog 66 #[.pointer (some ⟨b, 0, none⟩)] w fun e w' => e = .returned (.agg #[.int .i64 (rk (f k).c), .int .i64 (f k).at', .int .i64 (f k).v, .string (rs (f k).c)]) ∧ Below w.heap.size w w' := by
  have hb : b < w.heap.size := Blk.lt h
  have hg := ht.1
  have i0 : (0 : Int) ≤ (k : Int) := by omega
  have i1 : (k : Int) < (n : Int) := by omega
  have HW := hideR h
  have HT := hideR ht
  clear h ht
  go_enter Tryd.func66, Tryd.ntmps66
  go_wp2
  refine wp_forget (fun W => Wy W b g n cap k x bad op ∧ Tk W g n f ∧ Blk W w.heap.size #[.int .i64 0, .int .i64 0, .int .i64 0, .string ⟨#[]⟩] 94 ∧ Below w.heap.size w W) ⟨Blk.alloc HW.out _, HT.out.fr ((Fr.refl [] w).alloc _) (by simp), Blk.new w _ _, by go_grown⟩ ?_
  rintro W ⟨hw, ht, hr, hbel⟩
  obtain ⟨c0, c1, c2, c3, c4⟩ := hw.cells
  obtain ⟨d0, d1, d2, d3⟩ := ht.cells hk
  obtain ⟨r0, r1, r2, r3⟩ : W.cell? ⟨w.heap.size, 0, none⟩ = some (.int .i64 0) ∧ W.cell? ⟨w.heap.size, 1, none⟩ = some (.int .i64 0) ∧ W.cell? ⟨w.heap.size, 2, none⟩ = some (.int .i64 0) ∧ W.cell? ⟨w.heap.size, 3, none⟩ = some (.string ⟨#[]⟩) := ⟨hr.cell 0, hr.cell 1, hr.cell 2, hr.cell 3⟩
  have z0 := hr.frozen 0
  have z1 := hr.frozen 1
  have z2 := hr.frozen 2
  have z3 := hr.frozen 3
  have HR := hideR hr
  clear hw ht hr
  refine region_quiet_tail 10 (by kernel_rfl) (by kernel_rfl) ?_
  simp only [List.take_succ_cons, List.take_zero, List.drop_succ_cons, List.drop_zero]
  repeat (first | go_big_quiet_step ((fail)) | quiet_step ((fail)))
  refine wpQuiet_nil ?_
  rintro _ ⟨nq, rfl⟩
  go_wp2
  refine bodyPost_ret (results_cell_row Tryd.results66 _ _ w.heap.size 94 #[.int .i64 (rk (f k).c), .int .i64 (f k).at', .int .i64 (f k).v, .string (rs (f k).c)] (0, 0) _ (by rfl) (Blk.store4 (by exact HR.out) _ _ _ _) Tryd.underlying94 rfl (by kernel_rfl)) rfl ⟨rfl, ?_⟩
  exact Below.setCell (Below.setCell (Below.setCell (Below.setCell (below_drewN hbel nq) (Nat.le_refl _) _) (Nat.le_refl _) _) (Nat.le_refl _) _) (Nat.le_refl _) _
end Go.Proofs.YthlmgpllapccfaaDoor
