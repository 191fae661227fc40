import Derived.Test.YthlmgpllapccfaaDoorPack1
import Derived.Laws.ResultCell
import Derived.Laws.Rows
import Derived.Deep.AppendLies
import Derived.Deep.LoopGhost
import Derived.Deep.Cut
import Derived.Laws.IdiomStrings
/- THE DOCUMENT's ANSWER: tokens in memory; number, power. -/
namespace Go.Proofs.YthlmgpllapccfaaDoor
open Go.RowKit

/-- A word's letters as one number, and back. -/
def wenc : List UInt8 → Nat
  | [] => 0
  | b :: l => 1 + b.toNat + 256 * wenc l
def wdF : Nat → Nat → List UInt8
  | 0, _ => []
  | m + 1, n => if n = 0 then [] else UInt8.ofNat ((n - 1) % 256) :: wdF m ((n - 1) / 256)
theorem wdF_enc : ∀ (l : List UInt8) (m : Nat), l.length ≤ m → wdF m (wenc l) = l
  | [], m, _ => by cases m <;> simp [wdF, wenc]
  | b :: l, 0, h => by simp at h
  | b :: l, m + 1, h => by
    have hb : b.toNat < 256 := b.toNat_lt
    rw [wdF, wenc, if_neg (by omega), show (1 + b.toNat + 256 * wenc l - 1) % 256 = b.toNat by omega, show (1 + b.toNat + 256 * wenc l - 1) / 256 = wenc l by omega, wdF_enc l m (by simp at h; omega)]
    simp
theorem wenc_len : ∀ l : List UInt8, l.length ≤ wenc l
  | [] => Nat.le_refl _
  | b :: l => by have := wenc_len l; simp only [List.length_cons, wenc]; omega
/-- The kind and the text of a token in the document's answer (from 1000 on: a word). -/
def rk (c : Nat) : Int := if c = 0 then 6 else if c = 1 then 1 else if c = 2 ∨ c = 3 then 2 else if 69 ≤ c ∧ c ≤ 94 then 3 else if sgn (c - 4) = true then ((c - 4 : Nat) : Int) else if 1000 ≤ c then 4 else 5
def rs (c : Nat) : ByteArray := if c = 2 then ⟨#[117]⟩ else if c = 3 then ⟨#[120]⟩ else if 69 ≤ c ∧ c ≤ 94 then ⟨#[UInt8.ofNat (c - 4)]⟩ else if 1000 ≤ c then ⟨(wdF c (c - 1000)).toArray⟩ else ⟨#[]⟩
theorem sgn_small {c : Nat} (h : sgn c = true) : c ≤ 126 := by
  unfold sgn at h
  simp only [Bool.or_eq_true, beq_iff_eq] at h
  omega
theorem rk_word (t : ByteArray) : rk (1000 + wenc t.data.toList) = 4 ∧ rs (1000 + wenc t.data.toList) = t := by
  constructor
  · unfold rk
    rw [if_neg (by omega), if_neg (by omega), if_neg (by omega), if_neg (by omega), if_neg (fun h => by have := sgn_small h; omega), if_pos (by omega)]
  · unfold rs
    rw [if_neg (by omega), if_neg (by omega), if_neg (by omega), if_pos (by omega), Nat.add_sub_cancel_left, wdF_enc _ _ (by have := wenc_len t.data.toList; omega)]

theorem one_byte {s : ByteArray} {i : Nat} (h : i < s.size) : s.extract i (i + 1) = ⟨#[UInt8.ofNat (byt s i)]⟩ := by
  rw [byt_lt h]
  apply ByteArray.ext
  apply Array.ext
  · simp; omega
  · intro j h1 h2
    have : j = 0 := by simp at h2; omega
    subst this
    simp
    rfl

theorem results_tok {fn : Func} {p u : Tmp} (h : fn.results = #[.cell p 94, .tmp u]) (tmps : Array Value) (w : World) (g : Nat) (x0 x1 x2 x3 : Value)
    (hp : tmps.getD p undef = .pointer (some ⟨g, 0, none⟩)) (hg : Blk w g #[x0, x1, x2, x3] 94) :
    (results fn tmps).run Tryd.prog w = .ok (.tuple #[.agg #[x0, x1, x2, x3], tmps.getD u undef]) w := by
  rw [results_cell_tmp h, hp]
  simp [asAddr, run_loadVar_row (P := Tryd.prog) w g 94 94 #[x0, x1, x2, x3] (0, 0) _ hg Tryd.underlying94 rfl (by kernel_rfl)]
theorem retTok {a b c d a' b' c' d' : Int} {s s' : ByteArray} (h1 : a = a') (h2 : b = b') (h3 : c = c') (hs : s = s') (h4 : d = d') : Ending.returned (.tuple #[.agg #[.int .i64 a, .int .i64 b, .int .i64 c, .string s], .int .i64 d]) = Ending.returned (.tuple #[.agg #[.int .i64 a', .int .i64 b', .int .i64 c', .string s'], .int .i64 d']) := by subst h1 h2 h3 h4 hs; rfl

set_option maxHeartbeats 1000000 in
theorem number_any (s : ByteArray) (i : Nat) (a : Int) (w : World) (ha : a = i) (hs : s.size ≤ 1000) (hd : isD s i = true) :
    Calls Tryd.prog 50 #[.string s, .int .i64 a] w fun e w' => e = .returned (.tuple #[.agg #[.int .i64 1, .int .i64 (tokAt s i).at', .int .i64 (tokAt s i).v, .string ⟨#[]⟩], .int .i64 (tokAt s i).to]) ∧ Below w.heap.size w w' := by
  subst ha
  have hi := isD_in hd
  have hb := byt_cast hi
  have hD := (isD_iff s i).1 hd
  have ht : byt s i ≠ 256 := by omega
  by_cases h2 : isD s (i + 1) = true
  · have hi2 := isD_in h2
    have hb2 := byt_cast hi2
    have hD2 := (isD_iff s (i + 1)).1 h2
    have HT : Hid (tokAt s i = ⟨1, i, i + 2, 10 * (byt s i - 48) + (byt s (i + 1) - 48)⟩) := by unfold Hid tokAt; rw [if_neg ht, if_pos hd, if_pos h2]
    have hdec : (decide (48 ≤ byt s (i + 1)) && decide (byt s (i + 1) ≤ 57)) = true := h2
    clear hd ht h2
    go_enter Tryd.func50, Tryd.ntmps50
    go_wp2_with (go_at_call 49; refine (rdigit_any (byt s (i + 1)) _ _ (by omega) (by omega)).mono ?_; rintro e w' ⟨rfl, rfl⟩)
    refine bodyPost_ret (results_tok Tryd.results50 _ _ w.heap.size _ _ _ _ (by rfl) (Blk.new w _ _)) rfl ⟨?_, by go_grown⟩
    rw [HT.out]; dsimp only
    exact retTok (by omega) (by omega) (by omega) rfl (by omega)
  · have HT : Hid (tokAt s i = ⟨1, i, i + 1, byt s i - 48⟩) := by unfold Hid tokAt; rw [if_neg ht, if_pos hd, if_neg h2]
    by_cases hi2 : i + 1 < s.size
    · have hb2 := byt_cast hi2
      have hsm := byt_small hi2
      have hdec : (decide (48 ≤ byt s (i + 1)) && decide (byt s (i + 1) ≤ 57)) = false := by
        cases q : (decide (48 ≤ byt s (i + 1)) && decide (byt s (i + 1) ≤ 57)) with
        | false => rfl
        | true => exact absurd q h2
      clear hd ht h2
      go_enter Tryd.func50, Tryd.ntmps50
      go_wp2_with (go_at_call 49; refine (rdigit_any (byt s (i + 1)) _ _ (by omega) (by omega)).mono ?_; rintro e w' ⟨rfl, rfl⟩)
      refine bodyPost_ret (results_tok Tryd.results50 _ _ w.heap.size _ _ _ _ (by rfl) (Blk.new w _ _)) rfl ⟨?_, by go_grown⟩
      rw [HT.out]; dsimp only
      exact retTok (by omega) (by omega) (by omega) rfl (by omega)
    · clear hd ht h2
      go_enter Tryd.func50, Tryd.ntmps50
      go_wp2
      refine bodyPost_ret (results_tok Tryd.results50 _ _ w.heap.size _ _ _ _ (by rfl) (Blk.new w _ _)) rfl ⟨?_, by go_grown⟩
      rw [HT.out]; dsimp only
      exact retTok (by omega) (by omega) (by omega) rfl (by omega)

set_option maxHeartbeats 1000000 in
theorem rpower_any (s : ByteArray) (i : Nat) (a : Int) (w : World) (ha : a = i) (hs : s.size ≤ 1000) (hi : i < s.size) (hx : byt s i = 117 ∨ byt s i = 120) :
    Calls Tryd.prog 51 #[.string s, .int .i64 a] w fun e w' => e = .returned (.tuple #[.agg #[.int .i64 2, .int .i64 (tokAt s i).at', .int .i64 (tokAt s i).v, .string (rs (tokAt s i).c)], .int .i64 (tokAt s i).to]) ∧ Below w.heap.size w w' := by
  subst ha
  have h0 : byt s i ≠ 256 := by omega
  have h1 : ¬ isD s i = true := by rw [isD_iff]; omega
  have HS : Hid (s.extract i (i + 1) = rs (tokAt s i).c) := by
    unfold Hid
    rw [one_byte hi]
    unfold tokAt
    rw [if_neg h0, if_neg h1]
    rcases hx with hx | hx
    · rw [if_pos hx, hx]; split <;> rfl
    · rw [if_neg (by omega), if_pos hx, hx]; split <;> rfl
  by_cases h2 : isD s (i + 1) = true
  · have hi2 := isD_in h2
    have hb2 := byt_cast hi2
    have hD2 := (isD_iff s (i + 1)).1 h2
    have HT : Hid ((tokAt s i).at' = i ∧ (tokAt s i).to = i + 2 ∧ (tokAt s i).v = byt s (i + 1) - 48) := by
      unfold Hid tokAt
      rcases hx with hx | hx <;> simp [h1, h2, hx]
    have hdec : (decide (48 ≤ byt s (i + 1)) && decide (byt s (i + 1) ≤ 57)) = true := h2
    clear h0 h1 hx h2
    go_enter Tryd.func51, Tryd.ntmps51
    go_wp2_with (go_at_call 49; refine (rdigit_any (byt s (i + 1)) _ _ (by omega) (by omega)).mono ?_; rintro e w' ⟨rfl, rfl⟩)
    go_region
    go_wp2
    obtain ⟨e1, e2, e3⟩ := HT.out
    refine bodyPost_ret (results_tok Tryd.results51 _ _ w.heap.size _ _ _ _ (by rfl) (Blk.drew (Blk.new w _ _))) rfl ⟨?_, by go_grown⟩
    rw [e1, e2, e3]
    exact retTok (by omega) (by omega) (by omega) HS.out (by omega)
  · have HT : Hid ((tokAt s i).at' = i ∧ (tokAt s i).to = i + 1 ∧ (tokAt s i).v = 1) := by
      unfold Hid tokAt
      rcases hx with hx | hx <;> simp [h1, h2, hx]
    by_cases hi2 : i + 1 < s.size
    · have hb2 := byt_cast hi2
      have hsm := byt_small hi2
      have hdec : (decide (48 ≤ byt s (i + 1)) && decide (byt s (i + 1) ≤ 57)) = false := by
        cases q : (decide (48 ≤ byt s (i + 1)) && decide (byt s (i + 1) ≤ 57)) with
        | false => rfl
        | true => exact absurd q h2
      clear h0 h1 hx h2
      go_enter Tryd.func51, Tryd.ntmps51
      go_wp2_with (go_at_call 49; refine (rdigit_any (byt s (i + 1)) _ _ (by omega) (by omega)).mono ?_; rintro e w' ⟨rfl, rfl⟩)
      obtain ⟨e1, e2, e3⟩ := HT.out
      refine bodyPost_ret (results_tok Tryd.results51 _ _ w.heap.size _ _ _ _ (by rfl) (Blk.new w _ _)) rfl ⟨?_, by go_grown⟩
      rw [e1, e2, e3]
      exact retTok (by omega) (by omega) (by omega) HS.out (by omega)
    · clear h0 h1 hx h2
      go_enter Tryd.func51, Tryd.ntmps51
      go_wp2
      obtain ⟨e1, e2, e3⟩ := HT.out
      refine bodyPost_ret (results_tok Tryd.results51 _ _ w.heap.size _ _ _ _ (by rfl) (Blk.new w _ _)) rfl ⟨?_, by go_grown⟩
      rw [e1, e2, e3]
      exact retTok (by omega) (by omega) (by omega) HS.out (by omega)
end Go.Proofs.YthlmgpllapccfaaDoor
/- THE DOCUMENT's ANSWER: cut. -/
namespace Go.Proofs.YthlmgpllapccfaaDoor
open Go.RowKit

/-- A token's cells; the first k tokens' cells. -/
def tokL (t : Tok) : List Value := [.int .i64 (rk t.c), .int .i64 t.at', .int .i64 t.v, .string (rs t.c)]
def toksL (s : ByteArray) (a : Nat) : Nat → List Value
  | 0 => []
  | k + 1 => toksL s a k ++ tokL (tk s a k)
theorem toksL_length (s : ByteArray) (a : Nat) : ∀ k, (toksL s a k).length = k * 4
  | 0 => rfl
  | k + 1 => by simp [toksL, toksL_length s a k, tokL]; omega
theorem toksL_get (s : ByteArray) (a : Nat) : ∀ (k j i : Nat), j < k → i < 4 → (toksL s a k)[j * 4 + i]? = (tokL (tk s a j))[i]?
  | 0, _, _, h, _ => by omega
  | k + 1, j, i, h, hi => by
    show (toksL s a k ++ tokL (tk s a k))[j * 4 + i]? = _
    by_cases hj : j < k
    · rw [List.getElem?_append_left (by rw [toksL_length]; omega)]
      exact toksL_get s a k j i hj hi
    · have e : j = k := by omega
      subst e
      rw [List.getElem?_append_right (by rw [toksL_length]; omega), toksL_length]
      congr 1; omega
theorem Token_info : (Tryd.prog.info? 94).map (fun i => (i.zero, i.size, i.bytes)) = some (some (.agg #[.int .i64 0, .int .i64 0, .int .i64 0, .string ⟨#[]⟩]), 4, 40) := by kernel_rfl
theorem tokL_one (t : Tok) : ∀ u ∈ tokL t, u.oneCell' = true := by
  intro u hu
  simp only [tokL, List.mem_cons, List.not_mem_nil, or_false] at hu
  rcases hu with rfl | rfl | rfl | rfl <;> rfl

theorem hideR {p : Prop} (h : p) : Hid p := h
/-- What is owned stays owned where nothing old but one other block has turned. -/
theorem ownsRow_fr {w w' : World} {base : Nat} {e : TypeId} {size : Nat} {v : Value} {n : Nat} {xs : List Value} {c : Nat} (h : w.ownsRow base e size v n xs) (hf : Fr [c] w w') (hc : v.ownBlock ≠ some c) : w'.ownsRow base e size v n xs :=
  h.kept (row := some c) ⟨hf.os, hf.tape, hf.output, hf.size, fun k hk hn => hf.block k hk (by simp; intro q; exact hn (by rw [q]))⟩ (Or.inr hc)
theorem ownsRow_ne {w : World} {base : Nat} {e : TypeId} {size : Nat} {v : Value} {n : Nat} {xs : List Value} (h : w.ownsRow base e size v n xs) {c : Nat} (hc : w.heap.size ≤ c) : v.ownBlock ≠ some c := fun q => by
  have := (h.lt c q).2; omega

set_option maxRecDepth 100000 in
set_option maxHeartbeats 8000000 in
theorem cut_plain (s : ByteArray) (w : World) (hs : s.size ≤ 1000) :
    Calls Tryd.prog 28 #[.string s, .bool false] w fun e w' => ∃ n g cap, e = .returned (.slice (some ⟨g, 0, none⟩) (n + 1) cap) ∧ n ≤ s.size ∧ (∀ j, j < n → (tk s 0 j).c ≠ 0) ∧ (tk s 0 n).c = 0 ∧ w'.ownsRow w.heap.size 94 4 (.slice (some ⟨g, 0, none⟩) (n + 1) cap) (n + 1) (toksL s 0 (n + 1)) ∧ w.heap.size ≤ g ∧ Below w.heap.size w w' := by
  obtain ⟨i0, hi, hz0, hz1, hz2⟩ := info_parts Token_info
  go_enter Tryd.func28, Tryd.ntmps28
  go_wp2
  go_loopg [5, 6] (s.size) (fun m v5 v6 wr => ∃ k i : Nat, m = s.size - i ∧ v6 = .int .i64 i ∧ i ≤ s.size ∧ k ≤ i ∧ Hid (skip s i = skip s (pos s 0 k)) ∧ Hid (∀ j, j < k → (tk s 0 j).c ≠ 0) ∧ wr.ownsRow w.heap.size 94 4 v5 k (toksL s 0 k) ∧ Below w.heap.size w wr)
  case atStart => exact ⟨0, 0, rfl, rfl, by omega, by omega, rfl, fun j hj => by omega, World.ownsRow_nil _ _ _ _, Below.refl _ _⟩
  case round =>
    obtain ⟨k, i, hm, rfl, hi', hki, HS, HC, hown, hbel⟩ := hrel
    by_cases hlt : i < s.size
    · have hb := byt_cast hlt
      have hsm := byt_small hlt
      by_cases hsp : byt s i = 32
      · have H2 : Hid (skip s (i + 1) = skip s (pos s 0 k)) := by unfold Hid; rw [← skip_space hsp]; exact HS.out
        go_wp2
        go_roundg (s.size - (i + 1))
        case measure => omega
        case rel => exact ⟨k, i + 1, rfl, by go_num, by omega, by omega, H2, HC, hown.alloc _, hbel.alloc hbel.size _⟩
      · have hz : byt s i ≠ 256 := by omega
        have HT : Hid (tk s 0 k = tokAt s i) := by unfold Hid tk tok; rw [← HS.out, skip_here hsp]
        by_cases hd : isD s i = true
        · have HD := hideR hd
          have hd' : (decide (48 ≤ byt s i) && decide (byt s i ≤ 57)) = true := hd
          have HK : Hid (rk (tokAt s i).c = 1 ∧ rs (tokAt s i).c = ⟨#[]⟩) := by
            unfold Hid tokAt; rw [if_neg hz, if_pos hd]; split <;> exact ⟨rfl, rfl⟩
          clear hd
          have HF : Hid ((tk s 0 k).to ≤ s.size ∧ i < (tk s 0 k).to ∧ (tk s 0 k).c ≠ 0) := by
            obtain ⟨_, _, f1, _, _, f2, f3⟩ := tokAt_facts hi'
            have f4 : (tokAt s i).c ≠ 0 := fun q => by have := f2.1 q; omega
            unfold Hid; rw [HT.out]; exact ⟨f1, f3 f4, f4⟩

          go_upto_region 19 with (first | (go_at_call 49; refine (rdigit_any (byt s i) _ _ (by omega) (by omega)).mono ?_; rintro e w' ⟨rfl, rfl⟩) | (go_at_call 50; refine (number_any s i _ _ (by omega) (by omega) HD.out).mono ?_; rintro e w1 ⟨rfl, hb1⟩; obtain ⟨hc1, hf1⟩ := bcell hb1))
          refine wp_forget (fun W => Blk W wr.heap.size #[.int .i64 (rk (tk s 0 k).c), .int .i64 (tk s 0 k).at', .int .i64 (tk s 0 k).v, .string (rs (tk s 0 k).c)] 94 ∧ W.ownsRow w.heap.size 94 4 u5 k (toksL s 0 k) ∧ Below w.heap.size w W) ?_ ?_
          · have hf8 : Fr [] (wr.alloc (.cells #[.int .i64 5, .int .i64 i, .int .i64 0, .string ⟨#[]⟩] 94)) w1 := Fr.of_below hb1
            have b8 : Blk w1 wr.heap.size #[.int .i64 5, .int .i64 i, .int .i64 0, .string ⟨#[]⟩] 94 := Blk.fr (Blk.new wr _ _) hf8 (by simp)
            refine ⟨?_, ?_, ?_⟩
            · rw [HT.out, HK.out.1, HK.out.2]
              exact Blk.store4 b8 _ _ _ _
            · refine ownsRow_fr (c := wr.heap.size) (hown.alloc (.cells #[.int .i64 5, .int .i64 i, .int .i64 0, .string ⟨#[]⟩] 94)) ?_ (ownsRow_ne hown (Nat.le_refl _))
              repeat (refine Fr.setCell ?_ _ _ (by simp))
              exact hf8.mono (by simp)
            · repeat (refine Below.setCell ?_ hbel.size _)
              exact (hbel.alloc hbel.size _).trans (hb1.mono (by have := hbel.size; simp; omega))
          rintro W ⟨b8, hownW, hbelW⟩
          have k0 : W.cell? ⟨wr.heap.size, 0, none⟩ = some (.int .i64 (rk (tk s 0 k).c)) := b8.cell 0
          have k1 : W.cell? ⟨wr.heap.size, 1, none⟩ = some (.int .i64 (tk s 0 k).at') := b8.cell 1
          have k2 : W.cell? ⟨wr.heap.size, 2, none⟩ = some (.int .i64 (tk s 0 k).v) := b8.cell 2
          have k3 : W.cell? ⟨wr.heap.size, 3, none⟩ = some (.string (rs (tk s 0 k).c)) := b8.cell 3
          have HOWN := hideR hownW
          have HBEL := hideR hbelW
          clear b8 hownW hbelW hown hbel
          go_wp2_with (at_builtin; refine wpList_append_lies _ (by rfl) (.tmp 86) (.tmp 88) 68 (by rfl) w.heap.size 94 i0 _ 4 40 Tryd.underlying68 hi hz0 hz1 hz2 (by rfl) (by decide) _ k (toksL s 0 k) (by rfl) (by exact HOWN.out.alloc _) ⟨W.heap.size, 0, none⟩ 1 1 (tokL (tk s 0 k)) (by rfl) (by rfl) (by exact World.news_of_block (Blk.new W _ _)) (tokL_one _) (by decide) (by unfold maxLen; omega) (by omega) (by have := HBEL.out.size; simp; omega) _ rfl ?_; intro g cap w1 hown1 hgrow hat hlt1)
          go_roundg (s.size - (tk s 0 k).to)
          case measure => have := HF.out.2.1; omega
          case rel =>
            have hq := HOWN.out
            refine ⟨k + 1, (tk s 0 k).to, rfl, (by rw [HT.out]), HF.out.1, (by have := HF.out.2.1; omega), rfl, ?_, hown1, ?_⟩
            · intro j hj
              by_cases q : j < k
              · exact HC.out j q
              · have e : j = k := by omega
                subst e; exact HF.out.2.2
            · exact (HBEL.out.alloc (by have := HBEL.out.size; omega) _).grown hgrow (by have := HBEL.out.size; simp; omega) (fun b hb => (hq.lt b hb).1)
        · have hd' : (decide (48 ≤ byt s i) && decide (byt s i ≤ 57)) = false := by
            cases q : (decide (48 ≤ byt s i) && decide (byt s i ≤ 57)) with
            | false => rfl
            | true => exact absurd q hd
          by_cases hux : byt s i = 117 ∨ byt s i = 120
          · have HK : Hid (rk (tokAt s i).c = 2) := by
              unfold Hid tokAt; rw [if_neg hz, if_neg hd]
              rcases hux with q | q
              · rw [if_pos q]; split <;> rfl
              · rw [if_neg (by omega), if_pos q]; split <;> rfl
            have HU := hideR hux
            clear hd
            rcases hux with hu | hu
            all_goals
              have HF : Hid ((tk s 0 k).to ≤ s.size ∧ i < (tk s 0 k).to ∧ (tk s 0 k).c ≠ 0) := by
                obtain ⟨_, _, f1, _, _, f2, f3⟩ := tokAt_facts hi'
                have f4 : (tokAt s i).c ≠ 0 := fun q => by have := f2.1 q; omega
                unfold Hid; rw [HT.out]; exact ⟨f1, f3 f4, f4⟩

              go_upto_region 19 with (first | (go_at_call 49; refine (rdigit_any (byt s i) _ _ (by omega) (by omega)).mono ?_; rintro e w' ⟨rfl, rfl⟩) | (go_at_call 51; refine (rpower_any s i _ _ (by omega) (by omega) hlt HU.out).mono ?_; rintro e w1 ⟨rfl, hb1⟩; obtain ⟨hc1, hf1⟩ := bcell hb1))
              refine wp_forget (fun W => Blk W wr.heap.size #[.int .i64 (rk (tk s 0 k).c), .int .i64 (tk s 0 k).at', .int .i64 (tk s 0 k).v, .string (rs (tk s 0 k).c)] 94 ∧ W.ownsRow w.heap.size 94 4 u5 k (toksL s 0 k) ∧ Below w.heap.size w W) ?_ ?_
              · have hf8 : Fr [] (wr.alloc (.cells #[.int .i64 5, .int .i64 i, .int .i64 0, .string ⟨#[]⟩] 94)) w1 := Fr.of_below hb1
                have b8 : Blk w1 wr.heap.size #[.int .i64 5, .int .i64 i, .int .i64 0, .string ⟨#[]⟩] 94 := Blk.fr (Blk.new wr _ _) hf8 (by simp)
                refine ⟨?_, ?_, ?_⟩
                · rw [HT.out, HK.out]
                  exact Blk.store4 b8 _ _ _ _
                · refine ownsRow_fr (c := wr.heap.size) (hown.alloc (.cells #[.int .i64 5, .int .i64 i, .int .i64 0, .string ⟨#[]⟩] 94)) ?_ (ownsRow_ne hown (Nat.le_refl _))
                  repeat (refine Fr.setCell ?_ _ _ (by simp))
                  exact hf8.mono (by simp)
                · repeat (refine Below.setCell ?_ hbel.size _)
                  exact (hbel.alloc hbel.size _).trans (hb1.mono (by have := hbel.size; simp; omega))
              rintro W ⟨b8, hownW, hbelW⟩
              have k0 : W.cell? ⟨wr.heap.size, 0, none⟩ = some (.int .i64 (rk (tk s 0 k).c)) := b8.cell 0
              have k1 : W.cell? ⟨wr.heap.size, 1, none⟩ = some (.int .i64 (tk s 0 k).at') := b8.cell 1
              have k2 : W.cell? ⟨wr.heap.size, 2, none⟩ = some (.int .i64 (tk s 0 k).v) := b8.cell 2
              have k3 : W.cell? ⟨wr.heap.size, 3, none⟩ = some (.string (rs (tk s 0 k).c)) := b8.cell 3
              have HOWN := hideR hownW
              have HBEL := hideR hbelW
              clear b8 hownW hbelW hown hbel
              go_wp2_with (at_builtin; refine wpList_append_lies _ (by rfl) (.tmp 86) (.tmp 88) 68 (by rfl) w.heap.size 94 i0 _ 4 40 Tryd.underlying68 hi hz0 hz1 hz2 (by rfl) (by decide) _ k (toksL s 0 k) (by rfl) (by exact HOWN.out.alloc _) ⟨W.heap.size, 0, none⟩ 1 1 (tokL (tk s 0 k)) (by rfl) (by rfl) (by exact World.news_of_block (Blk.new W _ _)) (tokL_one _) (by decide) (by unfold maxLen; omega) (by omega) (by have := HBEL.out.size; simp; omega) _ rfl ?_; intro g cap w1 hown1 hgrow hat hlt1)
              go_roundg (s.size - (tk s 0 k).to)
              case measure => have := HF.out.2.1; omega
              case rel =>
                have hq := HOWN.out
                refine ⟨k + 1, (tk s 0 k).to, rfl, (by rw [HT.out]), HF.out.1, (by have := HF.out.2.1; omega), rfl, ?_, hown1, ?_⟩
                · intro j hj
                  by_cases q : j < k
                  · exact HC.out j q
                  · have e : j = k := by omega
                    subst e; exact HF.out.2.2
                · exact (HBEL.out.alloc (by have := HBEL.out.size; omega) _).grown hgrow (by have := HBEL.out.size; simp; omega) (fun b hb => (hq.lt b hb).1)
          · have hu : byt s i ≠ 117 := by omega
            have hx : byt s i ≠ 120 := by omega
            have qu : ((byt s i : Int) == 117) = false := by rw [beq_eq_false_iff_ne]; omega
            have qx : ((byt s i : Int) == 120) = false := by rw [beq_eq_false_iff_ne]; omega
            have HA : Hid (tokAt s i = ⟨byt s i + 4, i, i + 1, 0⟩) := by unfold Hid tokAt; rw [if_neg hz, if_neg hd, if_neg hu, if_neg hx]
            by_cases hname : 65 ≤ byt s i ∧ byt s i ≤ 90
            · obtain ⟨hn1, hn2⟩ := hname
              have HX : Hid (s.extract i (i + 1) = ⟨#[UInt8.ofNat (byt s i)]⟩) := one_byte hlt
              have HF : Hid ((tk s 0 k).to ≤ s.size ∧ i < (tk s 0 k).to ∧ (tk s 0 k).c ≠ 0) := by unfold Hid; rw [HT.out, HA.out]; refine ⟨?_, ?_, ?_⟩ <;> dsimp only <;> omega
              have HK : Hid (rk (byt s i + 4) = 3 ∧ rs (byt s i + 4) = s.extract i (i + 1)) := by
                unfold Hid rk rs
                rw [if_neg (by omega), if_neg (by omega), if_neg (by omega), if_pos (by omega), if_neg (by omega), if_neg (by omega), if_pos (by omega), HX.out]; exact ⟨rfl, rfl⟩
              clear hd hux hu hx
              go_upto_region 19 with ((go_at_call 49; refine (rdigit_any (byt s i) _ _ (by omega) (by omega)).mono ?_; rintro e w' ⟨rfl, rfl⟩))
              refine wp_forget (fun W => Blk W wr.heap.size #[.int .i64 (rk (tk s 0 k).c), .int .i64 (tk s 0 k).at', .int .i64 (tk s 0 k).v, .string (rs (tk s 0 k).c)] 94 ∧ W.ownsRow w.heap.size 94 4 u5 k (toksL s 0 k) ∧ Below w.heap.size w W) ?_ ?_
              · refine ⟨?_, hown.alloc _, hbel.alloc hbel.size _⟩
                rw [HT.out, HA.out]; dsimp only
                rw [HK.out.1, HK.out.2]
                exact Blk.new wr _ _
              rintro W ⟨b8, hownW, hbelW⟩
              have k0 : W.cell? ⟨wr.heap.size, 0, none⟩ = some (.int .i64 (rk (tk s 0 k).c)) := b8.cell 0
              have k1 : W.cell? ⟨wr.heap.size, 1, none⟩ = some (.int .i64 (tk s 0 k).at') := b8.cell 1
              have k2 : W.cell? ⟨wr.heap.size, 2, none⟩ = some (.int .i64 (tk s 0 k).v) := b8.cell 2
              have k3 : W.cell? ⟨wr.heap.size, 3, none⟩ = some (.string (rs (tk s 0 k).c)) := b8.cell 3
              have HOWN := hideR hownW
              have HBEL := hideR hbelW
              clear b8 hownW hbelW hown hbel
              go_wp2_with (at_builtin; refine wpList_append_lies _ (by rfl) (.tmp 86) (.tmp 88) 68 (by rfl) w.heap.size 94 i0 _ 4 40 Tryd.underlying68 hi hz0 hz1 hz2 (by rfl) (by decide) _ k (toksL s 0 k) (by rfl) (by exact HOWN.out.alloc _) ⟨W.heap.size, 0, none⟩ 1 1 (tokL (tk s 0 k)) (by rfl) (by rfl) (by exact World.news_of_block (Blk.new W _ _)) (tokL_one _) (by decide) (by unfold maxLen; omega) (by omega) (by have := HBEL.out.size; simp; omega) _ rfl ?_; intro g cap w1 hown1 hgrow hat hlt1)
              go_roundg (s.size - (tk s 0 k).to)
              case measure => have := HF.out.2.1; omega
              case rel =>
                have hq := HOWN.out
                refine ⟨k + 1, (tk s 0 k).to, rfl, (by rw [HT.out, HA.out]; go_num), HF.out.1, (by have := HF.out.2.1; omega), rfl, ?_, hown1, ?_⟩
                · intro j hj
                  by_cases q : j < k
                  · exact HC.out j q
                  · have e : j = k := by omega
                    subst e; exact HF.out.2.2
                · exact (HBEL.out.alloc (by have := HBEL.out.size; omega) _).grown hgrow (by have := HBEL.out.size; simp; omega) (fun b hb => (hq.lt b hb).1)
            · by_cases hsg : sgn (byt s i) = true
              · have HF : Hid ((tk s 0 k).to ≤ s.size ∧ i < (tk s 0 k).to ∧ (tk s 0 k).c ≠ 0) := by unfold Hid; rw [HT.out, HA.out]; refine ⟨?_, ?_, ?_⟩ <;> dsimp only <;> omega
                have HK : Hid (rk (byt s i + 4) = (byt s i : Int) ∧ rs (byt s i + 4) = ⟨#[]⟩) := by
                  unfold Hid rk rs
                  rw [if_neg (by omega), if_neg (by omega), if_neg (by omega), if_neg (by omega), Nat.add_sub_cancel, if_pos hsg, if_neg (by omega), if_neg (by omega), if_neg (by omega), if_neg (by omega)]; exact ⟨rfl, rfl⟩
                have hnn : byt s i < 65 ∨ 90 < byt s i := by omega
                clear hd hux hu hx hname
                rcases hnn with hnn | hnn
                all_goals
                  go_upto_region 19 with (first | (go_at_call 49; refine (rdigit_any (byt s i) _ _ (by omega) (by omega)).mono ?_; rintro e w' ⟨rfl, rfl⟩) | (go_at_call 52; refine (sign_any (byt s i) _ _ (by omega) (by omega)).mono ?_; rintro e w' ⟨rfl, rfl⟩))
                  refine wp_forget (fun W => Blk W wr.heap.size #[.int .i64 (rk (tk s 0 k).c), .int .i64 (tk s 0 k).at', .int .i64 (tk s 0 k).v, .string (rs (tk s 0 k).c)] 94 ∧ W.ownsRow w.heap.size 94 4 u5 k (toksL s 0 k) ∧ Below w.heap.size w W) ?_ ?_
                  · refine ⟨?_, hown.alloc _, hbel.alloc hbel.size _⟩
                    rw [HT.out, HA.out]; dsimp only
                    rw [HK.out.1, HK.out.2]
                    exact Blk.new wr _ _
                  rintro W ⟨b8, hownW, hbelW⟩
                  have k0 : W.cell? ⟨wr.heap.size, 0, none⟩ = some (.int .i64 (rk (tk s 0 k).c)) := b8.cell 0
                  have k1 : W.cell? ⟨wr.heap.size, 1, none⟩ = some (.int .i64 (tk s 0 k).at') := b8.cell 1
                  have k2 : W.cell? ⟨wr.heap.size, 2, none⟩ = some (.int .i64 (tk s 0 k).v) := b8.cell 2
                  have k3 : W.cell? ⟨wr.heap.size, 3, none⟩ = some (.string (rs (tk s 0 k).c)) := b8.cell 3
                  have HOWN := hideR hownW
                  have HBEL := hideR hbelW
                  clear b8 hownW hbelW hown hbel
                  go_wp2_with (at_builtin; refine wpList_append_lies _ (by rfl) (.tmp 86) (.tmp 88) 68 (by rfl) w.heap.size 94 i0 _ 4 40 Tryd.underlying68 hi hz0 hz1 hz2 (by rfl) (by decide) _ k (toksL s 0 k) (by rfl) (by exact HOWN.out.alloc _) ⟨W.heap.size, 0, none⟩ 1 1 (tokL (tk s 0 k)) (by rfl) (by rfl) (by exact World.news_of_block (Blk.new W _ _)) (tokL_one _) (by decide) (by unfold maxLen; omega) (by omega) (by have := HBEL.out.size; simp; omega) _ rfl ?_; intro g cap w1 hown1 hgrow hat hlt1)
                  go_roundg (s.size - (tk s 0 k).to)
                  case measure => have := HF.out.2.1; omega
                  case rel =>
                    have hq := HOWN.out
                    refine ⟨k + 1, (tk s 0 k).to, rfl, (by rw [HT.out, HA.out]; go_num), HF.out.1, (by have := HF.out.2.1; omega), rfl, ?_, hown1, ?_⟩
                    · intro j hj
                      by_cases q : j < k
                      · exact HC.out j q
                      · have e : j = k := by omega
                        subst e; exact HF.out.2.2
                    · exact (HBEL.out.alloc (by have := HBEL.out.size; omega) _).grown hgrow (by have := HBEL.out.size; simp; omega) (fun b hb => (hq.lt b hb).1)
                
              · have hsg' : sgn (byt s i) = false := by simpa using hsg
                have HF : Hid ((tk s 0 k).to ≤ s.size ∧ i < (tk s 0 k).to ∧ (tk s 0 k).c ≠ 0) := by unfold Hid; rw [HT.out, HA.out]; refine ⟨?_, ?_, ?_⟩ <;> dsimp only <;> omega
                have HK : Hid (rk (byt s i + 4) = 5 ∧ rs (byt s i + 4) = ⟨#[]⟩) := by
                  unfold Hid rk rs
                  rw [if_neg (by omega), if_neg (by omega), if_neg (by omega), if_neg (by omega), Nat.add_sub_cancel, if_neg hsg, if_neg (by omega), if_neg (by omega), if_neg (by omega), if_neg (by omega), if_neg (by omega)]; exact ⟨rfl, rfl⟩
                have hnn : byt s i < 65 ∨ 90 < byt s i := by omega
                clear hd hux hu hx hname hsg
                rcases hnn with hnn | hnn
                all_goals
                  go_upto_region 19 with (first | (go_at_call 49; refine (rdigit_any (byt s i) _ _ (by omega) (by omega)).mono ?_; rintro e w' ⟨rfl, rfl⟩) | (go_at_call 52; refine (sign_any (byt s i) _ _ (by omega) (by omega)).mono ?_; rintro e w' ⟨rfl, rfl⟩))
                  refine wp_forget (fun W => Blk W wr.heap.size #[.int .i64 (rk (tk s 0 k).c), .int .i64 (tk s 0 k).at', .int .i64 (tk s 0 k).v, .string (rs (tk s 0 k).c)] 94 ∧ W.ownsRow w.heap.size 94 4 u5 k (toksL s 0 k) ∧ Below w.heap.size w W) ?_ ?_
                  · refine ⟨?_, hown.alloc _, hbel.alloc hbel.size _⟩
                    rw [HT.out, HA.out]; dsimp only
                    rw [HK.out.1, HK.out.2]
                    exact Blk.new wr _ _
                  rintro W ⟨b8, hownW, hbelW⟩
                  have k0 : W.cell? ⟨wr.heap.size, 0, none⟩ = some (.int .i64 (rk (tk s 0 k).c)) := b8.cell 0
                  have k1 : W.cell? ⟨wr.heap.size, 1, none⟩ = some (.int .i64 (tk s 0 k).at') := b8.cell 1
                  have k2 : W.cell? ⟨wr.heap.size, 2, none⟩ = some (.int .i64 (tk s 0 k).v) := b8.cell 2
                  have k3 : W.cell? ⟨wr.heap.size, 3, none⟩ = some (.string (rs (tk s 0 k).c)) := b8.cell 3
                  have HOWN := hideR hownW
                  have HBEL := hideR hbelW
                  clear b8 hownW hbelW hown hbel
                  go_wp2_with (at_builtin; refine wpList_append_lies _ (by rfl) (.tmp 86) (.tmp 88) 68 (by rfl) w.heap.size 94 i0 _ 4 40 Tryd.underlying68 hi hz0 hz1 hz2 (by rfl) (by decide) _ k (toksL s 0 k) (by rfl) (by exact HOWN.out.alloc _) ⟨W.heap.size, 0, none⟩ 1 1 (tokL (tk s 0 k)) (by rfl) (by rfl) (by exact World.news_of_block (Blk.new W _ _)) (tokL_one _) (by decide) (by unfold maxLen; omega) (by omega) (by have := HBEL.out.size; simp; omega) _ rfl ?_; intro g cap w1 hown1 hgrow hat hlt1)
                  go_roundg (s.size - (tk s 0 k).to)
                  case measure => have := HF.out.2.1; omega
                  case rel =>
                    have hq := HOWN.out
                    refine ⟨k + 1, (tk s 0 k).to, rfl, (by rw [HT.out, HA.out]; go_num), HF.out.1, (by have := HF.out.2.1; omega), rfl, ?_, hown1, ?_⟩
                    · intro j hj
                      by_cases q : j < k
                      · exact HC.out j q
                      · have e : j = k := by omega
                        subst e; exact HF.out.2.2
                    · exact (HBEL.out.alloc (by have := HBEL.out.size; omega) _).grown hgrow (by have := HBEL.out.size; simp; omega) (fun b hb => (hq.lt b hb).1)
                
    · have hz := byt_ge hlt
      have ei : i = s.size := by omega
      have HT : Hid (tk s 0 k = ⟨0, i, i, 0⟩) := by
        unfold Hid tk tok; rw [← HS.out, skip_here (by omega)]; unfold tokAt; rw [if_pos hz]
      have HL : Hid (tokL (tk s 0 k) = [.int .i64 6, .int .i64 (s.size : Nat), .int .i64 0, .string ⟨#[]⟩]) := by
        unfold Hid; rw [HT.out, ei]; rfl
      have HOWN := hideR hown
      have HBEL := hideR hbel
      have HEI := hideR ei
      clear hown hbel ei
      go_wp2_with (at_builtin; refine wpList_append_lies _ (by rfl) (.tmp 91) (.tmp 95) 68 (by rfl) w.heap.size 94 i0 _ 4 40 Tryd.underlying68 hi hz0 hz1 hz2 (by rfl) (by decide) _ k (toksL s 0 k) (by rfl) (by exact HOWN.out.alloc _) ⟨wr.heap.size, 0, none⟩ 1 1 (tokL (tk s 0 k)) (by rfl) (by rfl) (by rw [HL.out]; exact World.news_of_block (Blk.new wr _ _)) (tokL_one _) (by decide) (by unfold maxLen; omega) (by omega) (by have := HBEL.out.size; simp; omega) _ rfl ?_; intro g cap w1 hown1 hgrow hat hlt1)
      go_ret
      have hb1 : Below w.heap.size w w1 := (HBEL.out.alloc HBEL.out.size _).grown hgrow (by have := HBEL.out.size; simp; omega) (fun b hb => (HOWN.out.lt b hb).1)
      refine ⟨k, g, cap, rfl, by omega, HC.out, ?_, hown1, ?_, hb1⟩
      · rw [HT.out]
      · exact (hown1.lt g rfl).1
end Go.Proofs.YthlmgpllapccfaaDoor
/- THE PROGRAM's TEXT OF A POLYNOMIAL: Text. -/
namespace Go.Proofs.YthlmgpllapccfaaDoor
open Go.RowKit

def sv (ts : List (List UInt8)) : List Value := ts.map fun t => Value.string (bs t)
theorem sv_snoc (ts : List (List UInt8)) (t : List UInt8) : sv (ts ++ [t]) = sv ts ++ [.string (bs t)] := by simp [sv]
theorem str_info : (Tryd.prog.info? 9).map (fun i => (i.zero, i.size, i.bytes)) = some (some (.string ⟨#[]⟩), 1, 16) := by kernel_rfl
theorem tms_step (p : List Nat) (k : Nat) (h : ¬ p.getD (34 - k) 0 = 0) : tms p (k + 1) = tms p k ++ [tmx (p.getD (34 - k) 0) ((34 - k) % 7) ((34 - k) / 7)] := by rw [tms, if_neg h]
theorem tms_skip (p : List Nat) (k : Nat) (h : p.getD (34 - k) 0 = 0) : tms p (k + 1) = tms p k := by rw [tms, if_pos h]

theorem sv_get {ts : List (List UInt8)} {j : Nat} {x : ByteArray} (h : (ts.map bs)[j]? = some x) : (sv ts)[j]? = some (.string x) := by
  rw [List.getElem?_map, Option.map_eq_some_iff] at h
  obtain ⟨t, h1, rfl⟩ := h
  simp [sv, h1]
theorem own_slice {w : World} {base : Nat} {v : Value} {ts : List (List UInt8)} (h : w.ownsRow base 9 1 v ts.length (sv ts)) (hne : ts ≠ []) :
    ∃ g cap, v = .slice (some ⟨g, 0, none⟩) ts.length cap ∧ g < w.heap.size ∧ ts.length ≤ cap ∧ ∀ (j : Nat) x, (ts.map bs)[j]? = some x → w.cell? ⟨g, 0 + j, none⟩ = some (.string x) := by
  have h' := h
  obtain ⟨_, h1 | ⟨g, cap, cur, rfl, hb, hg, hn, hm, hs, ht⟩⟩ := h
  · exact absurd (List.length_eq_zero_iff.1 h1.2) hne
  · refine ⟨g, cap, rfl, (h'.lt g rfl).2, hn, ?_⟩
    intro j x hx
    have := h'.cells (g := g) rfl j (.string x) (sv_get hx)
    have hadd : (⟨g, 0, none⟩ : Addr).add j = ⟨g, 0 + j, none⟩ := by unfold Addr.add; split <;> simp_all
    rw [hadd] at this
    exact this
theorem join_to (ts : List (List UInt8)) (g cap : Nat) (w : World) (hcells : ∀ (j : Nat) x, (ts.map bs)[j]? = some x → w.cell? ⟨g, 0 + j, none⟩ = some (.string x)) (hg : g < w.heap.size) (hc : ts.length ≤ cap) (hl : ts.length ≤ 35) (hj : (Lib.join ts [43]).length ≤ 6 * 35) :
    Calls Tryd.prog 27 #[.slice (some ⟨g, 0, none⟩) ts.length cap, .string ⟨#[43]⟩] w fun e w' => e = .returned (.string (bs (Lib.join ts [43]))) ∧ Below w.heap.size w w' := by
  have e : (ts.map bs).map (·.data.toList) = ts := by
    rw [List.map_map]
    conv => rhs; rw [← List.map_id ts]
    exact List.map_congr_left (fun _ _ => rfl)
  have h := Tryd.strings_Join g 0 cap (ts.map bs) ⟨#[43]⟩ w hcells hg (by rw [List.length_map]; omega) (by rw [List.length_map]; exact hc) (by rw [e]; have : (Lib.join ts (⟨#[43]⟩ : ByteArray).data.toList).length ≤ 6 * 35 := hj; omega)
  rw [List.length_map, e] at h
  exact h

set_option maxRecDepth 100000 in
set_option maxHeartbeats 4000000 in
theorem Text_any (p : List Nat) (w : World) (hp : Good p) :
    Calls Tryd.prog 16 #[.agg (pv p)] w fun e w' => e = .returned (.string (bs (txt p))) ∧ Below w.heap.size w w' := by
  have hne := fun (w' : World) => poly_eq_zero p w' hp
  by_cases hz : p = zeros
  · have e : txt p = [48] := txt_zero p ((good_zeros hp).2 hz)
    rw [e]
    simp only [hz, decide_true] at hne
    obtain ⟨z, HZ⟩ : ∃ z, Hid (p = z) := ⟨_, rfl⟩
    rw [← hz] at hne
    clear hz e
    go_enter Tryd.func16, Tryd.ntmps16
    go_wp2_with (refine wpList_load_row (by rfl) 37 _ (by rfl) w.heap.size (by rfl) 37 (pv p) (0, 0) _ (by exact Blk.new w _ _) Tryd.underlying37 (by rfl) (size_poly hp) ?_)
    go_ret
    exact ⟨rfl, by go_grown⟩
  · have ht : tms p 35 ≠ [] := fun q => hz ((good_zeros hp).1 q)
    have HTX := hidT (txt_join p ht)
    have HT := hidT ht
    simp only [hz, decide_false] at hne
    clear hz ht
    obtain ⟨i0, hi, hz0, hz1, hz2⟩ := info_parts str_info
    go_enter Tryd.func16, Tryd.ntmps16
    go_wp2_with (refine wpList_load_row (by rfl) 37 _ (by rfl) w.heap.size (by rfl) 37 (pv p) (0, 0) _ (by exact Blk.new w _ _) Tryd.underlying37 (by rfl) (size_poly hp) ?_)
    refine wp_forget (fun W => Blk W w.heap.size (pv p) 37 ∧ Below w.heap.size w W) ⟨Blk.new w _ _, by go_grown⟩ ?_
    rintro W ⟨b1, hbW⟩
    have B1 := hidT b1
    have BW := hidT hbW
    clear b1 hbW hne
    go_loopg [3, 4] 5 (fun gm v3 v4 wr => ∃ a : Nat, gm = 5 - a ∧ a ≤ 5 ∧ v4 = .int .i64 (((5 - a : Nat) : Int) - 1) ∧ Hid (wr.ownsRow W.heap.size 9 1 v3 (tms p (a * 7)).length (sv (tms p (a * 7))) ∧ Below W.heap.size W wr))
    case atStart => exact ⟨0, rfl, by omega, rfl, ⟨World.ownsRow_nil _ _ _ _, Below.refl _ _⟩⟩
    case round =>
      obtain ⟨a, hgm, ha, rfl, HD⟩ := hrel
      by_cases h5 : a < 5
      · obtain ⟨i, hi5⟩ : ∃ i : Nat, 5 - a = i + 1 := ⟨4 - a, by omega⟩
        have hi4 : i < 5 := by omega
        have e : (((5 - a : Nat) : Int) - 1) = (i : Int) := by omega
        rw [e]
        clear e
        have i0' : (0 : Int) ≤ (i : Int) := by omega
        have i1' : (i : Int) < 5 := by omega
        have HI := hidT hi5
        clear hi5
        go_wp2
        go_loopg [3, 5] 7 (fun gm v3 v5 wr => ∃ m : Nat, gm = 7 - m ∧ m ≤ 7 ∧ v5 = .int .i64 (((7 - m : Nat) : Int) - 1) ∧ Hid (wr.ownsRow W.heap.size 9 1 v3 (tms p (a * 7 + m)).length (sv (tms p (a * 7 + m))) ∧ Below W.heap.size W wr))
        case atStart => exact ⟨0, rfl, by omega, rfl, HD⟩
        case round =>
          obtain ⟨m, hgm2, hm, rfl, HE⟩ := hrel
          clear HD
          by_cases h7 : m < 7
          · obtain ⟨j, hj7⟩ : ∃ j : Nat, 7 - m = j + 1 := ⟨6 - m, by omega⟩
            have hj6 : j < 7 := by omega
            have e : (((7 - m : Nat) : Int) - 1) = (j : Int) := by omega
            rw [e]
            clear e
            have j0 : (0 : Int) ≤ (j : Int) := by omega
            have j1 : (j : Int) < 7 := by omega
            have HM1 : Hid ((((7 - (m + 1) : Nat) : Int) - 1) = (j : Int) - 1) := by unfold Hid; omega
            have hidx : 34 - (a * 7 + m) = i * 7 + j := by have := HI.out; omega
            have HX : Hid ((34 - (a * 7 + m)) % 7 = j ∧ (34 - (a * 7 + m)) / 7 = i) := by unfold Hid; omega
            have HSK := hidT (tms_skip p (a * 7 + m))
            have HST := hidT (tms_step p (a * 7 + m))
            have HL := hidT (tms_len p (a * 7 + m))
            rw [HX.out.1, HX.out.2, hidx] at HST
            rw [hidx] at HSK
            have hq : i * 7 + j < p.length := by rw [hp.1]; omega
            have hcell := pv_get hq
            have hv7 := hp.2 (i * 7 + j)
            have BR : Hid (Blk wr w.heap.size (pv p) 37) := Blk.fr B1.out (Fr.of_below (bs := []) HE.out.2) (by simp)
            have hc : wr.cell? ⟨w.heap.size, i * 7 + j, none⟩ = some (.int .i64 (p.getD (i * 7 + j) 0)) := by rw [BR.out.cell]; exact hcell
            clear hcell hidx hj7
            generalize p.getD (i * 7 + j) 0 = v at *
            by_cases hv : v = 0
            · subst hv
              go_wp2
              go_roundg (7 - (m + 1))
              case measure => omega
              case rel => exact ⟨m + 1, rfl, by omega, by rw [HM1.out], by rw [show a * 7 + (m + 1) = a * 7 + m + 1 by omega, HSK.out (by trivial)]; exact HE⟩
            · have hv' : ¬ ((v : Int) = 0) := by omega
              have HV := hidT hv
              clear hv
              go_wp2_with (first | (go_at_call 26; refine (termText_any v j i _ _ _ _ rfl rfl rfl hv7 (by omega) (by omega)).mono ?_; rintro e w1 ⟨rfl, hb1⟩; have HB1 := hidT hb1; have HO1 := hidT (ownsRow_fr (c := wr.heap.size) HE.out.1 (Fr.of_below hb1) (ownsRow_ne HE.out.1 (Nat.le_refl _)))) | (at_builtin; refine wpList_append_lies _ (by rfl) (.tmp 23) (.tmp 33) 62 (by rfl) W.heap.size 9 i0 _ 1 16 Tryd.underlying62 hi hz0 hz1 hz2 (by rfl) (by decide) _ (tms p (a * 7 + m)).length (sv (tms p (a * 7 + m))) (by rfl) (by exact HO1.out.alloc _) ⟨w1.heap.size, 0, none⟩ 1 1 [.string (bs (tmx v j i))] (by rfl) (by rfl) (by exact World.news_of_block (Blk.new w1 _ _)) (by simp; rfl) (by decide) (by unfold maxLen; have := HL.out; omega) (by have := HL.out; omega) (by have := HE.out.2.size; have := HB1.out.size; simp; omega) _ rfl ?_; intro g cap w2 hown1 hgrow hat hlt1))
              go_roundg (7 - (m + 1))
              case measure => omega
              case rel =>
                refine ⟨m + 1, rfl, by omega, by rw [HM1.out], ?_, ?_⟩
                · rw [show a * 7 + (m + 1) = a * 7 + m + 1 by omega, HST.out HV.out, sv_snoc, List.length_append]
                  exact hown1
                · have hbb : Below W.heap.size W w1 := Fr.below (bs := []) ((Fr.of_below HE.out.2).trans (Fr.of_below (bs := []) HB1.out) (by simp)) (Nat.le_refl _) (by simp)
                  exact (hbb.alloc (by have := hbb.size; omega) _).grown hgrow (by have := hbb.size; simp; omega) (fun b hb => ((HO1.out).lt b hb).1)
          · have e7 : m = 7 := by omega
            subst e7
            have HK1 : Hid ((((5 - (a + 1) : Nat) : Int) - 1) = (i : Int) - 1) := by unfold Hid; have := HI.out; omega
            go_wp2
            go_roundg (5 - (a + 1))
            case measure => omega
            case rel => exact ⟨a + 1, rfl, by omega, by rw [HK1.out], by rw [show (a + 1) * 7 = a * 7 + 7 by omega]; exact HE⟩
      · have e5 : a = 5 := by omega
        subst e5
        have HO : Hid (wr.ownsRow W.heap.size 9 1 u3 (tms p 35).length (sv (tms p 35))) := HD.out.1
        have HB := hidT HD.out.2
        clear HD
        obtain ⟨g, cap, hu3, hglt, hcap, hcells⟩ := own_slice HO.out HT.out
        subst hu3
        have HJ := hidT (join_to (tms p 35) g cap wr hcells hglt hcap (tms_len p 35) (by rw [← wrt_join]; exact wrt_len p 35))
        rw [← HTX.out] at HJ
        clear HTX hcells
        generalize (tms p 35).length = N at *
        go_wp2_with (go_at_call 27; refine HJ.out.mono ?_; rintro e w1 ⟨rfl, hb1⟩)
        go_ret
        refine ⟨rfl, ?_⟩
        exact Fr.below (bs := []) (((Fr.of_below BW.out).trans (Fr.of_below (bs := []) HB.out) (by simp)).trans (Fr.of_below (bs := []) hb1) (by simp)) (Nat.le_refl _) (by simp)
end Go.Proofs.YthlmgpllapccfaaDoor
/- THE DOCUMENT's TEXT OF A POLYNOMIAL: letter. -/
namespace Go.Proofs.YthlmgpllapccfaaDoor
open Go.RowKit

theorem conv_at (n : Nat) (hn : n < 10) (g : Nat) (w : World) (h : w.cell? ⟨g, 0, none⟩ = some (.int .u8 (48 + (n : Int)))) :
    (convert 73 9 (.slice (some ⟨g, 0, none⟩) 1 1)).run Tryd.prog w = .ok (.string (bs [dgt n])) w := by
  refine run_convert_bytes_back w 73 9 5 ⟨g, 0, none⟩ 1 [dgt n] Tryd.underlying73 Tryd.underlying5 Tryd.underlying9 ?_
  intro j hj
  have : j = 0 := by simpa using hj
  subst this
  show w.cell? ⟨g, 0, none⟩ = some (.int .u8 ((dgt n).toNat : Int))
  rw [dgt_int hn]; exact h
theorem conv_new (n : Nat) (hn : n < 10) (w : World) :
    (convert 73 9 (.slice (some ⟨w.heap.size, 0, none⟩) 1 1)).run Tryd.prog (w.alloc (.cells #[.int .u8 (48 + (n : Int))] 5)) = .ok (.string (bs [dgt n])) (w.alloc (.cells #[.int .u8 (48 + (n : Int))] 5)) :=
  conv_at n hn w.heap.size _ (Blk.cell (Blk.new w _ _) 0)

set_option maxRecDepth 100000 in
theorem letter_any (c : UInt8) (S : ByteArray) (n : Nat) (N : Int) (w : World) (hN : N = n) (hS : S = bs [c]) (hn : n ≤ 6) :
    Calls Tryd.prog 31 #[.string S, .int .i64 N] w fun e w' => e = .returned (.string (bs (ptx c n))) ∧ Below w.heap.size w w' := by
  subst hN hS
  unfold ptx
  by_cases h0 : n = 0
  · subst h0
    go_enter Tryd.func31, Tryd.ntmps31
    go_wp2
    go_ret
    exact ⟨rfl, Below.refl _ _⟩
  · rw [if_neg h0]
    by_cases h1 : n = 1
    · subst h1
      go_enter Tryd.func31, Tryd.ntmps31
      go_wp2
      go_ret
      exact ⟨rfl, Below.refl _ _⟩
    · rw [if_neg h1]
      have q0 : ((n : Int) == 0) = false := by rw [beq_eq_false_iff_ne]; omega
      have q1 : ((n : Int) == 1) = false := by rw [beq_eq_false_iff_ne]; omega
      go_enter Tryd.func31, Tryd.ntmps31
      have hcv := fun (w' : World) => conv_new n (by omega) w'
      go_wp2
      go_ret
      exact ⟨by rw [bs_append]; rfl, by go_grown⟩
end Go.Proofs.YthlmgpllapccfaaDoor
/- THE DOCUMENT's TEXT OF A POLYNOMIAL: write. -/
namespace Go.Proofs.YthlmgpllapccfaaDoor
open Go.RowKit

theorem add_to (a b c : List UInt8) (S : ByteArray) (hS : S = bs b) (hc : a ++ b = c) (ha : a.length ≤ 1000) (hb : b.length ≤ 1000) (w : World) : (Op.stringOp .add (bs a) S).run Tryd.prog w = .ok (.string (bs c)) w := by
  subst hS hc
  rw [run_string_add_sum w (bs a) (bs b) (by rw [bs_size, bs_size]; omega), bs_append]
theorem wrt_step (p : List Nat) (k : Nat) (h : ¬ p.getD (34 - k) 0 = 0) : wrt p (k + 1) = (if wrt p k = [] then [] else wrt p k ++ [43]) ++ tmx (p.getD (34 - k) 0) ((34 - k) % 7) ((34 - k) / 7) := by rw [wrt, if_neg h]
theorem wrt_skip (p : List Nat) (k : Nat) (h : p.getD (34 - k) 0 = 0) : wrt p (k + 1) = wrt p k := by rw [wrt, if_pos h]
theorem tmx_full {v j i : Nat} (h : v > 1 ∨ i + j = 0) : tmx v j i = dgt v :: (ptx 117 j ++ ptx 120 i) := by
  unfold tmx pws; rw [if_neg (by omega)]
theorem tmx_bare {v j i : Nat} (hv : v ≠ 0) (h : ¬ (v > 1 ∨ i + j = 0)) : tmx v j i = ptx 117 j ++ ptx 120 i := by
  unfold tmx pws; rw [if_pos (by omega)]

set_option maxRecDepth 100000 in
set_option maxHeartbeats 4000000 in
theorem write_any (p : List Nat) (w : World) (hp : Good p) :
    Calls Tryd.prog 18 #[.agg (pv p)] w fun e w' => e = .returned (.string (bs (txt p))) ∧ Below w.heap.size w w' := by
  go_enter Tryd.func18, Tryd.ntmps18
  go_wp2
  refine wp_forget (fun W => Blk W w.heap.size (pv p) 41 ∧ Below w.heap.size w W) ⟨Blk.new w _ _, by go_grown⟩ ?_
  rintro W ⟨b1, hbW⟩
  have B1 := hidT b1
  have BW := hidT hbW
  clear b1 hbW
  go_loopg [3, 4] 5 (fun gm v3 v4 wr => ∃ a : Nat, gm = 5 - a ∧ a ≤ 5 ∧ v4 = .int .i64 (((5 - a : Nat) : Int) - 1) ∧ v3 = .string (bs (wrt p (a * 7))) ∧ Hid (Below W.heap.size W wr))
  case atStart => exact ⟨0, rfl, by omega, rfl, rfl, Below.refl _ _⟩
  case round =>
    obtain ⟨a, hgm, ha, rfl, rfl, HD⟩ := hrel
    by_cases h5 : a < 5
    · obtain ⟨i, hi5⟩ : ∃ i : Nat, 5 - a = i + 1 := ⟨4 - a, by omega⟩
      have hi4 : i < 5 := by omega
      have e : (((5 - a : Nat) : Int) - 1) = (i : Int) := by omega
      rw [e]
      clear e
      have i0' : (0 : Int) ≤ (i : Int) := by omega
      have i1' : (i : Int) < 5 := by omega
      have HI := hidT hi5
      clear hi5
      go_wp2
      go_loopg [3, 5] 7 (fun gm v3 v5 wr => ∃ m : Nat, gm = 7 - m ∧ m ≤ 7 ∧ v5 = .int .i64 (((7 - m : Nat) : Int) - 1) ∧ v3 = .string (bs (wrt p (a * 7 + m))) ∧ Hid (Below W.heap.size W wr))
      case atStart => exact ⟨0, rfl, by omega, rfl, rfl, HD⟩
      case round =>
        obtain ⟨m, hgm2, hm, rfl, rfl, HE⟩ := hrel
        clear HD
        by_cases h7 : m < 7
        · obtain ⟨j, hj7⟩ : ∃ j : Nat, 7 - m = j + 1 := ⟨6 - m, by omega⟩
          have hj6 : j < 7 := by omega
          have e : (((7 - m : Nat) : Int) - 1) = (j : Int) := by omega
          rw [e]
          clear e
          have j0 : (0 : Int) ≤ (j : Int) := by omega
          have j1 : (j : Int) < 7 := by omega
          have HM1 : Hid ((((7 - (m + 1) : Nat) : Int) - 1) = (j : Int) - 1) := by unfold Hid; omega
          have hidx : 34 - (a * 7 + m) = i * 7 + j := by have := HI.out; omega
          have HX : Hid ((34 - (a * 7 + m)) % 7 = j ∧ (34 - (a * 7 + m)) / 7 = i) := by unfold Hid; omega
          have HSK := hidT (wrt_skip p (a * 7 + m))
          have HST := hidT (wrt_step p (a * 7 + m))
          have HL : Hid ((wrt p (a * 7 + m)).length ≤ 210) := by unfold Hid; have := wrt_len p (a * 7 + m); omega
          rw [HX.out.1, HX.out.2, hidx] at HST
          rw [hidx] at HSK
          rw [show a * 7 + m + 1 = a * 7 + (m + 1) by omega] at HST HSK
          have hq : i * 7 + j < p.length := by rw [hp.1]; omega
          have hcell := pv_get hq
          have hv7 := hp.2 (i * 7 + j)
          have BR : Hid (Blk wr w.heap.size (pv p) 41) := Blk.fr B1.out (Fr.of_below (bs := []) HE.out) (by simp)
          have hc : wr.cell? ⟨w.heap.size, i * 7 + j, none⟩ = some (.int .i64 (p.getD (i * 7 + j) 0)) := by rw [BR.out.cell]; exact hcell
          clear hcell hidx hj7
          generalize p.getD (i * 7 + j) 0 = v at *
          by_cases hv : v = 0
          · subst hv
            have HSS := hidT (HSK.out rfl)
            clear HSK HST
            go_wp2
            go_roundg (7 - (m + 1))
            case measure => omega
            case rel => exact ⟨m + 1, rfl, by omega, by rw [HM1.out], by rw [HSS.out], HE⟩
          · have hv' : ¬ ((v : Int) = 0) := by omega
            have HV := hidT hv
            have HSS := hidT (HST.out hv)
            clear hv HST HSK
            have hpu := ptx_len 117 j
            have hpx := ptx_len 120 i
            have HPU := hidT hpu
            have HPX := hidT hpx
            clear hpu hpx
            have hcv := fun (w' : World) => conv_new v (by omega) w'
            have hc2 : ∀ o, (wr.alloc o).cell? ⟨w.heap.size, i * 7 + j, none⟩ = some (.int .i64 v) := fun o => by rw [(Blk.alloc BR.out o).cell, ← BR.out.cell]; exact hc
            generalize hwX : wrt p (a * 7 + m) = X at *
            have HWX := hidT hwX
            clear hwX
            by_cases hE : X = []
            · have hE' : (bs X).toList.isEmpty = true := by rw [bs_empty, hE]; rfl
              rw [if_pos hE] at HSS
              have HXE := hidT hE
              clear hE
              by_cases hd : v > 1 ∨ i + j = 0
              · have HDD := hidT hd
                by_cases h1 : 1 < v
                · have hd' : (1 : Int) < (v : Int) := by omega
                  obtain ⟨Y2, HY2⟩ : ∃ Y, Hid (X ++ [dgt v] = Y) := ⟨_, hidT rfl⟩
                  have HL2 : Hid (Y2.length ≤ 212) := by unfold Hid; rw [← HY2.out, List.length_append]; have := HL.out; (try simp only [List.length_cons, List.length_nil]); omega
                  have hadd2 := fun (w' : World) => add_to X [dgt v] Y2 (bs [dgt v]) rfl HY2.out (by have := HL.out; omega) (by simp) w'
                  obtain ⟨Y3, HY3⟩ : ∃ Y, Hid (Y2 ++ ptx 117 j = Y) := ⟨_, hidT rfl⟩
                  have HL3 : Hid (Y3.length ≤ 214) := by unfold Hid; rw [← HY3.out, List.length_append]; have := HPU.out; have := HL2.out; (try simp only [List.length_cons, List.length_nil]); omega
                  have hadd3 := fun (w' : World) => add_to Y2 (ptx 117 j) Y3 (bs (ptx 117 j)) rfl HY3.out (by have := HL2.out; omega) (by have := HPU.out; omega) w'
                  obtain ⟨Y4, HY4⟩ : ∃ Y, Hid (Y3 ++ ptx 120 i = Y) := ⟨_, hidT rfl⟩
                  have HL4 : Hid (Y4.length ≤ 216) := by unfold Hid; rw [← HY4.out, List.length_append]; have := HPX.out; have := HL3.out; (try simp only [List.length_cons, List.length_nil]); omega
                  have hadd4 := fun (w' : World) => add_to Y3 (ptx 120 i) Y4 (bs (ptx 120 i)) rfl HY4.out (by have := HL3.out; omega) (by have := HPX.out; omega) w'
                  go_wp2_with (go_at_call 31; first | (refine (letter_any 117 _ j _ _ (by rfl) (by rfl) (by omega)).mono ?_; rintro e w1 ⟨rfl, hb1⟩; have HB1 := hidT hb1) | (refine (letter_any 120 _ i _ _ (by rfl) (by rfl) (by omega)).mono ?_; rintro e w2 ⟨rfl, hb2⟩; have HB2 := hidT hb2))
                  go_roundg (7 - (m + 1))
                  case measure => omega
                  case rel =>
                    refine ⟨m + 1, rfl, by omega, by rw [HM1.out], ?_, ?_⟩
                    · rw [HSS.out, tmx_full HDD.out, ← HY4.out, ← HY3.out, ← HY2.out]; simp [HXE.out]
                    · exact Fr.below (bs := []) ((((Fr.of_below HE.out).alloc _).trans (Fr.of_below (bs := []) HB1.out) (by simp)).trans (Fr.of_below (bs := []) HB2.out) (by simp)) (Nat.le_refl _) (by simp)
                · have hd' : ¬ ((1 : Int) < (v : Int)) := by omega
                  have hd0 : (i : Int) + (j : Int) = 0 := by omega
                  obtain ⟨Y2, HY2⟩ : ∃ Y, Hid (X ++ [dgt v] = Y) := ⟨_, hidT rfl⟩
                  have HL2 : Hid (Y2.length ≤ 212) := by unfold Hid; rw [← HY2.out, List.length_append]; have := HL.out; (try simp only [List.length_cons, List.length_nil]); omega
                  have hadd2 := fun (w' : World) => add_to X [dgt v] Y2 (bs [dgt v]) rfl HY2.out (by have := HL.out; omega) (by simp) w'
                  obtain ⟨Y3, HY3⟩ : ∃ Y, Hid (Y2 ++ ptx 117 j = Y) := ⟨_, hidT rfl⟩
                  have HL3 : Hid (Y3.length ≤ 214) := by unfold Hid; rw [← HY3.out, List.length_append]; have := HPU.out; have := HL2.out; (try simp only [List.length_cons, List.length_nil]); omega
                  have hadd3 := fun (w' : World) => add_to Y2 (ptx 117 j) Y3 (bs (ptx 117 j)) rfl HY3.out (by have := HL2.out; omega) (by have := HPU.out; omega) w'
                  obtain ⟨Y4, HY4⟩ : ∃ Y, Hid (Y3 ++ ptx 120 i = Y) := ⟨_, hidT rfl⟩
                  have HL4 : Hid (Y4.length ≤ 216) := by unfold Hid; rw [← HY4.out, List.length_append]; have := HPX.out; have := HL3.out; (try simp only [List.length_cons, List.length_nil]); omega
                  have hadd4 := fun (w' : World) => add_to Y3 (ptx 120 i) Y4 (bs (ptx 120 i)) rfl HY4.out (by have := HL3.out; omega) (by have := HPX.out; omega) w'
                  go_wp2_with (go_at_call 31; first | (refine (letter_any 117 _ j _ _ (by rfl) (by rfl) (by omega)).mono ?_; rintro e w1 ⟨rfl, hb1⟩; have HB1 := hidT hb1) | (refine (letter_any 120 _ i _ _ (by rfl) (by rfl) (by omega)).mono ?_; rintro e w2 ⟨rfl, hb2⟩; have HB2 := hidT hb2))
                  go_roundg (7 - (m + 1))
                  case measure => omega
                  case rel =>
                    refine ⟨m + 1, rfl, by omega, by rw [HM1.out], ?_, ?_⟩
                    · rw [HSS.out, tmx_full HDD.out, ← HY4.out, ← HY3.out, ← HY2.out]; simp [HXE.out]
                    · exact Fr.below (bs := []) ((((Fr.of_below HE.out).alloc _).trans (Fr.of_below (bs := []) HB1.out) (by simp)).trans (Fr.of_below (bs := []) HB2.out) (by simp)) (Nat.le_refl _) (by simp)
              · have HDD := hidT hd
                have hd' : ¬ ((1 : Int) < (v : Int)) := by omega
                have hd0 : ¬ ((i : Int) + (j : Int) = 0) := by omega
                obtain ⟨Y3, HY3⟩ : ∃ Y, Hid (X ++ ptx 117 j = Y) := ⟨_, hidT rfl⟩
                have HL3 : Hid (Y3.length ≤ 214) := by unfold Hid; rw [← HY3.out, List.length_append]; have := HPU.out; have := HL.out; (try simp only [List.length_cons, List.length_nil]); omega
                have hadd3 := fun (w' : World) => add_to X (ptx 117 j) Y3 (bs (ptx 117 j)) rfl HY3.out (by have := HL.out; omega) (by have := HPU.out; omega) w'
                obtain ⟨Y4, HY4⟩ : ∃ Y, Hid (Y3 ++ ptx 120 i = Y) := ⟨_, hidT rfl⟩
                have HL4 : Hid (Y4.length ≤ 216) := by unfold Hid; rw [← HY4.out, List.length_append]; have := HPX.out; have := HL3.out; (try simp only [List.length_cons, List.length_nil]); omega
                have hadd4 := fun (w' : World) => add_to Y3 (ptx 120 i) Y4 (bs (ptx 120 i)) rfl HY4.out (by have := HL3.out; omega) (by have := HPX.out; omega) w'
                go_wp2_with (go_at_call 31; first | (refine (letter_any 117 _ j _ _ (by rfl) (by rfl) (by omega)).mono ?_; rintro e w1 ⟨rfl, hb1⟩; have HB1 := hidT hb1) | (refine (letter_any 120 _ i _ _ (by rfl) (by rfl) (by omega)).mono ?_; rintro e w2 ⟨rfl, hb2⟩; have HB2 := hidT hb2))
                go_roundg (7 - (m + 1))
                case measure => omega
                case rel =>
                  refine ⟨m + 1, rfl, by omega, by rw [HM1.out], ?_, ?_⟩
                  · rw [HSS.out, tmx_bare HV.out HDD.out, ← HY4.out, ← HY3.out]; simp [HXE.out]
                  · exact Fr.below (bs := []) (((Fr.of_below HE.out).trans (Fr.of_below (bs := []) HB1.out) (by simp)).trans (Fr.of_below (bs := []) HB2.out) (by simp)) (Nat.le_refl _) (by simp)
            · have hE' : (bs X).toList.isEmpty = false := by rw [bs_empty]; simp [hE]
              rw [if_neg hE] at HSS
              clear hE
              obtain ⟨Y1, HY1⟩ : ∃ Y, Hid (X ++ [43] = Y) := ⟨_, hidT rfl⟩
              have HL1 : Hid (Y1.length ≤ 211) := by unfold Hid; rw [← HY1.out, List.length_append]; have := HL.out; (try simp only [List.length_cons, List.length_nil]); omega
              have hadd1 := fun (w' : World) => add_to X [43] Y1 ⟨#[43]⟩ rfl HY1.out (by have := HL.out; omega) (by simp) w'
              by_cases hd : v > 1 ∨ i + j = 0
              · have HDD := hidT hd
                by_cases h1 : 1 < v
                · have hd' : (1 : Int) < (v : Int) := by omega
                  obtain ⟨Y2, HY2⟩ : ∃ Y, Hid (Y1 ++ [dgt v] = Y) := ⟨_, hidT rfl⟩
                  have HL2 : Hid (Y2.length ≤ 212) := by unfold Hid; rw [← HY2.out, List.length_append]; have := HL1.out; (try simp only [List.length_cons, List.length_nil]); omega
                  have hadd2 := fun (w' : World) => add_to Y1 [dgt v] Y2 (bs [dgt v]) rfl HY2.out (by have := HL1.out; omega) (by simp) w'
                  obtain ⟨Y3, HY3⟩ : ∃ Y, Hid (Y2 ++ ptx 117 j = Y) := ⟨_, hidT rfl⟩
                  have HL3 : Hid (Y3.length ≤ 214) := by unfold Hid; rw [← HY3.out, List.length_append]; have := HPU.out; have := HL2.out; (try simp only [List.length_cons, List.length_nil]); omega
                  have hadd3 := fun (w' : World) => add_to Y2 (ptx 117 j) Y3 (bs (ptx 117 j)) rfl HY3.out (by have := HL2.out; omega) (by have := HPU.out; omega) w'
                  obtain ⟨Y4, HY4⟩ : ∃ Y, Hid (Y3 ++ ptx 120 i = Y) := ⟨_, hidT rfl⟩
                  have HL4 : Hid (Y4.length ≤ 216) := by unfold Hid; rw [← HY4.out, List.length_append]; have := HPX.out; have := HL3.out; (try simp only [List.length_cons, List.length_nil]); omega
                  have hadd4 := fun (w' : World) => add_to Y3 (ptx 120 i) Y4 (bs (ptx 120 i)) rfl HY4.out (by have := HL3.out; omega) (by have := HPX.out; omega) w'
                  go_wp2_with (go_at_call 31; first | (refine (letter_any 117 _ j _ _ (by rfl) (by rfl) (by omega)).mono ?_; rintro e w1 ⟨rfl, hb1⟩; have HB1 := hidT hb1) | (refine (letter_any 120 _ i _ _ (by rfl) (by rfl) (by omega)).mono ?_; rintro e w2 ⟨rfl, hb2⟩; have HB2 := hidT hb2))
                  go_roundg (7 - (m + 1))
                  case measure => omega
                  case rel =>
                    refine ⟨m + 1, rfl, by omega, by rw [HM1.out], ?_, ?_⟩
                    · rw [HSS.out, tmx_full HDD.out, ← HY4.out, ← HY3.out, ← HY2.out, ← HY1.out]; simp
                    · exact Fr.below (bs := []) ((((Fr.of_below HE.out).alloc _).trans (Fr.of_below (bs := []) HB1.out) (by simp)).trans (Fr.of_below (bs := []) HB2.out) (by simp)) (Nat.le_refl _) (by simp)
                · have hd' : ¬ ((1 : Int) < (v : Int)) := by omega
                  have hd0 : (i : Int) + (j : Int) = 0 := by omega
                  obtain ⟨Y2, HY2⟩ : ∃ Y, Hid (Y1 ++ [dgt v] = Y) := ⟨_, hidT rfl⟩
                  have HL2 : Hid (Y2.length ≤ 212) := by unfold Hid; rw [← HY2.out, List.length_append]; have := HL1.out; (try simp only [List.length_cons, List.length_nil]); omega
                  have hadd2 := fun (w' : World) => add_to Y1 [dgt v] Y2 (bs [dgt v]) rfl HY2.out (by have := HL1.out; omega) (by simp) w'
                  obtain ⟨Y3, HY3⟩ : ∃ Y, Hid (Y2 ++ ptx 117 j = Y) := ⟨_, hidT rfl⟩
                  have HL3 : Hid (Y3.length ≤ 214) := by unfold Hid; rw [← HY3.out, List.length_append]; have := HPU.out; have := HL2.out; (try simp only [List.length_cons, List.length_nil]); omega
                  have hadd3 := fun (w' : World) => add_to Y2 (ptx 117 j) Y3 (bs (ptx 117 j)) rfl HY3.out (by have := HL2.out; omega) (by have := HPU.out; omega) w'
                  obtain ⟨Y4, HY4⟩ : ∃ Y, Hid (Y3 ++ ptx 120 i = Y) := ⟨_, hidT rfl⟩
                  have HL4 : Hid (Y4.length ≤ 216) := by unfold Hid; rw [← HY4.out, List.length_append]; have := HPX.out; have := HL3.out; (try simp only [List.length_cons, List.length_nil]); omega
                  have hadd4 := fun (w' : World) => add_to Y3 (ptx 120 i) Y4 (bs (ptx 120 i)) rfl HY4.out (by have := HL3.out; omega) (by have := HPX.out; omega) w'
                  go_wp2_with (go_at_call 31; first | (refine (letter_any 117 _ j _ _ (by rfl) (by rfl) (by omega)).mono ?_; rintro e w1 ⟨rfl, hb1⟩; have HB1 := hidT hb1) | (refine (letter_any 120 _ i _ _ (by rfl) (by rfl) (by omega)).mono ?_; rintro e w2 ⟨rfl, hb2⟩; have HB2 := hidT hb2))
                  go_roundg (7 - (m + 1))
                  case measure => omega
                  case rel =>
                    refine ⟨m + 1, rfl, by omega, by rw [HM1.out], ?_, ?_⟩
                    · rw [HSS.out, tmx_full HDD.out, ← HY4.out, ← HY3.out, ← HY2.out, ← HY1.out]; simp
                    · exact Fr.below (bs := []) ((((Fr.of_below HE.out).alloc _).trans (Fr.of_below (bs := []) HB1.out) (by simp)).trans (Fr.of_below (bs := []) HB2.out) (by simp)) (Nat.le_refl _) (by simp)
              · have HDD := hidT hd
                have hd' : ¬ ((1 : Int) < (v : Int)) := by omega
                have hd0 : ¬ ((i : Int) + (j : Int) = 0) := by omega
                obtain ⟨Y3, HY3⟩ : ∃ Y, Hid (Y1 ++ ptx 117 j = Y) := ⟨_, hidT rfl⟩
                have HL3 : Hid (Y3.length ≤ 214) := by unfold Hid; rw [← HY3.out, List.length_append]; have := HPU.out; have := HL1.out; (try simp only [List.length_cons, List.length_nil]); omega
                have hadd3 := fun (w' : World) => add_to Y1 (ptx 117 j) Y3 (bs (ptx 117 j)) rfl HY3.out (by have := HL1.out; omega) (by have := HPU.out; omega) w'
                obtain ⟨Y4, HY4⟩ : ∃ Y, Hid (Y3 ++ ptx 120 i = Y) := ⟨_, hidT rfl⟩
                have HL4 : Hid (Y4.length ≤ 216) := by unfold Hid; rw [← HY4.out, List.length_append]; have := HPX.out; have := HL3.out; (try simp only [List.length_cons, List.length_nil]); omega
                have hadd4 := fun (w' : World) => add_to Y3 (ptx 120 i) Y4 (bs (ptx 120 i)) rfl HY4.out (by have := HL3.out; omega) (by have := HPX.out; omega) w'
                go_wp2_with (go_at_call 31; first | (refine (letter_any 117 _ j _ _ (by rfl) (by rfl) (by omega)).mono ?_; rintro e w1 ⟨rfl, hb1⟩; have HB1 := hidT hb1) | (refine (letter_any 120 _ i _ _ (by rfl) (by rfl) (by omega)).mono ?_; rintro e w2 ⟨rfl, hb2⟩; have HB2 := hidT hb2))
                go_roundg (7 - (m + 1))
                case measure => omega
                case rel =>
                  refine ⟨m + 1, rfl, by omega, by rw [HM1.out], ?_, ?_⟩
                  · rw [HSS.out, tmx_bare HV.out HDD.out, ← HY4.out, ← HY3.out, ← HY1.out]; simp
                  · exact Fr.below (bs := []) (((Fr.of_below HE.out).trans (Fr.of_below (bs := []) HB1.out) (by simp)).trans (Fr.of_below (bs := []) HB2.out) (by simp)) (Nat.le_refl _) (by simp)
        · have e7 : m = 7 := by omega
          subst e7
          have HK1 : Hid ((((5 - (a + 1) : Nat) : Int) - 1) = (i : Int) - 1) := by unfold Hid; have := HI.out; omega
          go_wp2
          go_roundg (5 - (a + 1))
          case measure => omega
          case rel => exact ⟨a + 1, rfl, by omega, by rw [HK1.out], by rw [show (a + 1) * 7 = a * 7 + 7 by omega], HE⟩
    · have e5 : a = 5 := by omega
      subst e5
      have HT : Hid (txt p = if wrt p (5 * 7) = [] then [48] else wrt p (5 * 7)) := rfl
      generalize hwX : wrt p (5 * 7) = X at *
      by_cases hE : X = []
      · have hE' : (bs X).toList.isEmpty = true := by rw [bs_empty, hE]; rfl
        rw [if_pos hE] at HT
        clear hE hwX
        go_wp2
        go_ret
        exact ⟨by rw [HT.out]; rfl, Fr.below (bs := []) ((Fr.of_below BW.out).trans (Fr.of_below (bs := []) HD.out) (by simp)) (Nat.le_refl _) (by simp)⟩
      · have hE' : (bs X).toList.isEmpty = false := by rw [bs_empty]; simp [hE]
        rw [if_neg hE] at HT
        clear hE hwX
        go_wp2
        go_ret
        exact ⟨by rw [HT.out]; rfl, Fr.below (bs := []) ((Fr.of_below BW.out).trans (Fr.of_below (bs := []) HD.out) (by simp)) (Nat.le_refl _) (by simp)⟩
end Go.Proofs.YthlmgpllapccfaaDoor
/- PLAIN: what a polynomial comes to: from the top (the program), by powers (the document). -/
namespace Go.Proofs.YthlmgpllapccfaaDoor

/-- From the top, k of n numbers. -/
def horn (c : Nat → Nat) (n u : Nat) : Nat → Nat
  | 0 => 0
  | k + 1 => (horn c n u k * u + c (n - 1 - k)) % 7
/-- By powers, k numbers. -/
def pows (c : Nat → Nat) (u : Nat) : Nat → Nat
  | 0 => 0
  | k + 1 => (pows c u k + c k * pw7 u k) % 7
theorem horn_lt (c : Nat → Nat) (n u k : Nat) : horn c n u k < 7 := by cases k <;> simp [horn]; omega
theorem pows_lt (c : Nat → Nat) (u k : Nat) : pows c u k < 7 := by cases k <;> simp [pows]; omega

/-- The sum itself. -/
def sumI (c : Nat → Nat) (u : Nat) : Nat → Nat
  | 0 => 0
  | k + 1 => sumI c u k + c k * u ^ k
theorem sumI_front (u : Nat) : ∀ (k : Nat) (c : Nat → Nat), sumI c u (k + 1) = c 0 + u * sumI (fun j => c (j + 1)) u k
  | 0, c => by simp [sumI]
  | k + 1, c => by
    rw [sumI, sumI_front u k c, sumI, Nat.mul_add, ← Nat.add_assoc]
    congr 1
    rw [Nat.pow_succ, Nat.mul_comm (u ^ k) u, ← Nat.mul_assoc, ← Nat.mul_assoc, Nat.mul_comm (c (k + 1)) u]
theorem pw7_pow (u : Nat) : ∀ k, pw7 u k = u ^ k % 7
  | 0 => rfl
  | k + 1 => by rw [pw7, pw7_pow u k, Nat.pow_succ, Nat.mod_mul_mod]
theorem pows_sum (c : Nat → Nat) (u : Nat) : ∀ k, pows c u k = sumI c u k % 7
  | 0 => rfl
  | k + 1 => by
    rw [pows, pows_sum c u k, pw7_pow, sumI]
    rw [Nat.add_mod (sumI c u k % 7), Nat.mod_mod, Nat.mul_mod_mod, ← Nat.add_mod]
theorem horn_sum (c : Nat → Nat) (n u : Nat) : ∀ k, k ≤ n → horn c n u k = sumI (fun j => c (n - k + j)) u k % 7
  | 0, _ => rfl
  | k + 1, h => by
    rw [horn, horn_sum c n u k (by omega), sumI_front]
    have e : (fun j => c (n - (k + 1) + (j + 1))) = fun j => c (n - k + j) := by
      funext j; congr 1; omega
    rw [e, show n - (k + 1) + 0 = n - 1 - k by omega, Nat.add_mod, Nat.mod_mul_mod, ← Nat.add_mod, Nat.add_comm, Nat.mul_comm u]
theorem horn_pows (c : Nat → Nat) (n u : Nat) : horn c n u n = pows c u n := by
  rw [horn_sum c n u n (Nat.le_refl _), pows_sum]
  congr 1
  have e : (fun j => c (n - n + j)) = c := by funext j; congr 1; omega
  rw [e]

/-- What the polynomial p comes to. -/
def valP (p : List Nat) (u x : Nat) : Nat := horn (fun i => horn (fun j => p.getD (i * 7 + j) 0) 7 u 7) 5 x 5
def lineR (p : List Nat) (u : Nat) : List Nat := [pows (fun j => p.getD (0 * 7 + j) 0) u 7, pows (fun j => p.getD (1 * 7 + j) 0) u 7, pows (fun j => p.getD (2 * 7 + j) 0) u 7, pows (fun j => p.getD (3 * 7 + j) 0) u 7, pows (fun j => p.getD (4 * 7 + j) 0) u 7]
def valL (l : List Nat) (x : Nat) : Nat := pows (fun i => l.getD i 0) x 5
theorem pows_congr {c d : Nat → Nat} {u : Nat} : ∀ k, (∀ j, j < k → c j = d j) → pows c u k = pows d u k
  | 0, _ => rfl
  | k + 1, h => by rw [pows, pows, pows_congr k (fun j hj => h j (by omega)), h k (by omega)]
theorem lineR_get (p : List Nat) (u i : Nat) (h : i < 5) : (lineR p u).getD i 0 = pows (fun j => p.getD (i * 7 + j) 0) u 7 := by
  match i, h with
  | 0, _ => rfl
  | 1, _ => rfl
  | 2, _ => rfl
  | 3, _ => rfl
  | 4, _ => rfl
theorem val_same (p : List Nat) (u x : Nat) : valL (lineR p u) x = valP p u x := by
  unfold valP valL
  rw [horn_pows]
  exact pows_congr 5 (fun i hi => by rw [lineR_get p u i hi, horn_pows])
end Go.Proofs.YthlmgpllapccfaaDoor
/- THE DOCUMENT's worth and at. -/
namespace Go.Proofs.YthlmgpllapccfaaDoor
open Go.RowKit

def lst (g : Nat → Nat) : List Nat := [g 0, g 1, g 2, g 3, g 4]
theorem lst_get (g : Nat → Nat) {i : Nat} (h : i < 5) : (lst g).getD i 0 = g i := by
  match i, h with
  | 0, _ => rfl
  | 1, _ => rfl
  | 2, _ => rfl
  | 3, _ => rfl
  | 4, _ => rfl
theorem lst_set (g d : Nat → Nat) {k v : Nat} (hk : k < 5) (hv : d k = v) (ho : ∀ i, i ≠ k → d i = g i) : (lst g).set k v = lst d := by
  subst hv
  unfold lst
  match k, hk with
  | 0, _ => simp [ho 1, ho 2, ho 3, ho 4]
  | 1, _ => simp [ho 0, ho 2, ho 3, ho 4]
  | 2, _ => simp [ho 0, ho 1, ho 3, ho 4]
  | 3, _ => simp [ho 0, ho 1, ho 2, ho 4]
  | 4, _ => simp [ho 0, ho 1, ho 2, ho 3]
theorem lst_congr {g d : Nat → Nat} (h : ∀ i, i < 5 → g i = d i) : lst g = lst d := by
  unfold lst; rw [h 0 (by omega), h 1 (by omega), h 2 (by omega), h 3 (by omega), h 4 (by omega)]
theorem size_line {l : List Nat} (hl : l.length = 5) : (Tryd.prog.info? 47).map (·.size) = some (pv l).size := by rw [pv_size, hl]; kernel_rfl

set_option maxRecDepth 100000 in
set_option maxHeartbeats 2000000 in
theorem worth_any (l : List Nat) (b : Nat) (B : Int) (w : World) (hl : l.length = 5) (hl7 : ∀ i, l.getD i 0 < 7) (hB : B = b) (hb : b < 7) :
    Calls Tryd.prog 20 #[.agg (pv l), .int .i64 B] w fun e w' => e = .returned (.int .i64 (valL l b)) ∧ Below w.heap.size w w' := by
  subst hB
  unfold valL
  go_enter Tryd.func20, Tryd.ntmps20
  go_wp2
  refine wp_forget (fun W => Blk W w.heap.size (pv l) 47 ∧ Below w.heap.size w W) ⟨Blk.new w _ _, by go_grown⟩ ?_
  rintro W ⟨b1, hbel⟩
  have B1 := hidV b1
  have BB := hidV hbel
  clear b1 hbel
  go_loopg [5, 6] 5 (fun gm v5 v6 wr => ∃ k : Nat, gm = 5 - k ∧ k ≤ 5 ∧ v6 = .int .i64 k ∧ v5 = .int .i64 (pows (fun i => l.getD i 0) b k) ∧ Hid (Blk wr w.heap.size (pv l) 47 ∧ Below w.heap.size w wr))
  case atStart => exact ⟨0, rfl, by omega, rfl, rfl, ⟨B1.out, BB.out⟩⟩
  case round =>
    obtain ⟨k, hgm, hk, rfl, rfl, HD⟩ := hrel
    have B2 := hidV HD.out.1
    have BB2 := hidV HD.out.2
    clear HD B1 BB
    clear W
    have hlt := pows_lt (fun i => l.getD i 0) b k
    by_cases h5 : k < 5
    · have HS : Hid (pows (fun i => l.getD i 0) b (k + 1) = (pows (fun i => l.getD i 0) b k + l.getD k 0 * pw7 b k) % 7) := rfl
      generalize pows (fun i => l.getD i 0) b k = G at *
      have hq : k < l.length := by omega
      have hcell := pv_get hq
      have hv7 := hl7 k
      generalize l.getD k 0 = v at *
      have hpw := pw7_lt b k
      have hpb := prod_bd hv7 hpw
      have i0 : (0 : Int) ≤ (k : Int) := by omega
      have i1 : (k : Int) < 5 := by omega
      have hc : wr.cell? ⟨w.heap.size, k, none⟩ = some (.int .i64 v) := by rw [B2.out.cell]; exact hcell
      clear hcell
      go_wp2
      go_quiet ((go_at_call 34; exact Calls.quiet_of_same (raised_any b k _ _ _ rfl rfl hb (by omega))))
      go_wp2
      go_roundg (5 - (k + 1))
      case measure => omega
      case rel => exact ⟨k + 1, rfl, by omega, by go_num, by rw [HS.out]; simp, ⟨B2.out, below_drewN BB2.out _⟩⟩
    · have e5 : k = 5 := by omega
      subst e5
      go_wp2
      go_ret
      exact ⟨rfl, BB2.out⟩
end Go.Proofs.YthlmgpllapccfaaDoor
/- THE DOCUMENT's at. -/
namespace Go.Proofs.YthlmgpllapccfaaDoor
open Go.RowKit

def rowN (p : List Nat) (i : Nat) : Nat → Nat := fun j => p.getD (i * 7 + j) 0
def atG (p : List Nat) (a k m i : Nat) : Nat := if i < k then pows (rowN p i) a 7 else if i = k then pows (rowN p i) a m else 0
theorem atG_lt (p : List Nat) (a k m i : Nat) : atG p a k m i < 7 := by
  unfold atG; split
  · exact pows_lt _ _ _
  · split
    · exact pows_lt _ _ _
    · omega
theorem atG_roll (p : List Nat) (a k : Nat) : lst (atG p a k 7) = lst (atG p a (k + 1) 0) := by
  apply lst_congr
  intro i _
  unfold atG
  by_cases h1 : i < k
  · rw [if_pos h1, if_pos (by omega)]
  · rw [if_neg h1]
    by_cases h2 : i = k
    · rw [if_pos h2, if_pos (by omega)]
    · rw [if_neg h2, if_neg (by omega)]
      split <;> simp [pows]
theorem atG_step (p : List Nat) (a k m : Nat) (hk : k < 5) : (lst (atG p a k m)).set k (pows (rowN p k) a (m + 1)) = lst (atG p a k (m + 1)) := by
  apply lst_set _ _ hk
  · unfold atG; rw [if_neg (by omega), if_pos rfl]
  · intro i hi; unfold atG; simp [hi]
theorem atG_end (p : List Nat) (a : Nat) : lst (atG p a 5 0) = lineR p a := rfl
theorem atG_zero (p : List Nat) (a : Nat) : lst (atG p a 0 0) = [0, 0, 0, 0, 0] := rfl
theorem atG_at (p : List Nat) (a k m : Nat) (hk : k < 5) : (lst (atG p a k m)).getD k 0 = pows (rowN p k) a m := by
  rw [lst_get _ hk]; unfold atG; rw [if_neg (by omega), if_pos rfl]
theorem lst_len (g : Nat → Nat) : (lst g).length = 5 := rfl

set_option maxRecDepth 100000 in
set_option maxHeartbeats 2000000 in
theorem at_any (p : List Nat) (a : Nat) (A : Int) (w : World) (hp : Good p) (hA : A = a) (ha : a < 7) :
    Calls Tryd.prog 21 #[.agg (pv p), .int .i64 A] w fun e w' => e = .returned (.agg (pv (lineR p a))) ∧ Below w.heap.size w w' := by
  subst hA
  rw [← atG_end]
  go_enter Tryd.func21, Tryd.ntmps21
  go_wp2
  refine wp_forget (fun W => Blk W w.heap.size (pv p) 41 ∧ Blk W (w.heap.size + 1) (pv [0, 0, 0, 0, 0]) 47 ∧ Blk W (w.heap.size + 1 + 1) (pv [0, 0, 0, 0, 0]) 47 ∧ Below w.heap.size w W) ⟨Blk.alloc (Blk.alloc (Blk.new w _ _) _) _, Blk.alloc (Blk.newAt _ _ _ (by simp)) _, Blk.newAt _ _ _ (by simp), by go_grown⟩ ?_
  rintro W ⟨b1, b2, b3, hbel⟩
  have HH := hidV (And.intro b1 (And.intro b2 (And.intro b3 hbel)))
  clear b1 b2 b3 hbel
  go_loopg [6] 5 (fun gm v6 wr => ∃ k : Nat, gm = 5 - k ∧ k ≤ 5 ∧ v6 = .int .i64 k ∧ Hid (Blk wr w.heap.size (pv p) 41 ∧ Blk wr (w.heap.size + 1) (pv [0, 0, 0, 0, 0]) 47 ∧ Blk wr (w.heap.size + 1 + 1) (pv (lst (atG p a k 0))) 47 ∧ Below w.heap.size w wr))
  case atStart => exact ⟨0, rfl, by omega, rfl, HH⟩
  case round =>
    obtain ⟨k, hgm, hk, rfl, HD⟩ := hrel
    clear HH W
    by_cases h5 : k < 5
    · have i0 : (0 : Int) ≤ (k : Int) := by omega
      have i1 : (k : Int) < 5 := by omega
      go_wp2
      go_loopg [7] 7 (fun gm v7 ws => ∃ m : Nat, gm = 7 - m ∧ m ≤ 7 ∧ v7 = .int .i64 m ∧ Hid (Blk ws w.heap.size (pv p) 41 ∧ Blk ws (w.heap.size + 1) (pv [0, 0, 0, 0, 0]) 47 ∧ Blk ws (w.heap.size + 1 + 1) (pv (lst (atG p a k m))) 47 ∧ Below w.heap.size w ws))
      case atStart => exact ⟨0, rfl, by omega, rfl, HD⟩
      case round =>
        obtain ⟨m, hgm2, hm, rfl, HE⟩ := hrel
        clear HD
        by_cases h7 : m < 7
        · have HS : Hid (pows (rowN p k) a (m + 1) = (pows (rowN p k) a m + rowN p k m * pw7 a m) % 7) := rfl
          have HST := hidV (atG_step p a k m h5)
          have hlt := pows_lt (rowN p k) a m
          have hg5 := atG_at p a k m h5
          have hq1 : k < (lst (atG p a k m)).length := by rw [lst_len]; exact h5
          have hcell1 := pv_get hq1
          rw [hg5] at hcell1
          have hq : k * 7 + m < p.length := by rw [hp.1]; omega
          have hcell := pv_get hq
          have hv7 : rowN p k m < 7 := hp.2 (k * 7 + m)
          have hc : wr.cell? ⟨w.heap.size, k * 7 + m, none⟩ = some (.int .i64 (rowN p k m)) := by rw [HE.out.1.cell]; exact hcell
          have hc1 : wr.cell? ⟨w.heap.size + 1 + 1, k, none⟩ = some (.int .i64 (pows (rowN p k) a m)) := by rw [HE.out.2.2.1.cell]; exact hcell1
          have hc2 : wr.frozen? ⟨w.heap.size + 1 + 1, k, none⟩ = false := HE.out.2.2.1.frozen _
          have hpw := pw7_lt a m
          have hpb := prod_bd hv7 hpw
          have j0 : (0 : Int) ≤ (m : Int) := by omega
          have j1 : (m : Int) < 7 := by omega
          clear hcell hcell1 hg5 hq1
          generalize rowN p k m = v at *
          generalize pows (rowN p k) a m = G at *
          go_wp2
          refine region_quiet_tail 16 (by kernel_rfl) (by kernel_rfl) ?_
          simp only [List.take_succ_cons, List.take_zero, List.drop_succ_cons, List.drop_zero]
          repeat (first | go_big_quiet_step ((go_at_call 34; exact Calls.quiet_of_same (raised_any a m _ _ _ rfl rfl ha (by omega)))) | quiet_step ((go_at_call 34; exact Calls.quiet_of_same (raised_any a m _ _ _ rfl rfl ha (by omega)))))
          refine wpQuiet_nil ?_
          rintro _ ⟨nq, rfl⟩
          go_wp2
          go_roundg (7 - (m + 1))
          case measure => omega
          case rel =>
            refine ⟨m + 1, rfl, by omega, by go_num, ⟨?_, ?_, ?_, ?_⟩⟩
            · exact Blk.setOther (by exact HE.out.1) _ _ (by show ¬ w.heap.size = w.heap.size + 1 + 1; omega)
            · exact Blk.setOther (by exact HE.out.2.1) _ _ (by show ¬ w.heap.size + 1 = w.heap.size + 1 + 1; omega)
            · rw [← HST.out, HS.out]
              exact Blk.putN (by exact HE.out.2.2.1) _ _ _ (by simp)
            · exact Below.setCell (below_drewN HE.out.2.2.2 nq) (by show w.heap.size ≤ w.heap.size + 1 + 1; omega) _
        · have e7 : m = 7 := by omega
          subst e7
          go_wp2
          go_roundg (5 - (k + 1))
          case measure => omega
          case rel => exact ⟨k + 1, rfl, by omega, by go_num, by rw [← atG_roll]; exact HE⟩
    · have e5 : k = 5 := by omega
      subst e5
      have hsz := size_line (lst_len (atG p a 5 0))
      go_wp2_with (first | (refine wpList_load_row (by rfl) 47 _ (by rfl) (w.heap.size + 1 + 1) (by rfl) 47 (pv (lst (atG p a 5 0))) (0, 0) _ (by exact HD.out.2.2.1) Tryd.underlying47 (by rfl) hsz ?_) | (refine wpList_store_mid (by rfl) 47 _ _ (by rfl) (w.heap.size + 1) 0 (pv (lst (atG p a 5 0))) (by rfl) (by rfl) (by exact Blk.there HD.out.2.1 (by rw [pv_size, pv_size, lst_len]; exact Nat.le_refl _)) hsz (pv_one _) ?_))
      refine bodyPost_ret (results_cell_row Tryd.results21 _ _ (w.heap.size + 1) 47 (pv (lst (atG p a 5 0))) (0, 0) _ (by rfl) (Blk.setAll (by exact HD.out.2.1) _ (by rw [pv_size, pv_size, lst_len]; rfl)) Tryd.underlying47 rfl hsz) rfl ⟨rfl, ?_⟩
      exact Below.setCells (by exact HD.out.2.2.2) _ _ _ (by omega)
end Go.Proofs.YthlmgpllapccfaaDoor
/- THE PROGRAM's POLYNOMIALS: Plus. -/
namespace Go.Proofs.YthlmgpllapccfaaDoor
open Go.RowKit

set_option maxRecDepth 100000 in
set_option maxHeartbeats 1000000 in
theorem Plus_any (p : List Nat) (u x a : Nat) (N : Int) (w : World) (hp : Good p) (hu : u ≤ 6) (hx : x ≤ 4) (hN : N % 7 = ((a % 7 : Nat) : Int)) :
    Calls Tryd.prog 41 #[.agg (pv p), .agg #[.int .i64 N, .int .i64 u, .int .i64 x]] w fun e w' => e = .returned (.agg (pv (plus p u x a))) ∧ Below w.heap.size w w' := by
  have hx0 : (0 : Int) ≤ (x : Int) := by omega
  have hx1 : (x : Int) < 5 := by omega
  have hu0 : (0 : Int) ≤ (u : Int) := by omega
  have hu1 : (u : Int) < 7 := by omega
  have hq : x * 7 + u < p.length := by rw [hp.1]; omega
  have hcell := pv_get hq
  have hv7 := hp.2 (x * 7 + u)
  have HV : Hid (plus p u x a = p.set (x * 7 + u) ((p.getD (x * 7 + u) 0 + a) % 7)) := by unfold Hid plus; rw [Nat.mul_comm 7 x]
  generalize p.getD (x * 7 + u) 0 = v at *
  go_enter Tryd.func41, Tryd.ntmps41
  go_wp2
  refine wp_forget (fun W => Blk W w.heap.size (pv p) 37 ∧ Blk W (w.heap.size + 1) #[.int .i64 N, .int .i64 u, .int .i64 x] 65 ∧ Blk W (w.heap.size + 1 + 1) (pv zeros) 37 ∧ Below w.heap.size w W) ⟨Blk.alloc (Blk.alloc (Blk.new w _ _) _) _, Blk.alloc (Blk.newAt _ _ _ (by simp)) _, Blk.newAt _ _ _ (by simp), by go_grown⟩ ?_
  rintro W ⟨b1, b2, b3, hbel⟩
  have B1 : Hid (Blk W w.heap.size (pv p) 37) := b1
  have B3 : Hid (Blk W (w.heap.size + 1 + 1) (pv zeros) 37) := b3
  obtain ⟨e0, e1, e2⟩ := b2.cells3
  have e3 : W.cell? ⟨w.heap.size, x * 7 + u, none⟩ = some (.int .i64 v) := by rw [b1.cell]; exact hcell
  have e4 : W.frozen? ⟨w.heap.size, x * 7 + u, none⟩ = false := b1.frozen _
  clear b1 b2 b3 hcell
  refine region_quiet_tail 18 (by kernel_rfl) (by kernel_rfl) ?_
  simp only [List.take_succ_cons, List.take_zero, List.drop_succ_cons, List.drop_zero]
  repeat (first | go_big_quiet_step ((go_at_call 33; exact Calls.quiet_of_same (Mod_any _ _))) | quiet_step ((go_at_call 33; exact Calls.quiet_of_same (Mod_any _ _))))
  refine wpQuiet_nil ?_
  rintro _ ⟨nq, rfl⟩
  have hg : Good (plus p u x a) := plus_good hp u x a
  go_wp2_with (first | (refine wpList_load_row (by rfl) 37 _ (by rfl) w.heap.size (by rfl) 37 (pv (plus p u x a)) (0, 0) _ (by rw [HV.out]; exact Blk.putN B1.out _ _ _ (by omega)) Tryd.underlying37 (by rfl) (size_poly hg) ?_) | (refine wpList_store_mid (by rfl) 37 _ _ (by rfl) (w.heap.size + 1 + 1) 0 (pv (plus p u x a)) (by rfl) (by rfl) (by exact Blk.there (Blk.setOther B3.out _ _ (by show ¬ w.heap.size + 1 + 1 = w.heap.size; omega)) (by rw [pv_size, pv_size, hg.1]; simp [zeros])) (size_poly hg) (pv_one _) ?_))
  refine bodyPost_ret (results_cell_row Tryd.results41 _ _ (w.heap.size + 1 + 1) 37 (pv (plus p u x a)) (0, 0) _ (by rfl) (Blk.setAll (Blk.setOther (by exact B3.out) _ _ (by show ¬ w.heap.size + 1 + 1 = w.heap.size; omega)) _ (by rw [pv_size, pv_size, hg.1]; rfl)) Tryd.underlying37 rfl (size_poly hg)) rfl ⟨rfl, ?_⟩
  exact Below.setCells (Below.setCell (below_drewN hbel nq) (Nat.le_refl _) _) _ _ _ (by omega)
end Go.Proofs.YthlmgpllapccfaaDoor
/- PLAIN: polynomials modulo 7, ideals, division. Nothing of the program. -/
namespace Go.Proofs.YthlmgpllapccfaaDoor

/-- The same, modulo 7. -/
def Eqv (p q : Nat → Int) : Prop := ∀ n, (p n - q n) % 7 = 0
theorem Eqv.refl (p : Nat → Int) : Eqv p p := fun n => by simp
theorem Eqv.symm {p q : Nat → Int} (h : Eqv p q) : Eqv q p := fun n => by have := h n; omega
theorem Eqv.trans {p q r : Nat → Int} (h : Eqv p q) (k : Eqv q r) : Eqv p r := fun n => by have := h n; have := k n; omega

/-- What is closed under sums and multiples. -/
structure Idl (I : (Nat → Int) → Prop) : Prop where
  same : ∀ p q, Eqv p q → I p → I q
  zero : I (fun _ => 0)
  add : ∀ p q, I p → I q → I (fun n => p n + q n)
  smul : ∀ (c : Int) p, I p → I (fun n => c * p n)
  shift : ∀ p, I p → I (fun n => if n = 0 then 0 else p (n - 1))
/-- Times x to the s. -/
def shK (s : Nat) (p : Nat → Int) : Nat → Int := fun n => if n < s then 0 else p (n - s)
theorem Idl.shK {I : (Nat → Int) → Prop} (h : Idl I) {p : Nat → Int} (hp : I p) : ∀ s, I (shK s p)
  | 0 => h.same _ _ (fun n => by simp [Go.Proofs.YthlmgpllapccfaaDoor.shK]) hp
  | s + 1 => by
    refine h.same _ _ (fun n => ?_) (h.shift _ (h.shK hp s))
    unfold Go.Proofs.YthlmgpllapccfaaDoor.shK
    by_cases h0 : n = 0
    · subst h0; simp
    · rw [if_neg h0]
      by_cases h1 : n - 1 < s
      · rw [if_pos h1, if_pos (by omega)]; rfl
      · rw [if_neg h1, if_neg (by omega), show n - 1 - s = n - (s + 1) by omega]; simp
/-- One less a multiple of the other. -/
theorem Idl.less {I : (Nat → Int) → Prop} (h : Idl I) {p q r : Nat → Int} (f : Int) (s : Nat) (hr : Eqv r (fun n => q n - f * Go.Proofs.YthlmgpllapccfaaDoor.shK s p n)) (hp : I p) : I q ↔ I r := by
  have hm := h.shK hp s
  constructor
  · intro hq
    exact h.same _ _ (fun n => by have := hr n; dsimp only at this ⊢; rw [Int.neg_mul]; omega) (h.add _ _ hq (h.smul (-f) _ hm))
  · intro hq
    exact h.same _ _ (fun n => by have := hr n; dsimp only at this ⊢; omega) (h.add _ _ hq (h.smul f _ hm))

def sg (f : Nat → Int) : Nat → Int
  | 0 => 0
  | m + 1 => sg f m + f m
theorem sg_add (f g : Nat → Int) : ∀ m, sg (fun k => f k + g k) m = sg f m + sg g m
  | 0 => rfl
  | m + 1 => by simp only [sg]; rw [sg_add f g m]; omega
theorem sg_mul (c : Int) (f : Nat → Int) : ∀ m, sg (fun k => c * f k) m = c * sg f m
  | 0 => by simp [sg]
  | m + 1 => by simp only [sg]; rw [sg_mul c f m, Int.mul_add]
theorem sg_congr {f g : Nat → Int} : ∀ m, (∀ k, k < m → f k = g k) → sg f m = sg g m
  | 0, _ => rfl
  | m + 1, h => by simp only [sg]; rw [sg_congr m (fun k hk => h k (by omega)), h m (by omega)]
theorem sg_zero {f : Nat → Int} : ∀ m, (∀ k, k < m → f k = 0) → sg f m = 0
  | 0, _ => rfl
  | m + 1, h => by simp only [sg]; rw [sg_zero m (fun k hk => h k (by omega)), h m (by omega)]; rfl
theorem sg_front (f : Nat → Int) : ∀ m, sg f (m + 1) = f 0 + sg (fun k => f (k + 1)) m
  | 0 => by simp [sg]
  | m + 1 => by rw [sg, sg_front f m]; simp only [sg]; omega
theorem sg_mod {f g : Nat → Int} : ∀ m, (∀ k, k < m → (f k - g k) % 7 = 0) → (sg f m - sg g m) % 7 = 0
  | 0, _ => by simp [sg]
  | m + 1, h => by
    have h1 := sg_mod m (fun k hk => h k (by omega))
    have h2 := h m (by omega)
    simp only [sg]; omega

/-- The product. -/
def cnv (c p : Nat → Int) (n : Nat) : Int := sg (fun k => c k * p (n - k)) (n + 1)
/-- p divides q. -/
def Dvd (p q : Nat → Int) : Prop := ∃ (c : Nat → Int) (N : Nat), (∀ k, N ≤ k → c k = 0) ∧ Eqv q (cnv c p)

theorem Dvd.refl (p : Nat → Int) : Dvd p p := by
  refine ⟨fun k => if k = 0 then 1 else 0, 1, fun k hk => by dsimp only; rw [if_neg (by omega)], fun n => ?_⟩
  unfold cnv
  rw [sg_front, sg_zero n (fun k _ => by simp)]
  simp
theorem Dvd.idl (p : Nat → Int) : Idl (Dvd p) where
  same := fun a b h ⟨c, N, h1, h2⟩ => ⟨c, N, h1, h.symm.trans h2⟩
  zero := ⟨fun _ => 0, 0, fun _ _ => rfl, fun n => by unfold cnv; rw [sg_zero _ (fun k _ => by simp)]; rfl⟩
  add := fun a b ⟨c, N, h1, h2⟩ ⟨d, M, k1, k2⟩ => ⟨fun k => c k + d k, N + M, fun k hk => by dsimp only; rw [h1 k (by omega), k1 k (by omega)]; rfl, fun n => by
    have e : cnv (fun k => c k + d k) p n = cnv c p n + cnv d p n := by
      unfold cnv
      rw [← sg_add]
      exact sg_congr _ (fun k _ => by rw [Int.add_mul])
    dsimp only
    rw [e]
    have := h2 n
    have := k2 n
    omega⟩
  smul := fun f a ⟨c, N, h1, h2⟩ => ⟨fun k => f * c k, N, fun k hk => by dsimp only; rw [h1 k hk]; simp, fun n => by
    have e : cnv (fun k => f * c k) p n = f * cnv c p n := by
      unfold cnv
      rw [← sg_mul]
      exact sg_congr _ (fun k _ => by rw [Int.mul_assoc])
    dsimp only
    rw [e, ← Int.mul_sub, Int.mul_emod, h2 n]
    simp⟩
  shift := fun a ⟨c, N, h1, h2⟩ => ⟨fun k => if k = 0 then 0 else c (k - 1), N + 1, fun k hk => by dsimp only; rw [if_neg (by omega)]; exact h1 _ (by omega), fun n => by
    have e : cnv (fun k => if k = 0 then 0 else c (k - 1)) p n = if n = 0 then 0 else cnv c p (n - 1) := by
      unfold cnv
      rw [sg_front]
      by_cases h0 : n = 0
      · subst h0; simp [sg]
      · rw [if_neg h0, show n - 1 + 1 = n by omega]
        have : sg (fun k => (if k + 1 = 0 then 0 else c (k + 1 - 1)) * p (n - (k + 1))) n = sg (fun k => c k * p (n - 1 - k)) n := sg_congr _ (fun k hk => by
          rw [if_neg (by omega), show k + 1 - 1 = k by omega, show n - (k + 1) = n - 1 - k by omega])
        simp only [Nat.add_eq_zero_iff, Nat.succ_ne_self, and_false, if_false, if_true, Int.zero_mul, Int.zero_add] at this ⊢
        exact this
    dsimp only
    rw [e]
    split
    · rfl
    · exact h2 _⟩

/-- What a monic polynomial of the degree d divides, and is of a lesser degree, is 0. -/
theorem Dvd.small {p q : Nat → Int} {d : Nat} (h : Dvd p q) (h1 : p d = 1) (h2 : ∀ n, d < n → p n = 0) (h3 : ∀ n, d ≤ n → q n % 7 = 0) : ∀ n, q n % 7 = 0 := by
  obtain ⟨c, N, hN, hq⟩ := h
  have key : ∀ m k, N ≤ k + m → c k % 7 = 0 := by
    intro m
    induction m with
    | zero => intro k hk; rw [hN k (by omega)]; rfl
    | succ m ih =>
      intro k hk
      have e := hq (k + d)
      have e3 := h3 (k + d) (by omega)
      have s : (cnv c p (k + d) - sg (fun j => if j = k then c k else 0) (k + d + 1)) % 7 = 0 := by
        refine sg_mod _ (fun j hj => ?_)
        by_cases hjk : j = k
        · subst hjk
          rw [if_pos rfl, show j + d - j = d by omega, h1]; simp
        · rw [if_neg hjk]
          by_cases hlt : j < k
          · rw [h2 _ (by omega)]; simp
          · have := ih j (by omega)
            rw [Int.sub_zero, Int.mul_emod, this]; simp
      have t : sg (fun j => if j = k then c k else 0) (k + d + 1) = c k := by
        have : ∀ m, sg (fun j => if j = k then c k else 0) m = if k < m then c k else 0 := by
          intro m
          induction m with
          | zero => simp [sg]
          | succ m ih2 =>
            rw [sg, ih2]
            by_cases h : k < m
            · rw [if_pos h, if_neg (by omega), if_pos (by omega)]; omega
            · rw [if_neg h]
              by_cases h4 : m = k
              · rw [if_pos h4, if_pos (by omega)]; omega
              · rw [if_neg h4, if_neg (by omega)]; rfl
        rw [this, if_pos (by omega)]
      rw [t] at s
      omega
  intro n
  have e := hq n
  have s : (cnv c p n - sg (fun _ => 0) (n + 1)) % 7 = 0 := by
    refine sg_mod _ (fun j _ => ?_)
    have := key N j (by omega)
    rw [Int.sub_zero, Int.mul_emod, this]; simp
  rw [sg_zero _ (fun _ _ => rfl)] at s
  omega
end Go.Proofs.YthlmgpllapccfaaDoor
