/- PLAIN: what is written is read back: tokens at a place of the text. -/
import Derived.Test.YtaajdcaciofmaaaDoorText1
namespace Go.Proofs.YtaajdcaciofmaaaDoor

/-- From byte i on the text is R. -/
def Sfx (s : ByteArray) (i : Nat) (R : List UInt8) : Prop := s.data.toList.drop i = R ∧ i ≤ s.size
theorem Sfx.len {s : ByteArray} {i : Nat} {R : List UInt8} (h : Sfx s i R) : i + R.length = s.size := by
  have e := congrArg List.length h.1
  rw [List.length_drop] at e
  have : s.data.toList.length = s.size := by rw [Array.length_toList]; rfl
  have := h.2
  omega
theorem Sfx.cons {s : ByteArray} {i : Nat} {c : UInt8} {R : List UInt8} (h : Sfx s i (c :: R)) : byt s i = c.toNat ∧ Sfx s (i + 1) R := by
  have hl := h.len
  simp only [List.length_cons] at hl
  have hi : i < s.size := by omega
  have h1 := congrArg (fun l : List UInt8 => l[0]?) h.1
  have h2 := congrArg (fun l : List UInt8 => l.drop 1) h.1
  simp only [List.getElem?_drop, Nat.add_zero, List.getElem?_cons_zero] at h1
  simp only [List.drop_drop, List.drop_succ_cons, List.drop_zero] at h2
  refine ⟨?_, h2, by omega⟩
  rw [byt_lt hi]
  have : s.data.toList[i]? = some (s[i]'hi) := by
    rw [Array.getElem?_toList, Array.getElem?_eq_getElem hi]; rfl
  rw [this] at h1
  rw [Option.some.inj h1]
theorem Sfx.nil {s : ByteArray} {i : Nat} (h : Sfx s i []) : byt s i = 256 := by
  have hl := h.len
  simp only [List.length_nil] at hl
  exact byt_ge (by omega)
/-- No digit ahead. -/
def nd : List UInt8 → Prop
  | [] => True
  | c :: _ => ¬ (48 ≤ c.toNat ∧ c.toNat ≤ 57)
theorem Sfx.noD {s : ByteArray} {i : Nat} {R : List UInt8} (h : Sfx s i R) (hn : nd R) : isD s i = false := by
  cases R with
  | nil => have := h.nil; simp [isD, this]
  | cons c R =>
    have := h.cons.1
    unfold nd at hn
    simp only [isD, this, Bool.and_eq_false_iff, decide_eq_false_iff_not]
    omega
theorem tok_num {s : ByteArray} {i : Nat} {d : UInt8} {R : List UInt8} (h : Sfx s i (d :: R)) (h0 : 48 ≤ d.toNat) (h9 : d.toNat ≤ 57) (hn : nd R) : tok s i = ⟨1, i, i + 1, d.toNat - 48⟩ := by
  obtain ⟨hb, hs⟩ := h.cons
  have hd : isD s i = true := by rw [isD_iff]; omega
  unfold tok
  rw [skip_here (by omega)]
  unfold tokAt
  rw [if_neg (by omega), if_pos hd, hs.noD hn, if_neg (by simp), hb]
theorem tok_u1 {s : ByteArray} {i : Nat} {R : List UInt8} (h : Sfx s i (117 :: R)) (hn : nd R) : tok s i = ⟨2, i, i + 1, 1⟩ := by
  obtain ⟨hb, hs⟩ := h.cons
  have hb' : byt s i = 117 := hb
  have hd : ¬ isD s i = true := by rw [isD_iff]; omega
  unfold tok
  rw [skip_here (by omega)]
  unfold tokAt
  rw [if_neg (by omega), if_neg hd, if_pos hb', hs.noD hn, if_neg (by simp)]
theorem tok_u2 {s : ByteArray} {i : Nat} {d : UInt8} {R : List UInt8} (h : Sfx s i (117 :: d :: R)) (h0 : 48 ≤ d.toNat) (h9 : d.toNat ≤ 57) : tok s i = ⟨2, i, i + 2, d.toNat - 48⟩ := by
  obtain ⟨hb, hs⟩ := h.cons
  obtain ⟨hb2, _⟩ := hs.cons
  have hb' : byt s i = 117 := hb
  have hd : ¬ isD s i = true := by rw [isD_iff]; omega
  have hd2 : isD s (i + 1) = true := by rw [isD_iff]; omega
  unfold tok
  rw [skip_here (by omega)]
  unfold tokAt
  rw [if_neg (by omega), if_neg hd, if_pos hb', if_pos hd2, hb2]
theorem tok_x1 {s : ByteArray} {i : Nat} {R : List UInt8} (h : Sfx s i (120 :: R)) (hn : nd R) : tok s i = ⟨3, i, i + 1, 1⟩ := by
  obtain ⟨hb, hs⟩ := h.cons
  have hb' : byt s i = 120 := hb
  have hd : ¬ isD s i = true := by rw [isD_iff]; omega
  unfold tok
  rw [skip_here (by omega)]
  unfold tokAt
  rw [if_neg (by omega), if_neg hd, if_neg (by omega), if_pos hb', hs.noD hn, if_neg (by simp)]
theorem tok_x2 {s : ByteArray} {i : Nat} {d : UInt8} {R : List UInt8} (h : Sfx s i (120 :: d :: R)) (h0 : 48 ≤ d.toNat) (h9 : d.toNat ≤ 57) : tok s i = ⟨3, i, i + 2, d.toNat - 48⟩ := by
  obtain ⟨hb, hs⟩ := h.cons
  obtain ⟨hb2, _⟩ := hs.cons
  have hb' : byt s i = 120 := hb
  have hd : ¬ isD s i = true := by rw [isD_iff]; omega
  have hd2 : isD s (i + 1) = true := by rw [isD_iff]; omega
  unfold tok
  rw [skip_here (by omega)]
  unfold tokAt
  rw [if_neg (by omega), if_neg hd, if_neg (by omega), if_pos hb', if_pos hd2, hb2]
theorem tok_plus {s : ByteArray} {i : Nat} {R : List UInt8} (h : Sfx s i (43 :: R)) : tok s i = ⟨47, i, i + 1, 0⟩ := by
  obtain ⟨hb, hs⟩ := h.cons
  have hb' : byt s i = 43 := hb
  have hd : ¬ isD s i = true := by rw [isD_iff]; omega
  unfold tok
  rw [skip_here (by omega)]
  unfold tokAt
  rw [if_neg (by omega), if_neg hd, if_neg (by omega), if_neg (by omega), hb']
theorem tok_end {s : ByteArray} {i : Nat} (h : Sfx s i []) : tok s i = ⟨0, i, i, 0⟩ := by
  have hb := h.nil
  unfold tok
  rw [skip_here (by omega)]
  unfold tokAt
  rw [if_pos hb]

/-- Token k begins at i, where the text is R. -/
def TAt (s : ByteArray) (k i : Nat) (R : List UInt8) : Prop := pos s 0 k = i ∧ k ≤ i ∧ Sfx s i R
theorem TAt.next {s : ByteArray} {k i j : Nat} {R R' : List UInt8} {c a v : Nat} (h : TAt s k i R) (ht : tok s i = ⟨c, a, j, v⟩) (hj : i < j) (hs : Sfx s j R') : TAt s (k + 1) j R' := by
  refine ⟨?_, by have := h.2.1; omega, hs⟩
  show (tok s (pos s 0 k)).to = j
  rw [h.1, ht]
theorem TAt.tk {s : ByteArray} {k i : Nat} {R : List UInt8} (h : TAt s k i R) : tk s 0 k = tok s i := by unfold Go.Proofs.YtaajdcaciofmaaaDoor.tk; rw [h.1]
theorem dgt_nat {n : Nat} (h : n < 10) : (dgt n).toNat = 48 + n := by have := dgt_int h; omega
end Go.Proofs.YtaajdcaciofmaaaDoor
