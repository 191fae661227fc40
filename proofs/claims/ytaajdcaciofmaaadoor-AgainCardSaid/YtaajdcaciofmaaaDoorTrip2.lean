/- PLAIN: what is written is read back: powers, terms, the whole text. -/
import Derived.Test.YtaajdcaciofmaaaDoorTrip1
namespace Go.Proofs.YtaajdcaciofmaaaDoor

/-- A term ends here. -/
def stp : List UInt8 → Prop
  | [] => True
  | c :: _ => c = 43
theorem stp_nd {R : List UInt8} (h : stp R) : nd R := by
  cases R with
  | nil => trivial
  | cons c R => unfold stp at h; subst h; exact (by decide : ¬ (48 ≤ (43 : UInt8).toNat ∧ (43 : UInt8).toNat ≤ 57))
theorem TAt.stp {s : ByteArray} {k i : Nat} {R : List UInt8} (h : TAt s k i R) (hs : stp R) : (Go.Proofs.YtaajdcaciofmaaaDoor.tk s 0 k).c ≠ 2 ∧ (Go.Proofs.YtaajdcaciofmaaaDoor.tk s 0 k).c ≠ 3 ∧ (Go.Proofs.YtaajdcaciofmaaaDoor.tk s 0 k).c ≠ 1 ∧ ((Go.Proofs.YtaajdcaciofmaaaDoor.tk s 0 k).c = 47 ↔ R ≠ []) ∧ (Go.Proofs.YtaajdcaciofmaaaDoor.tk s 0 k).c ≠ 49 ∧ ((Go.Proofs.YtaajdcaciofmaaaDoor.tk s 0 k).c = 0 ↔ R = []) := by
  rw [h.tk]
  cases R with
  | nil => rw [tok_end h.2.2]; simp
  | cons c R => unfold Go.Proofs.YtaajdcaciofmaaaDoor.stp at hs; subst hs; rw [tok_plus h.2.2]; simp
theorem nd_ptx {c : UInt8} {n : Nat} {R : List UInt8} (hc : ¬ (48 ≤ c.toNat ∧ c.toNat ≤ 57)) (h : nd R) : nd (ptx c n ++ R) := by
  unfold ptx
  split
  · exact h
  · split <;> exact hc
theorem pwx {s : ByteArray} {k i x u m : Nat} {R : List UInt8} (h : TAt s k i (ptx 120 x ++ R)) (hs : stp R) (hx : x ≤ 4) (hm : (ptx 120 x).length ≤ m) :
    ∃ k', pw (tk s 0) false m k u 0 = ⟨0, 0, k', u, x⟩ ∧ TAt s k' (i + (ptx 120 x).length) R := by
  unfold ptx at *
  by_cases h0 : x = 0
  · subst h0
    simp only [if_true, List.nil_append, List.length_nil, Nat.add_zero] at *
    obtain ⟨a, b, _⟩ := h.stp hs
    exact ⟨k, pw_end a b, h⟩
  · rw [if_neg h0] at *
    by_cases h1 : x = 1
    · subst h1
      simp only [if_true, List.cons_append, List.nil_append, List.length_cons, List.length_nil, Nat.zero_add] at *
      have ht := tok_x1 h.2.2 (stp_nd hs)
      have hn := h.next ht (by omega) h.2.2.cons.2
      obtain ⟨a, b, _⟩ := hn.stp hs
      refine ⟨k + 1, ?_, hn⟩
      rw [pw_x (by omega) (by rw [h.tk, ht]) (by rw [h.tk, ht]; omega), h.tk, ht]
      exact pw_end a b
    · rw [if_neg h1] at *
      simp only [List.cons_append, List.nil_append, List.length_cons, List.length_nil] at *
      have hd := dgt_nat (n := x) (by omega)
      have ht := tok_x2 h.2.2 (by omega) (by omega)
      have hn := h.next ht (by omega) h.2.2.cons.2.cons.2
      obtain ⟨a, b, _⟩ := hn.stp hs
      refine ⟨k + 1, ?_, hn⟩
      have e : (dgt x).toNat - 48 = x := by omega
      rw [e] at ht
      rw [pw_x (by omega) (by rw [h.tk, ht]) (by rw [h.tk, ht]; show 0 + x ≤ 4; omega), h.tk, ht]
      show pw (tk s 0) false (m - 1) (k + 1) u (0 + x) = _
      rw [Nat.zero_add]
      exact pw_end a b
theorem pwu {s : ByteArray} {k i u x m : Nat} {R : List UInt8} (h : TAt s k i (pws u x ++ R)) (hs : stp R) (hu : u ≤ 6) (hx : x ≤ 4) (hm : (pws u x).length ≤ m) :
    ∃ k', pw (tk s 0) false m k 0 0 = ⟨0, 0, k', u, x⟩ ∧ TAt s k' (i + (pws u x).length) R := by
  have hnx : nd (ptx 120 x ++ R) := nd_ptx (by decide) (stp_nd hs)
  unfold pws at *
  rw [List.append_assoc] at h
  rw [List.length_append] at *
  generalize hpx : ptx 120 x = P at *
  unfold ptx at h hm ⊢
  by_cases h0 : u = 0
  · subst h0
    simp only [if_true, List.nil_append, List.length_nil, Nat.zero_add] at *
    subst hpx
    exact pwx h hs hx hm
  · rw [if_neg h0] at *
    by_cases h1 : u = 1
    · subst h1
      simp only [if_true, List.cons_append, List.nil_append, List.length_cons, List.length_nil, Nat.zero_add] at *
      have ht := tok_u1 h.2.2 hnx
      have hn := h.next ht (by omega) h.2.2.cons.2
      subst hpx
      obtain ⟨k', e, ha⟩ := pwx (u := 1) (m := m - 1) hn hs hx (by omega)
      refine ⟨k', ?_, by rw [← Nat.add_assoc]; exact ha⟩
      rw [pw_u (by omega) (by rw [h.tk, ht]) (by rw [h.tk, ht]; omega), h.tk, ht]
      exact e
    · rw [if_neg h1] at *
      simp only [List.cons_append, List.nil_append, List.length_cons, List.length_nil] at *
      have hd := dgt_nat (n := u) (by omega)
      have ht := tok_u2 h.2.2 (by omega) (by omega)
      have hn := h.next ht (by omega) h.2.2.cons.2.cons.2
      have e' : (dgt u).toNat - 48 = u := by omega
      rw [e'] at ht
      subst hpx
      obtain ⟨k', e, ha⟩ := pwx (u := u) (m := m - 1) hn hs hx (by omega)
      refine ⟨k', ?_, by rw [← Nat.add_assoc]; exact ha⟩
      rw [pw_u (by omega) (by rw [h.tk, ht]) (by rw [h.tk, ht]; show 0 + u ≤ 6; omega), h.tk, ht]
      show pw (tk s 0) false (m - 1) (k + 1) (0 + u) 0 = _
      rw [Nat.zero_add]
      exact e
end Go.Proofs.YtaajdcaciofmaaaDoor
