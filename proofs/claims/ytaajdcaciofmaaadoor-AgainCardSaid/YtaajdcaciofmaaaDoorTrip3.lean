/- PLAIN: what is written is read back: terms, the whole text. -/
import Derived.Test.YtaajdcaciofmaaaDoorTrip2
import Derived.KernelRfl
namespace Go.Proofs.YtaajdcaciofmaaaDoor

/-- The first token of powers. -/
theorem pws_first {s : ByteArray} {k i u x : Nat} {R : List UInt8} (h : TAt s k i (pws u x ++ R)) (hs : stp R) (hne : u ≠ 0 ∨ x ≠ 0) (hu : u ≤ 6) (hx : x ≤ 4) : (tk s 0 k).c = 2 ∨ (tk s 0 k).c = 3 := by
  have hnx : nd (ptx 120 x ++ R) := nd_ptx (by decide) (stp_nd hs)
  rw [h.tk]
  unfold pws at h
  rw [List.append_assoc] at h
  by_cases h0 : u = 0
  · subst h0
    have e : ptx 117 0 = [] := rfl
    rw [e, List.nil_append] at h
    by_cases h1 : x = 1
    · subst h1
      right; rw [tok_x1 h.2.2 (stp_nd hs)]
    · have e : ptx 120 x = [120, dgt x] := by unfold ptx; rw [if_neg (by omega), if_neg h1]
      rw [e] at h
      have hd := dgt_nat (n := x) (by omega)
      right; rw [tok_x2 h.2.2 (by omega) (by omega)]
  · by_cases h1 : u = 1
    · subst h1
      left; rw [tok_u1 h.2.2 hnx]
    · have e : ptx 117 u = [117, dgt u] := by unfold ptx; rw [if_neg (by omega), if_neg h1]
      rw [e] at h
      have hd := dgt_nat (n := u) (by omega)
      left; rw [tok_u2 h.2.2 (by omega) (by omega)]
theorem tm_read {s : ByteArray} {k i n u x N : Nat} {R : List UInt8} (h : TAt s k i (tmx n u x ++ R)) (hs : stp R) (hn : n < 7) (hu : u ≤ 6) (hx : x ≤ 4) (hN : (tmx n u x).length ≤ N - k) :
    ∃ k', tm (tk s 0) false N k = ⟨0, 0, k', n, u, x⟩ ∧ TAt s k' (i + (tmx n u x).length) R := by
  by_cases hc : n = 1 ∧ (u ≠ 0 ∨ x ≠ 0)
  · have e : tmx n u x = pws u x := by unfold tmx; rw [if_pos hc]
    rw [e] at h hN ⊢
    obtain ⟨k', e1, ha⟩ := pwu (m := N - k) h hs hu hx hN
    have hf := pws_first h hs hc.2 hu hx
    refine ⟨k', ?_, ha⟩
    unfold tm
    rw [if_neg (by omega), if_pos hf, e1, hc.1]
  · have e : tmx n u x = dgt n :: pws u x := by unfold tmx; rw [if_neg hc]
    rw [e] at h hN ⊢
    rw [List.cons_append] at h
    rw [List.length_cons] at hN ⊢
    have hd := dgt_nat (n := n) (by omega)
    have hnd : nd (pws u x ++ R) := by
      unfold pws; rw [List.append_assoc]
      exact nd_ptx (by decide) (nd_ptx (by decide) (stp_nd hs))
    have ht := tok_num h.2.2 (by omega) (by omega) hnd
    have hnx := h.next ht (by omega) h.2.2.cons.2
    obtain ⟨k', e1, ha⟩ := pwu (m := N - (k + 1)) hnx hs hu hx (by omega)
    refine ⟨k', ?_, by rw [show i + ((pws u x).length + 1) = i + 1 + (pws u x).length by omega]; exact ha⟩
    unfold tm
    have hc1 : (tk s 0 k).c = 1 := by rw [h.tk, ht]
    have hv : (tk s 0 k).v = n := by rw [h.tk, ht]; show (dgt n).toNat - 48 = n; omega
    rw [if_pos hc1, e1, hv]

def tm3 (t : Nat × Nat × Nat) : List UInt8 := tmx t.1 t.2.1 t.2.2
def add3 (q : List Nat) (t : Nat × Nat × Nat) : List Nat := plus q t.2.1 t.2.2 (1 * t.1)
def ok3 (t : Nat × Nat × Nat) : Prop := t.1 < 7 ∧ t.2.1 ≤ 6 ∧ t.2.2 ≤ 4
theorem pl_read {s : ByteArray} : ∀ (ts : List (Nat × Nat × Nat)) (q : List Nat) (m k i : Nat), ts ≠ [] → (∀ t ∈ ts, ok3 t) → TAt s k i (Lib.join (ts.map tm3) [43]) → s.size + 1 ≤ m + i →
    ∃ k', pl (tk s 0) false s.size m k 1 q = ⟨0, 0, k', ts.foldl add3 q⟩ ∧ TAt s k' s.size [] := by
  intro ts
  induction ts with
  | nil => intro q m k i h; exact absurd rfl h
  | cons t r ih =>
    intro q m k i _ hok h hm
    obtain ⟨h1, h2, h3⟩ := hok t (by simp)
    have hlen := h.2.2.len
    have hk := h.2.1
    obtain ⟨m, rfl⟩ : ∃ m', m = m' + 1 := ⟨m - 1, by omega⟩
    cases r with
    | nil =>
      have e : Lib.join ([t].map tm3) [43] = tmx t.1 t.2.1 t.2.2 ++ [] := by
        rw [List.append_nil]; exact Lib.join_one _ _
      rw [e] at h hlen
      rw [List.length_append] at hlen
      obtain ⟨k', e1, ha⟩ := tm_read (N := s.size) h trivial h1 h2 h3 (by simp only [List.length_nil] at hlen; omega)
      have hz := ha.stp trivial
      refine ⟨k', ?_, by simp only [List.length_nil] at hlen; rw [← hlen]; exact ha⟩
      rw [pl, e1]
      simp only [if_true]
      rw [if_neg (fun q => hz.2.2.2.1.1 q rfl), if_neg hz.2.2.2.2.1]
      rfl
    | cons t2 r2 =>
      have e : Lib.join ((t :: t2 :: r2).map tm3) [43] = tmx t.1 t.2.1 t.2.2 ++ (43 :: Lib.join ((t2 :: r2).map tm3) [43]) := by
        rw [List.map_cons, Lib.join_cons, List.map_cons, Lib.join_cons]
        simp [Lib.joinTail, tm3]
      rw [e] at h hlen
      rw [List.length_append, List.length_cons] at hlen
      obtain ⟨k', e1, ha⟩ := tm_read (N := s.size) h rfl h1 h2 h3 (by omega)
      have hp := ha.tk
      rw [tok_plus ha.2.2] at hp
      have hnx := ha.next (tok_plus ha.2.2) (by omega) ha.2.2.cons.2
      obtain ⟨k2, e2, hb⟩ := ih (plus q t.2.1 t.2.2 (1 * t.1)) m (k' + 1) _ (by simp) (fun y hy => hok y (by simp [hy])) hnx (by
        have : 0 < (tmx t.1 t.2.1 t.2.2).length := List.length_pos_iff.2 (tmx_ne _ _ _)
        omega)
      refine ⟨k2, ?_, hb⟩
      rw [pl, e1]
      simp only [if_true]
      rw [if_pos (by rw [hp]), e2]
      rfl

/-- The terms of p, from the top. -/
def trips (p : List Nat) : Nat → List (Nat × Nat × Nat)
  | 0 => []
  | k + 1 => if p.getD (34 - k) 0 = 0 then trips p k else trips p k ++ [(p.getD (34 - k) 0, (34 - k) % 7, (34 - k) / 7)]
theorem trips_tms (p : List Nat) : ∀ k, tms p k = (trips p k).map tm3
  | 0 => rfl
  | k + 1 => by
    unfold tms trips
    split
    · exact trips_tms p k
    · rw [trips_tms p k, List.map_append]; rfl
theorem trips_ok {p : List Nat} (hp : Good p) : ∀ k, ∀ t ∈ trips p k, ok3 t
  | 0, t, h => by simp [trips] at h
  | k + 1, t, h => by
    unfold trips at h
    split at h
    · exact trips_ok hp k t h
    · rw [List.mem_append] at h
      rcases h with h | h
      · exact trips_ok hp k t h
      · rw [List.mem_singleton] at h; subst h
        refine ⟨hp.2 _, ?_, ?_⟩ <;> simp only <;> omega
theorem getD_set (q : List Nat) (i j v : Nat) (h : i < q.length) : (q.set i v).getD j 0 = if i = j then v else q.getD j 0 := by
  simp only [List.getD_eq_getElem?_getD, List.getElem?_set]
  split
  · rfl
  · rfl
theorem trips_fold {p : List Nat} (hp : Good p) : ∀ k, k ≤ 35 → ((trips p k).foldl add3 zeros).length = 35 ∧ ∀ c, c < 35 → ((trips p k).foldl add3 zeros).getD c 0 = if 34 < c + k then p.getD c 0 else 0
  | 0, _ => by
    refine ⟨rfl, fun c hc => ?_⟩
    rw [if_neg (by omega)]
    show zeros.getD c 0 = 0
    unfold zeros; rw [List.getD_eq_getElem?_getD, List.getElem?_replicate]; split <;> rfl
  | k + 1, hk => by
    obtain ⟨ih1, ih2⟩ := trips_fold hp k (by omega)
    unfold trips
    split
    · rename_i h
      refine ⟨ih1, fun c hc => ?_⟩
      rw [ih2 c hc]
      by_cases hcc : c = 34 - k
      · subst hcc; rw [if_neg (by omega), if_pos (by omega), h]
      · by_cases h' : 34 < c + k
        · rw [if_pos h', if_pos (by omega)]
        · rw [if_neg h', if_neg (by omega)]
    · rw [List.foldl_append]
      simp only [List.foldl_cons, List.foldl_nil, add3, plus]
      generalize (trips p k).foldl add3 zeros = Q at *
      have hidx : 7 * ((34 - k) / 7) + (34 - k) % 7 = 34 - k := by omega
      rw [hidx]
      have h0 : Q.getD (34 - k) 0 = 0 := by rw [ih2 _ (by omega), if_neg (by omega)]
      have hv := hp.2 (34 - k)
      refine ⟨by rw [List.length_set]; exact ih1, fun c hc => ?_⟩
      rw [getD_set _ _ _ _ (by omega), h0]
      by_cases hcc : 34 - k = c
      · rw [if_pos hcc, if_pos (by omega), ← hcc]; omega
      · rw [if_neg hcc, ih2 c hc]
        by_cases h' : 34 < c + k
        · rw [if_pos h', if_pos (by omega)]
        · rw [if_neg h', if_neg (by omega)]
theorem trips_all {p : List Nat} (hp : Good p) : (trips p 35).foldl add3 zeros = p := by
  obtain ⟨h1, h2⟩ := trips_fold hp 35 (Nat.le_refl _)
  apply List.ext_getElem
  · rw [h1, hp.1]
  · intro c g1 g2
    have := h2 c (by omega)
    rw [if_pos (by omega), List.getD_eq_getElem?_getD, List.getD_eq_getElem?_getD, List.getElem?_eq_getElem g1, List.getElem?_eq_getElem g2] at this
    simpa using this

/-- WHAT IS WRITTEN IS READ BACK. -/
theorem round_trip {p : List Nat} (hp : Good p) (hl : (txt p).length ≤ 90) : rd (bs (txt p)) = ⟨0, 0, p⟩ := by
  by_cases hz : tms p 35 = []
  · rw [txt_zero p hz, (good_zeros hp).1 hz]
    kernel_rfl
  · have hsz : (bs (txt p)).size = (txt p).length := by rw [ByteArray.size]; simp [bs]
    have hts : trips p 35 ≠ [] := fun q => hz (by rw [trips_tms, q]; rfl)
    have hat : TAt (bs (txt p)) 0 0 (Lib.join ((trips p 35).map tm3) [43]) := by
      refine ⟨rfl, Nat.le_refl _, ?_, Nat.zero_le _⟩
      rw [← trips_tms, ← txt_join p hz]; rfl
    obtain ⟨k', e, ha⟩ := pl_read (trips p 35) zeros ((bs (txt p)).size + 1) 0 0 hts (trips_ok hp 35) hat (by omega)
    rw [trips_all hp] at e
    have hend := ha.stp trivial
    have h49 : (tk (bs (txt p)) 0 0).c ≠ 49 := by
      intro q
      have e4 : (tm (tk (bs (txt p)) 0) false (bs (txt p)).size 0).e = 4 := by unfold tm; rw [if_neg (by omega), if_neg (by omega)]
      have e5 : (pl (tk (bs (txt p)) 0) false (bs (txt p)).size ((bs (txt p)).size + 1) 0 1 zeros).e = 4 := by rw [pl, if_neg (by omega)]; exact e4
      rw [e] at e5
      exact absurd e5 (by simp)
    have hpoly : poly (tk (bs (txt p)) 0) false (bs (txt p)).size 0 = ⟨0, 0, k', p⟩ := by
      unfold poly; rw [if_neg h49, e]
    unfold rd
    rw [if_neg (by omega), hpoly]
    simp only [if_true]
    rw [if_pos (hend.2.2.2.2.2.2 rfl)]
end Go.Proofs.YtaajdcaciofmaaaDoor
