import Derived.Test.YthlmgpllapccfaaDoorPack1
import Derived.KernelRfl
import Derived.Shelf.Strings.Builder1
import Derived.Shelf.Strings.Builder2
import Derived.Shelf.Strings.OnBuilder
import Derived.Shelf.Strconv.Itoa0
import Derived.Shelf.Strconv.Itoa1
import Derived.Shelf.LaysM
import Derived.Shelf.Strconv.Itoa2
import Derived.Shelf.Strconv.Itoa3
import Derived.Test.YthlmgpllapccfaaDoorProg
import Derived.Deep.RegionHeld3
/- PLAIN: what is written is read back: terms, the whole text. -/
namespace Go.Proofs.YthlmgpllapccfaaDoor

/-- The first token of powers. -/
theorem pws_first {s : ByteArray} {k i u x : Nat} {R : List UInt8} (h : TAt s k i (pws u x ++ R)) (hs : stp R) (hne : u ≠ 0 ∨ x ≠ 0) (hu : u ≤ 6) (hx : x ≤ 4) : (tk s 0 k).c = 2 ∨ (tk s 0 k).c = 3 := by
  have hnx : nd (ptx 120 x ++ R) := nd_ptx (by decide) (stp_nd hs)
  rw [h.tk]
  unfold pws at h
  rw [List.append_assoc] at h
  by_cases h0 : u = 0
  · subst h0
    have e : ptx 117 0 = [] := rfl
    rw [e, List.nil_append] at h
    by_cases h1 : x = 1
    · subst h1
      right; rw [tok_x1 h.2.2 (stp_nd hs)]
    · have e : ptx 120 x = [120, dgt x] := by unfold ptx; rw [if_neg (by omega), if_neg h1]
      rw [e] at h
      have hd := dgt_nat (n := x) (by omega)
      right; rw [tok_x2 h.2.2 (by omega) (by omega)]
  · by_cases h1 : u = 1
    · subst h1
      left; rw [tok_u1 h.2.2 hnx]
    · have e : ptx 117 u = [117, dgt u] := by unfold ptx; rw [if_neg (by omega), if_neg h1]
      rw [e] at h
      have hd := dgt_nat (n := u) (by omega)
      left; rw [tok_u2 h.2.2 (by omega) (by omega)]
theorem tm_read {s : ByteArray} {k i n u x N : Nat} {R : List UInt8} (h : TAt s k i (tmx n u x ++ R)) (hs : stp R) (hn : n < 7) (hu : u ≤ 6) (hx : x ≤ 4) (hN : (tmx n u x).length ≤ N - k) :
    ∃ k', tm (tk s 0) false N k = ⟨0, 0, k', n, u, x⟩ ∧ TAt s k' (i + (tmx n u x).length) R := by
  by_cases hc : n = 1 ∧ (u ≠ 0 ∨ x ≠ 0)
  · have e : tmx n u x = pws u x := by unfold tmx; rw [if_pos hc]
    rw [e] at h hN ⊢
    obtain ⟨k', e1, ha⟩ := pwu (m := N - k) h hs hu hx hN
    have hf := pws_first h hs hc.2 hu hx
    refine ⟨k', ?_, ha⟩
    unfold tm
    rw [if_neg (by omega), if_pos hf, e1, hc.1]
  · have e : tmx n u x = dgt n :: pws u x := by unfold tmx; rw [if_neg hc]
    rw [e] at h hN ⊢
    rw [List.cons_append] at h
    rw [List.length_cons] at hN ⊢
    have hd := dgt_nat (n := n) (by omega)
    have hnd : nd (pws u x ++ R) := by
      unfold pws; rw [List.append_assoc]
      exact nd_ptx (by decide) (nd_ptx (by decide) (stp_nd hs))
    have ht := tok_num h.2.2 (by omega) (by omega) hnd
    have hnx := h.next ht (by omega) h.2.2.cons.2
    obtain ⟨k', e1, ha⟩ := pwu (m := N - (k + 1)) hnx hs hu hx (by omega)
    refine ⟨k', ?_, by rw [show i + ((pws u x).length + 1) = i + 1 + (pws u x).length by omega]; exact ha⟩
    unfold tm
    have hc1 : (tk s 0 k).c = 1 := by rw [h.tk, ht]
    have hv : (tk s 0 k).v = n := by rw [h.tk, ht]; show (dgt n).toNat - 48 = n; omega
    rw [if_pos hc1, e1, hv]

def tm3 (t : Nat × Nat × Nat) : List UInt8 := tmx t.1 t.2.1 t.2.2
def add3 (q : List Nat) (t : Nat × Nat × Nat) : List Nat := plus q t.2.1 t.2.2 (1 * t.1)
def ok3 (t : Nat × Nat × Nat) : Prop := t.1 < 7 ∧ t.2.1 ≤ 6 ∧ t.2.2 ≤ 4
theorem pl_read {s : ByteArray} : ∀ (ts : List (Nat × Nat × Nat)) (q : List Nat) (m k i : Nat), ts ≠ [] → (∀ t ∈ ts, ok3 t) → TAt s k i (Lib.join (ts.map tm3) [43]) → s.size + 1 ≤ m + i →
    ∃ k', pl (tk s 0) false s.size m k 1 q = ⟨0, 0, k', ts.foldl add3 q⟩ ∧ TAt s k' s.size [] := by
  intro ts
  induction ts with
  | nil => intro q m k i h; exact absurd rfl h
  | cons t r ih =>
    intro q m k i _ hok h hm
    obtain ⟨h1, h2, h3⟩ := hok t (by simp)
    have hlen := h.2.2.len
    have hk := h.2.1
    obtain ⟨m, rfl⟩ : ∃ m', m = m' + 1 := ⟨m - 1, by omega⟩
    cases r with
    | nil =>
      have e : Lib.join ([t].map tm3) [43] = tmx t.1 t.2.1 t.2.2 ++ [] := by
        rw [List.append_nil]; exact Lib.join_one _ _
      rw [e] at h hlen
      rw [List.length_append] at hlen
      obtain ⟨k', e1, ha⟩ := tm_read (N := s.size) h trivial h1 h2 h3 (by simp only [List.length_nil] at hlen; omega)
      have hz := ha.stp trivial
      refine ⟨k', ?_, by simp only [List.length_nil] at hlen; rw [← hlen]; exact ha⟩
      rw [pl, e1]
      simp only [if_true]
      rw [if_neg (fun q => hz.2.2.2.1.1 q rfl), if_neg hz.2.2.2.2.1]
      rfl
    | cons t2 r2 =>
      have e : Lib.join ((t :: t2 :: r2).map tm3) [43] = tmx t.1 t.2.1 t.2.2 ++ (43 :: Lib.join ((t2 :: r2).map tm3) [43]) := by
        rw [List.map_cons, Lib.join_cons, List.map_cons, Lib.join_cons]
        simp [Lib.joinTail, tm3]
      rw [e] at h hlen
      rw [List.length_append, List.length_cons] at hlen
      obtain ⟨k', e1, ha⟩ := tm_read (N := s.size) h rfl h1 h2 h3 (by omega)
      have hp := ha.tk
      rw [tok_plus ha.2.2] at hp
      have hnx := ha.next (tok_plus ha.2.2) (by omega) ha.2.2.cons.2
      obtain ⟨k2, e2, hb⟩ := ih (plus q t.2.1 t.2.2 (1 * t.1)) m (k' + 1) _ (by simp) (fun y hy => hok y (by simp [hy])) hnx (by
        have : 0 < (tmx t.1 t.2.1 t.2.2).length := List.length_pos_iff.2 (tmx_ne _ _ _)
        omega)
      refine ⟨k2, ?_, hb⟩
      rw [pl, e1]
      simp only [if_true]
      rw [if_pos (by rw [hp]), e2]
      rfl

/-- The terms of p, from the top. -/
def trips (p : List Nat) : Nat → List (Nat × Nat × Nat)
  | 0 => []
  | k + 1 => if p.getD (34 - k) 0 = 0 then trips p k else trips p k ++ [(p.getD (34 - k) 0, (34 - k) % 7, (34 - k) / 7)]
theorem trips_tms (p : List Nat) : ∀ k, tms p k = (trips p k).map tm3
  | 0 => rfl
  | k + 1 => by
    unfold tms trips
    split
    · exact trips_tms p k
    · rw [trips_tms p k, List.map_append]; rfl
theorem trips_ok {p : List Nat} (hp : Good p) : ∀ k, ∀ t ∈ trips p k, ok3 t
  | 0, t, h => by simp [trips] at h
  | k + 1, t, h => by
    unfold trips at h
    split at h
    · exact trips_ok hp k t h
    · rw [List.mem_append] at h
      rcases h with h | h
      · exact trips_ok hp k t h
      · rw [List.mem_singleton] at h; subst h
        refine ⟨hp.2 _, ?_, ?_⟩ <;> simp only <;> omega
theorem getD_set (q : List Nat) (i j v : Nat) (h : i < q.length) : (q.set i v).getD j 0 = if i = j then v else q.getD j 0 := by
  simp only [List.getD_eq_getElem?_getD, List.getElem?_set]
  split
  · rfl
  · rfl
theorem trips_fold {p : List Nat} (hp : Good p) : ∀ k, k ≤ 35 → ((trips p k).foldl add3 zeros).length = 35 ∧ ∀ c, c < 35 → ((trips p k).foldl add3 zeros).getD c 0 = if 34 < c + k then p.getD c 0 else 0
  | 0, _ => by
    refine ⟨rfl, fun c hc => ?_⟩
    rw [if_neg (by omega)]
    show zeros.getD c 0 = 0
    unfold zeros; rw [List.getD_eq_getElem?_getD, List.getElem?_replicate]; split <;> rfl
  | k + 1, hk => by
    obtain ⟨ih1, ih2⟩ := trips_fold hp k (by omega)
    unfold trips
    split
    · rename_i h
      refine ⟨ih1, fun c hc => ?_⟩
      rw [ih2 c hc]
      by_cases hcc : c = 34 - k
      · subst hcc; rw [if_neg (by omega), if_pos (by omega), h]
      · by_cases h' : 34 < c + k
        · rw [if_pos h', if_pos (by omega)]
        · rw [if_neg h', if_neg (by omega)]
    · rw [List.foldl_append]
      simp only [List.foldl_cons, List.foldl_nil, add3, plus]
      generalize (trips p k).foldl add3 zeros = Q at *
      have hidx : 7 * ((34 - k) / 7) + (34 - k) % 7 = 34 - k := by omega
      rw [hidx]
      have h0 : Q.getD (34 - k) 0 = 0 := by rw [ih2 _ (by omega), if_neg (by omega)]
      have hv := hp.2 (34 - k)
      refine ⟨by rw [List.length_set]; exact ih1, fun c hc => ?_⟩
      rw [getD_set _ _ _ _ (by omega), h0]
      by_cases hcc : 34 - k = c
      · rw [if_pos hcc, if_pos (by omega), ← hcc]; omega
      · rw [if_neg hcc, ih2 c hc]
        by_cases h' : 34 < c + k
        · rw [if_pos h', if_pos (by omega)]
        · rw [if_neg h', if_neg (by omega)]
theorem trips_all {p : List Nat} (hp : Good p) : (trips p 35).foldl add3 zeros = p := by
  obtain ⟨h1, h2⟩ := trips_fold hp 35 (Nat.le_refl _)
  apply List.ext_getElem
  · rw [h1, hp.1]
  · intro c g1 g2
    have := h2 c (by omega)
    rw [if_pos (by omega), List.getD_eq_getElem?_getD, List.getD_eq_getElem?_getD, List.getElem?_eq_getElem g1, List.getElem?_eq_getElem g2] at this
    simpa using this

/-- WHAT IS WRITTEN IS READ BACK. -/
theorem round_trip {p : List Nat} (hp : Good p) (hl : (txt p).length ≤ 90) : rd (bs (txt p)) = ⟨0, 0, p⟩ := by
  by_cases hz : tms p 35 = []
  · rw [txt_zero p hz, (good_zeros hp).1 hz]
    kernel_rfl
  · have hsz : (bs (txt p)).size = (txt p).length := by rw [ByteArray.size]; simp [bs]
    have hts : trips p 35 ≠ [] := fun q => hz (by rw [trips_tms, q]; rfl)
    have hat : TAt (bs (txt p)) 0 0 (Lib.join ((trips p 35).map tm3) [43]) := by
      refine ⟨rfl, Nat.le_refl _, ?_, Nat.zero_le _⟩
      rw [← trips_tms, ← txt_join p hz]; rfl
    obtain ⟨k', e, ha⟩ := pl_read (trips p 35) zeros ((bs (txt p)).size + 1) 0 0 hts (trips_ok hp 35) hat (by omega)
    rw [trips_all hp] at e
    have hend := ha.stp trivial
    have h49 : (tk (bs (txt p)) 0 0).c ≠ 49 := by
      intro q
      have e4 : (tm (tk (bs (txt p)) 0) false (bs (txt p)).size 0).e = 4 := by unfold tm; rw [if_neg (by omega), if_neg (by omega)]
      have e5 : (pl (tk (bs (txt p)) 0) false (bs (txt p)).size ((bs (txt p)).size + 1) 0 1 zeros).e = 4 := by rw [pl, if_neg (by omega)]; exact e4
      rw [e] at e5
      exact absurd e5 (by simp)
    have hpoly : poly (tk (bs (txt p)) 0) false (bs (txt p)).size 0 = ⟨0, 0, k', p⟩ := by
      unfold poly; rw [if_neg h49, e]
    unfold rd
    rw [if_neg (by omega), hpoly]
    simp only [if_true]
    rw [if_pos (hend.2.2.2.2.2.2 rfl)]
end Go.Proofs.YthlmgpllapccfaaDoor
/- PLAIN: what a polynomial comes to: from the top (the program), by powers (the document). -/
namespace Go.Proofs.YthlmgpllapccfaaDoor

/-- From the top, k of n numbers. -/
def horn (c : Nat → Nat) (n u : Nat) : Nat → Nat
  | 0 => 0
  | k + 1 => (horn c n u k * u + c (n - 1 - k)) % 7
/-- By powers, k numbers. -/
def pows (c : Nat → Nat) (u : Nat) : Nat → Nat
  | 0 => 0
  | k + 1 => (pows c u k + c k * pw7 u k) % 7
theorem horn_lt (c : Nat → Nat) (n u k : Nat) : horn c n u k < 7 := by cases k <;> simp [horn]; omega
theorem pows_lt (c : Nat → Nat) (u k : Nat) : pows c u k < 7 := by cases k <;> simp [pows]; omega

/-- The sum itself. -/
def sumI (c : Nat → Nat) (u : Nat) : Nat → Nat
  | 0 => 0
  | k + 1 => sumI c u k + c k * u ^ k
theorem sumI_front (u : Nat) : ∀ (k : Nat) (c : Nat → Nat), sumI c u (k + 1) = c 0 + u * sumI (fun j => c (j + 1)) u k
  | 0, c => by simp [sumI]
  | k + 1, c => by
    rw [sumI, sumI_front u k c, sumI, Nat.mul_add, ← Nat.add_assoc]
    congr 1
    rw [Nat.pow_succ, Nat.mul_comm (u ^ k) u, ← Nat.mul_assoc, ← Nat.mul_assoc, Nat.mul_comm (c (k + 1)) u]
theorem pw7_pow (u : Nat) : ∀ k, pw7 u k = u ^ k % 7
  | 0 => rfl
  | k + 1 => by rw [pw7, pw7_pow u k, Nat.pow_succ, Nat.mod_mul_mod]
theorem pows_sum (c : Nat → Nat) (u : Nat) : ∀ k, pows c u k = sumI c u k % 7
  | 0 => rfl
  | k + 1 => by
    rw [pows, pows_sum c u k, pw7_pow, sumI]
    rw [Nat.add_mod (sumI c u k % 7), Nat.mod_mod, Nat.mul_mod_mod, ← Nat.add_mod]
theorem horn_sum (c : Nat → Nat) (n u : Nat) : ∀ k, k ≤ n → horn c n u k = sumI (fun j => c (n - k + j)) u k % 7
  | 0, _ => rfl
  | k + 1, h => by
    rw [horn, horn_sum c n u k (by omega), sumI_front]
    have e : (fun j => c (n - (k + 1) + (j + 1))) = fun j => c (n - k + j) := by
      funext j; congr 1; omega
    rw [e, show n - (k + 1) + 0 = n - 1 - k by omega, Nat.add_mod, Nat.mod_mul_mod, ← Nat.add_mod, Nat.add_comm, Nat.mul_comm u]
theorem horn_pows (c : Nat → Nat) (n u : Nat) : horn c n u n = pows c u n := by
  rw [horn_sum c n u n (Nat.le_refl _), pows_sum]
  congr 1
  have e : (fun j => c (n - n + j)) = c := by funext j; congr 1; omega
  rw [e]

/-- What the polynomial p comes to. -/
def valP (p : List Nat) (u x : Nat) : Nat := horn (fun i => horn (fun j => p.getD (i * 7 + j) 0) 7 u 7) 5 x 5
def lineR (p : List Nat) (u : Nat) : List Nat := [pows (fun j => p.getD (0 * 7 + j) 0) u 7, pows (fun j => p.getD (1 * 7 + j) 0) u 7, pows (fun j => p.getD (2 * 7 + j) 0) u 7, pows (fun j => p.getD (3 * 7 + j) 0) u 7, pows (fun j => p.getD (4 * 7 + j) 0) u 7]
def valL (l : List Nat) (x : Nat) : Nat := pows (fun i => l.getD i 0) x 5
theorem pows_congr {c d : Nat → Nat} {u : Nat} : ∀ k, (∀ j, j < k → c j = d j) → pows c u k = pows d u k
  | 0, _ => rfl
  | k + 1, h => by rw [pows, pows, pows_congr k (fun j hj => h j (by omega)), h k (by omega)]
theorem lineR_get (p : List Nat) (u i : Nat) (h : i < 5) : (lineR p u).getD i 0 = pows (fun j => p.getD (i * 7 + j) 0) u 7 := by
  match i, h with
  | 0, _ => rfl
  | 1, _ => rfl
  | 2, _ => rfl
  | 3, _ => rfl
  | 4, _ => rfl
theorem val_same (p : List Nat) (u x : Nat) : valL (lineR p u) x = valP p u x := by
  unfold valP valL
  rw [horn_pows]
  exact pows_congr 5 (fun i hi => by rw [lineR_get p u i hi, horn_pows])
end Go.Proofs.YthlmgpllapccfaaDoor
/- PLAIN, FOR SUMS: what a polynomial comes to is additive; terms with signs, added cell by cell. -/
namespace Go.Proofs.YthlmgpllapccfaaDoor

theorem pows_add {a b c : Nat → Nat} (u : Nat) : ∀ k, (∀ j, j < k → c j % 7 = (a j + b j) % 7) → pows c u k = (pows a u k + pows b u k) % 7
  | 0, _ => rfl
  | k + 1, h => by
    have ih := pows_add u k (fun j hj => h j (by omega))
    have hk := h k (by omega)
    rw [pows, pows, pows, ih]
    generalize pw7 u k = P
    have h1 : c k * P % 7 = (a k * P + b k * P) % 7 := by rw [← Nat.add_mul, Nat.mul_mod, hk, ← Nat.mul_mod]
    generalize a k * P = A at *
    generalize b k * P = B at *
    generalize c k * P = C at *
    omega
theorem valP_add {p q r : List Nat} (h : ∀ c, c < 35 → r.getD c 0 = (p.getD c 0 + q.getD c 0) % 7) (u x : Nat) : valP r u x = (valP p u x + valP q u x) % 7 := by
  rw [← val_same, ← val_same, ← val_same]
  unfold valL
  apply pows_add
  intro i hi
  rw [lineR_get _ _ _ hi, lineR_get _ _ _ hi, lineR_get _ _ _ hi, pows_add (a := fun j => p.getD (i * 7 + j) 0) (b := fun j => q.getD (i * 7 + j) 0) u 7 (fun j hj => by rw [h _ (by omega), Nat.mod_mod]), Nat.mod_mod]

/-- A term with its sign (1 or 6), its number and powers. -/
structure T4 where
  sg : Nat
  n : Nat
  u : Nat
  x : Nat
def add4 (q : List Nat) (t : T4) : List Nat := plus q t.u t.x (t.sg * t.n)
def ok4 (t : T4) : Prop := t.u ≤ 6 ∧ t.x ≤ 4
/-- What the terms add to cell c. -/
def sm (c : Nat) : List T4 → Nat
  | [] => 0
  | t :: ts => (if 7 * t.x + t.u = c then t.sg * t.n else 0) + sm c ts
theorem sm_append (c : Nat) : ∀ a b : List T4, sm c (a ++ b) = sm c a + sm c b
  | [], b => by simp [sm]
  | t :: a, b => by
    show (if 7 * t.x + t.u = c then t.sg * t.n else 0) + sm c (a ++ b) = (if 7 * t.x + t.u = c then t.sg * t.n else 0) + sm c a + sm c b
    rw [sm_append c a b]; omega
theorem fold_good : ∀ (ts : List T4) (q : List Nat), Good q → Good (ts.foldl add4 q)
  | [], _, h => h
  | t :: ts, q, h => fold_good ts (add4 q t) (plus_good h _ _ _)
theorem fold_cell : ∀ (ts : List T4) (q : List Nat), Good q → (∀ t ∈ ts, ok4 t) → ∀ c, c < 35 → (ts.foldl add4 q).getD c 0 = (q.getD c 0 + sm c ts) % 7
  | [], q, h, _, c, _ => by
    have := h.2 c
    show q.getD c 0 = (q.getD c 0 + 0) % 7
    omega
  | t :: ts, q, h, hok, c, hc => by
    obtain ⟨h1, h2⟩ := hok t (by simp)
    have ih := fold_cell ts (add4 q t) (plus_good h _ _ _) (fun y hy => hok y (by simp [hy])) c hc
    show (ts.foldl add4 (add4 q t)).getD c 0 = _
    rw [ih]
    show ((add4 q t).getD c 0 + sm c ts) % 7 = (q.getD c 0 + ((if 7 * t.x + t.u = c then t.sg * t.n else 0) + sm c ts)) % 7
    unfold add4 plus
    rw [getD_set _ _ _ _ (by rw [h.1]; omega)]
    by_cases e : 7 * t.x + t.u = c
    · rw [if_pos e, if_pos e, e]
      generalize t.sg * t.n = A
      omega
    · rw [if_neg e, if_neg e]; omega
/-- The polynomial that the terms come to. -/
def sumP (ts : List T4) : List Nat := ts.foldl add4 zeros
theorem sumP_good (ts : List T4) : Good (sumP ts) := fold_good ts zeros zeros_good
theorem zeros_get (c : Nat) : zeros.getD c 0 = 0 := by
  unfold zeros; rw [List.getD_eq_getElem?_getD, List.getElem?_replicate]; split <;> rfl
theorem sumP_cell {ts : List T4} (hok : ∀ t ∈ ts, ok4 t) {c : Nat} (hc : c < 35) : (sumP ts).getD c 0 = sm c ts % 7 := by
  unfold sumP; rw [fold_cell ts zeros zeros_good hok c hc, zeros_get, Nat.zero_add]
theorem good_ext {p q : List Nat} (hp : Good p) (hq : Good q) (h : ∀ c, c < 35 → p.getD c 0 = q.getD c 0) : p = q := by
  apply List.ext_getElem
  · rw [hp.1, hq.1]
  · intro c g1 g2
    have := h c (by rw [hp.1] at g1; exact g1)
    rw [List.getD_eq_getElem?_getD, List.getD_eq_getElem?_getD, List.getElem?_eq_getElem g1, List.getElem?_eq_getElem g2] at this
    simpa using this
theorem ok_append {a b : List T4} (ha : ∀ t ∈ a, ok4 t) (hb : ∀ t ∈ b, ok4 t) : ∀ t ∈ a ++ b, ok4 t := fun t ht => by
  rw [List.mem_append] at ht
  rcases ht with h | h
  · exact ha t h
  · exact hb t h
/-- In whichever order. -/
theorem sumP_comm {a b : List T4} (ha : ∀ t ∈ a, ok4 t) (hb : ∀ t ∈ b, ok4 t) : sumP (a ++ b) = sumP (b ++ a) :=
  good_ext (sumP_good _) (sumP_good _) fun c hc => by
    rw [sumP_cell (ok_append ha hb) hc, sumP_cell (ok_append hb ha) hc, sm_append, sm_append, Nat.add_comm]
/-- The sum is worth the sum. -/
theorem sumP_val {a b : List T4} (ha : ∀ t ∈ a, ok4 t) (hb : ∀ t ∈ b, ok4 t) (u x : Nat) : valP (sumP (a ++ b)) u x = (valP (sumP a) u x + valP (sumP b) u x) % 7 :=
  valP_add (fun c hc => by rw [sumP_cell (ok_append ha hb) hc, sumP_cell ha hc, sumP_cell hb hc, sm_append]; omega) u x
/-- A term 0 adds nothing. -/
theorem sumP_none {a : List T4} (ha : ∀ t ∈ a, ok4 t) (sg : Nat) : sumP (a ++ [⟨sg, 0, 0, 0⟩]) = sumP a := by
  have h0 : ∀ t ∈ [(⟨sg, 0, 0, 0⟩ : T4)], ok4 t := fun t ht => by
    rw [List.mem_singleton] at ht; subst ht; exact ⟨by simp, by simp⟩
  refine good_ext (sumP_good _) (sumP_good _) fun c hc => ?_
  rw [sumP_cell (ok_append ha h0) hc, sumP_cell ha hc, sm_append]
  simp [sm]
end Go.Proofs.YthlmgpllapccfaaDoor
/- PLAIN, FOR SUMS: a written sum, with spaces and signs, is read as its terms. -/
namespace Go.Proofs.YthlmgpllapccfaaDoor

/-- Token k is the first one from byte i on, where the text is R. -/
def ZAt (s : ByteArray) (k i : Nat) (R : List UInt8) : Prop := skip s (pos s 0 k) = skip s i ∧ k ≤ i ∧ Sfx s i R
theorem ZAt.tk {s : ByteArray} {k i : Nat} {R : List UInt8} (h : ZAt s k i R) : tk s 0 k = tok s i := by
  unfold Go.Proofs.YthlmgpllapccfaaDoor.tk tok; rw [h.1]
theorem ZAt.space {s : ByteArray} {k i : Nat} {R : List UInt8} (h : ZAt s k i (32 :: R)) : ZAt s k (i + 1) R := by
  obtain ⟨hb, hs⟩ := h.2.2.cons
  exact ⟨by rw [h.1]; exact skip_space hb, by have := h.2.1; omega, hs⟩
theorem ZAt.next {s : ByteArray} {k i j : Nat} {R R' : List UInt8} {c a v : Nat} (h : ZAt s k i R) (ht : tok s i = ⟨c, a, j, v⟩) (hj : i < j) (hs : Sfx s j R') : ZAt s (k + 1) j R' := by
  refine ⟨?_, by have := h.2.1; omega, hs⟩
  have e : pos s 0 (k + 1) = j := by
    show (tok s (pos s 0 k)).to = j
    have e2 : tok s (pos s 0 k) = tok s i := by unfold tok; rw [h.1]
    rw [e2, ht]
  rw [e]
theorem tok_num2 {s : ByteArray} {i : Nat} {d : UInt8} {R : List UInt8} (h : Sfx s i (49 :: d :: R)) (h0 : 48 ≤ d.toNat) (h9 : d.toNat ≤ 57) : tok s i = ⟨1, i, i + 2, 10 + (d.toNat - 48)⟩ := by
  obtain ⟨hb, hs⟩ := h.cons
  obtain ⟨hb2, _⟩ := hs.cons
  have hb' : byt s i = 49 := hb
  have hd : isD s i = true := by rw [isD_iff]; omega
  have hd2 : isD s (i + 1) = true := by rw [isD_iff]; omega
  unfold tok
  rw [skip_here (by omega)]
  unfold tokAt
  rw [if_neg (by omega), if_pos hd, if_pos hd2, hb', hb2]
theorem tok_minus {s : ByteArray} {i : Nat} {R : List UInt8} (h : Sfx s i (45 :: R)) : tok s i = ⟨49, i, i + 1, 0⟩ := by
  obtain ⟨hb, hs⟩ := h.cons
  have hb' : byt s i = 45 := hb
  have hd : ¬ isD s i = true := by rw [isD_iff]; omega
  unfold tok
  rw [skip_here (by omega)]
  unfold tokAt
  rw [if_neg (by omega), if_neg hd, if_neg (by omega), if_neg (by omega), hb']

/-- A term ends here: spaces, then the end or a sign. -/
def spp : List UInt8 → Prop
  | [] => True
  | c :: R => c = 43 ∨ c = 45 ∨ (c = 32 ∧ spp R)
theorem spp_nd {R : List UInt8} (h : spp R) : nd R := by
  cases R with
  | nil => trivial
  | cons c R =>
    rcases h with h | h | ⟨h, _⟩ <;> subst h
    · exact (by decide : ¬ (48 ≤ (43 : UInt8).toNat ∧ (43 : UInt8).toNat ≤ 57))
    · exact (by decide : ¬ (48 ≤ (45 : UInt8).toNat ∧ (45 : UInt8).toNat ≤ 57))
    · exact (by decide : ¬ (48 ≤ (32 : UInt8).toNat ∧ (32 : UInt8).toNat ≤ 57))
theorem spp_tok {s : ByteArray} : ∀ (R : List UInt8) (k i : Nat), ZAt s k i R → spp R → (tk s 0 k).c ≠ 2 ∧ (tk s 0 k).c ≠ 3
  | [], k, i, h, _ => by rw [h.tk, tok_end h.2.2]; simp
  | c :: R, k, i, h, hs => by
    rcases hs with e | e | ⟨e, hs⟩
    · subst e; rw [h.tk, tok_plus h.2.2]; simp
    · subst e; rw [h.tk, tok_minus h.2.2]; simp
    · subst e; exact spp_tok R k (i + 1) h.space hs

def pkx (x : Nat) : List UInt8 := if x = 0 then [] else [32, 120, dgt x]
def pku (u : Nat) : List UInt8 := if u = 0 then [] else [117, dgt u]
def knum (n : Nat) : List UInt8 := if 9 < n then [49, dgt (n - 10)] else [dgt n]
/-- A term as the statement writes it. -/
def ktx (n u x : Nat) : List UInt8 := knum n ++ (pku u ++ pkx x)
theorem read_pkx {s : ByteArray} {k i x u m : Nat} {R : List UInt8} (h : ZAt s k i (pkx x ++ R)) (hs : spp R) (hx : x ≤ 4) (hm : (pkx x).length ≤ m) :
    ∃ k', pw (tk s 0) false m k u 0 = ⟨0, 0, k', u, x⟩ ∧ ZAt s k' (i + (pkx x).length) R := by
  unfold pkx at *
  by_cases h0 : x = 0
  · subst h0
    simp only [if_true, List.nil_append, List.length_nil, Nat.add_zero] at *
    obtain ⟨a, b⟩ := spp_tok R k i h hs
    exact ⟨k, pw_end a b, h⟩
  · rw [if_neg h0] at *
    simp only [List.cons_append, List.nil_append, List.length_cons, List.length_nil] at *
    have h' := h.space
    have hd := dgt_nat (n := x) (by omega)
    have ht := tok_x2 h'.2.2 (by omega) (by omega)
    have hn := h'.next ht (by omega) h'.2.2.cons.2.cons.2
    obtain ⟨a, b⟩ := spp_tok R _ _ hn hs
    refine ⟨k + 1, ?_, hn⟩
    have e : (dgt x).toNat - 48 = x := by omega
    rw [e] at ht
    rw [pw_x (by omega) (by rw [h'.tk, ht]) (by rw [h'.tk, ht]; show 0 + x ≤ 4; omega), h'.tk, ht]
    show pw (tk s 0) false (m - 1) (k + 1) u (0 + x) = _
    rw [Nat.zero_add]
    exact pw_end a b
theorem read_pk {s : ByteArray} {k i u x m : Nat} {R : List UInt8} (h : ZAt s k i (pku u ++ (pkx x ++ R))) (hs : spp R) (hu : u ≤ 6) (hx : x ≤ 4) (hm : (pku u).length + (pkx x).length ≤ m) :
    ∃ k', pw (tk s 0) false m k 0 0 = ⟨0, 0, k', u, x⟩ ∧ ZAt s k' (i + ((pku u).length + (pkx x).length)) R := by
  by_cases h0 : u = 0
  · subst h0
    have e : pku 0 = [] := rfl
    rw [e] at h hm ⊢
    simp only [List.nil_append, List.length_nil, Nat.zero_add] at *
    exact read_pkx h hs hx hm
  · have e : pku u = [117, dgt u] := by unfold pku; rw [if_neg h0]
    rw [e] at h hm ⊢
    simp only [List.cons_append, List.nil_append, List.length_cons, List.length_nil, Nat.zero_add] at *
    have hd := dgt_nat (n := u) (by omega)
    have ht := tok_u2 h.2.2 (by omega) (by omega)
    have hn := h.next ht (by omega) h.2.2.cons.2.cons.2
    have e' : (dgt u).toNat - 48 = u := by omega
    rw [e'] at ht
    obtain ⟨k', e1, ha⟩ := read_pkx (u := u) (m := m - 1) hn hs hx (by omega)
    refine ⟨k', ?_, by rw [← Nat.add_assoc]; exact ha⟩
    rw [pw_u (by omega) (by rw [h.tk, ht]) (by rw [h.tk, ht]; show 0 + u ≤ 6; omega), h.tk, ht]
    show pw (tk s 0) false (m - 1) (k + 1) (0 + u) 0 = _
    rw [Nat.zero_add]
    exact e1
theorem nd_pk {u x : Nat} {R : List UInt8} (hs : spp R) : nd (pku u ++ (pkx x ++ R)) := by
  unfold pku
  split
  · unfold pkx
    split
    · exact spp_nd hs
    · exact (by decide : ¬ (48 ≤ (32 : UInt8).toNat ∧ (32 : UInt8).toNat ≤ 57))
  · exact (by decide : ¬ (48 ≤ (117 : UInt8).toNat ∧ (117 : UInt8).toNat ≤ 57))
theorem ktx_len (n u x : Nat) : (ktx n u x).length = (knum n).length + ((pku u).length + (pkx x).length) := by unfold ktx; rw [List.length_append, List.length_append]
theorem read_num {s : ByteArray} {k i n : Nat} {R : List UInt8} (h : ZAt s k i (knum n ++ R)) (hn : n ≤ 13) (hd : nd R) : tok s i = ⟨1, i, i + (knum n).length, n⟩ ∧ Sfx s (i + (knum n).length) R ∧ 0 < (knum n).length := by
  unfold knum at *
  by_cases h9 : 9 < n
  · rw [if_pos h9] at *
    have e := dgt_nat (n := n - 10) (by omega)
    have ht := tok_num2 h.2.2 (by omega) (by omega)
    rw [show 10 + ((dgt (n - 10)).toNat - 48) = n by omega] at ht
    exact ⟨ht, h.2.2.cons.2.cons.2, by simp⟩
  · rw [if_neg h9] at *
    have e := dgt_nat (n := n) (by omega)
    have ht := tok_num h.2.2 (by omega) (by omega) hd
    rw [show (dgt n).toNat - 48 = n by omega] at ht
    exact ⟨ht, h.2.2.cons.2, by simp⟩
theorem read_ktx {s : ByteArray} {k i n u x N : Nat} {R : List UInt8} (h : ZAt s k i (ktx n u x ++ R)) (hs : spp R) (hn : n ≤ 13) (hu : u ≤ 6) (hx : x ≤ 4) (hN : (ktx n u x).length ≤ N - k) :
    ∃ k', tm (tk s 0) false N k = ⟨0, 0, k', n, u, x⟩ ∧ ZAt s k' (i + (ktx n u x).length) R := by
  rw [ktx_len] at *
  unfold ktx at h
  rw [List.append_assoc, List.append_assoc] at h
  obtain ⟨ht, hs2, hp⟩ := read_num h hn (nd_pk hs)
  have hnx := h.next ht (by omega) hs2
  obtain ⟨k', e1, ha⟩ := read_pk (m := N - (k + 1)) hnx hs hu hx (by omega)
  refine ⟨k', ?_, by rw [← Nat.add_assoc]; exact ha⟩
  unfold tm
  have hc1 : (tk s 0 k).c = 1 := by rw [h.tk, ht]
  have hv : (tk s 0 k).v = n := by rw [h.tk, ht]
  rw [if_pos hc1, e1, hv]

/-- What stands between two terms, and the sign that it gives. -/
def okSep (sep : List UInt8) (sg : Nat) : Prop := (sep = [43] ∧ sg = 1) ∨ (sep = [32, 43, 32] ∧ sg = 1) ∨ (sep = [32, 45, 32] ∧ sg = 6) ∨ (sep = [45] ∧ sg = 6)
theorem okSep_spp {sep R : List UInt8} {sg : Nat} (h : okSep sep sg) : spp (sep ++ R) := by
  rcases h with ⟨rfl, _⟩ | ⟨rfl, _⟩ | ⟨rfl, _⟩ | ⟨rfl, _⟩
  · exact Or.inl rfl
  · exact Or.inr (Or.inr ⟨rfl, Or.inl rfl⟩)
  · exact Or.inr (Or.inr ⟨rfl, Or.inr (Or.inl rfl)⟩)
  · exact Or.inr (Or.inl rfl)
theorem read_sep {s : ByteArray} {k i sg : Nat} {sep R : List UInt8} (h : ZAt s k i (sep ++ R)) (ho : okSep sep sg) : (((tk s 0 k).c = 47 ∧ sg = 1) ∨ ((tk s 0 k).c = 49 ∧ sg = 6)) ∧ ZAt s (k + 1) (i + sep.length) R := by
  rcases ho with ⟨rfl, rfl⟩ | ⟨rfl, rfl⟩ | ⟨rfl, rfl⟩ | ⟨rfl, rfl⟩
  · have ht := tok_plus h.2.2
    exact ⟨Or.inl ⟨by rw [h.tk, ht], rfl⟩, h.next ht (by simp) h.2.2.cons.2⟩
  · have h1 := h.space
    have ht := tok_plus h1.2.2
    exact ⟨Or.inl ⟨by rw [h1.tk, ht], rfl⟩, (h1.next ht (by omega) h1.2.2.cons.2).space⟩
  · have h1 := h.space
    have ht := tok_minus h1.2.2
    exact ⟨Or.inr ⟨by rw [h1.tk, ht], rfl⟩, (h1.next ht (by omega) h1.2.2.cons.2).space⟩
  · have ht := tok_minus h.2.2
    exact ⟨Or.inr ⟨by rw [h.tk, ht], rfl⟩, h.next ht (by simp) h.2.2.cons.2⟩

/-- A sign with its spaces, and a term. -/
structure It where
  sep : List UInt8
  t : T4
def okT (t : T4) : Prop := t.n ≤ 13 ∧ t.u ≤ 6 ∧ t.x ≤ 4
def okI (a : It) : Prop := okSep a.sep a.t.sg ∧ okT a.t
def its : List It → List UInt8
  | [] => []
  | a :: r => a.sep ++ (ktx a.t.n a.t.u a.t.x ++ its r)
theorem ktx_pos (n u x : Nat) : 0 < (ktx n u x).length := by
  rw [ktx_len]; unfold knum; split <;> simp <;> omega
theorem read_its {s : ByteArray} : ∀ (r : List It) (t : T4) (q : List Nat) (m k i : Nat), okT t → (∀ a ∈ r, okI a) → ZAt s k i (ktx t.n t.u t.x ++ its r) → s.size + 1 ≤ m + i →
    ∃ k', pl (tk s 0) false s.size m k t.sg q = ⟨0, 0, k', (t :: r.map It.t).foldl add4 q⟩ ∧ ZAt s k' s.size [] := by
  intro r
  induction r with
  | nil =>
    intro t q m k i ht _ h hm
    have hlen := h.2.2.len
    have hk := h.2.1
    have hp := ktx_pos t.n t.u t.x
    rw [List.length_append] at hlen
    obtain ⟨m, rfl⟩ : ∃ m', m = m' + 1 := ⟨m - 1, by omega⟩
    obtain ⟨k', e1, ha⟩ := read_ktx (N := s.size) h trivial ht.1 ht.2.1 ht.2.2 (by omega)
    have hz : (tk s 0 k').c = 0 := by rw [ha.tk, tok_end ha.2.2]
    refine ⟨k', ?_, by simp only [its, List.length_nil] at hlen; rw [← hlen]; exact ha⟩
    rw [pl, e1]
    simp only [if_true]
    rw [if_neg (by omega), if_neg (by omega)]
    rfl
  | cons a r ih =>
    intro t q m k i ht hok h hm
    have hlen := h.2.2.len
    have hk := h.2.1
    have hp := ktx_pos t.n t.u t.x
    obtain ⟨ho, hoT⟩ := hok a (by simp)
    rw [List.length_append] at hlen
    obtain ⟨m, rfl⟩ : ∃ m', m = m' + 1 := ⟨m - 1, by omega⟩
    obtain ⟨k', e1, ha⟩ := read_ktx (N := s.size) h (okSep_spp ho) ht.1 ht.2.1 ht.2.2 (by omega)
    obtain ⟨hc, hb⟩ := read_sep ha ho
    obtain ⟨k2, e2, hd⟩ := ih a.t (add4 q t) m (k' + 1) _ hoT (fun y hy => hok y (by simp [hy])) hb (by omega)
    refine ⟨k2, ?_, hd⟩
    rw [pl, e1]
    simp only [if_true]
    rcases hc with ⟨hc, hsg⟩ | ⟨hc, hsg⟩
    · rw [if_pos hc]
      rw [hsg] at e2
      exact e2
    · rw [if_neg (by omega), if_pos hc]
      rw [hsg] at e2
      exact e2
/-- A WRITTEN SUM IS READ AS ITS TERMS. -/
theorem rd_sum (t : T4) (r : List It) (ht : okT t) (h1 : t.sg = 1) (hok : ∀ a ∈ r, okI a) (hl : (ktx t.n t.u t.x ++ its r).length ≤ 90) : rd (bs (ktx t.n t.u t.x ++ its r)) = ⟨0, 0, sumP (t :: r.map It.t)⟩ := by
  generalize hT : ktx t.n t.u t.x ++ its r = T at *
  have hsz : (bs T).size = T.length := by rw [ByteArray.size]; simp [bs]
  have hat : ZAt (bs T) 0 0 (ktx t.n t.u t.x ++ its r) := ⟨rfl, Nat.le_refl _, by rw [hT]; rfl, Nat.zero_le _⟩
  obtain ⟨k', e, ha⟩ := read_its r t zeros ((bs T).size + 1) 0 0 ht hok hat (by omega)
  rw [h1] at e
  have hend : (tk (bs T) 0 k').c = 0 := by rw [ha.tk, tok_end ha.2.2]
  have h49 : (tk (bs T) 0 0).c ≠ 49 := by
    intro q
    have e4 : (tm (tk (bs T) 0) false (bs T).size 0).e = 4 := by unfold tm; rw [if_neg (by omega), if_neg (by omega)]
    have e5 : (pl (tk (bs T) 0) false (bs T).size ((bs T).size + 1) 0 1 zeros).e = 4 := by rw [pl, if_neg (by omega)]; exact e4
    rw [e] at e5
    exact absurd e5 (by simp)
  have hpoly : poly (tk (bs T) 0) false (bs T).size 0 = ⟨0, 0, k', sumP (t :: r.map It.t)⟩ := by
    unfold poly; rw [if_neg h49, e]; rfl
  unfold rd
  rw [if_neg (by omega), hpoly]
  simp only [if_true]
  rw [if_pos hend]
end Go.Proofs.YthlmgpllapccfaaDoor
/- ADDED: the statement's own function term. -/
namespace Go.Proofs.YthlmgpllapccfaaDoor
open Go.RowKit
set_option maxRecDepth 100000 in
set_option maxHeartbeats 2000000 in
theorem kterm_111 (v : Int) (top n u x : Nat) (Tp : Int) (w : World) (hT : Tp = top) (ht : top ≤ 4) (h1 : -9223372036854775808 ≤ v) (h2 : v ≤ 9223372036854775807) (HN : Hid (pck v 14 = n)) (HU : Hid (pck (Int.tdiv v 14) 3 = u)) (HX : Hid (pck (Int.tdiv v 42) (top + 1) = x)) (hn : n ≤ 13) (hu : u ≤ 2) (hx : x ≤ 4) (c1 : 9 < n) (c2 : 0 < u) (c3 : 0 < x) :
    Calls Tryd.prog 13 #[.int .i64 v, .int .i64 Tp] w fun e w' => e = .returned (.string (bs (ktx n u x))) ∧ Below w.heap.size w w' := by
  subst hT
  have b1 : -9223372036854775808 ≤ Int.tdiv v 14 ∧ Int.tdiv v 14 ≤ 9223372036854775807 := tdiv_bd v 14 (by omega) h1 h2
  have b2 : -9223372036854775808 ≤ Int.tdiv v 42 ∧ Int.tdiv v 42 ≤ 9223372036854775807 := tdiv_bd v 42 (by omega) h1 h2
  have hn9 : (9 : Int) < (n : Int) := by omega
  have hu0 : (0 : Int) < (u : Int) := by omega
  have hx0 : (0 : Int) < (x : Int) := by omega
  obtain ⟨Y1, HY1⟩ : ∃ Y, Hid ([49] ++ [dgt (n - 10)] = Y) := ⟨_, hidT rfl⟩
  have HL1 : Hid (Y1.length ≤ 2) := by unfold Hid; rw [← HY1.out]; simp
  have hadd1 := fun (w' : World) => add_to0 [49] ⟨#[49]⟩ [dgt (n - 10)] Y1 (bs [dgt (n - 10)]) rfl rfl HY1.out (by simp) (by simp) w'
  obtain ⟨Y2, HY2⟩ : ∃ Y, Hid (Y1 ++ [117] = Y) := ⟨_, hidT rfl⟩
  have HL2 : Hid (Y2.length ≤ 3) := by unfold Hid; rw [← HY2.out, List.length_append]; have := HL1.out; simp; omega
  have hadd2 := fun (w' : World) => add_to Y1 [117] Y2 ⟨#[117]⟩ rfl HY2.out (by have := HL1.out; omega) (by simp) w'
  obtain ⟨Y3, HY3⟩ : ∃ Y, Hid (Y2 ++ [dgt u] = Y) := ⟨_, hidT rfl⟩
  have HL3 : Hid (Y3.length ≤ 4) := by unfold Hid; rw [← HY3.out, List.length_append]; have := HL2.out; simp; omega
  have hadd3 := fun (w' : World) => add_to Y2 [dgt u] Y3 (bs [dgt u]) rfl HY3.out (by have := HL2.out; omega) (by simp) w'
  obtain ⟨Y4, HY4⟩ : ∃ Y, Hid (Y3 ++ [32, 120] = Y) := ⟨_, hidT rfl⟩
  have HL4 : Hid (Y4.length ≤ 6) := by unfold Hid; rw [← HY4.out, List.length_append]; have := HL3.out; simp; omega
  have hadd4 := fun (w' : World) => add_to Y3 [32, 120] Y4 ⟨#[32, 120]⟩ rfl HY4.out (by have := HL3.out; omega) (by simp) w'
  obtain ⟨Y5, HY5⟩ : ∃ Y, Hid (Y4 ++ [dgt x] = Y) := ⟨_, hidT rfl⟩
  have hadd5 := fun (w' : World) => add_to Y4 [dgt x] Y5 (bs [dgt x]) rfl HY5.out (by have := HL4.out; omega) (by simp) w'
  have HF : Hid (ktx n u x = Y5) := by unfold Hid ktx knum pku pkx; rw [if_pos (by omega), if_neg (by omega), if_neg (by omega), ← HY5.out, ← HY4.out, ← HY3.out, ← HY2.out, ← HY1.out]; simp
  rw [HF.out]
  go_enter Tryd.func13, Tryd.ntmps13
  go_wp2_with (first | (go_at_call 14; first | (refine (kpick_to v 14 _ _ _ (by rfl) (by rfl) (by omega) (by omega) h1 h2).mono ?_; rintro e wp ⟨rfl, rfl⟩; rw [HN.out]) | (refine (kpick_to (Int.tdiv v 14) 3 _ _ _ (by rfl) (by rfl) (by omega) (by omega) (by omega) (by omega)).mono ?_; rintro e wp ⟨rfl, rfl⟩; rw [HU.out]) | (refine (kpick_to (Int.tdiv v 42) (top + 1) _ _ _ (by rfl) (by omega) (by omega) (by omega) (by omega) (by omega)).mono ?_; rintro e wp ⟨rfl, rfl⟩; rw [HX.out])) | (go_at_call 23; first | (refine (kdigit_any (n - 10) _ _ (by omega) (by omega)).mono ?_; rintro e w1 ⟨rfl, hb1⟩; have HB1 := hidT hb1) | (refine (kdigit_any u _ _ (by rfl) (by omega)).mono ?_; rintro e w2 ⟨rfl, hb2⟩; have HB2 := hidT hb2) | (refine (kdigit_any x _ _ (by rfl) (by omega)).mono ?_; rintro e w3 ⟨rfl, hb3⟩; have HB3 := hidT hb3)))
  go_ret
  exact ⟨rfl, bel2 (bel2 (HB1.out) HB2.out) HB3.out⟩
set_option maxRecDepth 100000 in
set_option maxHeartbeats 2000000 in
theorem kterm_110 (v : Int) (top n u x : Nat) (Tp : Int) (w : World) (hT : Tp = top) (ht : top ≤ 4) (h1 : -9223372036854775808 ≤ v) (h2 : v ≤ 9223372036854775807) (HN : Hid (pck v 14 = n)) (HU : Hid (pck (Int.tdiv v 14) 3 = u)) (HX : Hid (pck (Int.tdiv v 42) (top + 1) = x)) (hn : n ≤ 13) (hu : u ≤ 2) (_hx : x ≤ 4) (c1 : 9 < n) (c2 : 0 < u) (c3 : x = 0) :
    Calls Tryd.prog 13 #[.int .i64 v, .int .i64 Tp] w fun e w' => e = .returned (.string (bs (ktx n u x))) ∧ Below w.heap.size w w' := by
  subst hT
  have b1 : -9223372036854775808 ≤ Int.tdiv v 14 ∧ Int.tdiv v 14 ≤ 9223372036854775807 := tdiv_bd v 14 (by omega) h1 h2
  have b2 : -9223372036854775808 ≤ Int.tdiv v 42 ∧ Int.tdiv v 42 ≤ 9223372036854775807 := tdiv_bd v 42 (by omega) h1 h2
  have hn9 : (9 : Int) < (n : Int) := by omega
  have hu0 : (0 : Int) < (u : Int) := by omega
  have hx0 : ¬ ((0 : Int) < (x : Int)) := by omega
  obtain ⟨Y1, HY1⟩ : ∃ Y, Hid ([49] ++ [dgt (n - 10)] = Y) := ⟨_, hidT rfl⟩
  have HL1 : Hid (Y1.length ≤ 2) := by unfold Hid; rw [← HY1.out]; simp
  have hadd1 := fun (w' : World) => add_to0 [49] ⟨#[49]⟩ [dgt (n - 10)] Y1 (bs [dgt (n - 10)]) rfl rfl HY1.out (by simp) (by simp) w'
  obtain ⟨Y2, HY2⟩ : ∃ Y, Hid (Y1 ++ [117] = Y) := ⟨_, hidT rfl⟩
  have HL2 : Hid (Y2.length ≤ 3) := by unfold Hid; rw [← HY2.out, List.length_append]; have := HL1.out; simp; omega
  have hadd2 := fun (w' : World) => add_to Y1 [117] Y2 ⟨#[117]⟩ rfl HY2.out (by have := HL1.out; omega) (by simp) w'
  obtain ⟨Y3, HY3⟩ : ∃ Y, Hid (Y2 ++ [dgt u] = Y) := ⟨_, hidT rfl⟩
  have HL3 : Hid (Y3.length ≤ 4) := by unfold Hid; rw [← HY3.out, List.length_append]; have := HL2.out; simp; omega
  have hadd3 := fun (w' : World) => add_to Y2 [dgt u] Y3 (bs [dgt u]) rfl HY3.out (by have := HL2.out; omega) (by simp) w'
  have HF : Hid (ktx n u x = Y3) := by unfold Hid ktx knum pku pkx; rw [if_pos (by omega), if_neg (by omega), if_pos (by omega), ← HY3.out, ← HY2.out, ← HY1.out]; simp
  rw [HF.out]
  go_enter Tryd.func13, Tryd.ntmps13
  go_wp2_with (first | (go_at_call 14; first | (refine (kpick_to v 14 _ _ _ (by rfl) (by rfl) (by omega) (by omega) h1 h2).mono ?_; rintro e wp ⟨rfl, rfl⟩; rw [HN.out]) | (refine (kpick_to (Int.tdiv v 14) 3 _ _ _ (by rfl) (by rfl) (by omega) (by omega) (by omega) (by omega)).mono ?_; rintro e wp ⟨rfl, rfl⟩; rw [HU.out]) | (refine (kpick_to (Int.tdiv v 42) (top + 1) _ _ _ (by rfl) (by omega) (by omega) (by omega) (by omega) (by omega)).mono ?_; rintro e wp ⟨rfl, rfl⟩; rw [HX.out])) | (go_at_call 23; first | (refine (kdigit_any (n - 10) _ _ (by omega) (by omega)).mono ?_; rintro e w1 ⟨rfl, hb1⟩; have HB1 := hidT hb1) | (refine (kdigit_any u _ _ (by rfl) (by omega)).mono ?_; rintro e w2 ⟨rfl, hb2⟩; have HB2 := hidT hb2)))
  go_ret
  exact ⟨rfl, bel2 (HB1.out) HB2.out⟩
set_option maxRecDepth 100000 in
set_option maxHeartbeats 2000000 in
theorem kterm_101 (v : Int) (top n u x : Nat) (Tp : Int) (w : World) (hT : Tp = top) (ht : top ≤ 4) (h1 : -9223372036854775808 ≤ v) (h2 : v ≤ 9223372036854775807) (HN : Hid (pck v 14 = n)) (HU : Hid (pck (Int.tdiv v 14) 3 = u)) (HX : Hid (pck (Int.tdiv v 42) (top + 1) = x)) (hn : n ≤ 13) (_hu : u ≤ 2) (hx : x ≤ 4) (c1 : 9 < n) (c2 : u = 0) (c3 : 0 < x) :
    Calls Tryd.prog 13 #[.int .i64 v, .int .i64 Tp] w fun e w' => e = .returned (.string (bs (ktx n u x))) ∧ Below w.heap.size w w' := by
  subst hT
  have b1 : -9223372036854775808 ≤ Int.tdiv v 14 ∧ Int.tdiv v 14 ≤ 9223372036854775807 := tdiv_bd v 14 (by omega) h1 h2
  have b2 : -9223372036854775808 ≤ Int.tdiv v 42 ∧ Int.tdiv v 42 ≤ 9223372036854775807 := tdiv_bd v 42 (by omega) h1 h2
  have hn9 : (9 : Int) < (n : Int) := by omega
  have hu0 : ¬ ((0 : Int) < (u : Int)) := by omega
  have hx0 : (0 : Int) < (x : Int) := by omega
  obtain ⟨Y1, HY1⟩ : ∃ Y, Hid ([49] ++ [dgt (n - 10)] = Y) := ⟨_, hidT rfl⟩
  have HL1 : Hid (Y1.length ≤ 2) := by unfold Hid; rw [← HY1.out]; simp
  have hadd1 := fun (w' : World) => add_to0 [49] ⟨#[49]⟩ [dgt (n - 10)] Y1 (bs [dgt (n - 10)]) rfl rfl HY1.out (by simp) (by simp) w'
  obtain ⟨Y4, HY4⟩ : ∃ Y, Hid (Y1 ++ [32, 120] = Y) := ⟨_, hidT rfl⟩
  have HL4 : Hid (Y4.length ≤ 6) := by unfold Hid; rw [← HY4.out, List.length_append]; have := HL1.out; simp; omega
  have hadd4 := fun (w' : World) => add_to Y1 [32, 120] Y4 ⟨#[32, 120]⟩ rfl HY4.out (by have := HL1.out; omega) (by simp) w'
  obtain ⟨Y5, HY5⟩ : ∃ Y, Hid (Y4 ++ [dgt x] = Y) := ⟨_, hidT rfl⟩
  have hadd5 := fun (w' : World) => add_to Y4 [dgt x] Y5 (bs [dgt x]) rfl HY5.out (by have := HL4.out; omega) (by simp) w'
  have HF : Hid (ktx n u x = Y5) := by unfold Hid ktx knum pku pkx; rw [if_pos (by omega), if_pos (by omega), if_neg (by omega), ← HY5.out, ← HY4.out, ← HY1.out]; simp
  rw [HF.out]
  go_enter Tryd.func13, Tryd.ntmps13
  go_wp2_with (first | (go_at_call 14; first | (refine (kpick_to v 14 _ _ _ (by rfl) (by rfl) (by omega) (by omega) h1 h2).mono ?_; rintro e wp ⟨rfl, rfl⟩; rw [HN.out]) | (refine (kpick_to (Int.tdiv v 14) 3 _ _ _ (by rfl) (by rfl) (by omega) (by omega) (by omega) (by omega)).mono ?_; rintro e wp ⟨rfl, rfl⟩; rw [HU.out]) | (refine (kpick_to (Int.tdiv v 42) (top + 1) _ _ _ (by rfl) (by omega) (by omega) (by omega) (by omega) (by omega)).mono ?_; rintro e wp ⟨rfl, rfl⟩; rw [HX.out])) | (go_at_call 23; first | (refine (kdigit_any (n - 10) _ _ (by omega) (by omega)).mono ?_; rintro e w1 ⟨rfl, hb1⟩; have HB1 := hidT hb1) | (refine (kdigit_any x _ _ (by rfl) (by omega)).mono ?_; rintro e w3 ⟨rfl, hb3⟩; have HB3 := hidT hb3)))
  go_ret
  exact ⟨rfl, bel2 (HB1.out) HB3.out⟩
set_option maxRecDepth 100000 in
set_option maxHeartbeats 2000000 in
theorem kterm_100 (v : Int) (top n u x : Nat) (Tp : Int) (w : World) (hT : Tp = top) (ht : top ≤ 4) (h1 : -9223372036854775808 ≤ v) (h2 : v ≤ 9223372036854775807) (HN : Hid (pck v 14 = n)) (HU : Hid (pck (Int.tdiv v 14) 3 = u)) (HX : Hid (pck (Int.tdiv v 42) (top + 1) = x)) (hn : n ≤ 13) (_hu : u ≤ 2) (_hx : x ≤ 4) (c1 : 9 < n) (c2 : u = 0) (c3 : x = 0) :
    Calls Tryd.prog 13 #[.int .i64 v, .int .i64 Tp] w fun e w' => e = .returned (.string (bs (ktx n u x))) ∧ Below w.heap.size w w' := by
  subst hT
  have b1 : -9223372036854775808 ≤ Int.tdiv v 14 ∧ Int.tdiv v 14 ≤ 9223372036854775807 := tdiv_bd v 14 (by omega) h1 h2
  have b2 : -9223372036854775808 ≤ Int.tdiv v 42 ∧ Int.tdiv v 42 ≤ 9223372036854775807 := tdiv_bd v 42 (by omega) h1 h2
  have hn9 : (9 : Int) < (n : Int) := by omega
  have hu0 : ¬ ((0 : Int) < (u : Int)) := by omega
  have hx0 : ¬ ((0 : Int) < (x : Int)) := by omega
  obtain ⟨Y1, HY1⟩ : ∃ Y, Hid ([49] ++ [dgt (n - 10)] = Y) := ⟨_, hidT rfl⟩
  have HL1 : Hid (Y1.length ≤ 2) := by unfold Hid; rw [← HY1.out]; simp
  have hadd1 := fun (w' : World) => add_to0 [49] ⟨#[49]⟩ [dgt (n - 10)] Y1 (bs [dgt (n - 10)]) rfl rfl HY1.out (by simp) (by simp) w'
  have HF : Hid (ktx n u x = Y1) := by unfold Hid ktx knum pku pkx; rw [if_pos (by omega), if_pos (by omega), if_pos (by omega), ← HY1.out]; simp
  rw [HF.out]
  go_enter Tryd.func13, Tryd.ntmps13
  go_wp2_with (first | (go_at_call 14; first | (refine (kpick_to v 14 _ _ _ (by rfl) (by rfl) (by omega) (by omega) h1 h2).mono ?_; rintro e wp ⟨rfl, rfl⟩; rw [HN.out]) | (refine (kpick_to (Int.tdiv v 14) 3 _ _ _ (by rfl) (by rfl) (by omega) (by omega) (by omega) (by omega)).mono ?_; rintro e wp ⟨rfl, rfl⟩; rw [HU.out]) | (refine (kpick_to (Int.tdiv v 42) (top + 1) _ _ _ (by rfl) (by omega) (by omega) (by omega) (by omega) (by omega)).mono ?_; rintro e wp ⟨rfl, rfl⟩; rw [HX.out])) | (go_at_call 23; first | (refine (kdigit_any (n - 10) _ _ (by omega) (by omega)).mono ?_; rintro e w1 ⟨rfl, hb1⟩; have HB1 := hidT hb1)))
  go_ret
  exact ⟨rfl, HB1.out⟩
set_option maxRecDepth 100000 in
set_option maxHeartbeats 2000000 in
theorem kterm_011 (v : Int) (top n u x : Nat) (Tp : Int) (w : World) (hT : Tp = top) (ht : top ≤ 4) (h1 : -9223372036854775808 ≤ v) (h2 : v ≤ 9223372036854775807) (HN : Hid (pck v 14 = n)) (HU : Hid (pck (Int.tdiv v 14) 3 = u)) (HX : Hid (pck (Int.tdiv v 42) (top + 1) = x)) (hn : n ≤ 13) (hu : u ≤ 2) (hx : x ≤ 4) (c1 : ¬ 9 < n) (c2 : 0 < u) (c3 : 0 < x) :
    Calls Tryd.prog 13 #[.int .i64 v, .int .i64 Tp] w fun e w' => e = .returned (.string (bs (ktx n u x))) ∧ Below w.heap.size w w' := by
  subst hT
  have b1 : -9223372036854775808 ≤ Int.tdiv v 14 ∧ Int.tdiv v 14 ≤ 9223372036854775807 := tdiv_bd v 14 (by omega) h1 h2
  have b2 : -9223372036854775808 ≤ Int.tdiv v 42 ∧ Int.tdiv v 42 ≤ 9223372036854775807 := tdiv_bd v 42 (by omega) h1 h2
  have hn9 : ¬ ((9 : Int) < (n : Int)) := by omega
  have hu0 : (0 : Int) < (u : Int) := by omega
  have hx0 : (0 : Int) < (x : Int) := by omega
  obtain ⟨Y1, HY1⟩ : ∃ Y, Hid ([] ++ [dgt n] = Y) := ⟨_, hidT rfl⟩
  have HL1 : Hid (Y1.length ≤ 2) := by unfold Hid; rw [← HY1.out]; simp
  have hadd1 := fun (w' : World) => add_to0 [] ⟨#[]⟩ [dgt n] Y1 (bs [dgt n]) rfl rfl HY1.out (by simp) (by simp) w'
  obtain ⟨Y2, HY2⟩ : ∃ Y, Hid (Y1 ++ [117] = Y) := ⟨_, hidT rfl⟩
  have HL2 : Hid (Y2.length ≤ 3) := by unfold Hid; rw [← HY2.out, List.length_append]; have := HL1.out; simp; omega
  have hadd2 := fun (w' : World) => add_to Y1 [117] Y2 ⟨#[117]⟩ rfl HY2.out (by have := HL1.out; omega) (by simp) w'
  obtain ⟨Y3, HY3⟩ : ∃ Y, Hid (Y2 ++ [dgt u] = Y) := ⟨_, hidT rfl⟩
  have HL3 : Hid (Y3.length ≤ 4) := by unfold Hid; rw [← HY3.out, List.length_append]; have := HL2.out; simp; omega
  have hadd3 := fun (w' : World) => add_to Y2 [dgt u] Y3 (bs [dgt u]) rfl HY3.out (by have := HL2.out; omega) (by simp) w'
  obtain ⟨Y4, HY4⟩ : ∃ Y, Hid (Y3 ++ [32, 120] = Y) := ⟨_, hidT rfl⟩
  have HL4 : Hid (Y4.length ≤ 6) := by unfold Hid; rw [← HY4.out, List.length_append]; have := HL3.out; simp; omega
  have hadd4 := fun (w' : World) => add_to Y3 [32, 120] Y4 ⟨#[32, 120]⟩ rfl HY4.out (by have := HL3.out; omega) (by simp) w'
  obtain ⟨Y5, HY5⟩ : ∃ Y, Hid (Y4 ++ [dgt x] = Y) := ⟨_, hidT rfl⟩
  have hadd5 := fun (w' : World) => add_to Y4 [dgt x] Y5 (bs [dgt x]) rfl HY5.out (by have := HL4.out; omega) (by simp) w'
  have HF : Hid (ktx n u x = Y5) := by unfold Hid ktx knum pku pkx; rw [if_neg (by omega), if_neg (by omega), if_neg (by omega), ← HY5.out, ← HY4.out, ← HY3.out, ← HY2.out, ← HY1.out]; simp
  rw [HF.out]
  go_enter Tryd.func13, Tryd.ntmps13
  go_wp2_with (first | (go_at_call 14; first | (refine (kpick_to v 14 _ _ _ (by rfl) (by rfl) (by omega) (by omega) h1 h2).mono ?_; rintro e wp ⟨rfl, rfl⟩; rw [HN.out]) | (refine (kpick_to (Int.tdiv v 14) 3 _ _ _ (by rfl) (by rfl) (by omega) (by omega) (by omega) (by omega)).mono ?_; rintro e wp ⟨rfl, rfl⟩; rw [HU.out]) | (refine (kpick_to (Int.tdiv v 42) (top + 1) _ _ _ (by rfl) (by omega) (by omega) (by omega) (by omega) (by omega)).mono ?_; rintro e wp ⟨rfl, rfl⟩; rw [HX.out])) | (go_at_call 23; first | (refine (kdigit_any n _ _ (by omega) (by omega)).mono ?_; rintro e w1 ⟨rfl, hb1⟩; have HB1 := hidT hb1) | (refine (kdigit_any u _ _ (by rfl) (by omega)).mono ?_; rintro e w2 ⟨rfl, hb2⟩; have HB2 := hidT hb2) | (refine (kdigit_any x _ _ (by rfl) (by omega)).mono ?_; rintro e w3 ⟨rfl, hb3⟩; have HB3 := hidT hb3)))
  go_ret
  exact ⟨rfl, bel2 (bel2 (HB1.out) HB2.out) HB3.out⟩
set_option maxRecDepth 100000 in
set_option maxHeartbeats 2000000 in
theorem kterm_010 (v : Int) (top n u x : Nat) (Tp : Int) (w : World) (hT : Tp = top) (ht : top ≤ 4) (h1 : -9223372036854775808 ≤ v) (h2 : v ≤ 9223372036854775807) (HN : Hid (pck v 14 = n)) (HU : Hid (pck (Int.tdiv v 14) 3 = u)) (HX : Hid (pck (Int.tdiv v 42) (top + 1) = x)) (hn : n ≤ 13) (hu : u ≤ 2) (_hx : x ≤ 4) (c1 : ¬ 9 < n) (c2 : 0 < u) (c3 : x = 0) :
    Calls Tryd.prog 13 #[.int .i64 v, .int .i64 Tp] w fun e w' => e = .returned (.string (bs (ktx n u x))) ∧ Below w.heap.size w w' := by
  subst hT
  have b1 : -9223372036854775808 ≤ Int.tdiv v 14 ∧ Int.tdiv v 14 ≤ 9223372036854775807 := tdiv_bd v 14 (by omega) h1 h2
  have b2 : -9223372036854775808 ≤ Int.tdiv v 42 ∧ Int.tdiv v 42 ≤ 9223372036854775807 := tdiv_bd v 42 (by omega) h1 h2
  have hn9 : ¬ ((9 : Int) < (n : Int)) := by omega
  have hu0 : (0 : Int) < (u : Int) := by omega
  have hx0 : ¬ ((0 : Int) < (x : Int)) := by omega
  obtain ⟨Y1, HY1⟩ : ∃ Y, Hid ([] ++ [dgt n] = Y) := ⟨_, hidT rfl⟩
  have HL1 : Hid (Y1.length ≤ 2) := by unfold Hid; rw [← HY1.out]; simp
  have hadd1 := fun (w' : World) => add_to0 [] ⟨#[]⟩ [dgt n] Y1 (bs [dgt n]) rfl rfl HY1.out (by simp) (by simp) w'
  obtain ⟨Y2, HY2⟩ : ∃ Y, Hid (Y1 ++ [117] = Y) := ⟨_, hidT rfl⟩
  have HL2 : Hid (Y2.length ≤ 3) := by unfold Hid; rw [← HY2.out, List.length_append]; have := HL1.out; simp; omega
  have hadd2 := fun (w' : World) => add_to Y1 [117] Y2 ⟨#[117]⟩ rfl HY2.out (by have := HL1.out; omega) (by simp) w'
  obtain ⟨Y3, HY3⟩ : ∃ Y, Hid (Y2 ++ [dgt u] = Y) := ⟨_, hidT rfl⟩
  have HL3 : Hid (Y3.length ≤ 4) := by unfold Hid; rw [← HY3.out, List.length_append]; have := HL2.out; simp; omega
  have hadd3 := fun (w' : World) => add_to Y2 [dgt u] Y3 (bs [dgt u]) rfl HY3.out (by have := HL2.out; omega) (by simp) w'
  have HF : Hid (ktx n u x = Y3) := by unfold Hid ktx knum pku pkx; rw [if_neg (by omega), if_neg (by omega), if_pos (by omega), ← HY3.out, ← HY2.out, ← HY1.out]; simp
  rw [HF.out]
  go_enter Tryd.func13, Tryd.ntmps13
  go_wp2_with (first | (go_at_call 14; first | (refine (kpick_to v 14 _ _ _ (by rfl) (by rfl) (by omega) (by omega) h1 h2).mono ?_; rintro e wp ⟨rfl, rfl⟩; rw [HN.out]) | (refine (kpick_to (Int.tdiv v 14) 3 _ _ _ (by rfl) (by rfl) (by omega) (by omega) (by omega) (by omega)).mono ?_; rintro e wp ⟨rfl, rfl⟩; rw [HU.out]) | (refine (kpick_to (Int.tdiv v 42) (top + 1) _ _ _ (by rfl) (by omega) (by omega) (by omega) (by omega) (by omega)).mono ?_; rintro e wp ⟨rfl, rfl⟩; rw [HX.out])) | (go_at_call 23; first | (refine (kdigit_any n _ _ (by omega) (by omega)).mono ?_; rintro e w1 ⟨rfl, hb1⟩; have HB1 := hidT hb1) | (refine (kdigit_any u _ _ (by rfl) (by omega)).mono ?_; rintro e w2 ⟨rfl, hb2⟩; have HB2 := hidT hb2)))
  go_ret
  exact ⟨rfl, bel2 (HB1.out) HB2.out⟩
set_option maxRecDepth 100000 in
set_option maxHeartbeats 2000000 in
theorem kterm_001 (v : Int) (top n u x : Nat) (Tp : Int) (w : World) (hT : Tp = top) (ht : top ≤ 4) (h1 : -9223372036854775808 ≤ v) (h2 : v ≤ 9223372036854775807) (HN : Hid (pck v 14 = n)) (HU : Hid (pck (Int.tdiv v 14) 3 = u)) (HX : Hid (pck (Int.tdiv v 42) (top + 1) = x)) (hn : n ≤ 13) (_hu : u ≤ 2) (hx : x ≤ 4) (c1 : ¬ 9 < n) (c2 : u = 0) (c3 : 0 < x) :
    Calls Tryd.prog 13 #[.int .i64 v, .int .i64 Tp] w fun e w' => e = .returned (.string (bs (ktx n u x))) ∧ Below w.heap.size w w' := by
  subst hT
  have b1 : -9223372036854775808 ≤ Int.tdiv v 14 ∧ Int.tdiv v 14 ≤ 9223372036854775807 := tdiv_bd v 14 (by omega) h1 h2
  have b2 : -9223372036854775808 ≤ Int.tdiv v 42 ∧ Int.tdiv v 42 ≤ 9223372036854775807 := tdiv_bd v 42 (by omega) h1 h2
  have hn9 : ¬ ((9 : Int) < (n : Int)) := by omega
  have hu0 : ¬ ((0 : Int) < (u : Int)) := by omega
  have hx0 : (0 : Int) < (x : Int) := by omega
  obtain ⟨Y1, HY1⟩ : ∃ Y, Hid ([] ++ [dgt n] = Y) := ⟨_, hidT rfl⟩
  have HL1 : Hid (Y1.length ≤ 2) := by unfold Hid; rw [← HY1.out]; simp
  have hadd1 := fun (w' : World) => add_to0 [] ⟨#[]⟩ [dgt n] Y1 (bs [dgt n]) rfl rfl HY1.out (by simp) (by simp) w'
  obtain ⟨Y4, HY4⟩ : ∃ Y, Hid (Y1 ++ [32, 120] = Y) := ⟨_, hidT rfl⟩
  have HL4 : Hid (Y4.length ≤ 6) := by unfold Hid; rw [← HY4.out, List.length_append]; have := HL1.out; simp; omega
  have hadd4 := fun (w' : World) => add_to Y1 [32, 120] Y4 ⟨#[32, 120]⟩ rfl HY4.out (by have := HL1.out; omega) (by simp) w'
  obtain ⟨Y5, HY5⟩ : ∃ Y, Hid (Y4 ++ [dgt x] = Y) := ⟨_, hidT rfl⟩
  have hadd5 := fun (w' : World) => add_to Y4 [dgt x] Y5 (bs [dgt x]) rfl HY5.out (by have := HL4.out; omega) (by simp) w'
  have HF : Hid (ktx n u x = Y5) := by unfold Hid ktx knum pku pkx; rw [if_neg (by omega), if_pos (by omega), if_neg (by omega), ← HY5.out, ← HY4.out, ← HY1.out]; simp
  rw [HF.out]
  go_enter Tryd.func13, Tryd.ntmps13
  go_wp2_with (first | (go_at_call 14; first | (refine (kpick_to v 14 _ _ _ (by rfl) (by rfl) (by omega) (by omega) h1 h2).mono ?_; rintro e wp ⟨rfl, rfl⟩; rw [HN.out]) | (refine (kpick_to (Int.tdiv v 14) 3 _ _ _ (by rfl) (by rfl) (by omega) (by omega) (by omega) (by omega)).mono ?_; rintro e wp ⟨rfl, rfl⟩; rw [HU.out]) | (refine (kpick_to (Int.tdiv v 42) (top + 1) _ _ _ (by rfl) (by omega) (by omega) (by omega) (by omega) (by omega)).mono ?_; rintro e wp ⟨rfl, rfl⟩; rw [HX.out])) | (go_at_call 23; first | (refine (kdigit_any n _ _ (by omega) (by omega)).mono ?_; rintro e w1 ⟨rfl, hb1⟩; have HB1 := hidT hb1) | (refine (kdigit_any x _ _ (by rfl) (by omega)).mono ?_; rintro e w3 ⟨rfl, hb3⟩; have HB3 := hidT hb3)))
  go_ret
  exact ⟨rfl, bel2 (HB1.out) HB3.out⟩
set_option maxRecDepth 100000 in
set_option maxHeartbeats 2000000 in
theorem kterm_000 (v : Int) (top n u x : Nat) (Tp : Int) (w : World) (hT : Tp = top) (ht : top ≤ 4) (h1 : -9223372036854775808 ≤ v) (h2 : v ≤ 9223372036854775807) (HN : Hid (pck v 14 = n)) (HU : Hid (pck (Int.tdiv v 14) 3 = u)) (HX : Hid (pck (Int.tdiv v 42) (top + 1) = x)) (hn : n ≤ 13) (_hu : u ≤ 2) (_hx : x ≤ 4) (c1 : ¬ 9 < n) (c2 : u = 0) (c3 : x = 0) :
    Calls Tryd.prog 13 #[.int .i64 v, .int .i64 Tp] w fun e w' => e = .returned (.string (bs (ktx n u x))) ∧ Below w.heap.size w w' := by
  subst hT
  have b1 : -9223372036854775808 ≤ Int.tdiv v 14 ∧ Int.tdiv v 14 ≤ 9223372036854775807 := tdiv_bd v 14 (by omega) h1 h2
  have b2 : -9223372036854775808 ≤ Int.tdiv v 42 ∧ Int.tdiv v 42 ≤ 9223372036854775807 := tdiv_bd v 42 (by omega) h1 h2
  have hn9 : ¬ ((9 : Int) < (n : Int)) := by omega
  have hu0 : ¬ ((0 : Int) < (u : Int)) := by omega
  have hx0 : ¬ ((0 : Int) < (x : Int)) := by omega
  obtain ⟨Y1, HY1⟩ : ∃ Y, Hid ([] ++ [dgt n] = Y) := ⟨_, hidT rfl⟩
  have HL1 : Hid (Y1.length ≤ 2) := by unfold Hid; rw [← HY1.out]; simp
  have hadd1 := fun (w' : World) => add_to0 [] ⟨#[]⟩ [dgt n] Y1 (bs [dgt n]) rfl rfl HY1.out (by simp) (by simp) w'
  have HF : Hid (ktx n u x = Y1) := by unfold Hid ktx knum pku pkx; rw [if_neg (by omega), if_pos (by omega), if_pos (by omega), ← HY1.out]; simp
  rw [HF.out]
  go_enter Tryd.func13, Tryd.ntmps13
  go_wp2_with (first | (go_at_call 14; first | (refine (kpick_to v 14 _ _ _ (by rfl) (by rfl) (by omega) (by omega) h1 h2).mono ?_; rintro e wp ⟨rfl, rfl⟩; rw [HN.out]) | (refine (kpick_to (Int.tdiv v 14) 3 _ _ _ (by rfl) (by rfl) (by omega) (by omega) (by omega) (by omega)).mono ?_; rintro e wp ⟨rfl, rfl⟩; rw [HU.out]) | (refine (kpick_to (Int.tdiv v 42) (top + 1) _ _ _ (by rfl) (by omega) (by omega) (by omega) (by omega) (by omega)).mono ?_; rintro e wp ⟨rfl, rfl⟩; rw [HX.out])) | (go_at_call 23; first | (refine (kdigit_any n _ _ (by omega) (by omega)).mono ?_; rintro e w1 ⟨rfl, hb1⟩; have HB1 := hidT hb1)))
  go_ret
  exact ⟨rfl, HB1.out⟩

/-- The term that a raw number gives. -/
def kT (sg : Nat) (v : Int) (top : Nat) : T4 := ⟨sg, pck v 14, pck (Int.tdiv v 14) 3, pck (Int.tdiv v 42) (top + 1)⟩
theorem kT_ok (sg : Nat) (v : Int) {top : Nat} (ht : top ≤ 4) : okT (kT sg v top) := by
  have a := pck_lt v (n := 14) (by omega)
  have b := pck_lt (Int.tdiv v 14) (n := 3) (by omega)
  have c := pck_lt (Int.tdiv v 42) (n := top + 1) (by omega)
  unfold kT okT
  refine ⟨?_, ?_, ?_⟩ <;> simp only <;> omega
theorem kterm_any (sg : Nat) (v : Int) (top : Nat) (Tp : Int) (w : World) (hT : Tp = top) (ht : top ≤ 4) (h1 : -9223372036854775808 ≤ v) (h2 : v ≤ 9223372036854775807) :
    Calls Tryd.prog 13 #[.int .i64 v, .int .i64 Tp] w fun e w' => e = .returned (.string (bs (ktx (kT sg v top).n (kT sg v top).u (kT sg v top).x))) ∧ Below w.heap.size w w' := by
  have a := pck_lt v (n := 14) (by omega)
  have b := pck_lt (Int.tdiv v 14) (n := 3) (by omega)
  have c := pck_lt (Int.tdiv v 42) (n := top + 1) (by omega)
  show Calls Tryd.prog 13 #[.int .i64 v, .int .i64 Tp] w fun e w' => e = .returned (.string (bs (ktx (pck v 14) (pck (Int.tdiv v 14) 3) (pck (Int.tdiv v 42) (top + 1))))) ∧ Below w.heap.size w w'
  by_cases c1 : 9 < pck v 14
  · by_cases c2 : pck (Int.tdiv v 14) 3 = 0
    · by_cases c3 : pck (Int.tdiv v 42) (top + 1) = 0
      · exact kterm_100 v top _ _ _ Tp w hT ht h1 h2 rfl rfl rfl (by omega) (by omega) (by omega) c1 c2 c3
      · exact kterm_101 v top _ _ _ Tp w hT ht h1 h2 rfl rfl rfl (by omega) (by omega) (by omega) c1 c2 (by omega)
    · by_cases c3 : pck (Int.tdiv v 42) (top + 1) = 0
      · exact kterm_110 v top _ _ _ Tp w hT ht h1 h2 rfl rfl rfl (by omega) (by omega) (by omega) c1 (by omega) c3
      · exact kterm_111 v top _ _ _ Tp w hT ht h1 h2 rfl rfl rfl (by omega) (by omega) (by omega) c1 (by omega) (by omega)
  · by_cases c2 : pck (Int.tdiv v 14) 3 = 0
    · by_cases c3 : pck (Int.tdiv v 42) (top + 1) = 0
      · exact kterm_000 v top _ _ _ Tp w hT ht h1 h2 rfl rfl rfl (by omega) (by omega) (by omega) c1 c2 c3
      · exact kterm_001 v top _ _ _ Tp w hT ht h1 h2 rfl rfl rfl (by omega) (by omega) (by omega) c1 c2 (by omega)
    · by_cases c3 : pck (Int.tdiv v 42) (top + 1) = 0
      · exact kterm_010 v top _ _ _ Tp w hT ht h1 h2 rfl rfl rfl (by omega) (by omega) (by omega) c1 (by omega) c3
      · exact kterm_011 v top _ _ _ Tp w hT ht h1 h2 rfl rfl rfl (by omega) (by omega) (by omega) c1 (by omega) (by omega)
end Go.Proofs.YthlmgpllapccfaaDoor
/- PLAIN, FOR SUMS: the texts that the statement writes, and their sums. -/
namespace Go.Proofs.YthlmgpllapccfaaDoor

theorem its_append : ∀ a b : List It, its (a ++ b) = its a ++ its b
  | [], b => rfl
  | t :: a, b => by
    show t.sep ++ (ktx t.t.n t.t.u t.t.x ++ its (a ++ b)) = t.sep ++ (ktx t.t.n t.t.u t.t.x ++ its a) ++ its b
    rw [its_append a b]; simp
/-- What a raw number behind the first adds. -/
def kI (y : Int) : It := if pck y 2 = 0 then ⟨[32, 45, 32], kT 6 (Int.tdiv y 2) 4⟩ else ⟨[43], kT 1 (Int.tdiv y 2) 4⟩
theorem kI_ok (y : Int) : okI (kI y) := by
  unfold kI; split
  · exact ⟨Or.inr (Or.inr (Or.inl ⟨rfl, rfl⟩)), kT_ok _ _ (by omega)⟩
  · exact ⟨Or.inl ⟨rfl, rfl⟩, kT_ok _ _ (by omega)⟩
/-- The first term; the others. -/
def kF : List Int → T4
  | [] => ⟨1, 0, 0, 0⟩
  | x :: _ => kT 1 (Int.tdiv x 2) 4
def kR : List Int → List It
  | [] => []
  | _ :: ys => (ys.take 2).map kI
theorem kF_ok (xs : List Int) : okT (kF xs) := by
  cases xs with
  | nil => exact ⟨by simp [kF], by simp [kF], by simp [kF]⟩
  | cons x ys => exact kT_ok _ _ (by omega)
theorem kF_sg (xs : List Int) : (kF xs).sg = 1 := by cases xs <;> rfl
theorem kR_ok (xs : List Int) : ∀ a ∈ kR xs, okI a := by
  cases xs with
  | nil => intro a h; simp [kR] at h
  | cons x ys =>
    intro a h
    simp only [kR, List.mem_map] at h
    obtain ⟨y, _, rfl⟩ := h
    exact kI_ok y
/-- The text; its terms. -/
def kX (xs : List Int) : List UInt8 := ktx (kF xs).n (kF xs).u (kF xs).x ++ its (kR xs)
def kTs (xs : List Int) : List T4 := kF xs :: (kR xs).map It.t
theorem ok4_of {t : T4} (h : okT t) : ok4 t := ⟨h.2.1, h.2.2⟩
theorem kTs_ok (xs : List Int) : ∀ t ∈ kTs xs, ok4 t := by
  intro t h
  simp only [kTs, List.mem_cons, List.mem_map] at h
  rcases h with rfl | ⟨a, ha, rfl⟩
  · exact ok4_of (kF_ok xs)
  · exact ok4_of (kR_ok xs a ha).2
theorem ktx_le (n u x : Nat) : (ktx n u x).length ≤ 7 := by
  rw [ktx_len]
  have h1 : (knum n).length ≤ 2 := by unfold knum; split <;> simp
  have h2 : (pku u).length ≤ 2 := by unfold pku; split <;> simp
  have h3 : (pkx x).length ≤ 3 := by unfold pkx; split <;> simp
  omega
theorem its_le : ∀ r : List It, (∀ a ∈ r, okI a) → (its r).length ≤ 10 * r.length
  | [], _ => by simp [its]
  | a :: r, h => by
    have ih := its_le r (fun y hy => h y (by simp [hy]))
    have hk := ktx_le a.t.n a.t.u a.t.x
    have hs : a.sep.length ≤ 3 := by
      rcases (h a (by simp)).1 with ⟨e, _⟩ | ⟨e, _⟩ | ⟨e, _⟩ | ⟨e, _⟩ <;> rw [e] <;> simp
    simp only [its, List.length_append, List.length_cons]
    omega
theorem kR_len (xs : List Int) : (kR xs).length ≤ 2 := by
  cases xs with
  | nil => simp [kR]
  | cons x ys => simp only [kR, List.length_map, List.length_take]; omega
theorem kX_len (xs : List Int) : (kX xs).length ≤ 27 := by
  have h1 := ktx_le (kF xs).n (kF xs).u (kF xs).x
  have h2 := its_le (kR xs) (kR_ok xs)
  have h3 := kR_len xs
  unfold kX; rw [List.length_append]; omega
/-- The text itself is read as its terms. -/
theorem rd_one (xs : List Int) : rd (bs (kX xs)) = ⟨0, 0, sumP (kTs xs)⟩ :=
  rd_sum (kF xs) (kR xs) (kF_ok xs) (kF_sg xs) (kR_ok xs) (by have := kX_len xs; unfold kX at this; omega)
/-- Two texts with a plus between them. -/
theorem rd_two (xs ys : List Int) (sep : List UInt8) (hs : okSep sep 1) : rd (bs (kX xs ++ sep ++ kX ys)) = ⟨0, 0, sumP (kTs xs ++ kTs ys)⟩ := by
  have e : kX xs ++ sep ++ kX ys = ktx (kF xs).n (kF xs).u (kF xs).x ++ its (kR xs ++ (⟨sep, kF ys⟩ :: kR ys)) := by
    rw [its_append]; unfold kX; simp [its]
  have hsl : sep.length ≤ 3 := by rcases hs with ⟨e, _⟩ | ⟨e, _⟩ | ⟨_, e⟩ | ⟨_, e⟩ <;> first | (rw [e]; simp; done) | omega
  have hl : (kX xs ++ sep ++ kX ys).length ≤ 90 := by
    have := kX_len xs; have := kX_len ys
    rw [List.length_append, List.length_append]; omega
  rw [e] at hl ⊢
  have hok : ∀ a ∈ kR xs ++ (⟨sep, kF ys⟩ :: kR ys), okI a := by
    intro a ha
    rw [List.mem_append, List.mem_cons] at ha
    rcases ha with h | rfl | h
    · exact kR_ok xs a h
    · exact ⟨by show okSep sep (kF ys).sg; rw [kF_sg]; exact hs, kF_ok ys⟩
    · exact kR_ok ys a h
  have r := rd_sum (kF xs) _ (kF_ok xs) (kF_sg xs) hok hl
  rw [r]
  simp [kTs]
/-- A text less 0. -/
theorem rd_less (xs : List Int) : rd (bs (kX xs ++ [45] ++ ktx 0 0 0)) = ⟨0, 0, sumP (kTs xs)⟩ := by
  have e : kX xs ++ [45] ++ ktx 0 0 0 = ktx (kF xs).n (kF xs).u (kF xs).x ++ its (kR xs ++ [⟨[45], ⟨6, 0, 0, 0⟩⟩]) := by
    rw [its_append]; unfold kX; simp [its]
  have hl : (kX xs ++ [45] ++ ktx 0 0 0).length ≤ 90 := by
    have := kX_len xs
    have := ktx_le 0 0 0
    rw [List.length_append, List.length_append]; simp only [List.length_cons, List.length_nil]; omega
  rw [e] at hl ⊢
  have hok : ∀ a ∈ kR xs ++ [(⟨[45], ⟨6, 0, 0, 0⟩⟩ : It)], okI a := by
    intro a ha
    rw [List.mem_append, List.mem_singleton] at ha
    rcases ha with h | rfl
    · exact kR_ok xs a h
    · exact ⟨Or.inr (Or.inr (Or.inr ⟨rfl, rfl⟩)), by simp, by simp, by simp⟩
  have r := rd_sum (kF xs) _ (kF_ok xs) (kF_sg xs) hok hl
  rw [r]
  have q := sumP_none (kTs_ok xs) 6
  rw [← q]
  simp [kTs]
end Go.Proofs.YthlmgpllapccfaaDoor
/- ADDED: the statement's own function text. -/
namespace Go.Proofs.YthlmgpllapccfaaDoor
open Go.RowKit
/-- The text behind k rounds. -/
def kP (xs : List Int) (k : Nat) : List UInt8 := if k = 0 then [] else kX (xs.take k)
theorem kP_len (xs : List Int) (k : Nat) : (kP xs k).length ≤ 27 := by
  unfold kP; split
  · simp
  · exact kX_len _
theorem kP_one {xs : List Int} {x : Int} (h : xs[0]? = some x) : kP xs 1 = ktx (kT 1 (Int.tdiv x 2) 4).n (kT 1 (Int.tdiv x 2) 4).u (kT 1 (Int.tdiv x 2) 4).x := by
  cases xs with
  | nil => simp at h
  | cons y ys =>
    simp at h; subst h
    simp [kP, kX, kF, kR, its]
theorem kP_more {xs : List Int} {k : Nat} {x : Int} (h : xs[k]? = some x) (h0 : 0 < k) (h2 : k ≤ 2) : kP xs (k + 1) = kP xs k ++ (kI x).sep ++ ktx (kI x).t.n (kI x).t.u (kI x).t.x := by
  obtain ⟨k, rfl⟩ : ∃ j, k = j + 1 := ⟨k - 1, by omega⟩
  cases xs with
  | nil => simp at h
  | cons y ys =>
    have h' : ys[k]? = some x := by simpa using h
    unfold kP
    rw [if_neg (by omega), if_neg (by omega)]
    simp only [List.take_succ_cons, kX, kF, kR]
    rw [List.take_take, List.take_take, show min 2 (k + 1) = k + 1 by omega, show min 2 k = k by omega, List.take_add_one, h', List.map_append, its_append]
    simp [its]
theorem kP_end {xs : List Int} {k : Nat} (h : k = min xs.length 3) (h0 : 0 < k) : kP xs k = kX xs := by
  unfold kP
  rw [if_neg (by omega)]
  cases xs with
  | nil => simp at h; omega
  | cons y ys =>
    obtain ⟨j, rfl⟩ : ∃ j, k = j + 1 := ⟨k - 1, by omega⟩
    simp only [List.length_cons] at h
    simp only [List.take_succ_cons, kX, kF, kR]
    rw [List.take_take]
    by_cases hl : ys.length < 2
    · rw [List.take_of_length_le (by omega), List.take_of_length_le (by omega)]
    · rw [show min 2 j = 2 by omega]
end Go.Proofs.YthlmgpllapccfaaDoor
/- ADDED: the statement's own function text, walked. -/
namespace Go.Proofs.YthlmgpllapccfaaDoor
open Go.RowKit
set_option maxRecDepth 100000 in
set_option maxHeartbeats 2000000 in
theorem ktext_nil (a : Option Addr) (cap : Nat) (w : World) : Calls Tryd.prog 12 #[.slice a 0 cap, .int .i64 4] w fun e w' => e = .returned (.string (bs (kX []))) ∧ Below w.heap.size w w' := by
  have e : kX [] = [48] := by decide +kernel
  rw [e]
  go_enter Tryd.func12, Tryd.ntmps12
  go_wp2
  go_loopg [5, 6] 1 (fun gm v4 v5 wr => gm = 1 ∧ v4 = .string ⟨#[]⟩ ∧ v5 = .int .i64 0 ∧ wr = w)
  case atStart => exact ⟨rfl, rfl, rfl, rfl⟩
  case round =>
    obtain ⟨_, rfl, rfl, rfl⟩ := hrel
    go_wp2
    go_ret
    exact ⟨rfl, Below.refl _ _⟩
theorem add_block (a : Addr) (j : Nat) : (a.add j).block = a.block := by unfold Addr.add; split <;> rfl
set_option maxRecDepth 100000 in
set_option maxHeartbeats 2000000 in
theorem ktext_some (xs : List Int) (ad : Addr) (cap : Nat) (w : World) (hne : 0 < xs.length) (hcells : ∀ j x, xs[j]? = some x → w.cell? (ad.add j) = some (.int .i64 x) ∧ -9223372036854775808 ≤ x ∧ x ≤ 9223372036854775807) (hb : ad.block < w.heap.size) (hl : xs.length ≤ 9223372036854775807) :
    Calls Tryd.prog 12 #[.slice (some ad) xs.length cap, .int .i64 4] w fun e w' => e = .returned (.string (bs (kX xs))) ∧ Below w.heap.size w w' := by
  have HC := hidT hcells
  clear hcells
  go_enter Tryd.func12, Tryd.ntmps12
  go_wp2
  go_loopg [5, 6] 3 (fun gm v4 v5 wr => ∃ k : Nat, gm = 3 - k ∧ k ≤ 3 ∧ k ≤ xs.length ∧ v5 = .int .i64 k ∧ v4 = .string (bs (kP xs k)) ∧ Hid (Below w.heap.size w wr))
  case atStart => exact ⟨0, rfl, by omega, by omega, rfl, rfl, Below.refl _ _⟩
  case round =>
    obtain ⟨k, hgm, hk3, hkl, rfl, rfl, HB⟩ := hrel
    by_cases hlt : k < xs.length ∧ k < 3
    · obtain ⟨x, hx⟩ : ∃ x, xs[k]? = some x := ⟨_, List.getElem?_eq_getElem hlt.1⟩
      obtain ⟨c1, c2, c3⟩ := HC.out k x hx
      have c4 : wr.cell? (ad.add k) = some (.int .i64 x) := by
        rw [← c1]
        exact World.cell?_of_block (by rw [add_block]; exact HB.out.block _ hb)
      have d1 := tdiv_bd x 2 (by omega) c2 c3
      have d1' : -9223372036854775808 ≤ Int.tdiv x 2 ∧ Int.tdiv x 2 ≤ 9223372036854775807 := d1
      have hk0 : (0 : Int) ≤ (k : Int) := by omega
      have hkx : (k : Int) < (xs.length : Int) := by omega
      have hk3' : (k : Int) < 3 := by omega
      have HL := hidT (kP_len xs k)
      clear d1 c1
      by_cases h0 : k = 0
      · subst h0
        have HP := hidT (kP_one hx)
        have hE : kP xs 0 = [] := rfl
        rw [hE]
        obtain ⟨Y, HY⟩ : ∃ Y, Hid (ktx (kT 1 (Int.tdiv x 2) 4).n (kT 1 (Int.tdiv x 2) 4).u (kT 1 (Int.tdiv x 2) 4).x = Y) := ⟨_, hidT rfl⟩
        have HK := fun (w' : World) => kterm_any 1 (Int.tdiv x 2) 4 4 w' rfl (by omega) d1'.1 d1'.2
        rw [HY.out] at HK HP
        have HHK := hidT HK
        clear HK
        have hadd := fun (w' : World) => add_to [] Y Y (bs Y) rfl (by simp) (by simp) (by rw [← HY.out]; have := ktx_le (kT 1 (Int.tdiv x 2) 4).n (kT 1 (Int.tdiv x 2) 4).u (kT 1 (Int.tdiv x 2) 4).x; omega) w'
        have c5 : wr.cell? ad = some (.int .i64 x) := by simpa [Addr.add] using c4
        simp only [Int.natCast_zero] at *
        go_wp2_with (go_at_call 13; refine (HHK.out _).mono ?_; rintro e w1 ⟨rfl, hb1⟩; have HB1 := hidT hb1)
        go_roundg (3 - 1)
        case measure => omega
        case rel => exact ⟨1, rfl, by omega, by omega, rfl, by rw [HP.out], bel2 HB.out HB1.out⟩
      · by_cases hp : pck x 2 = 0
        · have HP : Hid (kP xs (k + 1) = kP xs k ++ [32, 45, 32] ++ ktx (kT 6 (Int.tdiv x 2) 4).n (kT 6 (Int.tdiv x 2) 4).u (kT 6 (Int.tdiv x 2) 4).x) := by
            unfold Hid
            rw [kP_more hx (by omega) (by omega)]
            unfold kI
            rw [if_pos hp]
          obtain ⟨Y, HY⟩ : ∃ Y, Hid (ktx (kT 6 (Int.tdiv x 2) 4).n (kT 6 (Int.tdiv x 2) 4).u (kT 6 (Int.tdiv x 2) 4).x = Y) := ⟨_, hidT rfl⟩
          have HK := fun (w' : World) => kterm_any 6 (Int.tdiv x 2) 4 4 w' rfl (by omega) d1'.1 d1'.2
          have HYL : Hid (Y.length ≤ 7) := by unfold Hid; rw [← HY.out]; exact ktx_le _ _ _
          rw [HY.out] at HK HP
          have HHK := hidT HK
          clear HK
          generalize hX : kP xs k = X at *
          have HX := hidT hX
          clear hX
          obtain ⟨Y1, HY1⟩ : ∃ Y', Hid (X ++ [32, 45, 32] = Y') := ⟨_, hidT rfl⟩
          have HL1 : Hid (Y1.length ≤ 30) := by unfold Hid; rw [← HY1.out, List.length_append]; have := HL.out; simp; omega
          obtain ⟨Y2, HY2⟩ : ∃ Y', Hid (Y1 ++ Y = Y') := ⟨_, hidT rfl⟩
          have hadd1 := fun (w' : World) => add_to X [32, 45, 32] Y1 ⟨#[32, 45, 32]⟩ rfl HY1.out (by have := HL.out; omega) (by simp) w'
          have hadd2 := fun (w' : World) => add_to Y1 Y Y2 (bs Y) rfl HY2.out (by have := HL1.out; omega) (by have := HYL.out; omega) w'
          have hk1 : (0 : Int) < (k : Int) := by omega
          have hpq : (pck x 2 : Int) = 0 := by omega
          go_wp2_with (first | (go_at_call 14; refine (kpick_to x 2 _ _ _ (by rfl) (by rfl) (by omega) (by omega) c2 c3).mono ?_; rintro e w0 ⟨rfl, rfl⟩) | (go_at_call 13; refine (HHK.out _).mono ?_; rintro e w1 ⟨rfl, hb1⟩; have HB1 := hidT hb1))
          go_roundg (3 - (k + 1))
          case measure => omega
          case rel => exact ⟨k + 1, rfl, by omega, by omega, by go_num, by rw [HP.out, HY1.out, HY2.out], bel2 HB.out HB1.out⟩
        · have HP : Hid (kP xs (k + 1) = kP xs k ++ [43] ++ ktx (kT 1 (Int.tdiv x 2) 4).n (kT 1 (Int.tdiv x 2) 4).u (kT 1 (Int.tdiv x 2) 4).x) := by
            unfold Hid
            rw [kP_more hx (by omega) (by omega)]
            unfold kI
            rw [if_neg hp]
          obtain ⟨Y, HY⟩ : ∃ Y, Hid (ktx (kT 1 (Int.tdiv x 2) 4).n (kT 1 (Int.tdiv x 2) 4).u (kT 1 (Int.tdiv x 2) 4).x = Y) := ⟨_, hidT rfl⟩
          have HK := fun (w' : World) => kterm_any 1 (Int.tdiv x 2) 4 4 w' rfl (by omega) d1'.1 d1'.2
          have HYL : Hid (Y.length ≤ 7) := by unfold Hid; rw [← HY.out]; exact ktx_le _ _ _
          rw [HY.out] at HK HP
          have HHK := hidT HK
          clear HK
          generalize hX : kP xs k = X at *
          have HX := hidT hX
          clear hX
          obtain ⟨Y1, HY1⟩ : ∃ Y', Hid (X ++ [43] = Y') := ⟨_, hidT rfl⟩
          have HL1 : Hid (Y1.length ≤ 30) := by unfold Hid; rw [← HY1.out, List.length_append]; have := HL.out; simp; omega
          obtain ⟨Y2, HY2⟩ : ∃ Y', Hid (Y1 ++ Y = Y') := ⟨_, hidT rfl⟩
          have hadd1 := fun (w' : World) => add_to X [43] Y1 ⟨#[43]⟩ rfl HY1.out (by have := HL.out; omega) (by simp) w'
          have hadd2 := fun (w' : World) => add_to Y1 Y Y2 (bs Y) rfl HY2.out (by have := HL1.out; omega) (by have := HYL.out; omega) w'
          have hk1 : (0 : Int) < (k : Int) := by omega
          have hpq : ¬ ((pck x 2 : Int) = 0) := by omega
          go_wp2_with (first | (go_at_call 14; refine (kpick_to x 2 _ _ _ (by rfl) (by rfl) (by omega) (by omega) c2 c3).mono ?_; rintro e w0 ⟨rfl, rfl⟩) | (go_at_call 13; refine (HHK.out _).mono ?_; rintro e w1 ⟨rfl, hb1⟩; have HB1 := hidT hb1))
          go_roundg (3 - (k + 1))
          case measure => omega
          case rel => exact ⟨k + 1, rfl, by omega, by omega, by go_num, by rw [HP.out, HY1.out, HY2.out], bel2 HB.out HB1.out⟩
    · have hke := kP_end (xs := xs) (k := k) (by omega) (by omega)
      rw [hke]
      have hpos : kX xs ≠ [] := fun q => by
        have := ktx_pos (kF xs).n (kF xs).u (kF xs).x
        unfold kX at q
        rw [List.append_eq_nil_iff] at q
        rw [q.1] at this
        simp at this
      have hE : (bs (kX xs)).toList.isEmpty = false := by rw [bs_empty]; simp [hpos]
      by_cases h1 : k < xs.length
      · have e1 : (k : Int) < (xs.length : Int) := by omega
        have e2 : ¬ ((k : Int) < 3) := by omega
        clear hpos hke
        go_wp2
        go_ret
        exact ⟨rfl, HB.out⟩
      · have e1 : ¬ ((k : Int) < (xs.length : Int)) := by omega
        clear hpos hke
        go_wp2
        go_ret
        exact ⟨rfl, HB.out⟩
end Go.Proofs.YthlmgpllapccfaaDoor
/- THE LIBRARY's CONTRACTS THAT THE PROOFS TAKE, laid at this dump in plain words by the kit's own commands (wip/shelf.py keeps those that are wanted). -/
namespace Go.Proofs
open Go.Shelf
def Tryd.lays156_ren : Go.Shelf.Ren := ⟨fun | 156 => 27 | 165 => 44 | 166 => 45 | 169 => 46 | 240 => 64 | 241 => 65 | 276 => 75 | 277 => 76 | n => n, fun | 31 => 62 | 9 => 9 | 3 => 3 | 4 => 4 | 0 => 0 | 20 => 20 | 72 => 89 | 76 => 91 | 70 => 87 | 37 => 73 | 75 => 77 | 127 => 115 | 164 => 101 | 5 => 5 | 80 => 40 | n => n, fun | n => n⟩
theorem Tryd.lays156 : Go.Proofs.Lays.n156 Tryd.prog Tryd.lays156_ren := {
  mixed := by kernel_rfl
  f156 := Tryd.func27.trans (congrArg some (by kernel_rfl))
  f165 := Tryd.func44.trans (congrArg some (by kernel_rfl))
  f166 := Tryd.func45.trans (congrArg some (by kernel_rfl))
  f169 := Tryd.func46.trans (congrArg some (by kernel_rfl))
  f240 := Tryd.func64.trans (congrArg some (by kernel_rfl))
  f241 := Tryd.func65.trans (congrArg some (by kernel_rfl))
  f276 := Tryd.func75.trans (congrArg some (by kernel_rfl))
  f277 := Tryd.func76.trans (congrArg some (by kernel_rfl))
  t0 := Tryd.underlying0
  a0 := Tryd.isAgg0
  z0 := Tryd.sizeOf0
  v0 := Tryd.zeroValue0
  t3 := Tryd.underlying3
  a3 := Tryd.isAgg3
  z3 := Tryd.sizeOf3
  v3 := Tryd.zeroValue3
  t4 := Tryd.underlying4
  a4 := Tryd.isAgg4
  z4 := Tryd.sizeOf4
  v4 := Tryd.zeroValue4
  t9 := Tryd.underlying9
  a9 := Tryd.isAgg9
  z9 := Tryd.sizeOf9
  v9 := Tryd.zeroValue9
  t20 := Tryd.underlying20
  a20 := Tryd.isAgg20
  z20 := Tryd.sizeOf20
  v20 := Tryd.zeroValue20
  t31 := Tryd.underlying62
  a31 := Tryd.isAgg62
  z31 := Tryd.sizeOf62
  v31 := Tryd.zeroValue62
  t37 := Tryd.underlying73
  a37 := Tryd.isAgg73
  z37 := Tryd.sizeOf73
  v37 := Tryd.zeroValue73
  t70 := Tryd.underlying87
  a70 := Tryd.isAgg87
  z70 := Tryd.sizeOf87
  v70 := Tryd.zeroValue87
  t72 := Tryd.underlying89
  a72 := Tryd.isAgg89
  z72 := Tryd.sizeOf89
  v72 := Tryd.zeroValue89
  t75 := Tryd.underlying77
  a75 := Tryd.isAgg77
  z75 := Tryd.sizeOf77
  v75 := Tryd.zeroValue77
  t76 := Tryd.underlying91
  a76 := Tryd.isAgg91
  z76 := Tryd.sizeOf91
  v76 := Tryd.zeroValue91
  t127 := Tryd.underlying115
  a127 := Tryd.isAgg115
  z127 := Tryd.sizeOf115
  v127 := Tryd.zeroValue115
  t164 := Tryd.underlying101
  a164 := Tryd.isAgg101
  z164 := Tryd.sizeOf101
  v164 := Tryd.zeroValue101 }
theorem Tryd.Builder_Extra_156 : Builder.Extra Tryd.prog Tryd.lays156_ren := {
  sizeBuilder := by kernel_rfl
  liesBuilder := by kernel_rfl
  t5 := Tryd.underlying5
  a5 := Tryd.isAgg5
  z5 := Tryd.sizeOf5
  v5 := Tryd.zeroValue5
  infoByte := by kernel_rfl
  cellsByte := by kernel_rfl
  sizeByte := by kernel_rfl
  neB5 := by decide }
open Go.RowKit in
theorem Tryd.strings_Join_none (a : Option Addr) (c : Nat) (sep : ByteArray) (w : World) :
    Calls Tryd.prog 27 #[.slice a 0 c, .string sep] w fun e w' => e = .returned (.string ⟨#[]⟩) ∧ w' = w := Any.strings_Join_none Tryd.lays156 Tryd.Builder_Extra_156 a c sep w
open Go.RowKit in
theorem Tryd.strings_Join (bk o c : Nat) (xs : List ByteArray) (sep : ByteArray) (w : World) (hcells : ∀ (j : Nat) x, xs[j]? = some x → w.cell? ⟨bk, o + j, none⟩ = some (.string x)) (hbk : bk < w.heap.size) (hN : xs.length ≤ 140737488355328) (hcap : xs.length ≤ c) (hlen : (Lib.join (xs.map (·.data.toList)) sep.data.toList).length ≤ 140737488355328) :
    Calls Tryd.prog 27 #[.slice (some ⟨bk, o, none⟩) xs.length c, .string sep] w fun e w' => e = .returned (.string ⟨(Lib.join (xs.map (·.data.toList)) sep.data.toList).toArray⟩) ∧ Below w.heap.size w w' := Any.strings_Join Tryd.lays156 Tryd.Builder_Extra_156 bk o c xs sep w hcells hbk hN hcap hlen
def Tryd.lays171_ren : Go.Shelf.Ren := ⟨fun | 171 => 43 | 243 => 63 | 246 => 74 | 283 => 78 | 284 => 79 | 285 => 80 | 286 => 81 | 129 => 83 | 317 => 82 | 318 => 84 | 319 => 85 | 320 => 86 | 337 => 87 | 338 => 88 | n => n, fun | 3 => 3 | 9 => 9 | 2 => 2 | 4 => 4 | 171 => 138 | 0 => 0 | 53 => 139 | 37 => 73 | 5 => 5 | 173 => 142 | 212 => 145 | 51 => 146 | 20 => 20 | 213 => 147 | 46 => 149 | 232 => 152 | 233 => 153 | n => n, fun | 17 => 2 | 18 => 3 | 19 => 4 | n => n⟩
theorem Tryd.lays171 : Go.Proofs.Lays.n171 Tryd.prog Tryd.lays171_ren := {
  mixed := by kernel_rfl
  f129 := Tryd.func83.trans (congrArg some (by kernel_rfl))
  f171 := Tryd.func43.trans (congrArg some (by kernel_rfl))
  f243 := Tryd.func63.trans (congrArg some (by kernel_rfl))
  f246 := Tryd.func74.trans (congrArg some (by kernel_rfl))
  f283 := Tryd.func78.trans (congrArg some (by kernel_rfl))
  f284 := Tryd.func79.trans (congrArg some (by kernel_rfl))
  f285 := Tryd.func80.trans (congrArg some (by kernel_rfl))
  f286 := Tryd.func81.trans (congrArg some (by kernel_rfl))
  f317 := Tryd.func82.trans (congrArg some (by kernel_rfl))
  f318 := Tryd.func84.trans (congrArg some (by kernel_rfl))
  f319 := Tryd.func85.trans (congrArg some (by kernel_rfl))
  f320 := Tryd.func86.trans (congrArg some (by kernel_rfl))
  f337 := Tryd.func87.trans (congrArg some (by kernel_rfl))
  f338 := Tryd.func88.trans (congrArg some (by kernel_rfl))
  t0 := Tryd.underlying0
  a0 := Tryd.isAgg0
  z0 := Tryd.sizeOf0
  v0 := Tryd.zeroValue0
  t2 := Tryd.underlying2
  a2 := Tryd.isAgg2
  z2 := Tryd.sizeOf2
  v2 := Tryd.zeroValue2
  t3 := Tryd.underlying3
  a3 := Tryd.isAgg3
  z3 := Tryd.sizeOf3
  v3 := Tryd.zeroValue3
  t4 := Tryd.underlying4
  a4 := Tryd.isAgg4
  z4 := Tryd.sizeOf4
  v4 := Tryd.zeroValue4
  t5 := Tryd.underlying5
  a5 := Tryd.isAgg5
  z5 := Tryd.sizeOf5
  v5 := Tryd.zeroValue5
  t9 := Tryd.underlying9
  a9 := Tryd.isAgg9
  z9 := Tryd.sizeOf9
  v9 := Tryd.zeroValue9
  t20 := Tryd.underlying20
  a20 := Tryd.isAgg20
  z20 := Tryd.sizeOf20
  v20 := Tryd.zeroValue20
  t37 := Tryd.underlying73
  a37 := Tryd.isAgg73
  z37 := Tryd.sizeOf73
  v37 := Tryd.zeroValue73
  t46 := Tryd.underlying149
  a46 := Tryd.isAgg149
  z46 := Tryd.sizeOf149
  v46 := Tryd.zeroValue149
  t51 := Tryd.underlying146
  a51 := Tryd.isAgg146
  z51 := Tryd.sizeOf146
  v51 := Tryd.zeroValue146
  t53 := Tryd.underlying139
  a53 := Tryd.isAgg139
  z53 := Tryd.sizeOf139
  v53 := Tryd.zeroValue139
  t171 := Tryd.underlying138
  a171 := Tryd.isAgg138
  z171 := Tryd.sizeOf138
  v171 := Tryd.zeroValue138
  t173 := Tryd.underlying142
  a173 := Tryd.isAgg142
  z173 := Tryd.sizeOf142
  v173 := Tryd.zeroValue142
  t212 := Tryd.underlying145
  a212 := Tryd.isAgg145
  z212 := Tryd.sizeOf145
  v212 := Tryd.zeroValue145
  t213 := Tryd.underlying147
  a213 := Tryd.isAgg147
  z213 := Tryd.sizeOf147
  t232 := Tryd.underlying152
  a232 := Tryd.isAgg152
  z232 := Tryd.sizeOf152
  v232 := Tryd.zeroValue152
  t233 := Tryd.underlying153
  a233 := Tryd.isAgg153
  z233 := Tryd.sizeOf153
  v233 := Tryd.zeroValue153
  g17 := by kernel_rfl
  g18 := by kernel_rfl
  g19 := by kernel_rfl }
open Go.RowKit Go.Sort Go.Lib in
theorem Tryd.strconv_Itoa_small (i : Nat) (hi : i < 100) (w : World) :
    Calls Tryd.prog 43 #[.int .i64 i] w fun e w' => e = .returned (.string ⟨(Lib.decDigits i).toArray⟩) ∧ w' = w := Any.strconv_Itoa_small Tryd.lays171 i hi w
end Go.Proofs
/- THE PROGRAM's TEXT OF A POLYNOMIAL: powerText, termText. -/
namespace Go.Proofs.YthlmgpllapccfaaDoor
open Go.RowKit
theorem Itoa_dgt (n : Nat) (N : Int) (w : World) (hN : N = n) (hn : n < 10) :
    Calls Tryd.prog 43 #[.int .i64 N] w fun e w' => e = .returned (.string (bs [dgt n])) ∧ w' = w := by
  subst hN
  have h := Tryd.strconv_Itoa_small n (by omega) w
  rw [dec_small hn] at h
  exact h

set_option maxRecDepth 100000 in
theorem powerText_any (c : UInt8) (n : Nat) (N : Int) (w : World) (hN : N = n) (hn : n ≤ 6) :
    Calls Tryd.prog 42 #[.string (bs [c]), .int .i64 N] w fun e w' => e = .returned (.string (bs (ptx c n))) ∧ w' = w := by
  subst hN
  unfold ptx
  by_cases h0 : n = 0
  · subst h0
    go_enter Tryd.func42, Tryd.ntmps42
    go_wp2
    go_ret
    exact ⟨rfl, rfl⟩
  · rw [if_neg h0]
    by_cases h1 : n = 1
    · subst h1
      go_enter Tryd.func42, Tryd.ntmps42
      go_wp2
      go_ret
      exact ⟨rfl, rfl⟩
    · rw [if_neg h1]
      have q0 : ((n : Int) == 0) = false := by rw [beq_eq_false_iff_ne]; omega
      have q1 : ((n : Int) == 1) = false := by rw [beq_eq_false_iff_ne]; omega
      go_enter Tryd.func42, Tryd.ntmps42
      go_wp2_with (go_at_call 43; refine (Itoa_dgt n _ _ rfl (by omega)).mono ?_; rintro e w1 ⟨rfl, rfl⟩)
      go_ret
      exact ⟨by rw [bs_append]; rfl, rfl⟩

theorem powerText_to (c : UInt8) (S : ByteArray) (n : Nat) (N : Int) (w : World) (hN : N = n) (hS : S = bs [c]) (hn : n ≤ 6) :
    Calls Tryd.prog 42 #[.string S, .int .i64 N] w fun e w' => e = .returned (.string (bs (ptx c n))) ∧ w' = w := by
  subst hS; exact powerText_any c n N w hN hn

set_option maxRecDepth 100000 in
set_option maxHeartbeats 2000000 in
theorem termText_any (n u x : Nat) (N U X : Int) (w : World) (hN : N = n) (hU : U = u) (hX : X = x) (hn : n < 7) (hu : u ≤ 6) (hx : x ≤ 4) :
    Calls Tryd.prog 26 #[.agg #[.int .i64 N, .int .i64 U, .int .i64 X]] w fun e w' => e = .returned (.string (bs (tmx n u x))) ∧ Below w.heap.size w w' := by
  subst hN hU hX
  have HP := hidT (pws_eq u x)
  have HN := pws_nil (u := u) (x := x)
  have HT : tmx n u x = if n = 1 ∧ (u ≠ 0 ∨ x ≠ 0) then pws u x else dgt n :: pws u x := rfl
  have hs1 : ¬ (9223372036854775807 < (bs (ptx 117 u)).size + (bs (ptx 120 x)).size) := by rw [bs_size, bs_size]; have := ptx_len 117 u; have := ptx_len 120 x; omega
  have hs2 : ¬ (9223372036854775807 < (bs [dgt n]).size + (bs (pws u x)).size) := by rw [bs_size, bs_size]; have := pws_len u x; simp; omega
  have HA := hidT (bs_append [dgt n] (pws u x))
  rw [HT]
  by_cases h1 : n = 1
  · subst h1
    by_cases hP : pws u x = []
    · have hE : (bs (pws u x)).toList.isEmpty = true := by rw [bs_empty, hP]; rfl
      have hc : ¬ ((1 : Nat) = 1 ∧ (u ≠ 0 ∨ x ≠ 0)) := by have := HN.1 hP; omega
      rw [if_neg hc]
      clear HN HT hc hP
      generalize pws u x = P at *
      go_enter Tryd.func26, Tryd.ntmps26
      go_wp2_with fail
      go_quiet ((go_at_call 42; first | exact Calls.quiet_of_same (powerText_to 117 _ u _ _ rfl rfl hu) | exact Calls.quiet_of_same (powerText_to 120 _ x _ _ rfl rfl (by omega))))
      rw [HP.out]
      clear HP hs1
      go_wp2_with (go_at_call 43; refine (Itoa_dgt 1 _ _ rfl (by omega)).mono ?_; rintro e w1 ⟨rfl, rfl⟩)
      go_ret
      refine ⟨by rw [HA.out]; rfl, below_drewN (by go_grown) nq⟩
    · have hE : (bs (pws u x)).toList.isEmpty = false := by rw [bs_empty]; simp [hP]
      have hc : ((1 : Nat) = 1 ∧ (u ≠ 0 ∨ x ≠ 0)) := ⟨rfl, by
        by_cases hu0 : u = 0
        · exact Or.inr (fun hx0 => hP (HN.2 ⟨hu0, hx0⟩))
        · exact Or.inl hu0⟩
      rw [if_pos hc]
      clear HN HT hc hP
      generalize pws u x = P at *
      go_enter Tryd.func26, Tryd.ntmps26
      go_wp2_with fail
      go_quiet ((go_at_call 42; first | exact Calls.quiet_of_same (powerText_to 117 _ u _ _ rfl rfl hu) | exact Calls.quiet_of_same (powerText_to 120 _ x _ _ rfl rfl (by omega))))
      rw [HP.out]
      clear HP hs1
      go_wp2
      go_ret
      refine ⟨rfl, below_drewN (by go_grown) nq⟩
  · rw [if_neg (fun q => h1 q.1)]
    clear HN HT
    generalize pws u x = P at *
    go_enter Tryd.func26, Tryd.ntmps26
    go_wp2_with fail
    go_quiet ((go_at_call 42; first | exact Calls.quiet_of_same (powerText_to 117 _ u _ _ rfl rfl hu) | exact Calls.quiet_of_same (powerText_to 120 _ x _ _ rfl rfl (by omega))))
    rw [HP.out]
    clear HP hs1
    have h1' : ¬ ((n : Int) = 1) := by omega
    go_wp2_with (go_at_call 43; refine (Itoa_dgt n _ _ rfl (by omega)).mono ?_; rintro e w1 ⟨rfl, rfl⟩)
    go_ret
    refine ⟨by rw [HA.out]; rfl, below_drewN (by go_grown) nq⟩
end Go.Proofs.YthlmgpllapccfaaDoor
/- THE DOCUMENT's ANSWER: digit, small, sign. -/
namespace Go.Proofs.YthlmgpllapccfaaDoor
open Go.RowKit

/-- The signs. -/
def sgn (b : Nat) : Bool := b == 43 || b == 45 || b == 44 || b == 61 || b == 124 || b == 38 || b == 126 || b == 40 || b == 41 || b == 91 || b == 93

theorem sgn_of (k n : Nat) (h : ((k : Int) == (n : Int)) = true) (hk : sgn k = true) : sgn n = true := by
  have e : k = n := by simp at h; omega
  subst e; exact hk
theorem sgn_none (n : Nat) (h0 : (((43 : Nat) : Int) == (n : Int)) = false) (h1 : (((45 : Nat) : Int) == (n : Int)) = false) (h2 : (((44 : Nat) : Int) == (n : Int)) = false) (h3 : (((61 : Nat) : Int) == (n : Int)) = false) (h4 : (((124 : Nat) : Int) == (n : Int)) = false) (h5 : (((38 : Nat) : Int) == (n : Int)) = false) (h6 : (((126 : Nat) : Int) == (n : Int)) = false) (h7 : (((40 : Nat) : Int) == (n : Int)) = false) (h8 : (((41 : Nat) : Int) == (n : Int)) = false) (h9 : (((91 : Nat) : Int) == (n : Int)) = false) (h10 : (((93 : Nat) : Int) == (n : Int)) = false) : sgn n = false := by
  simp only [beq_eq_false_iff_ne] at *
  unfold sgn
  simp only [Bool.or_eq_false_iff, beq_eq_false_iff_ne]
  omega

set_option maxHeartbeats 400000 in
theorem rdigit_any (n : Nat) (a : Int) (w : World) (ha : a = n) (_h : n ≤ 255) :
    Calls Tryd.prog 49 #[.int .u8 a] w fun e w' => e = .returned (.bool (decide (48 ≤ n) && decide (n ≤ 57))) ∧ w' = w := by
  subst ha
  by_cases h1 : 48 ≤ n
  · by_cases h2 : n ≤ 57
    · go_enter Tryd.func49, Tryd.ntmps49
      go_wp2
      go_ret
      exact ⟨by simp [h1, h2]; omega, rfl⟩
    · go_enter Tryd.func49, Tryd.ntmps49
      go_wp2
      go_ret
      exact ⟨by simp [h1, h2]; omega, rfl⟩
  · go_enter Tryd.func49, Tryd.ntmps49
    go_wp2
    go_ret
    exact ⟨by simp, rfl⟩

set_option maxRecDepth 100000 in
set_option maxHeartbeats 4000000 in
theorem sign_any (n : Nat) (a : Int) (w : World) (ha : a = n) (_h : n ≤ 255) :
    Calls Tryd.prog 52 #[.int .u8 a] w fun e w' => e = .returned (.bool (sgn n)) ∧ w' = w := by
  subst ha
  go_enter Tryd.func52, Tryd.ntmps52
  go_wp2
  refine wp_loop_rounds 12 ?_
  repeat any_goals (rw [rounds_succ]; go_wp2)
  all_goals go_ret
  all_goals first
    | exact ⟨congrArg (fun b => Ending.returned (.bool b)) (sgn_of _ n (by assumption) (by decide)).symm, rfl⟩
    | exact ⟨congrArg (fun b => Ending.returned (.bool b)) (sgn_none n (by assumption) (by assumption) (by assumption) (by assumption) (by assumption) (by assumption) (by assumption) (by assumption) (by assumption) (by assumption) (by assumption)).symm, rfl⟩
end Go.Proofs.YthlmgpllapccfaaDoor
