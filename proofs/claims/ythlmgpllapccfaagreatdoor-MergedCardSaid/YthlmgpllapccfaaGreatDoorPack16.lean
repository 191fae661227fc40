import Derived.Test.YthlmgpllapccfaaGreatDoorPack15
import Derived.Test.YthlmgpllapccfaaGreatDoorRows
import Derived.ChangeSame
import Derived.ChangeVars
import Derived.JoinedOf
import Derived.RowKit
import Derived.RowKitTokens
import Derived.LaidLaws
import Derived.LaidHandle
import Derived.SizedLaws
import Derived.Stop.Joined
import Derived.SevenTiedAt
import Derived.ProofKit
import Derived.ChangeMaps5
import Derived.ChangeSlices
/- PLAIN: polynomials in u alone, out of raw numbers; a line that lets a name mean their zeros. -/
namespace Go.Proofs.YthlmgpllapccfaaGreatDoor
open Go.RowKit

/-- What a raw number behind the first adds. -/
def zI (y : Int) : It := if pck y 2 = 0 then ⟨[32, 45, 32], kT 6 (Int.tdiv y 2) 0⟩ else ⟨[43], kT 1 (Int.tdiv y 2) 0⟩
theorem zI_ok (y : Int) : okI (zI y) := by
  unfold zI; split
  · exact ⟨Or.inr (Or.inr (Or.inl ⟨rfl, rfl⟩)), kT_ok _ _ (by omega)⟩
  · exact ⟨Or.inl ⟨rfl, rfl⟩, kT_ok _ _ (by omega)⟩
theorem kT_x (sg : Nat) (v : Int) : (kT sg v 0).x = 0 := by
  have h := pck_lt (Int.tdiv v 42) (n := 0 + 1) (by omega)
  show pck (Int.tdiv v 42) (0 + 1) = 0
  omega
theorem zI_x (y : Int) : (zI y).t.x = 0 := by
  unfold zI; split
  · exact kT_x _ _
  · exact kT_x _ _
/-- The first term; the others. -/
def zF : List Int → T4
  | [] => ⟨1, 0, 0, 0⟩
  | x :: _ => kT 1 (Int.tdiv x 2) 0
def zR : List Int → List It
  | [] => []
  | _ :: ys => (ys.take 2).map zI
theorem zF_ok (xs : List Int) : okT (zF xs) := by
  cases xs with
  | nil => exact ⟨by simp [zF], by simp [zF], by simp [zF]⟩
  | cons x ys => exact kT_ok _ _ (by omega)
theorem zF_sg (xs : List Int) : (zF xs).sg = 1 := by cases xs <;> rfl
theorem zF_x (xs : List Int) : (zF xs).x = 0 := by
  cases xs with
  | nil => rfl
  | cons x ys => exact kT_x _ _
theorem zR_ok (xs : List Int) : ∀ a ∈ zR xs, okI a ∧ a.t.x = 0 := by
  cases xs with
  | nil => intro a h; simp [zR] at h
  | cons x ys =>
    intro a h
    simp only [zR, List.mem_map] at h
    obtain ⟨y, _, rfl⟩ := h
    exact ⟨zI_ok y, zI_x y⟩
/-- The text; its terms. -/
def zX (xs : List Int) : List UInt8 := ktx (zF xs).n (zF xs).u (zF xs).x ++ its (zR xs)
def zTs (xs : List Int) : List T4 := zF xs :: (zR xs).map It.t
theorem zR_len (xs : List Int) : (zR xs).length ≤ 2 := by
  cases xs with
  | nil => simp [zR]
  | cons x ys => simp only [zR, List.length_map, List.length_take]; omega
theorem zX_len (xs : List Int) : (zX xs).length ≤ 27 := by
  have h1 := ktx_le (zF xs).n (zF xs).u (zF xs).x
  have h2 := its_le (zR xs) (fun a ha => (zR_ok xs a ha).1)
  have h3 := zR_len xs
  unfold zX; rw [List.length_append]; omega
/-- The text itself is read as its terms. -/
theorem rd_oneZ (xs : List Int) : rd (bs (zX xs)) = ⟨0, 0, sumP (zTs xs)⟩ :=
  rd_sum (zF xs) (zR xs) (zF_ok xs) (zF_sg xs) (fun a ha => (zR_ok xs a ha).1) (by have := zX_len xs; unfold zX at this; omega)

/-- A term ends here: spaces, then a sign or a bracket. -/
def spz : List UInt8 → Prop
  | [] => False
  | c :: R => c = 43 ∨ c = 45 ∨ c = 93 ∨ (c = 32 ∧ spz R)
theorem spz_nd {R : List UInt8} (h : spz R) : nd R := by
  cases R with
  | nil => trivial
  | cons c R =>
    rcases h with h | h | h | ⟨h, _⟩ <;> subst h
    · exact (by decide : ¬ (48 ≤ (43 : UInt8).toNat ∧ (43 : UInt8).toNat ≤ 57))
    · exact (by decide : ¬ (48 ≤ (45 : UInt8).toNat ∧ (45 : UInt8).toNat ≤ 57))
    · exact (by decide : ¬ (48 ≤ (93 : UInt8).toNat ∧ (93 : UInt8).toNat ≤ 57))
    · exact (by decide : ¬ (48 ≤ (32 : UInt8).toNat ∧ (32 : UInt8).toNat ≤ 57))
theorem tok_shut {s : ByteArray} {i : Nat} {R : List UInt8} (h : Sfx s i (93 :: R)) : tok s i = ⟨97, i, i + 1, 0⟩ := by
  obtain ⟨hb, hs⟩ := h.cons
  have hb' : byt s i = 93 := hb
  have hd : ¬ isD s i = true := by rw [isD_iff]; omega
  unfold tok
  rw [skip_here (by omega)]
  unfold tokAt
  rw [if_neg (by omega), if_neg hd, if_neg (by omega), if_neg (by omega), hb']
theorem tok_open {s : ByteArray} {i : Nat} {R : List UInt8} (h : Sfx s i (91 :: R)) : tok s i = ⟨95, i, i + 1, 0⟩ := by
  obtain ⟨hb, hs⟩ := h.cons
  have hb' : byt s i = 91 := hb
  have hd : ¬ isD s i = true := by rw [isD_iff]; omega
  unfold tok
  rw [skip_here (by omega)]
  unfold tokAt
  rw [if_neg (by omega), if_neg hd, if_neg (by omega), if_neg (by omega), hb']
theorem spz_tok {s : ByteArray} {f : Nat → Tok} {P : Nat → Nat} : ∀ (R : List UInt8) (k i : Nat), YAt s f P k i R → spz R → (f k).c ≠ 2 ∧ (f k).c ≠ 3
  | [], _, _, _, h => h.elim
  | c :: R, k, i, h, hs => by
    rcases hs with e | e | e | ⟨e, hs⟩
    · subst e; rw [h.tk, tok_plus h.2.2]; simp
    · subst e; rw [h.tk, tok_minus h.2.2]; simp
    · subst e; rw [h.tk, tok_shut h.2.2]; simp
    · subst e; exact spz_tok R k (i + 1) h.space hs
theorem ktx0 (n u : Nat) : ktx n u 0 = knum n ++ pku u := by
  unfold ktx
  have e : pkx 0 = [] := rfl
  rw [e, List.append_nil]
theorem znd_pk {u : Nat} {R : List UInt8} (hs : spz R) : nd (pku u ++ R) := by
  unfold pku
  split
  · exact spz_nd hs
  · exact (by decide : ¬ (48 ≤ (117 : UInt8).toNat ∧ (117 : UInt8).toNat ≤ 57))
theorem zread_pk {s : ByteArray} {f : Nat → Tok} {P : Nat → Nat} {k i u m : Nat} {R : List UInt8} (h : YAt s f P k i (pku u ++ R)) (hs : spz R) (hu : u ≤ 6) (hm : (pku u).length ≤ m) :
    ∃ k', pw f true m k 0 0 = ⟨0, 0, k', u, 0⟩ ∧ YAt s f P k' (i + (pku u).length) R := by
  by_cases h0 : u = 0
  · subst h0
    have e : pku 0 = [] := rfl
    rw [e] at h hm ⊢
    simp only [List.nil_append, List.length_nil, Nat.add_zero] at *
    obtain ⟨a, b⟩ := spz_tok R k i h hs
    exact ⟨k, pw_end a b, h⟩
  · have e : pku u = [117, dgt u] := by unfold pku; rw [if_neg h0]
    rw [e] at h hm ⊢
    simp only [List.cons_append, List.nil_append, List.length_cons, List.length_nil, Nat.zero_add] at *
    have hd := dgt_nat (n := u) (by omega)
    have ht := tok_u2 h.2.2 (by omega) (by omega)
    have hn := h.next ht (by omega) h.2.2.cons.2.cons.2
    have e' : (dgt u).toNat - 48 = u := by omega
    rw [e'] at ht
    obtain ⟨a, b⟩ := spz_tok R _ _ hn hs
    refine ⟨k + 1, ?_, hn⟩
    rw [pw_u (by omega) (by rw [h.tk, ht]) (by rw [h.tk, ht]; show 0 + u ≤ 6; omega), h.tk, ht]
    show pw f true (m - 1) (k + 1) (0 + u) 0 = _
    rw [Nat.zero_add]
    exact pw_end a b
theorem zread_ktx {s : ByteArray} {f : Nat → Tok} {P : Nat → Nat} {k i n u N : Nat} {R : List UInt8} (h : YAt s f P k i (ktx n u 0 ++ R)) (hs : spz R) (hn : n ≤ 13) (hu : u ≤ 6) (hN : (ktx n u 0).length ≤ N - k) :
    ∃ k', tm f true N k = ⟨0, 0, k', n, u, 0⟩ ∧ YAt s f P k' (i + (ktx n u 0).length) R := by
  rw [ktx0] at *
  rw [List.length_append] at *
  rw [List.append_assoc] at h
  obtain ⟨ht, hs2, hp⟩ := yread_num h.2.2 hn (znd_pk hs)
  have hnx := h.next ht (by omega) hs2
  obtain ⟨k', e1, ha⟩ := zread_pk (m := N - (k + 1)) hnx hs hu (by omega)
  refine ⟨k', ?_, by rw [← Nat.add_assoc]; exact ha⟩
  unfold tm
  have hc1 : (f k).c = 1 := by rw [h.tk, ht]
  have hv : (f k).v = n := by rw [h.tk, ht]
  rw [if_pos hc1, e1, hv]
theorem okSep_spz {sep R : List UInt8} {sg : Nat} (h : okSep sep sg) : spz (sep ++ R) := by
  rcases h with ⟨rfl, _⟩ | ⟨rfl, _⟩ | ⟨rfl, _⟩ | ⟨rfl, _⟩
  · exact Or.inl rfl
  · exact Or.inr (Or.inr (Or.inr ⟨rfl, Or.inl rfl⟩))
  · exact Or.inr (Or.inr (Or.inr ⟨rfl, Or.inr (Or.inl rfl)⟩))
  · exact Or.inr (Or.inl rfl)
/-- The brackets. -/
def shZ (R : List UInt8) : Prop := R = [93] ∨ R = [32, 93]
theorem shZ_spz {R : List UInt8} (h : shZ R) : spz R := by
  rcases h with rfl | rfl
  · exact Or.inr (Or.inr (Or.inl rfl))
  · exact Or.inr (Or.inr (Or.inr ⟨rfl, Or.inr (Or.inr (Or.inl rfl))⟩))
theorem shZ_tok {s : ByteArray} {f : Nat → Tok} {P : Nat → Nat} {k i : Nat} {R : List UInt8} (hR : shZ R) (h : YAt s f P k i R) : (f k).c = 97 ∧ (f (k + 1)).c = 0 := by
  have key : ∀ j, YAt s f P k j [93] → (f k).c = 97 ∧ (f (k + 1)).c = 0 := fun j h => by
    have ht := tok_shut h.2.2
    have h2 := h.next ht (by omega) h.2.2.cons.2
    exact ⟨by rw [h.tk, ht], by rw [h2.tk, tok_end h2.2.2]⟩
  rcases hR with rfl | rfl
  · exact key _ h
  · exact key _ h.space
theorem zread_its {s : ByteArray} {f : Nat → Tok} {P : Nat → Nat} (R0 : List UInt8) (hR : shZ R0) : ∀ (r : List It) (t : T4) (q : List Nat) (m k i : Nat), okT t → t.x = 0 → (∀ a ∈ r, okI a ∧ a.t.x = 0) → YAt s f P k i (ktx t.n t.u t.x ++ (its r ++ R0)) → s.size + 1 ≤ m + i →
    ∃ k', pl f true s.size m k t.sg q = ⟨0, 0, k', (t :: r.map It.t).foldl add4 q⟩ ∧ YAt s f P k' (i + ((ktx t.n t.u t.x).length + (its r).length)) R0 := by
  intro r
  induction r with
  | nil =>
    intro t q m k i ht hx _ h hm
    rw [hx] at h ⊢
    have hlen := h.2.2.len
    have hk := h.2.1.1
    have hp := ktx_pos t.n t.u 0
    rw [List.length_append] at hlen
    obtain ⟨m, rfl⟩ : ∃ m', m = m' + 1 := ⟨m - 1, by omega⟩
    obtain ⟨k', e1, ha⟩ := zread_ktx (N := s.size) h (shZ_spz hR) ht.1 ht.2.1 (by omega)
    have ha' : YAt s f P k' (i + (ktx t.n t.u 0).length) R0 := ha
    have z1 := (shZ_tok hR ha').1
    refine ⟨k', ?_, ha'⟩
    rw [pl, e1]
    simp only [if_true]
    rw [if_neg (by omega), if_neg (by omega)]
    show (⟨0, 0, k', plus q t.u 0 (t.sg * t.n)⟩ : PlR) = ⟨0, 0, k', plus q t.u t.x (t.sg * t.n)⟩
    rw [hx]
  | cons a r ih =>
    intro t q m k i ht hx hok h hm
    rw [hx] at h ⊢
    have hlen := h.2.2.len
    have hk := h.2.1.1
    have hp := ktx_pos t.n t.u 0
    obtain ⟨⟨ho, hoT⟩, hox⟩ := hok a (by simp)
    rw [List.length_append] at hlen
    obtain ⟨m, rfl⟩ : ∃ m', m = m' + 1 := ⟨m - 1, by omega⟩
    have hj : its (a :: r) ++ R0 = a.sep ++ (ktx a.t.n a.t.u a.t.x ++ (its r ++ R0)) := by rw [its]; simp
    rw [hj] at h
    obtain ⟨k', e1, ha⟩ := zread_ktx (N := s.size) h (okSep_spz ho) ht.1 ht.2.1 (by omega)
    obtain ⟨hc, hb⟩ := yread_sep ha ho
    obtain ⟨k2, e2, hd⟩ := ih a.t (add4 q t) m (k' + 1) _ hoT hox (fun y hy => hok y (by simp [hy])) hb (by omega)
    have e9 : add4 q t = plus q t.u 0 (t.sg * t.n) := by unfold add4; rw [hx]
    rw [e9] at e2
    refine ⟨k2, ?_, ?_⟩
    · rw [pl, e1]
      simp only [if_true]
      have e8 : (t :: (a :: r).map It.t).foldl add4 q = (a.t :: r.map It.t).foldl add4 (plus q t.u 0 (t.sg * t.n)) := by rw [← e9]; rfl
      rw [e8]
      rcases hc with ⟨hc, hsg⟩ | ⟨hc, hsg⟩
      · rw [if_pos hc]
        rw [hsg] at e2
        exact e2
      · rw [if_neg (by omega), if_pos hc]
        rw [hsg] at e2
        exact e2
    · have e : i + ((ktx t.n t.u 0).length + (its (a :: r)).length) = i + (ktx t.n t.u 0).length + a.sep.length + ((ktx a.t.n a.t.u a.t.x).length + (its r).length) := by rw [its, List.length_append, List.length_append]; omega
      rw [e]; exact hd
/-- A sum in u alone, as a polynomial in brackets. -/
theorem zpoly {s : ByteArray} {f : Nat → Tok} {P : Nat → Nat} {k i : Nat} {R0 : List UInt8} (hR : shZ R0) (r : List It) (t : T4) (ht : okT t) (hx : t.x = 0) (h1 : t.sg = 1) (hok : ∀ a ∈ r, okI a ∧ a.t.x = 0) (h : YAt s f P k i (ktx t.n t.u t.x ++ (its r ++ R0))) :
    ∃ k', poly f true s.size k = ⟨0, 0, k', sumP (t :: r.map It.t)⟩ ∧ (f k').c = 97 ∧ (f (k' + 1)).c = 0 := by
  obtain ⟨k', e, ha⟩ := zread_its R0 hR r t zeros (s.size + 1) k i ht hx hok h (by omega)
  rw [h1] at e
  refine ⟨k', ?_, shZ_tok hR ha⟩
  have h49 : (f k).c ≠ 49 := by
    intro q
    have e4 : (tm f true s.size k).e = 4 := by unfold tm; rw [if_neg (by omega), if_neg (by omega)]
    have e5 : (pl f true s.size (s.size + 1) k 1 zeros).e = 4 := by rw [pl, if_neg (by omega)]; exact e4
    rw [e] at e5
    exact absurd e5 (by simp)
  unfold poly; rw [if_neg h49, e]; rfl

/-- set N = .. -/
def setL (n : Nat) (T : List UInt8) : List UInt8 := [115, 101, 116, 32, UInt8.ofNat (65 + n), 32, 61, 32] ++ T
theorem setL_sfx (n : Nat) (T : List UInt8) (j : Nat) (h : j ≤ 8) : Sfx (bs (setL n T)) j ((setL n T).drop j) := by
  refine ⟨rfl, ?_⟩
  rw [bs_size]; unfold setL; simp; omega
theorem set_word (n : Nat) (T : List UInt8) : sml (bs (setL n T)) (w0 (bs (setL n T))) = true ∧ w1 (bs (setL n T)) = 3 ∧ wd (bs (setL n T)) = [115, 101, 116] := by
  have h0 : byt (bs (setL n T)) 0 = 115 := (setL_sfx n T 0 (by omega)).cons.1
  have h1 : byt (bs (setL n T)) 1 = 101 := (setL_sfx n T 1 (by omega)).cons.1
  have h2 : byt (bs (setL n T)) 2 = 116 := (setL_sfx n T 2 (by omega)).cons.1
  have h3 : byt (bs (setL n T)) 3 = 32 := (setL_sfx n T 3 (by omega)).cons.1
  have hw0 : w0 (bs (setL n T)) = 0 := by unfold w0; exact skip_here (by omega)
  have s0 : sml (bs (setL n T)) 0 = true := by rw [sml_iff]; omega
  have s1 : sml (bs (setL n T)) 1 = true := by rw [sml_iff]; omega
  have s2 : sml (bs (setL n T)) 2 = true := by rw [sml_iff]; omega
  have s3 : ¬ sml (bs (setL n T)) 3 = true := by rw [sml_iff]; omega
  have hw1 : w1 (bs (setL n T)) = 3 := by unfold w1; rw [hw0, wend_step s0, wend_step s1, wend_step s2, wend_here s3]
  refine ⟨by rw [hw0]; exact s0, hw1, ?_⟩
  unfold wd
  rw [hw0, hw1]
  simp [bs, setL, ByteArray.extract, ByteArray.copySlice]
theorem set_run (n : Nat) (T : List UInt8) : Run (bs (setL n T)) (lf (bs (setL n T))) (lq (bs (setL n T))) 1 := by
  intro j hj
  refine ⟨lf_tok (Or.inr (by omega)), ?_⟩
  obtain ⟨hs, _, _⟩ := set_word n T
  unfold lq
  rw [if_pos hs, if_pos hs, if_neg (by omega), if_neg (by omega)]
  obtain ⟨k, rfl⟩ : ∃ k, j = k + 1 := ⟨j - 1, by omega⟩
  rfl
/-- WHAT A LINE THAT SETS COMES TO. -/
theorem line_set (st : Nat → Mng) {n : Nat} (hn : n < 26) (r : List It) (t : T4) (ht : okT t) (hx : t.x = 0) (h1 : t.sg = 1) (hok : ∀ a ∈ r, okI a ∧ a.t.x = 0) (o R0 : List UInt8) (ho : o = [91] ∨ o = [91, 32]) (hR : shZ R0) (hl : (setL n (o ++ (ktx t.n t.u t.x ++ (its r ++ R0)))).length ≤ 90) :
    lnA st (bs (setL n (o ++ (ktx t.n t.u t.x ++ (its r ++ R0))))) = ⟨0, 0, [], upd st n (.set (zrs (sumP (t :: r.map It.t))))⟩ := by
  generalize hT : o ++ (ktx t.n t.u t.x ++ (its r ++ R0)) = T at *
  obtain ⟨hs, hw1, hw⟩ := set_word n T
  have hrun := set_run n T
  have hsz : (bs (setL n T)).size ≤ 90 := by rw [bs_size]; exact hl
  have hP1 : lq (bs (setL n T)) 1 = 3 := by unfold lq; rw [if_pos hs, if_neg (by omega)]; exact hw1
  have y0 : YAt (bs (setL n T)) (lf (bs (setL n T))) (lq (bs (setL n T))) 1 3 ((setL n T).drop 3) := ⟨by rw [hP1], ⟨by omega, hrun⟩, setL_sfx n T 3 (by omega)⟩
  have y1 : YAt (bs (setL n T)) (lf (bs (setL n T))) (lq (bs (setL n T))) 1 4 (UInt8.ofNat (65 + n) :: 32 :: 61 :: 32 :: T) := y0.space
  have t1 := tok_name hn y1.2.2
  have y2 := (y1.next t1 (by omega) y1.2.2.cons.2).space
  have t2 := tok_eq y2.2.2
  have y3 := (y2.next t2 (by omega) y2.2.2.cons.2).space
  have c1 : (lf (bs (setL n T)) 1).c = 69 + n := by rw [y1.tk, t1]
  have c2 : (lf (bs (setL n T)) 2).c = 65 := by rw [y2.tk, t2]
  have key : (lf (bs (setL n T)) 3).c = 95 ∧ ∃ i, YAt (bs (setL n T)) (lf (bs (setL n T))) (lq (bs (setL n T))) 4 i (ktx t.n t.u t.x ++ (its r ++ R0)) := by
    rcases ho with rfl | rfl
    · rw [← hT] at y3
      have t3 := tok_open y3.2.2
      rw [hT] at y3 t3
      have y4 := y3.next t3 (by omega) (R' := ktx t.n t.u t.x ++ (its r ++ R0)) (by have q := y3.2.2; rw [← hT] at q; have q2 := q.cons.2; rw [hT] at q2; exact q2)
      exact ⟨by rw [y3.tk, t3], _, y4⟩
    · rw [← hT] at y3
      have t3 := tok_open y3.2.2
      rw [hT] at y3 t3
      have y4 := y3.next t3 (by omega) (R' := 32 :: (ktx t.n t.u t.x ++ (its r ++ R0))) (by have q := y3.2.2; rw [← hT] at q; have q2 := q.cons.2; rw [hT] at q2; exact q2)
      exact ⟨by rw [y3.tk, t3], _, y4.space⟩
  obtain ⟨c3, i4, y4⟩ := key
  obtain ⟨k', e, e97, e0⟩ := zpoly hR r t ht hx h1 hok y4
  generalize bs (setL n T) = s at *
  have hN : nmS (lf s) (ok0 st) ws1 = ⟨2, 0, 0⟩ := by
    have hi : isN (lf s 1) = true := by rw [isN_iff]; omega
    unfold nmS ws1
    rw [if_neg (by simp), if_pos hi, if_pos (by unfold ok0; rfl)]
  have hP : pcR (lf s) s.size st 6 3 = ⟨0, 0, k' + 1, zrs (sumP (t :: r.map It.t))⟩ := by
    rw [pcR_zeros c3]
    show StR.wants (lf s) 97 (zrR (poly (lf s) true s.size 4)) = _
    rw [e]
    unfold zrR StR.wants
    rw [if_pos rfl, if_pos e97]
  have hPt : ptR (lf s) s.size st 6 3 = ⟨0, 0, k' + 1, zrs (sumP (t :: r.map It.t))⟩ := by
    unfold ptR prG
    rw [hP, if_pos rfl]
    exact prF_end (by rw [e0]; decide) (by rw [e0]; decide)
  have hSt : stR (lf s) s.size st 6 3 = ⟨0, 0, k' + 1, zrs (sumP (t :: r.map It.t))⟩ := by
    unfold stR seG
    rw [hPt, if_pos rfl]
    exact seF_end (by rw [e0]; decide)
  have hS : setS st (lf s) s.size = ⟨k' + 1, 0, 0⟩ := by
    unfold setS
    rw [hN]
    unfold wtS
    rw [if_neg (by simp), if_pos c2]
    unfold stS
    rw [if_neg (by simp)]
    show enS (lf s) ⟨(stR (lf s) s.size st 6 3).k, (stR (lf s) s.size st 6 3).e, (stR (lf s) s.size st 6 3).bad⟩ = _
    rw [hSt]
    unfold enS
    rw [if_neg (by simp), if_pos e0]
  unfold lnA
  rw [if_neg (by omega), if_neg (by rw [hs]; decide), if_pos hw, hS, hSt]
  unfold ans
  rw [if_neg (by simp)]
  unfold nm1
  rw [c1, Nat.add_sub_cancel_left]
theorem raw_set (st : Nat → Mng) {n : Nat} (hn : n < 26) (xs : List Int) (o R0 : List UInt8) (ho : o = [91] ∨ o = [91, 32]) (hR : shZ R0) :
    lnA st (bs (setL n (o ++ (zX xs ++ R0)))) = ⟨0, 0, [], upd st n (.set (zrs (sumP (zTs xs))))⟩ := by
  have hx := zX_len xs
  have h := line_set st hn (zR xs) (zF xs) (zF_ok xs) (zF_x xs) (zF_sg xs) (zR_ok xs) o R0 ho hR (by
    unfold zX at hx
    rw [List.length_append] at hx
    unfold setL
    simp only [List.length_append, List.length_cons, List.length_nil]
    have h1 : o.length ≤ 2 := by rcases ho with rfl | rfl <;> simp
    have h2 : R0.length ≤ 2 := by rcases hR with rfl | rfl <;> simp
    omega)
  unfold zX
  rw [List.append_assoc]
  exact h
/-- A value is in the set of the zeros if the polynomial is worth 0 there. -/
theorem zrs_val (p : List Nat) (u : Nat) : zrs p u = decide (valP p u 0 = 0) := by
  unfold zrs
  have h : valP p u 0 = (lineR p u).getD 0 0 := by
    rw [← val_same]
    have hl : (lineR p u).getD 0 0 < 7 := by rw [lineR_get _ _ _ (by omega)]; exact pows_lt _ _ _
    unfold valL
    simp [pows, pw7]
    simp at hl
    omega
  rw [h]
end Go.Proofs.YthlmgpllapccfaaGreatDoor
/- MERGED: the statement's own function text, in u alone. -/
namespace Go.Proofs.YthlmgpllapccfaaGreatDoor
open Go.RowKit
/-- The text behind k rounds. -/
def zP (xs : List Int) (k : Nat) : List UInt8 := if k = 0 then [] else zX (xs.take k)
theorem zP_len (xs : List Int) (k : Nat) : (zP xs k).length ≤ 27 := by
  unfold zP; split
  · simp
  · exact zX_len _
theorem zP_one {xs : List Int} {x : Int} (h : xs[0]? = some x) : zP xs 1 = ktx (kT 1 (Int.tdiv x 2) 0).n (kT 1 (Int.tdiv x 2) 0).u (kT 1 (Int.tdiv x 2) 0).x := by
  cases xs with
  | nil => simp at h
  | cons y ys =>
    simp at h; subst h
    simp [zP, zX, zF, zR, its]
theorem zP_more {xs : List Int} {k : Nat} {x : Int} (h : xs[k]? = some x) (h0 : 0 < k) (h2 : k ≤ 2) : zP xs (k + 1) = zP xs k ++ (zI x).sep ++ ktx (zI x).t.n (zI x).t.u (zI x).t.x := by
  obtain ⟨k, rfl⟩ : ∃ j, k = j + 1 := ⟨k - 1, by omega⟩
  cases xs with
  | nil => simp at h
  | cons y ys =>
    have h' : ys[k]? = some x := by simpa using h
    unfold zP
    rw [if_neg (by omega), if_neg (by omega)]
    simp only [List.take_succ_cons, zX, zF, zR]
    rw [List.take_take, List.take_take, show min 2 (k + 1) = k + 1 by omega, show min 2 k = k by omega, List.take_add_one, h', List.map_append, its_append]
    simp [its]
theorem zP_end {xs : List Int} {k : Nat} (h : k = min xs.length 3) (h0 : 0 < k) : zP xs k = zX xs := by
  unfold zP
  rw [if_neg (by omega)]
  cases xs with
  | nil => simp at h; omega
  | cons y ys =>
    obtain ⟨j, rfl⟩ : ∃ j, k = j + 1 := ⟨k - 1, by omega⟩
    simp only [List.length_cons] at h
    simp only [List.take_succ_cons, zX, zF, zR]
    rw [List.take_take]
    by_cases hl : ys.length < 2
    · rw [List.take_of_length_le (by omega), List.take_of_length_le (by omega)]
    · rw [show min 2 j = 2 by omega]
set_option maxRecDepth 100000 in
set_option maxHeartbeats 2000000 in
theorem ztext_nil (a : Option Addr) (cap : Nat) (w : World) : Calls Tryz.prog 21 #[.slice a 0 cap, .int .i64 0] w fun e w' => e = .returned (.string (bs (zX []))) ∧ Below w.heap.size w w' := by
  have e : zX [] = [48] := by decide +kernel
  rw [e]
  go_enter Tryz.func21, Tryz.ntmps21
  go_wp2
  go_loopg [5, 6] 1 (fun gm v4 v5 wr => gm = 1 ∧ v4 = .string ⟨#[]⟩ ∧ v5 = .int .i64 0 ∧ wr = w)
  case atStart => exact ⟨rfl, rfl, rfl, rfl⟩
  case round =>
    obtain ⟨_, rfl, rfl, rfl⟩ := hrel
    go_wp2
    go_ret
    exact ⟨rfl, Below.refl _ _⟩
set_option maxRecDepth 100000 in
set_option maxHeartbeats 2000000 in
theorem ztext_some (xs : List Int) (ad : Addr) (cap : Nat) (w : World) (hne : 0 < xs.length) (hcells : ∀ j x, xs[j]? = some x → w.cell? (ad.add j) = some (.int .i64 x) ∧ -9223372036854775808 ≤ x ∧ x ≤ 9223372036854775807) (hb : ad.block < w.heap.size) (hl : xs.length ≤ 9223372036854775807) :
    Calls Tryz.prog 21 #[.slice (some ad) xs.length cap, .int .i64 0] w fun e w' => e = .returned (.string (bs (zX xs))) ∧ Below w.heap.size w w' := by
  have HC := hidT hcells
  clear hcells
  go_enter Tryz.func21, Tryz.ntmps21
  go_wp2
  go_loopg [5, 6] 3 (fun gm v4 v5 wr => ∃ k : Nat, gm = 3 - k ∧ k ≤ 3 ∧ k ≤ xs.length ∧ v5 = .int .i64 k ∧ v4 = .string (bs (zP xs k)) ∧ Hid (Below w.heap.size w wr))
  case atStart => exact ⟨0, rfl, by omega, by omega, rfl, rfl, Below.refl _ _⟩
  case round =>
    obtain ⟨k, hgm, hk3, hkl, rfl, rfl, HB⟩ := hrel
    by_cases hlt : k < xs.length ∧ k < 3
    · obtain ⟨x, hx⟩ : ∃ x, xs[k]? = some x := ⟨_, List.getElem?_eq_getElem hlt.1⟩
      obtain ⟨c1, c2, c3⟩ := HC.out k x hx
      have c4 : wr.cell? (ad.add k) = some (.int .i64 x) := by
        rw [← c1]
        exact World.cell?_of_block (by rw [add_block]; exact HB.out.block _ hb)
      have d1 := tdiv_bd x 2 (by omega) c2 c3
      have d1' : -9223372036854775808 ≤ Int.tdiv x 2 ∧ Int.tdiv x 2 ≤ 9223372036854775807 := d1
      have hk0 : (0 : Int) ≤ (k : Int) := by omega
      have hkx : (k : Int) < (xs.length : Int) := by omega
      have hk3' : (k : Int) < 3 := by omega
      have HL := hidT (zP_len xs k)
      clear d1 c1
      by_cases h0 : k = 0
      · subst h0
        have HP := hidT (zP_one hx)
        have hE : zP xs 0 = [] := rfl
        rw [hE]
        obtain ⟨Y, HY⟩ : ∃ Y, Hid (ktx (kT 1 (Int.tdiv x 2) 0).n (kT 1 (Int.tdiv x 2) 0).u (kT 1 (Int.tdiv x 2) 0).x = Y) := ⟨_, hidT rfl⟩
        have HK := fun (w' : World) => kterm_any 1 (Int.tdiv x 2) 0 0 w' rfl (by omega) d1'.1 d1'.2
        rw [HY.out] at HK HP
        have HHK := hidT HK
        clear HK
        have hadd := fun (w' : World) => add_to [] Y Y (bs Y) rfl (by simp) (by simp) (by rw [← HY.out]; have := ktx_le (kT 1 (Int.tdiv x 2) 0).n (kT 1 (Int.tdiv x 2) 0).u (kT 1 (Int.tdiv x 2) 0).x; omega) w'
        have c5 : wr.cell? ad = some (.int .i64 x) := by simpa [Addr.add] using c4
        simp only [Int.natCast_zero] at *
        go_wp2_with (go_at_call 32; refine (HHK.out _).mono ?_; rintro e w1 ⟨rfl, hb1⟩; have HB1 := hidT hb1)
        go_roundg (3 - 1)
        case measure => omega
        case rel => exact ⟨1, rfl, by omega, by omega, rfl, by rw [HP.out], bel2 HB.out HB1.out⟩
      · by_cases hp : pck x 2 = 0
        · have HP : Hid (zP xs (k + 1) = zP xs k ++ [32, 45, 32] ++ ktx (kT 6 (Int.tdiv x 2) 0).n (kT 6 (Int.tdiv x 2) 0).u (kT 6 (Int.tdiv x 2) 0).x) := by
            unfold Hid
            rw [zP_more hx (by omega) (by omega)]
            unfold zI
            rw [if_pos hp]
          obtain ⟨Y, HY⟩ : ∃ Y, Hid (ktx (kT 6 (Int.tdiv x 2) 0).n (kT 6 (Int.tdiv x 2) 0).u (kT 6 (Int.tdiv x 2) 0).x = Y) := ⟨_, hidT rfl⟩
          have HK := fun (w' : World) => kterm_any 6 (Int.tdiv x 2) 0 0 w' rfl (by omega) d1'.1 d1'.2
          have HYL : Hid (Y.length ≤ 7) := by unfold Hid; rw [← HY.out]; exact ktx_le _ _ _
          rw [HY.out] at HK HP
          have HHK := hidT HK
          clear HK
          generalize hX : zP xs k = X at *
          have HX := hidT hX
          clear hX
          obtain ⟨Y1, HY1⟩ : ∃ Y', Hid (X ++ [32, 45, 32] = Y') := ⟨_, hidT rfl⟩
          have HL1 : Hid (Y1.length ≤ 30) := by unfold Hid; rw [← HY1.out, List.length_append]; have := HL.out; simp; omega
          obtain ⟨Y2, HY2⟩ : ∃ Y', Hid (Y1 ++ Y = Y') := ⟨_, hidT rfl⟩
          have hadd1 := fun (w' : World) => add_to X [32, 45, 32] Y1 ⟨#[32, 45, 32]⟩ rfl HY1.out (by have := HL.out; omega) (by simp) w'
          have hadd2 := fun (w' : World) => add_to Y1 Y Y2 (bs Y) rfl HY2.out (by have := HL1.out; omega) (by have := HYL.out; omega) w'
          have hk1 : (0 : Int) < (k : Int) := by omega
          have hpq : (pck x 2 : Int) = 0 := by omega
          go_wp2_with (first | (go_at_call 12; refine (kpick_to x 2 _ _ _ (by rfl) (by rfl) (by omega) (by omega) c2 c3).mono ?_; rintro e w0 ⟨rfl, rfl⟩) | (go_at_call 32; refine (HHK.out _).mono ?_; rintro e w1 ⟨rfl, hb1⟩; have HB1 := hidT hb1))
          go_roundg (3 - (k + 1))
          case measure => omega
          case rel => exact ⟨k + 1, rfl, by omega, by omega, by go_num, by rw [HP.out, HY1.out, HY2.out], bel2 HB.out HB1.out⟩
        · have HP : Hid (zP xs (k + 1) = zP xs k ++ [43] ++ ktx (kT 1 (Int.tdiv x 2) 0).n (kT 1 (Int.tdiv x 2) 0).u (kT 1 (Int.tdiv x 2) 0).x) := by
            unfold Hid
            rw [zP_more hx (by omega) (by omega)]
            unfold zI
            rw [if_neg hp]
          obtain ⟨Y, HY⟩ : ∃ Y, Hid (ktx (kT 1 (Int.tdiv x 2) 0).n (kT 1 (Int.tdiv x 2) 0).u (kT 1 (Int.tdiv x 2) 0).x = Y) := ⟨_, hidT rfl⟩
          have HK := fun (w' : World) => kterm_any 1 (Int.tdiv x 2) 0 0 w' rfl (by omega) d1'.1 d1'.2
          have HYL : Hid (Y.length ≤ 7) := by unfold Hid; rw [← HY.out]; exact ktx_le _ _ _
          rw [HY.out] at HK HP
          have HHK := hidT HK
          clear HK
          generalize hX : zP xs k = X at *
          have HX := hidT hX
          clear hX
          obtain ⟨Y1, HY1⟩ : ∃ Y', Hid (X ++ [43] = Y') := ⟨_, hidT rfl⟩
          have HL1 : Hid (Y1.length ≤ 30) := by unfold Hid; rw [← HY1.out, List.length_append]; have := HL.out; simp; omega
          obtain ⟨Y2, HY2⟩ : ∃ Y', Hid (Y1 ++ Y = Y') := ⟨_, hidT rfl⟩
          have hadd1 := fun (w' : World) => add_to X [43] Y1 ⟨#[43]⟩ rfl HY1.out (by have := HL.out; omega) (by simp) w'
          have hadd2 := fun (w' : World) => add_to Y1 Y Y2 (bs Y) rfl HY2.out (by have := HL1.out; omega) (by have := HYL.out; omega) w'
          have hk1 : (0 : Int) < (k : Int) := by omega
          have hpq : ¬ ((pck x 2 : Int) = 0) := by omega
          go_wp2_with (first | (go_at_call 12; refine (kpick_to x 2 _ _ _ (by rfl) (by rfl) (by omega) (by omega) c2 c3).mono ?_; rintro e w0 ⟨rfl, rfl⟩) | (go_at_call 32; refine (HHK.out _).mono ?_; rintro e w1 ⟨rfl, hb1⟩; have HB1 := hidT hb1))
          go_roundg (3 - (k + 1))
          case measure => omega
          case rel => exact ⟨k + 1, rfl, by omega, by omega, by go_num, by rw [HP.out, HY1.out, HY2.out], bel2 HB.out HB1.out⟩
    · have hke := zP_end (xs := xs) (k := k) (by omega) (by omega)
      rw [hke]
      have hpos : zX xs ≠ [] := fun q => by
        have := ktx_pos (zF xs).n (zF xs).u (zF xs).x
        unfold zX at q
        rw [List.append_eq_nil_iff] at q
        rw [q.1] at this
        simp at this
      have hE : (bs (zX xs)).toList.isEmpty = false := by rw [bs_empty]; simp [hpos]
      by_cases h1 : k < xs.length
      · have e1 : (k : Int) < (xs.length : Int) := by omega
        have e2 : ¬ ((k : Int) < 3) := by omega
        clear hpos hke
        go_wp2
        go_ret
        exact ⟨rfl, HB.out⟩
      · have e1 : ¬ ((k : Int) < (xs.length : Int)) := by omega
        clear hpos hke
        go_wp2
        go_ret
        exact ⟨rfl, HB.out⟩
end Go.Proofs.YthlmgpllapccfaaGreatDoor
/- PLAIN: the lines of Merged. -/
namespace Go.Proofs.YthlmgpllapccfaaGreatDoor
open Go.RowKit

/-- The state: P and Q mean sets, Y means something. -/
def stM (p q : Nat → Bool) (m : Mng) : Nat → Mng := upd (upd (upd st1 15 (.set p)) 16 (.set q)) 24 m
theorem upd_upd (st : Nat → Mng) (n : Nat) (a b : Mng) : upd (upd st n a) n b = upd st n b := by
  funext k
  unfold upd
  split <;> rfl
theorem upd_self (st : Nat → Mng) (n : Nat) : upd st n (st n) = st := by
  funext k
  unfold upd
  split
  · rename_i h; rw [h]
  · rfl
theorem stM_set (p q : Nat → Bool) (m k : Mng) : upd (stM p q m) 24 k = stM p q k := upd_upd _ _ _ _
theorem stM_in (p q : Nat → Bool) : upd (upd st1 15 (.set p)) 16 (.set q) = stM p q (upd (upd st1 15 (.set p)) 16 (.set q) 24) := (upd_self _ _).symm
theorem lnA_to {st : Nat → Mng} {s : ByteArray} {t : List UInt8} {st' : Nat → Mng} (h1 : (lnA st s).e = 0) (h2 : (lnA st s).bad = 0) (h3 : (lnA st s).t = t) (h4 : (lnA st s).st = st') : lnA st s = ⟨0, 0, t, st'⟩ := by
  cases hq : lnA st s with
  | mk e bad t2 st2 =>
    rw [hq] at h1 h2 h3 h4
    dsimp only at h1 h2 h3 h4
    rw [h1, h2, h3, h4]

def mZ0 : List UInt8 := [115, 101, 116, 32, 89, 32, 61, 32, 80, 38, 81]
theorem ln_m0 (p q : Nat → Bool) (m : Mng) : lnA (stM p q m) (bs mZ0) = ⟨0, 0, [], upd (stM p q m) 24 (.set fun v => (p v && q v))⟩ := lnA_to (by kernel_rfl) (by kernel_rfl) (by kernel_rfl) (by kernel_rfl)
def mZ1 : List UInt8 := [115, 101, 116, 32, 89, 32, 61, 32, 81, 32, 38, 32, 80]
theorem ln_m1 (p q : Nat → Bool) (m : Mng) : lnA (stM p q m) (bs mZ1) = ⟨0, 0, [], upd (stM p q m) 24 (.set fun v => (q v && p v))⟩ := lnA_to (by kernel_rfl) (by kernel_rfl) (by kernel_rfl) (by kernel_rfl)
def mZ2 : List UInt8 := [115, 101, 116, 32, 89, 32, 61, 32, 126, 40, 126, 80, 124, 126, 81, 41]
theorem ln_m2 (p q : Nat → Bool) (m : Mng) : lnA (stM p q m) (bs mZ2) = ⟨0, 0, [], upd (stM p q m) 24 (.set fun v => (!((!p v) || (!q v))))⟩ := lnA_to (by kernel_rfl) (by kernel_rfl) (by kernel_rfl) (by kernel_rfl)
def mZ3 : List UInt8 := [115, 101, 116, 32, 89, 32, 61, 32, 80, 124, 81]
theorem ln_m3 (p q : Nat → Bool) (m : Mng) : lnA (stM p q m) (bs mZ3) = ⟨0, 0, [], upd (stM p q m) 24 (.set fun v => (p v || q v))⟩ := lnA_to (by kernel_rfl) (by kernel_rfl) (by kernel_rfl) (by kernel_rfl)
def mZ4 : List UInt8 := [115, 101, 116, 32, 89, 32, 61, 32, 126, 40, 126, 80, 32, 38, 32, 126, 81, 41]
theorem ln_m4 (p q : Nat → Bool) (m : Mng) : lnA (stM p q m) (bs mZ4) = ⟨0, 0, [], upd (stM p q m) 24 (.set fun v => (!((!p v) && (!q v))))⟩ := lnA_to (by kernel_rfl) (by kernel_rfl) (by kernel_rfl) (by kernel_rfl)
def mZ5 : List UInt8 := [115, 101, 116, 32, 89, 32, 61, 32, 80, 45, 81]
theorem ln_m5 (p q : Nat → Bool) (m : Mng) : lnA (stM p q m) (bs mZ5) = ⟨0, 0, [], upd (stM p q m) 24 (.set fun v => (p v && !q v))⟩ := lnA_to (by kernel_rfl) (by kernel_rfl) (by kernel_rfl) (by kernel_rfl)
def mZ6 : List UInt8 := [115, 101, 116, 32, 89, 32, 61, 32, 80, 32, 38, 32, 126, 81]
theorem ln_m6 (p q : Nat → Bool) (m : Mng) : lnA (stM p q m) (bs mZ6) = ⟨0, 0, [], upd (stM p q m) 24 (.set fun v => (p v && (!q v)))⟩ := lnA_to (by kernel_rfl) (by kernel_rfl) (by kernel_rfl) (by kernel_rfl)
def mZ7 : List UInt8 := [115, 101, 116, 32, 89, 32, 61, 32, 80, 45, 40, 80, 38, 81, 41]
theorem ln_m7 (p q : Nat → Bool) (m : Mng) : lnA (stM p q m) (bs mZ7) = ⟨0, 0, [], upd (stM p q m) 24 (.set fun v => (p v && !(p v && q v)))⟩ := lnA_to (by kernel_rfl) (by kernel_rfl) (by kernel_rfl) (by kernel_rfl)
def mZ8 : List UInt8 := [115, 101, 116, 32, 89, 32, 61, 32, 126, 80]
theorem ln_m8 (p q : Nat → Bool) (m : Mng) : lnA (stM p q m) (bs mZ8) = ⟨0, 0, [], upd (stM p q m) 24 (.set fun v => (!p v))⟩ := lnA_to (by kernel_rfl) (by kernel_rfl) (by kernel_rfl) (by kernel_rfl)
def mZ9 : List UInt8 := [115, 101, 116, 32, 89, 32, 61, 32, 126, 126, 126, 80]
theorem ln_m9 (p q : Nat → Bool) (m : Mng) : lnA (stM p q m) (bs mZ9) = ⟨0, 0, [], upd (stM p q m) 24 (.set fun v => (!(!(!p v))))⟩ := lnA_to (by kernel_rfl) (by kernel_rfl) (by kernel_rfl) (by kernel_rfl)
def mZ10 : List UInt8 := [115, 101, 116, 32, 89, 32, 61, 32, 80, 45, 81, 124, 126, 80, 38, 80]
theorem ln_m10 (p q : Nat → Bool) (m : Mng) : lnA (stM p q m) (bs mZ10) = ⟨0, 0, [], upd (stM p q m) 24 (.set fun v => ((p v && !q v) || ((!p v) && p v)))⟩ := lnA_to (by kernel_rfl) (by kernel_rfl) (by kernel_rfl) (by kernel_rfl)
def mZ11 : List UInt8 := [115, 101, 116, 32, 89, 32, 61, 32, 80, 38, 81, 45, 81, 124, 80]
theorem ln_m11 (p q : Nat → Bool) (m : Mng) : lnA (stM p q m) (bs mZ11) = ⟨0, 0, [], upd (stM p q m) 24 (.set fun v => (((p v && q v) && !q v) || p v))⟩ := lnA_to (by kernel_rfl) (by kernel_rfl) (by kernel_rfl) (by kernel_rfl)
/-- The texts, the lines, and what they come to. -/
def mX : Nat → List UInt8
  | 0 => [80, 38, 81]
  | 1 => [81, 32, 38, 32, 80]
  | 2 => [126, 40, 126, 80, 124, 126, 81, 41]
  | 3 => [80, 124, 81]
  | 4 => [126, 40, 126, 80, 32, 38, 32, 126, 81, 41]
  | 5 => [80, 45, 81]
  | 6 => [80, 32, 38, 32, 126, 81]
  | 7 => [80, 45, 40, 80, 38, 81, 41]
  | 8 => [126, 80]
  | 9 => [126, 126, 126, 80]
  | 10 => [80, 45, 81, 124, 126, 80, 38, 80]
  | 11 => [80, 38, 81, 45, 81, 124, 80]
  | _ => []
def mZ : Nat → List UInt8
  | 0 => mZ0
  | 1 => mZ1
  | 2 => mZ2
  | 3 => mZ3
  | 4 => mZ4
  | 5 => mZ5
  | 6 => mZ6
  | 7 => mZ7
  | 8 => mZ8
  | 9 => mZ9
  | 10 => mZ10
  | 11 => mZ11
  | _ => []
def mT (a b : Bool) : Nat → Bool
  | 0 => a && b
  | 1 => a && b
  | 2 => a && b
  | 3 => a || b
  | 4 => a || b
  | 5 => a && !b
  | 6 => a && !b
  | 7 => a && !b
  | 8 => !a
  | 9 => !a
  | 10 => a && !b
  | 11 => a
  | _ => false
theorem mZ_eq : ∀ i, i < 12 → [115, 101, 116, 32, 89, 32, 61, 32] ++ mX i = mZ i
  | 0, _ => rfl
  | 1, _ => rfl
  | 2, _ => rfl
  | 3, _ => rfl
  | 4, _ => rfl
  | 5, _ => rfl
  | 6, _ => rfl
  | 7, _ => rfl
  | 8, _ => rfl
  | 9, _ => rfl
  | 10, _ => rfl
  | 11, _ => rfl
  | _ + 12, h => by omega
theorem mX_len : ∀ i, i < 12 → (mX i).length ≤ 60
  | 0, _ => by decide
  | 1, _ => by decide
  | 2, _ => by decide
  | 3, _ => by decide
  | 4, _ => by decide
  | 5, _ => by decide
  | 6, _ => by decide
  | 7, _ => by decide
  | 8, _ => by decide
  | 9, _ => by decide
  | 10, _ => by decide
  | 11, _ => by decide
  | _ + 12, h => by omega
theorem ln_m (p q : Nat → Bool) (m : Mng) : ∀ i, i < 12 → ∃ c : Nat → Bool, lnA (stM p q m) (bs (mZ i)) = ⟨0, 0, [], stM p q (.set c)⟩ ∧ ∀ v, c v = mT (p v) (q v) i
  | 0, _ => ⟨_, (ln_m0 p q m).trans (by rw [stM_set]), fun v => by generalize p v = a; generalize q v = b; revert a b; decide⟩
  | 1, _ => ⟨_, (ln_m1 p q m).trans (by rw [stM_set]), fun v => by generalize p v = a; generalize q v = b; revert a b; decide⟩
  | 2, _ => ⟨_, (ln_m2 p q m).trans (by rw [stM_set]), fun v => by generalize p v = a; generalize q v = b; revert a b; decide⟩
  | 3, _ => ⟨_, (ln_m3 p q m).trans (by rw [stM_set]), fun v => by generalize p v = a; generalize q v = b; revert a b; decide⟩
  | 4, _ => ⟨_, (ln_m4 p q m).trans (by rw [stM_set]), fun v => by generalize p v = a; generalize q v = b; revert a b; decide⟩
  | 5, _ => ⟨_, (ln_m5 p q m).trans (by rw [stM_set]), fun v => by generalize p v = a; generalize q v = b; revert a b; decide⟩
  | 6, _ => ⟨_, (ln_m6 p q m).trans (by rw [stM_set]), fun v => by generalize p v = a; generalize q v = b; revert a b; decide⟩
  | 7, _ => ⟨_, (ln_m7 p q m).trans (by rw [stM_set]), fun v => by generalize p v = a; generalize q v = b; revert a b; decide⟩
  | 8, _ => ⟨_, (ln_m8 p q m).trans (by rw [stM_set]), fun v => by generalize p v = a; generalize q v = b; revert a b; decide⟩
  | 9, _ => ⟨_, (ln_m9 p q m).trans (by rw [stM_set]), fun v => by generalize p v = a; generalize q v = b; revert a b; decide⟩
  | 10, _ => ⟨_, (ln_m10 p q m).trans (by rw [stM_set]), fun v => by generalize p v = a; generalize q v = b; revert a b; decide⟩
  | 11, _ => ⟨_, (ln_m11 p q m).trans (by rw [stM_set]), fun v => by generalize p v = a; generalize q v = b; revert a b; decide⟩
  | _ + 12, h => by omega
theorem ln_mshow (p q c : Nat → Bool) : lnA (stM p q (.set c)) (bs [115, 104, 111, 119, 32, 89]) = ⟨0, 0, lsd c 7, stM p q (.set c)⟩ := lnA_to (by kernel_rfl) (by kernel_rfl) (by kernel_rfl) (by kernel_rfl)
theorem ln_mshowP (p q : Nat → Bool) : lnA (upd (upd st1 15 (.set p)) 16 (.set q)) (bs [115, 104, 111, 119, 32, 80]) = ⟨0, 0, lsd p 7, upd (upd st1 15 (.set p)) 16 (.set q)⟩ := lnA_to (by kernel_rfl) (by kernel_rfl) (by kernel_rfl) (by kernel_rfl)
theorem ln_mshowQ (p q : Nat → Bool) : lnA (upd (upd st1 15 (.set p)) 16 (.set q)) (bs [115, 104, 111, 119, 32, 81]) = ⟨0, 0, lsd q 7, upd (upd st1 15 (.set p)) 16 (.set q)⟩ := lnA_to (by kernel_rfl) (by kernel_rfl) (by kernel_rfl) (by kernel_rfl)
theorem ln_msub (p q : Nat → Bool) (m : Mng) : lnA (stM p q m) (bs [115, 117, 98, 32, 80, 32, 81]) = ⟨0, 0, yesno (withB p q), stM p q m⟩ := lnA_to (by kernel_rfl) (by kernel_rfl) (by kernel_rfl) (by kernel_rfl)
/-- has P d. -/
def qH (d : Nat) : List UInt8 := [104, 97, 115, 32, 80, 32, dgt d]
theorem ln_mhas (p q : Nat → Bool) (m : Mng) : ∀ d, d < 10 → lnA (stM p q m) (bs (qH d)) = ⟨0, 0, yesno (p (d % 7)), stM p q m⟩
  | 0, _ => lnA_to (by kernel_rfl) (by kernel_rfl) (by kernel_rfl) (by kernel_rfl)
  | 1, _ => lnA_to (by kernel_rfl) (by kernel_rfl) (by kernel_rfl) (by kernel_rfl)
  | 2, _ => lnA_to (by kernel_rfl) (by kernel_rfl) (by kernel_rfl) (by kernel_rfl)
  | 3, _ => lnA_to (by kernel_rfl) (by kernel_rfl) (by kernel_rfl) (by kernel_rfl)
  | 4, _ => lnA_to (by kernel_rfl) (by kernel_rfl) (by kernel_rfl) (by kernel_rfl)
  | 5, _ => lnA_to (by kernel_rfl) (by kernel_rfl) (by kernel_rfl) (by kernel_rfl)
  | 6, _ => lnA_to (by kernel_rfl) (by kernel_rfl) (by kernel_rfl) (by kernel_rfl)
  | 7, _ => lnA_to (by kernel_rfl) (by kernel_rfl) (by kernel_rfl) (by kernel_rfl)
  | 8, _ => lnA_to (by kernel_rfl) (by kernel_rfl) (by kernel_rfl) (by kernel_rfl)
  | 9, _ => lnA_to (by kernel_rfl) (by kernel_rfl) (by kernel_rfl) (by kernel_rfl)
  | _ + 10, h => by omega
/-- All of the first v values of A in B. -/
def subN (A B : Nat → Bool) (v : Nat) : Bool := (List.range v).all fun j => !A j || B j
theorem subN_step (A B : Nat → Bool) (v : Nat) : subN A B (v + 1) = (subN A B v && (!A v || B v)) := by
  unfold subN
  rw [List.range_succ, List.all_append]
  simp
end Go.Proofs.YthlmgpllapccfaaGreatDoor
/- MERGED: six rows of Booleans and a session; the two literal rows. -/
namespace Go.Proofs.YthlmgpllapccfaaGreatDoor
open Go.RowKit

theorem kyes_any (y : Bool) (w : World) : Calls Tryz.prog 25 #[.bool y] w fun e w' => e = .returned (.string (bs (yesno y))) ∧ w' = w := by
  cases y <;> (go_enter Tryz.func25, Tryz.ntmps25) <;> go_wp2 <;> go_ret <;> exact ⟨rfl, rfl⟩

/-- Six rows, and a session beside them. -/
structure Six (W w : World) (sb bm b0 b1 b2 b3 b4 b5 : Nat) (c0 c1 c2 c3 c4 c5 : Nat → Bool) (S : Nat → Mng) : Prop where
  k0 : Blk w b0 (bv c0) 45
  k1 : Blk w b1 (bv c1) 45
  k2 : Blk w b2 (bv c2) 45
  k3 : Blk w b3 (bv c3) 45
  k4 : Blk w b4 (bv c4) 45
  k5 : Blk w b5 (bv c5) 45
  fr : Fr [] W w
  ss : Sess W.heap.size w [b5, b4, b3, b2, b1, b0, bm] sb bm S
  lo : W.heap.size ≤ b0 ∧ b0 < b1 ∧ b1 < b2 ∧ b2 < b3 ∧ b3 < b4 ∧ b4 < b5
theorem Six.frs {W w w' : World} {sb bm b0 b1 b2 b3 b4 b5 : Nat} {c0 c1 c2 c3 c4 c5 : Nat → Bool} {S : Nat → Mng} (h : Six W w sb bm b0 b1 b2 b3 b4 b5 c0 c1 c2 c3 c4 c5 S) (hf : Fr [] w w') : Six W w' sb bm b0 b1 b2 b3 b4 b5 c0 c1 c2 c3 c4 c5 S :=
  ⟨h.k0.fr hf (by simp), h.k1.fr hf (by simp), h.k2.fr hf (by simp), h.k3.fr hf (by simp), h.k4.fr hf (by simp), h.k5.fr hf (by simp), h.fr.trans hf (by simp), h.ss.fr hf, h.lo⟩
theorem Six.did {W w w' : World} {sb bm b0 b1 b2 b3 b4 b5 : Nat} {c0 c1 c2 c3 c4 c5 : Nat → Bool} {S S' : Nat → Mng} (h : Six W w sb bm b0 b1 b2 b3 b4 b5 c0 c1 c2 c3 c4 c5 S) (hs : Sess W.heap.size w' [b5, b4, b3, b2, b1, b0, bm] sb bm S') (hf : Fr [bm] w w') : Six W w' sb bm b0 b1 b2 b3 b4 b5 c0 c1 c2 c3 c4 c5 S' :=
  ⟨h.k0.fr hf (by simp; exact h.ss.ne h.k0), h.k1.fr hf (by simp; exact h.ss.ne h.k1), h.k2.fr hf (by simp; exact h.ss.ne h.k2), h.k3.fr hf (by simp; exact h.ss.ne h.k3), h.k4.fr hf (by simp; exact h.ss.ne h.k4), h.k5.fr hf (by simp; exact h.ss.ne h.k5), h.fr.trans hf (by simp; exact h.ss.lo), hs, h.lo⟩
theorem Six.set0 {W w : World} {sb bm b0 b1 b2 b3 b4 b5 : Nat} {c0 c1 c2 c3 c4 c5 : Nat → Bool} {S : Nat → Mng} (h : Six W w sb bm b0 b1 b2 b3 b4 b5 c0 c1 c2 c3 c4 c5 S) (hB : 0 < W.heap.size) {z : Nat} (hz : z < 7) (v : Bool) : Six W (w.setCell ⟨b0, z, none⟩ (.bool v)) sb bm b0 b1 b2 b3 b4 b5 (fun j => if j = z then v else c0 j) c1 c2 c3 c4 c5 S := by
  have f9 : Fr [b0] w (w.setCell ⟨b0, z, none⟩ (.bool v)) := Fr.setCell (Fr.refl _ _) _ _ (Or.inl (by simp))
  have hl := h.lo
  refine ⟨by rw [← bv_upd c0 v hz]; exact h.k0.set _ _, h.k1.fr f9 (by simp; omega), h.k2.fr f9 (by simp; omega), h.k3.fr f9 (by simp; omega), h.k4.fr f9 (by simp; omega), h.k5.fr f9 (by simp; omega), h.fr.trans f9 (by simp; omega), h.ss.frs hB f9 (by intro k hk; simp at hk; subst hk; exact ⟨by simp, h.ss.ne h.k0⟩), h.lo⟩
theorem Six.set1 {W w : World} {sb bm b0 b1 b2 b3 b4 b5 : Nat} {c0 c1 c2 c3 c4 c5 : Nat → Bool} {S : Nat → Mng} (h : Six W w sb bm b0 b1 b2 b3 b4 b5 c0 c1 c2 c3 c4 c5 S) (hB : 0 < W.heap.size) {z : Nat} (hz : z < 7) (v : Bool) : Six W (w.setCell ⟨b1, z, none⟩ (.bool v)) sb bm b0 b1 b2 b3 b4 b5 c0 (fun j => if j = z then v else c1 j) c2 c3 c4 c5 S := by
  have f9 : Fr [b1] w (w.setCell ⟨b1, z, none⟩ (.bool v)) := Fr.setCell (Fr.refl _ _) _ _ (Or.inl (by simp))
  have hl := h.lo
  refine ⟨h.k0.fr f9 (by simp; omega), by rw [← bv_upd c1 v hz]; exact h.k1.set _ _, h.k2.fr f9 (by simp; omega), h.k3.fr f9 (by simp; omega), h.k4.fr f9 (by simp; omega), h.k5.fr f9 (by simp; omega), h.fr.trans f9 (by simp; omega), h.ss.frs hB f9 (by intro k hk; simp at hk; subst hk; exact ⟨by simp, h.ss.ne h.k1⟩), h.lo⟩
theorem Six.set2 {W w : World} {sb bm b0 b1 b2 b3 b4 b5 : Nat} {c0 c1 c2 c3 c4 c5 : Nat → Bool} {S : Nat → Mng} (h : Six W w sb bm b0 b1 b2 b3 b4 b5 c0 c1 c2 c3 c4 c5 S) (hB : 0 < W.heap.size) {z : Nat} (hz : z < 7) (v : Bool) : Six W (w.setCell ⟨b2, z, none⟩ (.bool v)) sb bm b0 b1 b2 b3 b4 b5 c0 c1 (fun j => if j = z then v else c2 j) c3 c4 c5 S := by
  have f9 : Fr [b2] w (w.setCell ⟨b2, z, none⟩ (.bool v)) := Fr.setCell (Fr.refl _ _) _ _ (Or.inl (by simp))
  have hl := h.lo
  refine ⟨h.k0.fr f9 (by simp; omega), h.k1.fr f9 (by simp; omega), by rw [← bv_upd c2 v hz]; exact h.k2.set _ _, h.k3.fr f9 (by simp; omega), h.k4.fr f9 (by simp; omega), h.k5.fr f9 (by simp; omega), h.fr.trans f9 (by simp; omega), h.ss.frs hB f9 (by intro k hk; simp at hk; subst hk; exact ⟨by simp, h.ss.ne h.k2⟩), h.lo⟩
theorem Six.set3 {W w : World} {sb bm b0 b1 b2 b3 b4 b5 : Nat} {c0 c1 c2 c3 c4 c5 : Nat → Bool} {S : Nat → Mng} (h : Six W w sb bm b0 b1 b2 b3 b4 b5 c0 c1 c2 c3 c4 c5 S) (hB : 0 < W.heap.size) {z : Nat} (hz : z < 7) (v : Bool) : Six W (w.setCell ⟨b3, z, none⟩ (.bool v)) sb bm b0 b1 b2 b3 b4 b5 c0 c1 c2 (fun j => if j = z then v else c3 j) c4 c5 S := by
  have f9 : Fr [b3] w (w.setCell ⟨b3, z, none⟩ (.bool v)) := Fr.setCell (Fr.refl _ _) _ _ (Or.inl (by simp))
  have hl := h.lo
  refine ⟨h.k0.fr f9 (by simp; omega), h.k1.fr f9 (by simp; omega), h.k2.fr f9 (by simp; omega), by rw [← bv_upd c3 v hz]; exact h.k3.set _ _, h.k4.fr f9 (by simp; omega), h.k5.fr f9 (by simp; omega), h.fr.trans f9 (by simp; omega), h.ss.frs hB f9 (by intro k hk; simp at hk; subst hk; exact ⟨by simp, h.ss.ne h.k3⟩), h.lo⟩
theorem Six.set4 {W w : World} {sb bm b0 b1 b2 b3 b4 b5 : Nat} {c0 c1 c2 c3 c4 c5 : Nat → Bool} {S : Nat → Mng} (h : Six W w sb bm b0 b1 b2 b3 b4 b5 c0 c1 c2 c3 c4 c5 S) (hB : 0 < W.heap.size) {z : Nat} (hz : z < 7) (v : Bool) : Six W (w.setCell ⟨b4, z, none⟩ (.bool v)) sb bm b0 b1 b2 b3 b4 b5 c0 c1 c2 c3 (fun j => if j = z then v else c4 j) c5 S := by
  have f9 : Fr [b4] w (w.setCell ⟨b4, z, none⟩ (.bool v)) := Fr.setCell (Fr.refl _ _) _ _ (Or.inl (by simp))
  have hl := h.lo
  refine ⟨h.k0.fr f9 (by simp; omega), h.k1.fr f9 (by simp; omega), h.k2.fr f9 (by simp; omega), h.k3.fr f9 (by simp; omega), by rw [← bv_upd c4 v hz]; exact h.k4.set _ _, h.k5.fr f9 (by simp; omega), h.fr.trans f9 (by simp; omega), h.ss.frs hB f9 (by intro k hk; simp at hk; subst hk; exact ⟨by simp, h.ss.ne h.k4⟩), h.lo⟩
theorem Six.set5 {W w : World} {sb bm b0 b1 b2 b3 b4 b5 : Nat} {c0 c1 c2 c3 c4 c5 : Nat → Bool} {S : Nat → Mng} (h : Six W w sb bm b0 b1 b2 b3 b4 b5 c0 c1 c2 c3 c4 c5 S) (hB : 0 < W.heap.size) {z : Nat} (hz : z < 7) (v : Bool) : Six W (w.setCell ⟨b5, z, none⟩ (.bool v)) sb bm b0 b1 b2 b3 b4 b5 c0 c1 c2 c3 c4 (fun j => if j = z then v else c5 j) S := by
  have f9 : Fr [b5] w (w.setCell ⟨b5, z, none⟩ (.bool v)) := Fr.setCell (Fr.refl _ _) _ _ (Or.inl (by simp))
  have hl := h.lo
  refine ⟨h.k0.fr f9 (by simp; omega), h.k1.fr f9 (by simp; omega), h.k2.fr f9 (by simp; omega), h.k3.fr f9 (by simp; omega), h.k4.fr f9 (by simp; omega), by rw [← bv_upd c5 v hz]; exact h.k5.set _ _, h.fr.trans f9 (by simp; omega), h.ss.frs hB f9 (by intro k hk; simp at hk; subst hk; exact ⟨by simp, h.ss.ne h.k5⟩), h.lo⟩
theorem Six.cells {W w : World} {sb bm b0 b1 b2 b3 b4 b5 : Nat} {c0 c1 c2 c3 c4 c5 : Nat → Bool} {S : Nat → Mng} (h : Six W w sb bm b0 b1 b2 b3 b4 b5 c0 c1 c2 c3 c4 c5 S) {z : Nat} (hz : z < 7) :
    (w.cell? ⟨b0, z, none⟩ = some (.bool (c0 z)) ∧ w.cell? ⟨b1, z, none⟩ = some (.bool (c1 z)) ∧ w.cell? ⟨b2, z, none⟩ = some (.bool (c2 z)) ∧ w.cell? ⟨b3, z, none⟩ = some (.bool (c3 z)) ∧ w.cell? ⟨b4, z, none⟩ = some (.bool (c4 z)) ∧ w.cell? ⟨b5, z, none⟩ = some (.bool (c5 z))) ∧
    (w.frozen? ⟨b0, z, none⟩ = false ∧ w.frozen? ⟨b1, z, none⟩ = false ∧ w.frozen? ⟨b2, z, none⟩ = false ∧ w.frozen? ⟨b3, z, none⟩ = false ∧ w.frozen? ⟨b4, z, none⟩ = false ∧ w.frozen? ⟨b5, z, none⟩ = false) :=
  ⟨⟨by rw [h.k0.cell]; exact bv_get c0 hz, by rw [h.k1.cell]; exact bv_get c1 hz, by rw [h.k2.cell]; exact bv_get c2 hz, by rw [h.k3.cell]; exact bv_get c3 hz, by rw [h.k4.cell]; exact bv_get c4 hz, by rw [h.k5.cell]; exact bv_get c5 hz⟩, ⟨h.k0.frozen _, h.k1.frozen _, h.k2.frozen _, h.k3.frozen _, h.k4.frozen _, h.k5.frozen _⟩⟩
/-- The six rows, new. -/
theorem Six.start {W w : World} {sb bm : Nat} {S : Nat → Mng} (hf : Fr [] W w) (hs : Sess W.heap.size w [bm] sb bm S) :
    Six W ((((((w.alloc (.cells (bv fun _ => false) 45)).alloc (.cells (bv fun _ => false) 45)).alloc (.cells (bv fun _ => false) 45)).alloc (.cells (bv fun _ => false) 45)).alloc (.cells (bv fun _ => false) 45)).alloc (.cells (bv fun _ => false) 45)) sb bm w.heap.size (w.heap.size + 1) (w.heap.size + 1 + 1) (w.heap.size + 1 + 1 + 1) (w.heap.size + 1 + 1 + 1 + 1) (w.heap.size + 1 + 1 + 1 + 1 + 1) (fun _ => false) (fun _ => false) (fun _ => false) (fun _ => false) (fun _ => false) (fun _ => false) S := by
  have key : ∀ v : World, ∀ n, v.heap.size = n → ∀ l, Sess W.heap.size v l sb bm S → Fr [] W v → ∃ v', v' = v.alloc (.cells (bv fun _ => false) 45) ∧ v'.heap.size = n + 1 ∧ Blk v' n (bv fun _ => false) 45 ∧ Sess W.heap.size v' (n :: l) sb bm S ∧ Fr [] W v' ∧ Fr [] v v' := fun v n hn l h1 h2 =>
    ⟨_, rfl, by simp; exact hn, by rw [← hn]; exact Blk.new v _ _, by rw [← hn]; exact h1.alloc _, h2.alloc _, (Fr.refl [] v).alloc _⟩
  obtain ⟨v1, e1, n1, k1, s1, f1, g1⟩ := key w _ rfl _ hs hf
  obtain ⟨v2, e2, n2, k2, s2, f2, g2⟩ := key v1 _ n1 _ s1 f1
  obtain ⟨v3, e3, n3, k3, s3, f3, g3⟩ := key v2 _ n2 _ s2 f2
  obtain ⟨v4, e4, n4, k4, s4, f4, g4⟩ := key v3 _ n3 _ s3 f3
  obtain ⟨v5, e5, n5, k5, s5, f5, g5⟩ := key v4 _ n4 _ s4 f4
  obtain ⟨v6, e6, n6, k6, s6, f6, g6⟩ := key v5 _ n5 _ s5 f5
  rw [← e1, ← e2, ← e3, ← e4, ← e5, ← e6]
  have hl := hf.size
  have a5 : Fr [] v5 v6 := g6
  have a4 : Fr [] v4 v6 := g5.trans a5 (by simp)
  have a3 : Fr [] v3 v6 := g4.trans a4 (by simp)
  have a2 : Fr [] v2 v6 := g3.trans a3 (by simp)
  have a1 : Fr [] v1 v6 := g2.trans a2 (by simp)
  exact ⟨k1.fr a1 (by simp), k2.fr a2 (by simp), k3.fr a3 (by simp), k4.fr a4 (by simp), k5.fr a5 (by simp), k6, f6, s6, by omega⟩
theorem wpList_load_k7 {ops : Array Oper} {rest : List Oper} {op : Oper} {a : Act} {w : World} {Q : Exit → Act → World → Prop} (hgd : op.guard = none) (x : Operand) (ho : op.op = .load 45 x)
    (b o : Nat) (hx : a.eval x = .pointer (some ⟨b, o, none⟩)) (y : Array Value) (hc : w.rangeAt b o y.toList) (hs : (Tryz.prog.info? 45).map (·.size) = some y.size)
    (h : wpList Tryz.prog ops Q rest (a.put op.dst (.agg y)) w) : wpList Tryz.prog ops Q (op :: rest) a w :=
  wpList_load_mid hgd 45 x ho b o hx y.toList _ hc Tryz.underlying45 rfl (by rw [Array.length_toList]; exact hs) (by rw [Array.toArray_toList]; exact h)
theorem wpList_runs {P : Program} {ops : Array Oper} {rest : List Oper} {op : Oper} {a : Act} {w : World} {Q : Exit → Act → World → Prop} (hgd : op.guard = none) (v : Value) (w' : World) (hr : (execOp a.eval op).run P w = .ok (.value v) w')
    (h : wpList P ops Q rest (a.put op.dst v) w') : wpList P ops Q (op :: rest) a w :=
  wpList_plain hgd fun _ hK => by unfold Oper.wp; rw [hr]; exact hK _ _ h
theorem range_blk {w : World} {b : Nat} {c : Nat → Bool} (h : Blk w b (bv c) 45) : w.rangeAt b 0 (bv c).toList := by
  intro j u hu
  rw [Nat.zero_add, h.cell]
  rw [Array.getElem?_toList] at hu
  exact hu

/-- Twelve rows in one block. -/
def kv (f : Nat → Nat → Bool) : Array Value := #[.bool (f 0 0), .bool (f 0 1), .bool (f 0 2), .bool (f 0 3), .bool (f 0 4), .bool (f 0 5), .bool (f 0 6), .bool (f 1 0), .bool (f 1 1), .bool (f 1 2), .bool (f 1 3), .bool (f 1 4), .bool (f 1 5), .bool (f 1 6), .bool (f 2 0), .bool (f 2 1), .bool (f 2 2), .bool (f 2 3), .bool (f 2 4), .bool (f 2 5), .bool (f 2 6), .bool (f 3 0), .bool (f 3 1), .bool (f 3 2), .bool (f 3 3), .bool (f 3 4), .bool (f 3 5), .bool (f 3 6), .bool (f 4 0), .bool (f 4 1), .bool (f 4 2), .bool (f 4 3), .bool (f 4 4), .bool (f 4 5), .bool (f 4 6), .bool (f 5 0), .bool (f 5 1), .bool (f 5 2), .bool (f 5 3), .bool (f 5 4), .bool (f 5 5), .bool (f 5 6), .bool (f 6 0), .bool (f 6 1), .bool (f 6 2), .bool (f 6 3), .bool (f 6 4), .bool (f 6 5), .bool (f 6 6), .bool (f 7 0), .bool (f 7 1), .bool (f 7 2), .bool (f 7 3), .bool (f 7 4), .bool (f 7 5), .bool (f 7 6), .bool (f 8 0), .bool (f 8 1), .bool (f 8 2), .bool (f 8 3), .bool (f 8 4), .bool (f 8 5), .bool (f 8 6), .bool (f 9 0), .bool (f 9 1), .bool (f 9 2), .bool (f 9 3), .bool (f 9 4), .bool (f 9 5), .bool (f 9 6), .bool (f 10 0), .bool (f 10 1), .bool (f 10 2), .bool (f 10 3), .bool (f 10 4), .bool (f 10 5), .bool (f 10 6), .bool (f 11 0), .bool (f 11 1), .bool (f 11 2), .bool (f 11 3), .bool (f 11 4), .bool (f 11 5), .bool (f 11 6)]
theorem kv_get (f : Nat → Nat → Bool) : ∀ i j, i < 12 → j < 7 → (kv f)[i * 7 + j]? = some (.bool (f i j))
  | 0, 0, _, _ => rfl
  | 0, 1, _, _ => rfl
  | 0, 2, _, _ => rfl
  | 0, 3, _, _ => rfl
  | 0, 4, _, _ => rfl
  | 0, 5, _, _ => rfl
  | 0, 6, _, _ => rfl
  | 1, 0, _, _ => rfl
  | 1, 1, _, _ => rfl
  | 1, 2, _, _ => rfl
  | 1, 3, _, _ => rfl
  | 1, 4, _, _ => rfl
  | 1, 5, _, _ => rfl
  | 1, 6, _, _ => rfl
  | 2, 0, _, _ => rfl
  | 2, 1, _, _ => rfl
  | 2, 2, _, _ => rfl
  | 2, 3, _, _ => rfl
  | 2, 4, _, _ => rfl
  | 2, 5, _, _ => rfl
  | 2, 6, _, _ => rfl
  | 3, 0, _, _ => rfl
  | 3, 1, _, _ => rfl
  | 3, 2, _, _ => rfl
  | 3, 3, _, _ => rfl
  | 3, 4, _, _ => rfl
  | 3, 5, _, _ => rfl
  | 3, 6, _, _ => rfl
  | 4, 0, _, _ => rfl
  | 4, 1, _, _ => rfl
  | 4, 2, _, _ => rfl
  | 4, 3, _, _ => rfl
  | 4, 4, _, _ => rfl
  | 4, 5, _, _ => rfl
  | 4, 6, _, _ => rfl
  | 5, 0, _, _ => rfl
  | 5, 1, _, _ => rfl
  | 5, 2, _, _ => rfl
  | 5, 3, _, _ => rfl
  | 5, 4, _, _ => rfl
  | 5, 5, _, _ => rfl
  | 5, 6, _, _ => rfl
  | 6, 0, _, _ => rfl
  | 6, 1, _, _ => rfl
  | 6, 2, _, _ => rfl
  | 6, 3, _, _ => rfl
  | 6, 4, _, _ => rfl
  | 6, 5, _, _ => rfl
  | 6, 6, _, _ => rfl
  | 7, 0, _, _ => rfl
  | 7, 1, _, _ => rfl
  | 7, 2, _, _ => rfl
  | 7, 3, _, _ => rfl
  | 7, 4, _, _ => rfl
  | 7, 5, _, _ => rfl
  | 7, 6, _, _ => rfl
  | 8, 0, _, _ => rfl
  | 8, 1, _, _ => rfl
  | 8, 2, _, _ => rfl
  | 8, 3, _, _ => rfl
  | 8, 4, _, _ => rfl
  | 8, 5, _, _ => rfl
  | 8, 6, _, _ => rfl
  | 9, 0, _, _ => rfl
  | 9, 1, _, _ => rfl
  | 9, 2, _, _ => rfl
  | 9, 3, _, _ => rfl
  | 9, 4, _, _ => rfl
  | 9, 5, _, _ => rfl
  | 9, 6, _, _ => rfl
  | 10, 0, _, _ => rfl
  | 10, 1, _, _ => rfl
  | 10, 2, _, _ => rfl
  | 10, 3, _, _ => rfl
  | 10, 4, _, _ => rfl
  | 10, 5, _, _ => rfl
  | 10, 6, _, _ => rfl
  | 11, 0, _, _ => rfl
  | 11, 1, _, _ => rfl
  | 11, 2, _, _ => rfl
  | 11, 3, _, _ => rfl
  | 11, 4, _, _ => rfl
  | 11, 5, _, _ => rfl
  | 11, 6, _, _ => rfl
  | _ + 12, _, h, _ => by omega
  | _, _ + 7, _, h => by omega
theorem range_kv {w : World} {b : Nat} {f : Nat → Nat → Bool} {t : TypeId} (h : Blk w b (kv f) t) {i : Nat} (hi : i < 12) : w.rangeAt b (i * 7) (bv (f i)).toList := by
  intro j u hu
  have hj : j < 7 := by
    rcases Nat.lt_or_ge j 7 with q | q
    · exact q
    · rw [List.getElem?_eq_none (by exact q)] at hu; simp at hu
  rw [h.cell, kv_get f i j hi hj]
  rw [Array.getElem?_toList, bv_get _ hj] at hu
  exact hu
def mF (c0 c2 c3 c4 c5 : Nat → Bool) : Nat → Nat → Bool
  | 0 => c2
  | 1 => c2
  | 2 => c2
  | 3 => c3
  | 4 => c3
  | 5 => c4
  | 6 => c4
  | 7 => c4
  | 8 => c5
  | 9 => c5
  | 10 => c4
  | 11 => c0
  | _ => c0
/-- The twelve texts. -/
def mSv : Array Value := #[.string (bs (mX 0)), .string (bs (mX 1)), .string (bs (mX 2)), .string (bs (mX 3)), .string (bs (mX 4)), .string (bs (mX 5)), .string (bs (mX 6)), .string (bs (mX 7)), .string (bs (mX 8)), .string (bs (mX 9)), .string (bs (mX 10)), .string (bs (mX 11))]
theorem mSv_get : ∀ i, i < 12 → mSv[i]? = some (.string (bs (mX i)))
  | 0, _ => rfl
  | 1, _ => rfl
  | 2, _ => rfl
  | 3, _ => rfl
  | 4, _ => rfl
  | 5, _ => rfl
  | 6, _ => rfl
  | 7, _ => rfl
  | 8, _ => rfl
  | 9, _ => rfl
  | 10, _ => rfl
  | 11, _ => rfl
  | _ + 12, h => by omega
theorem wpQuiet_ldm {P : Program} {ops : Array Oper} {C : World → Prop} {Q : Act → Prop} {a : Act} {o : Oper} {rest : List Oper} (hgd : o.guard = none) (ty : TypeId) (x : Operand) (ho : o.op = .load ty x)
    (b f : Nat) (hx : a.eval x = .pointer (some ⟨b, f, none⟩)) (cs : Array Value) (d : TypeDesc) (hC : ∀ w, C w → w.rangeAt b f cs.toList)
    (hu : P.underlying ty = some d) (hd : d.isRow = true) (hi : (P.info? ty).map (·.size) = some cs.size) (h : wpQuiet P ops C Q rest (a.put o.dst (.agg cs))) : wpQuiet P ops C Q (o :: rest) a :=
  BigFrame.wpQuiet_want (by unfold Region.wanted; rw [hgd]) (fun K hK => ⟨.agg cs, fun w hw => by
    have hl := run_loadAt_mid (P := P) w b f ty cs.toList d (hC w hw) hu hd (by rw [Array.length_toList]; exact hi)
    unfold Oper.quietAt execOp
    simp only [ho, hx, Sem.run_bind, hl, Result.andThen_ok, Sem.run_pure, Array.toArray_toList]
    exact ⟨rfl, rfl⟩, hK _ h⟩)
theorem mF_eq {p q c0 c2 c3 c4 c5 : Nat → Bool} {v : Nat} (h0 : c0 v = p v) (h2 : c2 v = (p v && q v)) (h3 : c3 v = (p v || q v)) (h4 : c4 v = (p v && !q v)) (h5 : c5 v = !p v) : ∀ i, i < 12 → mF c0 c2 c3 c4 c5 i v = mT (p v) (q v) i
  | 0, _ => h2
  | 1, _ => h2
  | 2, _ => h2
  | 3, _ => h3
  | 4, _ => h3
  | 5, _ => h4
  | 6, _ => h4
  | 7, _ => h4
  | 8, _ => h5
  | 9, _ => h5
  | 10, _ => h4
  | 11, _ => h0
  | _ + 12, h => by omega
theorem exec_bs {P : Program} {w w' : World} {ρ : Operand → Value} {t : TypeId} {n : Nat} {parts : Array (Nat × Operand)} {v : Value} (o : Oper) (ho : o.op = .buildSlice t n parts)
    (h : (Instr.buildSlice t n (parts.map fun x => (x.1, ρ x.2))).run P w = .ok v w') : (execOp ρ o).run P w = .ok (.value v) w' := by
  unfold execOp
  rw [ho]
  simp only [Sem.run_bind, h, Result.andThen_ok, Sem.run_pure]
set_option maxRecDepth 100000 in
theorem bs12 (c0 c2 c3 c4 c5 : Nat → Bool) (y0 y2 y3 y4 y5 : Array Value) (h0 : bv c0 = y0) (h2 : bv c2 = y2) (h3 : bv c3 = y3) (h4 : bv c4 = y4) (h5 : bv c5 = y5) (w : World) :
    (Instr.buildSlice 53 12 #[(0, .agg y2), (1, .agg y2), (2, .agg y2), (3, .agg y3), (4, .agg y3), (5, .agg y4), (6, .agg y4), (7, .agg y4), (8, .agg y5), (9, .agg y5), (10, .agg y4), (11, .agg y0)]).run Tryz.prog w
      = .ok (.slice (some ⟨w.heap.size, 0, none⟩) 12 12) (w.alloc (.cells (kv (mF c0 c2 c3 c4 c5)) 45)) := by
  subst h0 h2 h3 h4 h5
  kernel_rfl
end Go.Proofs.YthlmgpllapccfaaGreatDoor
/- MERGED: THE WALK. -/
namespace Go.Proofs.YthlmgpllapccfaaGreatDoor
open Go.RowKit

set_option maxRecDepth 100000 in
set_option maxHeartbeats 4000000 in
theorem lawMerged_any (x y : Value) (u : Int) (xs ys : List Int) (W : World) (hg : ErrT W) (hu : -9223372036854775808 ≤ u ∧ u ≤ 9223372036854775807)
    (hX : ∀ w', Below W.heap.size W w' → Calls Tryz.prog 21 #[x, .int .i64 0] w' fun e w'' => e = .returned (.string (bs (zX xs))) ∧ Below w'.heap.size w' w'')
    (hY : ∀ w', Below W.heap.size W w' → Calls Tryz.prog 21 #[y, .int .i64 0] w' fun e w'' => e = .returned (.string (bs (zX ys))) ∧ Below w'.heap.size w' w'') :
    Calls Tryz.prog 7 #[x, y, .int .i64 u] W fun e w' => e = .returned (.bool true) ∧ Below W.heap.size W w' := by
  have HG := hidV hg
  have HX := hidT hX
  have HY := hidT hY
  clear hg hX hY
  have HLX := hidV (zX_len xs)
  have HLY := hidV (zX_len ys)
  have HSP := hidV (raw_set st1 (n := 15) (by omega) xs [91] [93] (Or.inl rfl) (Or.inl rfl))
  obtain ⟨P, HP⟩ : ∃ P, Hid (sumP (zTs xs) = P) := ⟨_, rfl⟩
  obtain ⟨Q, HQ⟩ : ∃ P, Hid (sumP (zTs ys) = P) := ⟨_, rfl⟩
  have HRX : Hid (rd (bs (zX xs)) = ⟨0, 0, P⟩) := by unfold Hid; rw [← HP.out]; exact rd_oneZ xs
  have HRY : Hid (rd (bs (zX ys)) = ⟨0, 0, Q⟩) := by unfold Hid; rw [← HQ.out]; exact rd_oneZ ys
  rw [HP.out] at HSP
  have HPV : Hid (∀ v, zrs P v = decide (valP P v 0 = 0)) := fun v => zrs_val P v
  have HQV : Hid (∀ v, zrs Q v = decide (valP Q v 0 = 0)) := fun v => zrs_val Q v
  obtain ⟨p, Hp⟩ : ∃ p, Hid (zrs P = p) := ⟨_, rfl⟩
  obtain ⟨q, Hq⟩ : ∃ p, Hid (zrs Q = p) := ⟨_, rfl⟩
  rw [Hp.out] at HSP HPV
  rw [Hq.out] at HQV
  have HSQ := hidV (raw_set (upd st1 15 (.set p)) (n := 16) (by omega) ys [91, 32] [32, 93] (Or.inr rfl) (Or.inr rfl))
  rw [HQ.out, Hq.out] at HSQ
  have HSHP := hidV (ln_mshowP p q)
  have HSHQ := hidV (ln_mshowQ p q)
  have HIN := hidV (stM_in p q)
  obtain ⟨n, HN⟩ : ∃ n, Hid (pck u 10 = n) := ⟨_, hidV rfl⟩
  have hn : n < 10 := by rw [← HN.out]; exact pck_lt _ (by omega)
  have HLH := hidV (fun m => ln_mhas p q m n hn)
  obtain ⟨LH, HLE⟩ : ∃ L, Hid (qH n = L) := ⟨_, hidV rfl⟩
  have HLE' : Hid ([104, 97, 115, 32, 80, 32] ++ [dgt n] = LH) := HLE.out
  have hl7 : LH.length = 7 := by rw [← HLE.out]; rfl
  rw [HLE.out] at HLH
  obtain ⟨S1, HS1⟩ : ∃ S, Hid (upd st1 15 (.set p) = S) := ⟨_, rfl⟩
  rw [HS1.out] at HSP HSQ HSHP HSHQ HIN
  obtain ⟨S2, HS2⟩ : ∃ S, Hid (upd S1 16 (.set q) = S) := ⟨_, rfl⟩
  rw [HS2.out] at HSQ HSHP HSHQ HIN
  obtain ⟨m0, HM0⟩ : ∃ m, Hid (S2 24 = m) := ⟨_, rfl⟩
  rw [HM0.out] at HIN
  generalize zX xs = X at *
  generalize zX ys = Y at *
  obtain ⟨Z1, HZ1⟩ : ∃ Z, Hid ([115, 101, 116, 32, 80, 32, 61, 32, 91] ++ X = Z) := ⟨_, hidV rfl⟩
  obtain ⟨Z2, HZ2⟩ : ∃ Z, Hid (Z1 ++ [93] = Z) := ⟨_, hidV rfl⟩
  obtain ⟨Y1, HY1⟩ : ∃ Z, Hid ([115, 101, 116, 32, 81, 32, 61, 32, 91, 32] ++ Y = Z) := ⟨_, hidV rfl⟩
  obtain ⟨Y2, HY2⟩ : ∃ Z, Hid (Y1 ++ [32, 93] = Z) := ⟨_, hidV rfl⟩
  have HZE : Hid (setL 15 ([91] ++ (X ++ [93])) = Z2) := by unfold Hid; rw [← HZ2.out, ← HZ1.out]; unfold setL; simp only [List.append_assoc]; rfl
  have HYE : Hid (setL 16 ([91, 32] ++ (Y ++ [32, 93])) = Y2) := by unfold Hid; rw [← HY2.out, ← HY1.out]; unfold setL; simp only [List.append_assoc]; rfl
  have HZ1L : Hid (Z1.length ≤ 36) := by unfold Hid; rw [← HZ1.out]; simp only [List.length_append, List.length_cons, List.length_nil]; have := HLX.out; omega
  have HZ2L : Hid (Z2.length ≤ 37) := by unfold Hid; rw [← HZ2.out]; simp only [List.length_append, List.length_cons, List.length_nil]; have := HZ1L.out; omega
  have HY1L : Hid (Y1.length ≤ 37) := by unfold Hid; rw [← HY1.out]; simp only [List.length_append, List.length_cons, List.length_nil]; have := HLY.out; omega
  have HY2L : Hid (Y2.length ≤ 39) := by unfold Hid; rw [← HY2.out]; simp only [List.length_append, List.length_cons, List.length_nil]; have := HY1L.out; omega
  rw [HZE.out] at HSP
  rw [HYE.out] at HSQ
  have ha1 := fun (w' : World) => add_to0 [115, 101, 116, 32, 80, 32, 61, 32, 91] ⟨#[115, 101, 116, 32, 80, 32, 61, 32, 91]⟩ X Z1 (bs X) rfl rfl HZ1.out (by simp) (by have := HLX.out; omega) w'
  have ha2 := fun (w' : World) => add_to Z1 [93] Z2 ⟨#[93]⟩ rfl HZ2.out (by have := HZ1L.out; omega) (by simp) w'
  have ha3 := fun (w' : World) => add_to0 [115, 101, 116, 32, 81, 32, 61, 32, 91, 32] ⟨#[115, 101, 116, 32, 81, 32, 61, 32, 91, 32]⟩ Y Y1 (bs Y) rfl rfl HY1.out (by simp) (by have := HLY.out; omega) w'
  have ha4 := fun (w' : World) => add_to Y1 [32, 93] Y2 ⟨#[32, 93]⟩ rfl HY2.out (by have := HY1L.out; omega) (by simp) w'
  have ha5 := fun (w' : World) => add_to0 [104, 97, 115, 32, 80, 32] ⟨#[104, 97, 115, 32, 80, 32]⟩ [dgt n] LH (bs [dgt n]) rfl rfl HLE'.out (by simp) (by simp) w'
  have hB : 0 < W.heap.size := HG.out.lt
  go_enter Tryz.func7, Tryz.ntmps7
  go_wp2_with fail
  refine (begun_any W HG.out).mono ?_
  rintro e w1 ⟨sb, bm, rfl, s1, f1⟩
  have HF1 := hidV (And.intro f1 s1)
  clear s1 f1
  go_wp2_with fail
  refine (HX.out w1 (HF1.out.1.below (Nat.le_refl _) (by simp))).mono ?_
  rintro e w2 ⟨rfl, b2⟩
  have HF2 : Hid (Fr [] W w2 ∧ Sess W.heap.size w2 [bm] sb bm st1) := ⟨HF1.out.1.trans (Fr.of_below (bs := []) b2) (by simp), HF1.out.2.fr (Fr.of_below b2)⟩
  clear b2 HF1
  go_wp2_with fail
  refine (HY.out w2 (HF2.out.1.below (Nat.le_refl _) (by simp))).mono ?_
  rintro e w3 ⟨rfl, b3⟩
  have HF3 : Hid (Fr [] W w3 ∧ Sess W.heap.size w3 [bm] sb bm st1) := ⟨HF2.out.1.trans (Fr.of_below (bs := []) b3) (by simp), HF2.out.2.fr (Fr.of_below b3)⟩
  clear b3 HF2
  go_wp2
  refine wp_forget (fun V => Six W V sb bm w3.heap.size (w3.heap.size + 1) (w3.heap.size + 1 + 1) (w3.heap.size + 1 + 1 + 1) (w3.heap.size + 1 + 1 + 1 + 1) (w3.heap.size + 1 + 1 + 1 + 1 + 1) (fun _ => false) (fun _ => false) (fun _ => false) (fun _ => false) (fun _ => false) (fun _ => false) st1) (Six.start HF3.out.1 HF3.out.2) ?_
  rintro V hV
  have HV := hidV hV
  clear hV HF3
  generalize w3.heap.size + 1 + 1 + 1 + 1 + 1 = b5 at *
  generalize w3.heap.size + 1 + 1 + 1 + 1 = b4 at *
  generalize w3.heap.size + 1 + 1 + 1 = b3 at *
  generalize w3.heap.size + 1 + 1 = b2 at *
  generalize w3.heap.size + 1 = b1 at *
  generalize w3.heap.size = b0 at *
  clear w3 w2 w1
  go_loopg [16, 17] 7 (fun gm v16 v17 wr => ∃ z : Nat, ∃ c0 c1 c2 c3 c4 c5 : Nat → Bool, gm = 7 - z ∧ z ≤ 7 ∧ v17 = .int .i64 z ∧ v16 = .bool (subN p q z) ∧ Hid (∀ v, v < z → c0 v = p v ∧ c1 v = q v ∧ c2 v = (p v && q v) ∧ c3 v = (p v || q v) ∧ c4 v = (p v && !q v) ∧ c5 v = !p v) ∧ Hid (Six W wr sb bm b0 b1 b2 b3 b4 b5 c0 c1 c2 c3 c4 c5 st1))
  case atStart => exact ⟨0, _, _, _, _, _, _, rfl, by omega, rfl, rfl, fun v hv => by omega, HV⟩
  case round =>
    obtain ⟨z, c0, c1, c2, c3, c4, c5, hgm, hz, rfl, rfl, HC, HD⟩ := hrel
    clear HV V
    by_cases hz7 : z < 7
    · have z0 : (0 : Int) ≤ (z : Int) := by omega
      have z1 : (z : Int) < 7 := by omega
      obtain ⟨A, HA⟩ : ∃ A, Hid (valP P z 0 = A) := ⟨_, hidV rfl⟩
      obtain ⟨E, HE⟩ : ∃ A, Hid (valP Q z 0 = A) := ⟨_, hidV rfl⟩
      have HPZ : Hid (p z = decide (A = 0)) := by unfold Hid; rw [← HA.out]; exact HPV.out z
      have HQZ : Hid (q z = decide (E = 0)) := by unfold Hid; rw [← HE.out]; exact HQV.out z
      have HVA := hidV (fun S U X w h a b c => pV_at HRX.out (by rw [bs_size]; have := HLX.out; omega) z 0 (V := A) (by rw [show z % 7 = z by omega]; exact HA.out) S U X w h a b c)
      have HVE := hidV (fun S U X w h a b c => pV_at HRY.out (by rw [bs_size]; have := HLY.out; omega) z 0 (V := E) (by rw [show z % 7 = z by omega]; exact HE.out) S U X w h a b c)
      have HST := hidV (subN_step p q z)
      go_wp2_with fail
      refine (HVA.out _ _ _ _ HD.out.ss.err rfl rfl rfl).mono ?_
      rintro e w1 ⟨rfl, b1'⟩
      have HD1 := hidV (HD.out.frs (Fr.of_below b1'))
      clear b1' HD
      go_wp2_with fail
      refine (HVE.out _ _ _ _ HD1.out.ss.err rfl rfl rfl).mono ?_
      rintro e w2 ⟨rfl, b2'⟩
      have HD2 := hidV (HD1.out.frs (Fr.of_below b2'))
      clear b2' HD1
      obtain ⟨⟨g0, g1, g2, g3, g4, g5⟩, f0, f1, f2, f3, f4, f5⟩ := HD2.out.cells hz7
      obtain ⟨l0, l1, l2, l3, l4, l5⟩ := HD2.out.lo
      have n10 : b1 ≠ b0 := by omega
      have n20 : b2 ≠ b0 := by omega
      have n30 : b3 ≠ b0 := by omega
      have n40 : b4 ≠ b0 := by omega
      have n50 : b5 ≠ b0 := by omega
      have n21 : b2 ≠ b1 := by omega
      have n31 : b3 ≠ b1 := by omega
      have n41 : b4 ≠ b1 := by omega
      have n51 : b5 ≠ b1 := by omega
      have n32 : b3 ≠ b2 := by omega
      have n42 : b4 ≠ b2 := by omega
      have n52 : b5 ≠ b2 := by omega
      have n43 : b4 ≠ b3 := by omega
      have n53 : b5 ≠ b3 := by omega
      have n54 : b5 ≠ b4 := by omega
      clear l0 l1 l2 l3 l4 l5
      have key : ∀ a b : Bool, p z = a → q z = b → Hid (∃ d0 d1 d2 d3 d4 d5 : Nat → Bool, (∀ v, v < z + 1 → d0 v = p v ∧ d1 v = q v ∧ d2 v = (p v && q v) ∧ d3 v = (p v || q v) ∧ d4 v = (p v && !q v) ∧ d5 v = !p v) ∧ Six W ((((((w2.setCell ⟨b0, z, none⟩ (.bool a)).setCell ⟨b1, z, none⟩ (.bool b)).setCell ⟨b2, z, none⟩ (.bool (a && b))).setCell ⟨b3, z, none⟩ (.bool (a || b))).setCell ⟨b4, z, none⟩ (.bool (a && !b))).setCell ⟨b5, z, none⟩ (.bool (!a))) sb bm b0 b1 b2 b3 b4 b5 d0 d1 d2 d3 d4 d5 st1) := by
        intro a b ha hb
        refine ⟨_, _, _, _, _, _, fun v hv => ?_, (((((HD2.out.set0 hB hz7 a).set1 hB hz7 b).set2 hB hz7 (a && b)).set3 hB hz7 (a || b)).set4 hB hz7 (a && !b)).set5 hB hz7 (!a)⟩
        by_cases e : v = z
        · subst e
          rw [ha, hb]
          simp
        · simp only [if_neg e]; exact HC.out v (by omega)
      by_cases hA : A = 0
      · have hA' : ((A : Int) == 0) = true := by rw [beq_iff_eq]; omega
        have hA2 : ((A : Int) != 0) = false := by rw [bne_eq_false_iff_eq]; omega
        by_cases hE : E = 0
        · have hE' : ((E : Int) == 0) = true := by rw [beq_iff_eq]; omega
          have hE2 : ((E : Int) != 0) = false := by rw [bne_eq_false_iff_eq]; omega
          have KEY := key true true (by rw [HPZ.out]; simp [hA]) (by rw [HQZ.out]; simp [hE])
          clear key
          cases hs : subN p q z with
          | false =>
            have HS9 : Hid (subN p q (z + 1) = false) := by unfold Hid; rw [HST.out, hs, HPZ.out, HQZ.out]; simp [hA, hE]
            clear HST hs
            go_wp2
            go_roundg (7 - (z + 1))
            case measure => omega
            case rel =>
              obtain ⟨d0, d1, d2, d3, d4, d5, k1, k2⟩ := KEY
              exact ⟨z + 1, d0, d1, d2, d3, d4, d5, rfl, by omega, by go_num, by rw [HS9.out], k1, k2⟩
          | true =>
            have HS9 : Hid (subN p q (z + 1) = true) := by unfold Hid; rw [HST.out, hs, HPZ.out, HQZ.out]; simp [hA, hE]
            clear HST hs
            go_wp2
            go_roundg (7 - (z + 1))
            case measure => omega
            case rel =>
              obtain ⟨d0, d1, d2, d3, d4, d5, k1, k2⟩ := KEY
              exact ⟨z + 1, d0, d1, d2, d3, d4, d5, rfl, by omega, by go_num, by rw [HS9.out], k1, k2⟩
        · have hE' : ((E : Int) == 0) = false := by rw [beq_eq_false_iff_ne]; omega
          have hE2 : ((E : Int) != 0) = true := by rw [bne_iff_ne]; omega
          have KEY := key true false (by rw [HPZ.out]; simp [hA]) (by rw [HQZ.out]; simp [hE])
          clear key
          cases hs : subN p q z with
          | false =>
            have HS9 : Hid (subN p q (z + 1) = false) := by unfold Hid; rw [HST.out, hs, HPZ.out, HQZ.out]; simp [hA, hE]
            clear HST hs
            go_wp2
            go_roundg (7 - (z + 1))
            case measure => omega
            case rel =>
              obtain ⟨d0, d1, d2, d3, d4, d5, k1, k2⟩ := KEY
              exact ⟨z + 1, d0, d1, d2, d3, d4, d5, rfl, by omega, by go_num, by rw [HS9.out], k1, k2⟩
          | true =>
            have HS9 : Hid (subN p q (z + 1) = false) := by unfold Hid; rw [HST.out, hs, HPZ.out, HQZ.out]; simp [hA, hE]
            clear HST hs
            go_wp2
            go_roundg (7 - (z + 1))
            case measure => omega
            case rel =>
              obtain ⟨d0, d1, d2, d3, d4, d5, k1, k2⟩ := KEY
              exact ⟨z + 1, d0, d1, d2, d3, d4, d5, rfl, by omega, by go_num, by rw [HS9.out], k1, k2⟩
      · have hA' : ((A : Int) == 0) = false := by rw [beq_eq_false_iff_ne]; omega
        have hA2 : ((A : Int) != 0) = true := by rw [bne_iff_ne]; omega
        by_cases hE : E = 0
        · have hE' : ((E : Int) == 0) = true := by rw [beq_iff_eq]; omega
          have hE2 : ((E : Int) != 0) = false := by rw [bne_eq_false_iff_eq]; omega
          have KEY := key false true (by rw [HPZ.out]; simp [hA]) (by rw [HQZ.out]; simp [hE])
          clear key
          cases hs : subN p q z with
          | false =>
            have HS9 : Hid (subN p q (z + 1) = false) := by unfold Hid; rw [HST.out, hs, HPZ.out, HQZ.out]; simp [hA, hE]
            clear HST hs
            go_wp2
            go_roundg (7 - (z + 1))
            case measure => omega
            case rel =>
              obtain ⟨d0, d1, d2, d3, d4, d5, k1, k2⟩ := KEY
              exact ⟨z + 1, d0, d1, d2, d3, d4, d5, rfl, by omega, by go_num, by rw [HS9.out], k1, k2⟩
          | true =>
            have HS9 : Hid (subN p q (z + 1) = true) := by unfold Hid; rw [HST.out, hs, HPZ.out, HQZ.out]; simp [hA, hE]
            clear HST hs
            go_wp2
            go_roundg (7 - (z + 1))
            case measure => omega
            case rel =>
              obtain ⟨d0, d1, d2, d3, d4, d5, k1, k2⟩ := KEY
              exact ⟨z + 1, d0, d1, d2, d3, d4, d5, rfl, by omega, by go_num, by rw [HS9.out], k1, k2⟩
        · have hE' : ((E : Int) == 0) = false := by rw [beq_eq_false_iff_ne]; omega
          have hE2 : ((E : Int) != 0) = true := by rw [bne_iff_ne]; omega
          have KEY := key false false (by rw [HPZ.out]; simp [hA]) (by rw [HQZ.out]; simp [hE])
          clear key
          cases hs : subN p q z with
          | false =>
            have HS9 : Hid (subN p q (z + 1) = false) := by unfold Hid; rw [HST.out, hs, HPZ.out, HQZ.out]; simp [hA, hE]
            clear HST hs
            go_wp2
            go_roundg (7 - (z + 1))
            case measure => omega
            case rel =>
              obtain ⟨d0, d1, d2, d3, d4, d5, k1, k2⟩ := KEY
              exact ⟨z + 1, d0, d1, d2, d3, d4, d5, rfl, by omega, by go_num, by rw [HS9.out], k1, k2⟩
          | true =>
            have HS9 : Hid (subN p q (z + 1) = true) := by unfold Hid; rw [HST.out, hs, HPZ.out, HQZ.out]; simp [hA, hE]
            clear HST hs
            go_wp2
            go_roundg (7 - (z + 1))
            case measure => omega
            case rel =>
              obtain ⟨d0, d1, d2, d3, d4, d5, k1, k2⟩ := KEY
              exact ⟨z + 1, d0, d1, d2, d3, d4, d5, rfl, by omega, by go_num, by rw [HS9.out], k1, k2⟩
    · have ez : z = 7 := by omega
      subst ez
      have HL0 := hidV (klisted_any c0)
      have HL1 := hidV (klisted_any c1)
      rw [lsd_congr 7 (fun v hv => (HC.out v hv).1)] at HL0
      rw [lsd_congr 7 (fun v hv => (HC.out v hv).2.1)] at HL1
      have hz0 := size_bool7 c0
      have hz1 := size_bool7 c1
      obtain ⟨T0, HT0⟩ : ∃ T, Hid (lsd p 7 = T) := ⟨_, hidV rfl⟩
      obtain ⟨T1, HT1⟩ : ∃ T, Hid (lsd q 7 = T) := ⟨_, hidV rfl⟩
      rw [HT0.out] at HL0 HSHP
      rw [HT1.out] at HL1 HSHQ
      obtain ⟨y0, HY0⟩ : ∃ y, Hid (bv c0 = y) := ⟨_, hidV rfl⟩
      obtain ⟨y1, HY1'⟩ : ∃ y, Hid (bv c1 = y) := ⟨_, hidV rfl⟩
      rw [HY0.out] at HL0 hz0
      rw [HY1'.out] at HL1 hz1
      go_wp2_with fail
      refine (HD.out.ss.saysA hB (bs Z2) _ S1 [] (by rw [bs_size]; have := HZ2L.out; omega) HSP.out rfl).mono ?_
      rintro e w1 ⟨rfl, s1, f1⟩
      have HD1 := hidV (HD.out.did s1 f1)
      clear s1 f1 HD ha1 ha2
      go_wp2_with fail
      refine (HD1.out.ss.saysA hB (bs Y2) _ S2 [] (by rw [bs_size]; have := HY2L.out; omega) HSQ.out rfl).mono ?_
      rintro e w2 ⟨rfl, s2, f2⟩
      have HD2 := hidV (HD1.out.did s2 f2)
      clear s2 f2 HD1 ha3 ha4
      have HR0 := hidV (range_blk HD2.out.k0)
      rw [HY0.out] at HR0
      go_wp2_with (first | (refine wpList_load_k7 (by rfl) (.tmp 10) (by rfl) b0 0 (by rfl) y0 HR0.out hz0 ?_; go_frame))
      refine (HL0.out _).mono ?_
      rintro e w3 ⟨rfl, b3'⟩
      have HD3 := hidV (HD2.out.frs (Fr.of_below b3'))
      clear b3' HD2 HR0
      go_wp2_with fail
      refine (HD3.out.ss.saysA hB _ (bs T0) S2 _ (by decide) HSHP.out rfl).mono ?_
      rintro e w4 ⟨rfl, s4, f4⟩
      have HD4 := hidV (HD3.out.did s4 f4)
      clear s4 f4 HD3
      have HR1 := hidV (range_blk HD4.out.k1)
      rw [HY1'.out] at HR1
      go_wp2_with (first | (refine wpList_load_k7 (by rfl) _ (by rfl) b1 0 (by rfl) y1 HR1.out hz1 ?_))
      refine (HL1.out _).mono ?_
      rintro e w5 ⟨rfl, b5'⟩
      have HD5 := hidV (HD4.out.frs (Fr.of_below b5'))
      clear b5' HD4 HR1
      go_wp2_with fail
      refine (HD5.out.ss.saysA hB _ (bs T1) S2 _ (by decide) HSHQ.out rfl).mono ?_
      rintro e w6 ⟨rfl, s6, f6⟩
      have HD6 := hidV (HD5.out.did s6 f6)
      clear s6 f6 HD5
      go_upto_region 29 with fail
      refine wp_forget (fun U => Six W U sb bm b0 b1 b2 b3 b4 b5 c0 c1 c2 c3 c4 c5 S2 ∧ Blk U w6.heap.size mSv 9) ⟨HD6.out.frs ((Fr.refl [] w6).alloc _), Blk.new w6 _ _⟩ ?_
      rintro U ⟨u1, u2⟩
      have HU := hidV (And.intro u1 u2)
      clear u1 u2 HD6
      generalize w6.heap.size = lb at *
      clear w1 w2 w3 w4 w5 w6
      have hz2 := size_bool7 c2
      have hz3 := size_bool7 c3
      have hz4 := size_bool7 c4
      have hz5 := size_bool7 c5
      obtain ⟨y2, HY2'⟩ : ∃ y, Hid (bv c2 = y) := ⟨_, hidV rfl⟩
      obtain ⟨y3, HY3'⟩ : ∃ y, Hid (bv c3 = y) := ⟨_, hidV rfl⟩
      obtain ⟨y4, HY4'⟩ : ∃ y, Hid (bv c4 = y) := ⟨_, hidV rfl⟩
      obtain ⟨y5, HY5'⟩ : ∃ y, Hid (bv c5 = y) := ⟨_, hidV rfl⟩
      have HR0 := hidV (range_blk HU.out.1.k0)
      have HR2 := hidV (range_blk HU.out.1.k2)
      have HR3 := hidV (range_blk HU.out.1.k3)
      have HR4 := hidV (range_blk HU.out.1.k4)
      have HR5 := hidV (range_blk HU.out.1.k5)
      rw [HY0.out] at HR0
      rw [HY2'.out] at HR2 hz2
      rw [HY3'.out] at HR3 hz3
      rw [HY4'.out] at HR4 hz4
      rw [HY5'.out] at HR5 hz5
      have HBS := hidV (bs12 c0 c2 c3 c4 c5 y0 y2 y3 y4 y5 HY0.out HY2'.out HY3'.out HY4'.out HY5'.out U)
      obtain ⟨KV, HKV⟩ : ∃ k, Hid (kv (mF c0 c2 c3 c4 c5) = k) := ⟨_, hidV rfl⟩
      rw [HKV.out] at HBS
      go_wp2_with (first | (refine wpList_load_k7 (by rfl) (.tmp 12) (by rfl) b2 0 (by rfl) y2 HR2.out hz2 ?_; go_frame) | (refine wpList_load_k7 (by rfl) (.tmp 13) (by rfl) b3 0 (by rfl) y3 HR3.out hz3 ?_; go_frame) | (refine wpList_load_k7 (by rfl) (.tmp 14) (by rfl) b4 0 (by rfl) y4 HR4.out hz4 ?_; go_frame) | (refine wpList_load_k7 (by rfl) (.tmp 15) (by rfl) b5 0 (by rfl) y5 HR5.out hz5 ?_; go_frame) | (refine wpList_load_k7 (by rfl) (.tmp 10) (by rfl) b0 0 (by rfl) y0 HR0.out hz0 ?_; go_frame) | (refine wpList_runs (by rfl) _ _ (exec_bs _ (by rfl) (by simp only [List.map_toArray, List.map_cons, List.map_nil]; exact HBS.out)) ?_; go_frame))
      refine wp_forget (fun V => Six W V sb bm b0 b1 b2 b3 b4 b5 c0 c1 c2 c3 c4 c5 (stM p q m0) ∧ Blk V lb mSv 9 ∧ Blk V U.heap.size KV 45) ⟨by rw [← HIN.out]; exact HU.out.1.frs ((Fr.refl [] U).alloc _), HU.out.2.fr ((Fr.refl [] U).alloc _) (by simp), Blk.new U _ _⟩ ?_
      rintro V hV
      have HV := hidV hV
      clear hV HU HBS HR0 HR2 HR3 HR4 HR5
      generalize U.heap.size = kb at *
      clear U
      go_loopg [30] 12 (fun gm v30 wr => ∃ i : Nat, ∃ m : Mng, gm = 12 - i ∧ i ≤ 12 ∧ v30 = .int .i64 i ∧ Hid (Six W wr sb bm b0 b1 b2 b3 b4 b5 c0 c1 c2 c3 c4 c5 (stM p q m) ∧ Blk wr lb mSv 9 ∧ Blk wr kb KV 45))
      case atStart => exact ⟨0, m0, rfl, by omega, rfl, HV⟩
      case round =>
        obtain ⟨i, m, hgm, hi, rfl, HD⟩ := hrel
        clear HV V
        by_cases hi12 : i < 12
        · have i0 : (0 : Int) ≤ (i : Int) := by omega
          have i1 : (i : Int) < 12 := by omega
          obtain ⟨c, hln, hcv⟩ := ln_m p q m i hi12
          have HLN := hidV hln
          have HSH := hidV (ln_mshow p q c)
          have HLI := hidV (klisted_any (mF c0 c2 c3 c4 c5 i))
          have HZI := hidV (mZ_eq i hi12)
          have HXL := hidV (mX_len i hi12)
          have hsz := size_bool7 (mF c0 c2 c3 c4 c5 i)
          have hlsd : lsd (mF c0 c2 c3 c4 c5 i) 7 = lsd c 7 := lsd_congr 7 (fun v hv => by
            obtain ⟨q0, q1, q2, q3, q4, q5⟩ := HC.out v hv
            rw [hcv v]; exact mF_eq q0 q2 q3 q4 q5 i hi12)
          have HRG : Hid (∀ w', Fr [] wr w' → w'.rangeAt kb (i * 7) (bv (mF c0 c2 c3 c4 c5 i)).toList) := fun w' hw' => by
            have hb := HD.out.2.2.fr hw' (by simp)
            rw [← HKV.out] at hb
            exact range_kv hb hi12
          have HCL : Hid (∀ w', Fr [] wr w' → w'.cell? ⟨lb, i, none⟩ = some (.string (bs (mX i)))) := fun w' hw' => by
            have hb := HD.out.2.1.fr hw' (by simp)
            rw [hb.cell]; exact mSv_get i hi12
          rw [hlsd] at HLI
          clear hln hcv hlsd
          obtain ⟨yi, HYI⟩ : ∃ y, Hid (bv (mF c0 c2 c3 c4 c5 i) = y) := ⟨_, hidV rfl⟩
          obtain ⟨TI, HTI⟩ : ∃ y, Hid (lsd c 7 = y) := ⟨_, hidV rfl⟩
          obtain ⟨XI, HXI⟩ : ∃ y, Hid (mX i = y) := ⟨_, hidV rfl⟩
          obtain ⟨ZI, HZZ⟩ : ∃ y, Hid (mZ i = y) := ⟨_, hidV rfl⟩
          rw [HTI.out] at HLI HSH
          rw [HYI.out] at HLI HRG hsz
          rw [HXI.out] at HCL HZI HXL
          rw [HZZ.out] at HLN HZI
          go_wp2_with fail
          refine region_class_tail (fun w' => Fr [] wr w') ((Fr.refl [] wr).drew) 10 (by kernel_rfl) (by kernel_rfl) ?_
          simp only [List.take_succ_cons, List.take_zero, List.drop_succ_cons, List.drop_zero]
          refine wpQuiet_mv (by rfl) _ (by rfl) ?_
          go_frame
          refine wpQuiet_mv (by rfl) _ (by rfl) ?_
          go_frame
          refine wpQuiet_mv (by rfl) _ (by rfl) ?_
          go_frame
          refine wpQuiet_val (by rfl) (.pointer (some ⟨lb, i, none⟩)) (fun w' => by go_simp) ?_
          go_frame
          refine wpQuiet_valC (by rfl) (.string (bs XI)) (fun w' hw' => by have cc := HCL.out w' hw'
                                                                           go_simp) ?_
          go_frame
          refine wpQuiet_mv (by rfl) _ (by rfl) ?_
          go_frame
          refine wpQuiet_mv (by rfl) _ (by rfl) ?_
          go_frame
          refine wpQuiet_val (by rfl) (.pointer (some ⟨kb, i * 7, none⟩)) (fun w' => by go_simp) ?_
          go_frame
          refine wpQuiet_ldm (by rfl) 45 _ (by rfl) kb (i * 7) (by rfl) yi _ HRG.out Tryz.underlying45 rfl hsz ?_
          go_frame
          refine wpQuiet_calls (by rfl) 23 #[.agg yi] (.string (bs TI)) (fun w' => by go_simp) (fun w' hw' => (HLI.out w').mono (fun e w'' h => ⟨h.1, hw'.trans (Fr.of_below (bs := []) h.2) (by simp)⟩)) ?_
          go_frame
          refine wpQuiet_nil ?_
          intro w5 hw5
          have HD5 : Hid (Six W w5 sb bm b0 b1 b2 b3 b4 b5 c0 c1 c2 c3 c4 c5 (stM p q m) ∧ Blk w5 lb mSv 9 ∧ Blk w5 kb KV 45) := ⟨HD.out.1.frs hw5, HD.out.2.1.fr hw5 (by simp), HD.out.2.2.fr hw5 (by simp)⟩
          clear hw5
          go_wp2_with fail
          refine (kshown_any HD5.out.1.ss hB _ _ XI ZI (stM p q (.set c)) TI (by rfl) HZI HXL.out HLN.out HSH.out (by rfl)).mono ?_
          rintro e w6 ⟨rfl, s6, f6⟩
          have HD6 : Hid (Six W w6 sb bm b0 b1 b2 b3 b4 b5 c0 c1 c2 c3 c4 c5 (stM p q (.set c)) ∧ Blk w6 lb mSv 9 ∧ Blk w6 kb KV 45) := ⟨HD5.out.1.did s6 f6, HD5.out.2.1.fr f6 (by simp; exact HD5.out.1.ss.ne HD5.out.2.1), HD5.out.2.2.fr f6 (by simp; exact HD5.out.1.ss.ne HD5.out.2.2)⟩
          clear s6 f6 HD5 HD
          go_wp2
          go_roundg (12 - (i + 1))
          case measure => omega
          case rel => exact ⟨i + 1, .set c, rfl, by omega, by go_num, HD6⟩
        · have ei : i = 12 := by omega
          subst ei
          have HSUB := hidV (ln_msub p q m)
          have HHAS := hidV (HLH.out m)
          have HWB : Hid (withB p q = subN p q 7) := rfl
          rw [HWB.out] at HSUB
          generalize subN p q 7 = wi at *
          go_wp2_with fail
          refine (kyes_any wi _).mono ?_
          rintro e w1 ⟨rfl, rfl⟩
          go_wp2_with fail
          refine (HD.out.1.ss.saysA hB _ _ (stM p q m) _ (by decide) HSUB.out rfl).mono ?_
          rintro e w2 ⟨rfl, s2, f2⟩
          have HD2 := hidV (HD.out.1.did s2 f2)
          clear s2 f2 HD
          go_wp2_with fail
          have HPK := hidV (fun (w' : World) => kpick_to u 10 u 10 w' rfl rfl (by omega) (by omega) hu.1 hu.2)
          rw [HN.out] at HPK
          refine (HPK.out _).mono ?_
          rintro e w3 ⟨rfl, rfl⟩
          go_wp2_with fail
          refine (kdigit_any n _ _ (by rfl) hn).mono ?_
          rintro e w4 ⟨rfl, b4'⟩
          have HD4 := hidV (HD2.out.frs (Fr.of_below b4'))
          clear b4' HD2
          go_wp2_with fail
          refine (HPK.out _).mono ?_
          rintro e w5 ⟨rfl, rfl⟩
          have h7 : n % 7 < 7 := by omega
          have hc0 : w5.cell? ⟨b0, n % 7, none⟩ = some (.bool (c0 (n % 7))) := (HD4.out.cells h7).1.1
          rw [(HC.out (n % 7) h7).1] at hc0
          obtain ⟨pb, HPB⟩ : ∃ b, Hid (p (n % 7) = b) := ⟨_, hidV rfl⟩
          rw [HPB.out] at hc0 HHAS
          go_wp2_with fail
          refine (kyes_any pb _).mono ?_
          rintro e w6 ⟨rfl, rfl⟩
          go_wp2_with fail
          refine (HD4.out.ss.saysA hB (bs LH) _ (stM p q m) _ (by rw [bs_size]; omega) HHAS.out rfl).mono ?_
          rintro e w7 ⟨rfl, s7, f7⟩
          have HE : Hid (Fr [] W w7) := HD4.out.fr.trans f7 (by simp; exact HD4.out.ss.lo)
          clear s7 f7
          go_wp2
          go_ret
          exact ⟨rfl, HE.out.below (Nat.le_refl _) (by simp)⟩
end Go.Proofs.YthlmgpllapccfaaGreatDoor
/- WHAT THE ROWS' CONDITION GIVES A WALK: errors.errorType's cell; a world that meets it. -/
namespace Go.Proofs.YthlmgpllapccfaaGreatDoor
open Go.ChangeShapes Go.WideShapes Go.RowKit

theorem Tryz.own : ownKnob Tryz.prog.godebug = none := by kernel_rfl
theorem Tryz.et : Tryz.prog.globalNamed "errors.errorType" = some 0 := by kernel_rfl
theorem Tryz.rt : (Tryz.prog.cutTypes.find? (·.1 == "internal/reflectlite.rtype")).map (·.2) = some 195 := by kernel_rfl
theorem Tryz.oneRow : ((List.range Tryz.prog.types.size).filter fun t => Tryz.prog.rowNamed t [101, 114, 114, 111, 114]) = [127] := by kernel_rfl
theorem Tryz.hand : typeHandle Tryz.prog 127 = .pointer (some ⟨5, 127, none⟩) := by kernel_rfl

theorem errT_of_handle {W : World} (h : handlesMet Tryz.prog [("errors.errorType", Rows.laid_errors_errorType)] W) : ErrT W := by
  obtain ⟨name, u, ty, e1, e2, e3, e4, e5⟩ := h _ (List.mem_singleton.2 rfl)
  have en : name = [101, 114, 114, 111, 114] := (Option.some.inj e1).symm
  subst en
  obtain rfl := Option.some.inj (Tryz.rt.symm.trans e2)
  have hm : ty ∈ (List.range Tryz.prog.types.size).filter fun t => Tryz.prog.rowNamed t [101, 114, 114, 111, 114] := List.mem_filter.2 ⟨List.mem_range.2 e3, e4⟩
  rw [Tryz.oneRow] at hm
  obtain rfl := List.mem_singleton.1 hm
  rw [Tryz.hand] at e5
  unfold ErrT
  simpa using World.var?_cell Tryz.et e5 0

/-- A world that meets the condition: the settled one, the variable's cell laid. -/
noncomputable def laidWorld (os : Os) : World :=
  let w0 := World.holding Tryz.prog os ⟨#[], #[], []⟩
  { w0 with heap := w0.heap.modify 0 fun
      | .cells _ t frozen => .cells #[.iface 195 (.agg #[.pointer (some ⟨5, 127, none⟩)])] t frozen
      | o => o }
end Go.Proofs.YthlmgpllapccfaaGreatDoor
/- WHAT THE GREAT SEAT's ROWS SHARE: the condition on errors.errorType, slices of numbers. -/
namespace Go.Proofs.YthlmgpllapccfaaGreatDoor
open Go.ChangeShapes Go.WideShapes Go.ChangeAt Go.RowKit
open Go.ChangeMaps (open_string shut_string)

theorem err_laid {W : World} (h : laidMetH Tryz.prog [("errors.errorType", Rows.laid_errors_errorType)] W) : ErrT W := by
  have h' : laidMet Tryz.prog [] W ∧ handlesMet Tryz.prog [("errors.errorType", Rows.laid_errors_errorType)] W := h
  exact errT_of_handle h'.2
theorem err_world (os : Os) (args : Array Value) : laidMetH Tryz.prog [("errors.errorType", Rows.laid_errors_errorType)] ((laidWorld os).forCall (fun _ _ => 0) ⟨#[], args, []⟩).memory :=
  laidMetH_of_parts (laidMet_nil _ _) (by kernel_rfl)

theorem wf_bd64 {n : Int} (h : (Lit.int .i64 n).wf = true) : -9223372036854775808 ≤ n ∧ n ≤ 9223372036854775807 := by
  simp only [Lit.wf, Bool.and_eq_true, decide_eq_true_eq] at h
  exact ⟨h.1, h.2⟩

theorem text_of {H : Type} {enc : TypeId × Value → H} {W : World} {a : Option Addr} {len cap : Nat} {d : DataW H} {ps : List MemPlace} (h : DataW.Trod enc Tryz.prog W 0 (fun _ => true) true 43 (.slice a len cap) d ps) (hlt : ∀ y ∈ ps, y.block < W.heap.size) :
    ∃ xs : List Int, ∀ w', Below W.heap.size W w' → Calls Tryz.prog 21 #[.slice a len cap, .int .i64 4] w' fun e w'' => e = .returned (.string (bs (kX xs))) ∧ Below w'.heap.size w' w'' := by
  obtain ⟨fuel, hf⟩ := h
  rcases open_ints Tryz.underlying43 Tryz.underlying3 (by kernel_rfl) hf with ⟨hcs, _⟩ | ⟨ad, len', cap', zs, hcs, _, hl, hm, hz, hx, hcell, hwz⟩
  · simp [Value.cells] at hcs
    obtain ⟨rfl, rfl, rfl⟩ := hcs
    exact ⟨[], fun w' _ => ktext_nil _ _ w'⟩
  · simp [Value.cells] at hcs
    obtain ⟨rfl, rfl, rfl⟩ := hcs
    simp only [if_true] at hz
    by_cases h0 : len = 0
    · subst h0
      exact ⟨[], fun w' _ => ktext_nil _ _ w'⟩
    · have hlen : (zs.take len).length = len := by rw [List.length_take]; omega
      have hblk : ad.block < W.heap.size := by
        simp only [Prod.mk.injEq] at hx
        refine hlt (.cell ad.block ad.off) ?_
        rw [hx.2]
        simp [MemPlace.row]
        omega
      refine ⟨zs.take len, fun w' hb => ?_⟩
      have k := ktext_some (zs.take len) ad cap w' (by omega) (fun j x hj => ?_) (Nat.lt_of_lt_of_le hblk hb.size) (by unfold maxLen at hm; omega)
      · rw [hlen] at k; exact k
      · rw [List.getElem?_take] at hj
        split at hj
        · have hj' : j < zs.length := by omega
          have e : zs.getD j 0 = x := by rw [List.getD_eq_getElem?_getD, hj]; rfl
          have hc := hcell j hj'
          rw [e] at hc
          refine ⟨?_, wf_bd64 (hwz x (List.mem_of_getElem? hj))⟩
          rw [← hc]
          exact World.cell?_of_block (by rw [add_block]; exact hb.block _ hblk)
        · cases hj
end Go.Proofs.YthlmgpllapccfaaGreatDoor
