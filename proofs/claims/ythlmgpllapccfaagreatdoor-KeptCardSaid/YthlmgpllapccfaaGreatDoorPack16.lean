import Derived.Test.YthlmgpllapccfaaGreatDoorPack15
import Derived.Test.YthlmgpllapccfaaGreatDoorRows
import Derived.ChangeSame
import Derived.ChangeVars
import Derived.JoinedOf
import Derived.RowKit
import Derived.RowKitTokens
import Derived.LaidLaws
import Derived.LaidHandle
import Derived.SizedLaws
import Derived.Stop.Joined
import Derived.SevenTiedAt
import Derived.ProofKit
import Derived.ChangeMaps5
import Derived.ChangeSlices
import Derived.Test.YthlmgpllapccfaaGreatDoorTie
import Derived.Test.YthlmgpllapccfaaGreatDoorCards
import Derived.Deep.Strs
/- THE STATEMENTS' OWN: says, shown, at any line. -/
namespace Go.Proofs.YthlmgpllapccfaaGreatDoor
open Go.RowKit

theorem Ps.ne {w : World} {Ms : List Nat} {b bm : Nat} {st : Nat → Mng} (h : Ps w Ms b bm st) : b ≠ bm := fun q => by
  obtain ⟨es, clock, hb⟩ := h.nm.blk
  have := h.blk
  unfold Blk at this
  rw [q, hb] at this
  simp at this
/-- A map's block more may be written. -/
theorem Sess.more {B : Nat} {w : World} {Ms : List Nat} {b bm k : Nat} {st : Nat → Mng} (h : Sess B w Ms b bm st) {es : Array MapEntry} {clock : Nat} (hk : w.heap[k]? = some (.map es clock)) (hB : B ≤ k) : Sess B w (k :: Ms) b bm st := by
  have hkl : k < w.heap.size := by
    rcases Nat.lt_or_ge k w.heap.size with q | q
    · exact q
    · rw [Array.getElem?_eq_none q] at hk; simp at hk
  have hbk : b ≠ k := fun q => by
    have := h.ps.blk
    unfold Blk at this
    rw [q, hk] at this
    simp at this
  obtain ⟨⟨h1, ⟨⟨es', clock', k1, k2, k3⟩, k4⟩⟩, h2, h3, h4, h5⟩ := h
  refine ⟨⟨h1, ⟨⟨es', clock', k1, k2, fun n hn => ?_⟩, by simp [k4]⟩⟩, h2, h3, ?_, ?_⟩
  · have hv := k3 n hn
    cases hst : st n with
    | non => rw [hst] at hv; exact hv
    | set c => rw [hst] at hv; exact hv
    | sys ps =>
      rw [hst] at hv
      obtain ⟨g, cap, q1, q2, q3, q4, q5, q6⟩ := hv
      refine ⟨g, cap, q1, q2, q3, q4, q5, fun q => ?_⟩
      rw [List.mem_cons] at q
      rcases q with q | q
      · have hl : 0 < ps.length := List.length_pos_iff.2 q4
        have hc := q2.2 0 hl 0 _ (by rw [Array.getElem?_toList]; exact pv_get (by have := (q3.at hl).1; omega))
        rw [q] at hc
        simp [World.cell?, hk] at hc
      · exact q6 q
  · intro x hx
    rw [List.mem_cons] at hx
    rcases hx with hx | hx
    · rw [hx]; exact ⟨hkl, hB⟩
    · exact h4 x hx
  · intro q
    rw [List.mem_cons] at q
    rcases q with q | q
    · exact hbk q
    · exact h5 q
theorem Sess.low {B C : Nat} {w : World} {Ms : List Nat} {b bm : Nat} {st : Nat → Mng} (h : Sess B w Ms b bm st) (hC : C ≤ B) : Sess C w Ms b bm st :=
  ⟨h.ps, by have := h.lo; omega, h.err, fun x hx => ⟨(h.hi x hx).1, by have := (h.hi x hx).2; omega⟩, h.nb⟩
theorem Sess.doesA {B : Nat} {w : World} {Ms : List Nat} {b bm : Nat} {st : Nat → Mng} (h : Sess B w Ms b bm st) (hB : 0 < B) (s : ByteArray) (hm : s.size ≤ 1000000000000000) :
    Calls Tryz.prog 16 #[.pointer (some ⟨b, 0, none⟩), .string s] w fun e w' => e = .returned (.tuple #[.string (bs (lnA st s).t), .int .i64 (lnA st s).e, .int .i64 (lnA st s).bad]) ∧ Sess B w' Ms b bm (lnA st s).st ∧ Fr [bm] w w' :=
  (pDo_all s b bm Ms st w h.ps (fun x hx => (h.hi x hx).1) h.err hm).mono (by
    rintro e w1 ⟨rfl, q1, q2⟩
    exact ⟨rfl, ⟨⟨h.ps.blk.fr q2 (by simp; exact h.ps.ne), q1⟩, h.lo, h.err.fr q2 (by simp; have := h.lo; omega), fun x hx => ⟨by have := (h.hi x hx).1; have := q2.size; omega, (h.hi x hx).2⟩, h.nb⟩, q2⟩)
set_option maxHeartbeats 1000000 in
theorem Sess.saysA {B : Nat} {w : World} {Ms : List Nat} {b bm : Nat} {st : Nat → Mng} (h : Sess B w Ms b bm st) (hB : 0 < B) (s T : ByteArray) (st' : Nat → Mng) (t : List UInt8) (hm : s.size ≤ 1000000000000000) (hR : lnA st s = ⟨0, 0, t, st'⟩) (hT : T = bs t) :
    Calls Tryz.prog 15 #[.pointer (some ⟨b, 0, none⟩), .string s, .string T] w fun e w' => e = .returned (.bool true) ∧ Sess B w' Ms b bm st' ∧ Fr [bm] w w' := by
  have HD := hidV (h.doesA hB s hm)
  rw [hR, ← hT] at HD
  clear h hR hT
  go_enter Tryz.func15, Tryz.ntmps15
  go_wp2_with fail
  refine HD.out.mono ?_
  rintro e w1 ⟨rfl, q1, q2⟩
  go_wp2
  go_ret
  exact ⟨rfl, q1, q2⟩
set_option maxHeartbeats 1000000 in
theorem kshown_any {B : Nat} {w : World} {Ms : List Nat} {b bm : Nat} {st : Nat → Mng} (h : Sess B w Ms b bm st) (hB : 0 < B) (S T : ByteArray) (X Z : List UInt8) (st' : Nat → Mng) (t : List UInt8) (hS : S = bs X) (hZ : Hid ([115, 101, 116, 32, 89, 32, 61, 32] ++ X = Z)) (hl : X.length ≤ 60)
    (h1 : lnA st (bs Z) = ⟨0, 0, [], st'⟩) (h2 : lnA st' (bs [115, 104, 111, 119, 32, 89]) = ⟨0, 0, t, st'⟩) (hT : T = bs t) :
    Calls Tryz.prog 24 #[.pointer (some ⟨b, 0, none⟩), .string S, .string T] w fun e w' => e = .returned (.bool true) ∧ Sess B w' Ms b bm st' ∧ Fr [bm] w w' := by
  have hzl : Z.length ≤ 70 := by rw [← hZ.out]; simp; omega
  have HS1 := hidV (h.saysA hB (bs Z) ⟨#[]⟩ st' [] (by rw [bs_size]; omega) h1 rfl)
  have HS2 := hidV (fun w' (h' : Sess B w' Ms b bm st') => h'.saysA hB (bs [115, 104, 111, 119, 32, 89]) T st' t (by decide) h2 hT)
  have ha := fun (w' : World) => add_to0 [115, 101, 116, 32, 89, 32, 61, 32] ⟨#[115, 101, 116, 32, 89, 32, 61, 32]⟩ X Z S rfl hS hZ.out (by simp) (by omega) w'
  clear h h1 h2 hT hS
  go_enter Tryz.func24, Tryz.ntmps24
  go_wp2_with fail
  refine HS1.out.mono ?_
  rintro e w1 ⟨rfl, s1, f1⟩
  have HI := hidV (And.intro s1 f1)
  clear s1 f1 ha
  go_wp2_with fail
  refine (HS2.out _ HI.out.1).mono ?_
  rintro e w2 ⟨rfl, s2, f2⟩
  have HJ := hidV (And.intro s2 (HI.out.2.trans f2 (by simp)))
  clear s2 f2
  go_wp2
  go_ret
  exact ⟨rfl, HJ.out.1, HJ.out.2⟩
end Go.Proofs.YthlmgpllapccfaaGreatDoor
/- PLAIN: a line that ends in a question mark is wrong, at the mark or ahead of it. -/
namespace Go.Proofs.YthlmgpllapccfaaGreatDoor

/-- Token q is a question mark; the tokens up to it begin at B or ahead of it. -/
structure Hq (f : Nat → Tok) (q B : Nat) : Prop where
  c : (f q).c = 67
  pl : ∀ j, j ≤ q → (f j).at' ≤ B
  nz : ∀ j, j ≤ q → (f j).c ≠ 0
variable {f : Nat → Tok} {q B N : Nat}
theorem Hq.step (h : Hq f q B) {k : Nat} (hk : k ≤ q) (hc : (f k).c ≠ 67) : k + 1 ≤ q := by
  rcases Nat.lt_or_ge k q with g | g
  · omega
  · have e : k = q := by omega
    rw [e] at hc
    exact absurd h.c hc
def Sf (q B e bad k : Nat) : Prop := (e = 0 → k ≤ q) ∧ bad ≤ B
theorem Sf.ok {k : Nat} (h : k ≤ q) : Sf q B 0 0 k := ⟨fun _ => h, Nat.zero_le _⟩
theorem Sf.bad {e b k : Nat} (he : e ≠ 0) (hb : b ≤ B) : Sf q B e b k := ⟨fun h => absurd h he, hb⟩

theorem pw_sf (h : Hq f q B) (bare : Bool) : ∀ (m k u x : Nat), k ≤ q → Sf q B (pw f bare m k u x).e (pw f bare m k u x).bad (pw f bare m k u x).k := by
  intro m
  induction m with
  | zero => intro k u x hk; exact Sf.ok hk
  | succ m ih =>
    intro k u x hk
    simp only [pw]
    split
    · rename_i h1
      split
      · exact ih _ _ _ (h.step hk (by omega))
      · exact Sf.bad (by simp) (h.pl k hk)
    · split
      · rename_i h1 h2
        split
        · exact Sf.bad (by simp) (h.pl k hk)
        · split
          · exact ih _ _ _ (h.step hk (by omega))
          · exact Sf.bad (by simp) (h.pl k hk)
      · exact Sf.ok hk
theorem tm_sf (h : Hq f q B) (bare : Bool) {k : Nat} (hk : k ≤ q) : Sf q B (tm f bare N k).e (tm f bare N k).bad (tm f bare N k).k := by
  unfold tm
  split
  · exact pw_sf h bare _ _ _ _ (h.step hk (by omega))
  · split
    · exact pw_sf h bare _ _ _ _ hk
    · exact Sf.bad (by simp) (h.pl k hk)
theorem pl_sf (h : Hq f q B) (bare : Bool) : ∀ (m k sg : Nat) (p : List Nat), k ≤ q → Sf q B (pl f bare N m k sg p).e (pl f bare N m k sg p).bad (pl f bare N m k sg p).k := by
  intro m
  induction m with
  | zero => intro k sg p hk; exact Sf.bad (by simp [pl]) (Nat.zero_le _)
  | succ m ih =>
    intro k sg p hk
    have ht := tm_sf (N := N) h bare hk
    simp only [pl]
    split
    · rename_i h1
      have hk1 := ht.1 h1
      split
      · exact ih _ _ _ (h.step hk1 (by omega))
      · split
        · exact ih _ _ _ (h.step hk1 (by omega))
        · exact Sf.ok hk1
    · rename_i h1
      exact Sf.bad h1 ht.2
theorem poly_sf (h : Hq f q B) (bare : Bool) {k : Nat} (hk : k ≤ q) : Sf q B (poly f bare N k).e (poly f bare N k).bad (poly f bare N k).k := by
  unfold poly
  split
  · exact pl_sf h bare _ _ _ _ (h.step hk (by omega))
  · exact pl_sf h bare _ _ _ _ hk
theorem syR_sf (h : Hq f q B) : ∀ (m k : Nat), k ≤ q → Sf q B (syR f N m k).e (syR f N m k).bad (syR f N m k).k := by
  intro m
  induction m with
  | zero => intro k hk; exact Sf.ok hk
  | succ m ih =>
    intro k hk
    have hp := poly_sf (N := N) h false hk
    by_cases he : (poly f false N k).e = 0
    · have hk1 := hp.1 he
      by_cases hc : 0 < m ∧ (f (poly f false N k).k).c = 48
      · rw [syR_more he hc.1 hc.2]
        exact ih _ (h.step hk1 (by omega))
      · rw [syR_last he hc]
        exact Sf.ok hk1
    · rw [syR_bad he]
      exact Sf.bad he hp.2
def SfR (q B : Nat) (R : StR) : Prop := Sf q B R.e R.bad R.k
def SfF (q B : Nat) (pc : Nat → StR) : Prop := ∀ k, k ≤ q → SfR q B (pc k)
theorem prF_sf (h : Hq f q B) {pc : Nat → StR} (hp : SfF q B pc) : ∀ (m k : Nat) (b : Nat → Bool), k ≤ q → SfR q B (prF f pc m k b) := by
  intro m
  induction m with
  | zero => intro k b hk; exact Sf.ok hk
  | succ m ih =>
    intro k b hk
    by_cases h1 : (f k).c = 42
    · have hp1 := hp (k + 1) (h.step hk (by omega))
      by_cases he : (pc (k + 1)).e = 0
      · rw [prF_and (by omega) h1 he, Nat.add_sub_cancel]; exact ih _ _ (hp1.1 he)
      · rw [prF_bad (by omega) (Or.inl h1) he]; exact hp1
    · by_cases h2 : (f k).c = 49
      · have hp1 := hp (k + 1) (h.step hk (by omega))
        by_cases he : (pc (k + 1)).e = 0
        · rw [prF_not (by omega) h2 he, Nat.add_sub_cancel]; exact ih _ _ (hp1.1 he)
        · rw [prF_bad (by omega) (Or.inr h2) he]; exact hp1
      · rw [prF_end h1 h2]; exact Sf.ok hk
theorem prG_sf (h : Hq f q B) {pc : Nat → StR} (hp : SfF q B pc) : SfF q B (prG f pc N) := by
  intro k hk
  have h0 := hp k hk
  unfold prG
  split
  · rename_i h1; exact prF_sf h hp _ _ _ (h0.1 h1)
  · exact h0
theorem seF_sf (h : Hq f q B) {pc : Nat → StR} (hp : SfF q B pc) : ∀ (m k : Nat) (b : Nat → Bool), k ≤ q → SfR q B (seF f pc m k b) := by
  intro m
  induction m with
  | zero => intro k b hk; exact Sf.ok hk
  | succ m ih =>
    intro k b hk
    by_cases h1 : (f k).c = 128
    · have hp1 := hp (k + 1) (h.step hk (by omega))
      by_cases he : (pc (k + 1)).e = 0
      · rw [seF_or (by omega) h1 he, Nat.add_sub_cancel]; exact ih _ _ (hp1.1 he)
      · rw [seF_bad (by omega) h1 he]; exact hp1
    · rw [seF_end h1]; exact Sf.ok hk
theorem seG_sf (h : Hq f q B) {pc : Nat → StR} (hp : SfF q B pc) : SfF q B (seG f pc N) := by
  intro k hk
  have h0 := hp k hk
  unfold seG
  split
  · rename_i h1; exact seF_sf h hp _ _ _ (h0.1 h1)
  · exact h0
theorem wants_sf (h : Hq f q B) {c : Nat} (hc : c ≠ 67) {R : StR} (hR : SfR q B R) : SfR q B (StR.wants f c R) := by
  unfold StR.wants
  split
  · rename_i h1
    split
    · rename_i h2; exact Sf.ok (h.step (hR.1 h1) (by omega))
    · exact Sf.bad (by simp) (h.pl _ (hR.1 h1))
  · exact hR
theorem nmR_sf (h : Hq f q B) (st : Nat → Mng) : SfF q B (nmR f st) := by
  intro k hk
  unfold nmR
  split
  · rename_i h1
    have := (isN_iff _).1 h1
    split
    · exact Sf.ok (h.step hk (by omega))
    · exact Sf.bad (by simp) (h.pl _ hk)
  · exact Sf.bad (by simp) (h.pl _ hk)
theorem pcR_sf (h : Hq f q B) (st : Nat → Mng) : ∀ d, SfF q B (pcR f N st d) := by
  intro d
  induction d with
  | zero =>
    intro k hk
    by_cases h1 : (f k).c = 130 ∨ (f k).c = 44
    · rw [pcR_deep h1]; exact Sf.bad (by simp) (h.pl _ hk)
    · by_cases h3 : (f k).c = 95
      · rw [pcR_zeros h3]; exact wants_sf h (by omega) (poly_sf h true (h.step hk (by omega)))
      · rw [pcR_name (by omega) (by omega) h3]; exact nmR_sf h st k hk
  | succ d ih =>
    intro k hk
    by_cases h1 : (f k).c = 130
    · rw [pcR_tilde h1]; exact ih (k + 1) (h.step hk (by omega))
    · by_cases h2 : (f k).c = 44
      · rw [pcR_open h2]; exact wants_sf h (by omega) (seG_sf h (prG_sf h ih) _ (h.step hk (by omega)))
      · by_cases h3 : (f k).c = 95
        · rw [pcR_zeros h3]; exact wants_sf h (by omega) (poly_sf h true (h.step hk (by omega)))
        · rw [pcR_name h1 h2 h3]; exact nmR_sf h st k hk
theorem stR_sf (h : Hq f q B) (st : Nat → Mng) (d : Nat) : SfF q B (stR f N st d) := seG_sf h (prG_sf h (pcR_sf h st d))

def SfW (q B : Nat) (S : WS) : Prop := Sf q B S.e S.bad S.k
theorem nmS_sf (h : Hq f q B) (ok : Nat → Bool) {S : WS} (hS : SfW q B S) : SfW q B (nmS f ok S) := by
  unfold nmS
  split
  · exact hS
  · rename_i h0
    have hk := hS.1 (by omega)
    split
    · rename_i h1
      have := (isN_iff _).1 h1
      split
      · exact Sf.ok (h.step hk (by omega))
      · exact Sf.bad (by simp) (h.pl _ hk)
    · exact Sf.bad (by simp) (h.pl _ hk)
theorem ctS_sf (h : Hq f q B) {S : WS} (hS : SfW q B S) : SfW q B (ctS f S) := by
  unfold ctS
  split
  · exact hS
  · rename_i h0
    have hk := hS.1 (by omega)
    split
    · exact Sf.ok (h.step hk (by omega))
    · exact Sf.bad (by simp) (h.pl _ hk)
theorem wtS_sf (h : Hq f q B) {c : Nat} (hc : c ≠ 67) {S : WS} (hS : SfW q B S) : SfW q B (wtS f c S) := by
  unfold wtS
  split
  · exact hS
  · rename_i h0
    have hk := hS.1 (by omega)
    split
    · exact Sf.ok (h.step hk (by omega))
    · exact Sf.bad (by simp) (h.pl _ hk)
theorem sysS_sf (h : Hq f q B) {S : WS} (hS : SfW q B S) : SfW q B (sysS f N S) := by
  unfold sysS
  split
  · exact hS
  · rename_i h0
    exact syR_sf h 4 _ (hS.1 (by omega))
theorem stS_sf (h : Hq f q B) (st : Nat → Mng) {S : WS} (hS : SfW q B S) : SfW q B (stS f N st S) := by
  unfold stS
  split
  · exact hS
  · rename_i h0
    exact stR_sf h st 6 _ (hS.1 (by omega))
theorem enS_sf (h : Hq f q B) {S : WS} (hS : SfW q B S) : (enS f S).e ≠ 0 ∧ (enS f S).bad ≤ B := by
  unfold enS
  split
  · rename_i h0; exact ⟨h0, hS.2⟩
  · rename_i h0
    have hk := hS.1 (by omega)
    rw [if_neg (h.nz _ hk)]
    exact ⟨by simp, h.pl _ hk⟩
/-- Nothing is answered, nothing is changed. -/
def Wrong (B : Nat) (st : Nat → Mng) (R : LnR) : Prop := R.e ≠ 0 ∧ R.t = [] ∧ R.bad ≤ B ∧ R.st = st
theorem ans_wrong {S : WS} {t : List UInt8} {st' st : Nat → Mng} (h : S.e ≠ 0 ∧ S.bad ≤ B) : Wrong B st (ans S t st' st) := by
  unfold ans
  rw [if_pos h.1]
  exact ⟨h.1, rfl, h.2, rfl⟩

variable {s : ByteArray} {n : Nat}
theorem skip_q (hb : byt s n = 63) : ∀ (m i : Nat), n - i = m → i ≤ n → skip s i ≤ n := by
  intro m
  induction m with
  | zero =>
    intro i h1 h2
    have e : i = n := by omega
    rw [e, skip_here (by omega)]; exact Nat.le_refl _
  | succ m ih =>
    intro i h1 h2
    by_cases h : byt s i = 32
    · rw [skip_space h]; exact ih (i + 1) (by omega) (by omega)
    · rw [skip_here h]; exact h2
theorem tokAt_q (hn : s.size = n + 1) (hb : byt s n = 63) {j : Nat} (hj : j ≤ n) : (tokAt s j).at' = j ∧ (tokAt s j).c ≠ 0 ∧ j < (tokAt s j).to ∧ ((tokAt s j).c = 67 ∨ (tokAt s j).to ≤ n) := by
  obtain ⟨h1, _, _, _, _, h6, h7⟩ := tokAt_facts (s := s) (j := j) (by omega)
  have h0 : (tokAt s j).c ≠ 0 := fun e => by have := h6.1 e; omega
  refine ⟨h1, h0, h7 h0, ?_⟩
  have hD : ∀ i, isD s (i + 1) = true → i + 1 ≤ n + 1 → i + 2 ≤ n := fun i h hi => by
    have h' := (isD_iff s (i + 1)).1 h
    have := isD_in h
    by_cases e : i + 1 = n
    · rw [e] at h'; omega
    · omega
  unfold tokAt
  by_cases h0 : byt s j = 256
  · exact absurd h0 (by have := byt_small (s := s) (i := j) (by omega); omega)
  · rw [if_neg h0]
    by_cases e : j = n
    · left
      have hjb : byt s j = 63 := by rw [e]; exact hb
      rw [if_neg (by rw [isD_iff]; omega), if_neg (by omega), if_neg (by omega)]
      show byt s j + 4 = 67; omega
    · have hj' : j + 1 ≤ n := by omega
      split
      · split
        · rename_i h2; right; exact hD j h2 (by omega)
        · right; exact hj'
      · split
        · split
          · rename_i h2; right; exact hD j h2 (by omega)
          · right; exact hj'
        · split
          · split
            · rename_i h2; right; exact hD j h2 (by omega)
            · right; exact hj'
          · right; exact hj'
theorem tok_q (hn : s.size = n + 1) (hb : byt s n = 63) {i : Nat} (hi : i ≤ n) : (tok s i).at' ≤ n ∧ (tok s i).c ≠ 0 ∧ i < (tok s i).to ∧ ((tok s i).c = 67 ∨ (tok s i).to ≤ n) := by
  have h1 := skip_q hb _ i rfl hi
  have h2 := (skip_facts (s := s) (i := i) (by omega)).1
  obtain ⟨g1, g2, g3, g4⟩ := tokAt_q hn hb h1
  unfold tok
  exact ⟨by omega, g2, by omega, g4⟩
theorem pos_next (s : ByteArray) (a : Nat) : ∀ k, pos s a (k + 1) = pos s (tok s a).to k
  | 0 => rfl
  | k + 1 => by rw [pos, pos_next s a k]; rfl
theorem tk_next (s : ByteArray) (a k : Nat) : tk s a (k + 1) = tk s (tok s a).to k := by unfold tk; rw [pos_next]
theorem tk_q (hn : s.size = n + 1) (hb : byt s n = 63) : ∀ (m a : Nat), n - a ≤ m → a ≤ n → ∃ q, Hq (tk s a) q n := by
  intro m
  induction m with
  | zero =>
    intro a h1 h2
    obtain ⟨g1, g2, g3, g4⟩ := tok_q hn hb h2
    rcases g4 with g4 | g4
    · exact ⟨0, g4, fun j hj => by have e : j = 0 := by omega
                                   rw [e]; exact g1, fun j hj => by have e : j = 0 := by omega
                                                                    rw [e]; exact g2⟩
    · omega
  | succ m ih =>
    intro a h1 h2
    obtain ⟨g1, g2, g3, g4⟩ := tok_q hn hb h2
    rcases g4 with g4 | g4
    · exact ⟨0, g4, fun j hj => by have e : j = 0 := by omega
                                   rw [e]; exact g1, fun j hj => by have e : j = 0 := by omega
                                                                    rw [e]; exact g2⟩
    · obtain ⟨q, hq⟩ := ih (tok s a).to (by omega) g4
      refine ⟨q + 1, by rw [tk_next]; exact hq.c, fun j hj => ?_, fun j hj => ?_⟩
      · cases j with
        | zero => exact g1
        | succ j => rw [tk_next]; exact hq.pl j (by omega)
      · cases j with
        | zero => exact g2
        | succ j => rw [tk_next]; exact hq.nz j (by omega)
theorem wend_q (hb : byt s n = 63) : ∀ (m i : Nat), n - i = m → i ≤ n → wend s i ≤ n := by
  intro m
  induction m with
  | zero =>
    intro i h1 h2
    have e : i = n := by omega
    rw [e, wend_here (by rw [sml_iff]; omega)]; exact Nat.le_refl _
  | succ m ih =>
    intro i h1 h2
    by_cases h : sml s i = true
    · rw [wend_step h]; exact ih (i + 1) (by omega) (by omega)
    · rw [wend_here h]; exact h2
theorem lf_q (hn : s.size = n + 1) (hb : byt s n = 63) (hs : sml s (w0 s) = true) : ∃ q, Hq (lf s) (q + 1) n := by
  have h0 : w0 s ≤ n := skip_q hb _ 0 rfl (Nat.zero_le _)
  obtain ⟨q, hq⟩ := tk_q hn hb _ (w1 s) (Nat.le_refl _) (wend_q hb _ _ rfl h0)
  refine ⟨q, by rw [lf_rest hs]; exact hq.c, fun j hj => ?_, fun j hj => ?_⟩
  · cases j with
    | zero => unfold lf; rw [if_pos hs, if_pos rfl]; exact h0
    | succ j => rw [lf_rest hs]; exact hq.pl j (by omega)
  · cases j with
    | zero => unfold lf; rw [if_pos hs, if_pos rfl]; show 1000 + _ ≠ 0; omega
    | succ j => rw [lf_rest hs]; exact hq.nz j (by omega)
theorem askS_sf {f : Nat → Tok} {q B : Nat} (h : Hq f (q + 1) B) (st : Nat → Mng) (c : List UInt8) : (askS st f c).e ≠ 0 ∧ (askS st f c).bad ≤ B := by
  have h1 : SfW (q + 1) B ws1 := Sf.ok (by show 1 ≤ q + 1; omega)
  unfold askS
  split
  · exact enS_sf h (nmS_sf h _ h1)
  · split
    · exact enS_sf h (nmS_sf h _ h1)
    · split
      · exact enS_sf h (ctS_sf h (nmS_sf h _ h1))
      · split
        · exact enS_sf h (ctS_sf h (nmS_sf h _ h1))
        · exact ⟨by simp, h.pl 0 (by omega)⟩
/-- THE LAW. -/
theorem lnA_quest (hn : s.size = n + 1) (hb : byt s n = 63) (st : Nat → Mng) : Wrong n st (lnA st s) := by
  have h0 : w0 s ≤ n := skip_q hb _ 0 rfl (Nat.zero_le _)
  unfold lnA
  split
  · exact ⟨by simp, rfl, Nat.zero_le _, rfl⟩
  · rename_i hl
    split
    · exact ⟨by simp, rfl, h0, rfl⟩
    · rename_i hsm
      have hs : sml s (w0 s) = true := by simpa using hsm
      obtain ⟨q, h⟩ := lf_q hn hb hs
      have h1 : SfW (q + 1) n ws1 := Sf.ok (by show 1 ≤ q + 1; omega)
      split
      · exact ans_wrong (enS_sf h (stS_sf h st (wtS_sf h (by omega) (nmS_sf h _ h1))))
      · split
        · exact ans_wrong (enS_sf h (nmS_sf h _ h1))
        · split
          · exact ans_wrong (enS_sf h (ctS_sf h (nmS_sf h _ h1)))
          · split
            · exact ans_wrong (enS_sf h (nmS_sf h _ (nmS_sf h _ h1)))
            · unfold lnR
              rw [if_neg hl, if_neg hsm]
              split
              · exact ans_wrong (enS_sf h (sysS_sf h (wtS_sf h (by omega) (nmS_sf h _ h1))))
              · exact ans_wrong (askS_sf h st _)
end Go.Proofs.YthlmgpllapccfaaGreatDoor
/- KEPT: THE WALK. -/
namespace Go.Proofs.YthlmgpllapccfaaGreatDoor
open Go.RowKit

theorem lnA_of {st : Nat → Mng} {s : ByteArray} {t : List UInt8} {st' : Nat → Mng} (h1 : (lnA st s).e = 0) (h2 : (lnA st s).bad = 0) (h3 : (lnA st s).t = t) (h4 : (lnA st s).st = st') : lnA st s = ⟨0, 0, t, st'⟩ := by
  cases hq : lnA st s with
  | mk e bad t2 st2 =>
    rw [hq] at h1 h2 h3 h4
    dsimp only at h1 h2 h3 h4
    rw [h1, h2, h3, h4]
def kX1 : List UInt8 := [91, 117, 51, 45, 49, 93, 124, 126, 91, 117, 93]
def kZ1 : List UInt8 := [115, 101, 116, 32, 89, 32, 61, 32, 91, 117, 51, 45, 49, 93, 124, 126, 91, 117, 93]
def st2 : Nat → Mng := (lnA st1 (bs kZ1)).st
theorem ln_setY : lnA st1 (bs kZ1) = ⟨0, 0, [], st2⟩ := lnA_of (by kernel_rfl) (by kernel_rfl) (by kernel_rfl) rfl
theorem ln_showY : lnA st2 (bs [115, 104, 111, 119, 32, 89]) = ⟨0, 0, [49, 32, 50, 32, 51, 32, 52, 32, 53, 32, 54], st2⟩ := lnA_of (by kernel_rfl) (by kernel_rfl) (by kernel_rfl) (by kernel_rfl)
theorem Fr.old {W w : World} (h : Fr [] W w) {a : Addr} (ha : a.block < W.heap.size) : w.cell? a = W.cell? a := by
  unfold World.cell?
  rw [h.block _ ha (by simp)]
theorem quest_size (s : ByteArray) : (s ++ ⟨#[63]⟩ : ByteArray).size = s.size + 1 := by rw [ByteArray.size_append]; rfl
theorem quest_byt (s : ByteArray) : byt (s ++ ⟨#[63]⟩ : ByteArray) s.size = 63 := by
  rw [byt_lt (by rw [quest_size]; omega), ByteArray.getElem_append_right (Nat.le_refl _)]
  simp
  rfl

set_option maxRecDepth 100000 in
set_option maxHeartbeats 2000000 in
theorem lawKept_any (a : Option Addr) (n cap : Nat) (Sx : Nat → ByteArray) (W : World) (hg : ErrT W) (hn : n ≤ 140737488351232) (hc : ∀ i, i < n → ∃ ad, a = some ad ∧ ad.block < W.heap.size ∧ W.cell? (ad.add i) = some (.string (Sx i))) (hs : ∀ i, i < n → (Sx i).size ≤ 140737488351232) :
    Calls Tryz.prog 8 #[.slice a n cap] W fun e w' => e = .returned (.bool true) ∧ Below W.heap.size W w' := by
  have HG := hidV hg
  have HC := hidV hc
  have HS := hidV hs
  have hB : 0 < W.heap.size := hg.lt
  clear hg hc hs
  go_enter Tryz.func8, Tryz.ntmps8
  go_wp2_with fail
  refine (begun_any W HG.out).mono ?_
  rintro e w1 ⟨sx, mx, rfl, s1, f1⟩
  have HS1 := hidV (And.intro s1 f1)
  clear s1 f1
  go_wp2_with fail
  refine (begun_any w1 (HG.out.fr HS1.out.2 (by simp))).mono ?_
  rintro e w2 ⟨sy, my, rfl, s2, f2⟩
  have HS2 : Hid (Sess W.heap.size w2 [my, mx] sx mx st1 ∧ Sess W.heap.size w2 [mx, my] sy my st1 ∧ Fr [] W w2 ∧ mx ≠ my) := by
    have q1 := HS1.out.1.fr f2
    have q2 := s2.low HS1.out.2.size
    obtain ⟨es, clock, hk⟩ := q2.ps.nm.blk
    obtain ⟨es', clock', hk'⟩ := q1.ps.nm.blk
    exact ⟨q1.more hk q2.lo, q2.more hk' q1.lo, HS1.out.2.trans f2 (by simp), fun q => by have h1 := HS1.out.1.ps.nm.lt; have h2 := s2.lo; omega⟩
  clear s2 f2 HS1
  go_wp2_with fail
  refine (kshown_any HS2.out.1 hB _ _ kX1 kZ1 st2 _ (by rfl) (by rfl) (by decide) ln_setY ln_showY (by rfl)).mono ?_
  rintro e w3 ⟨rfl, s3, f3⟩
  have HS3 : Hid (Sess W.heap.size w3 [my, mx] sx mx st2 ∧ Sess W.heap.size w3 [mx, my] sy my st1 ∧ Fr [] W w3) := ⟨s3, HS2.out.2.1.frs hB f3 (by intro x hx; simp at hx; subst hx; exact ⟨by simp, HS2.out.2.2.2⟩), HS2.out.2.2.1.trans f3 (by simp; exact HS2.out.1.lo)⟩
  clear s3 f3
  go_wp2_with fail
  refine (kshown_any HS3.out.2.1 hB _ _ kX1 kZ1 st2 _ (by rfl) (by rfl) (by decide) ln_setY ln_showY (by rfl)).mono ?_
  rintro e w4 ⟨rfl, s4, f4⟩
  have HS4 : Hid (Sess W.heap.size w4 [my, mx] sx mx st2 ∧ Sess W.heap.size w4 [mx, my] sy my st2 ∧ Fr [] W w4) := ⟨HS3.out.1.frs hB f4 (by intro x hx; simp at hx; subst hx; exact ⟨by simp, fun q => HS2.out.2.2.2 q.symm⟩), s4, HS3.out.2.2.trans f4 (by simp; exact HS3.out.2.1.lo)⟩
  have HNE := hidV HS2.out.2.2.2
  clear s4 f4 HS3 HS2
  go_wp2
  go_loopg [7] n (fun gm v7 wr => ∃ i : Nat, ∃ st : Nat → Mng, gm = n - i ∧ i ≤ n ∧ v7 = .int .i64 i ∧ Hid (Sess W.heap.size wr [my, mx] sx mx st ∧ Sess W.heap.size wr [mx, my] sy my st ∧ Fr [] W wr))
  case atStart => exact ⟨0, st2, rfl, by omega, rfl, HS4⟩
  case round =>
    obtain ⟨i, st, hgm, hi, rfl, HD⟩ := hrel
    clear HS4
    by_cases hin : i < n
    · obtain ⟨ad, rfl, hbl, hcell⟩ := HC.out i hin
      have hsz := HS.out i hin
      have i0 : (0 : Int) ≤ (i : Int) := by omega
      have i1 : (i : Int) < (n : Int) := by omega
      obtain ⟨s, HSS⟩ : ∃ s, Hid (Sx i = s) := ⟨_, hidV rfl⟩
      rw [HSS.out] at hcell hsz
      have hcr : wr.cell? (ad.add i) = some (.string s) := by rw [HD.out.2.2.old (by rw [add_block]; exact hbl)]; exact hcell
      obtain ⟨R, HR⟩ : ∃ R, Hid (lnA st s = R) := ⟨_, hidV rfl⟩
      have HX := hidV (HD.out.1.doesA hB s (by omega))
      rw [HR.out] at HX
      go_wp2_with fail
      refine HX.out.mono ?_
      rintro e w5 ⟨rfl, s5, f5⟩
      have HS5 : Hid (Sess W.heap.size w5 [my, mx] sx mx R.st ∧ Sess W.heap.size w5 [mx, my] sy my st ∧ Fr [] W w5) := ⟨s5, HD.out.2.1.frs hB f5 (by intro x hx; simp at hx; subst hx; exact ⟨by simp, HNE.out⟩), HD.out.2.2.trans f5 (by simp; exact HD.out.1.lo)⟩
      have hc5 : w5.cell? (ad.add i) = some (.string s) := by rw [HS5.out.2.2.old (by rw [add_block]; exact hbl)]; exact hcell
      have HY := hidV (HS5.out.2.1.doesA hB s (by omega))
      rw [HR.out] at HY
      clear s5 f5 HX HD hcr
      go_wp2_with fail
      refine HY.out.mono ?_
      rintro e w6 ⟨rfl, s6, f6⟩
      have HS6 : Hid (Sess W.heap.size w6 [my, mx] sx mx R.st ∧ Sess W.heap.size w6 [mx, my] sy my R.st ∧ Fr [] W w6) := ⟨HS5.out.1.frs hB f6 (by intro x hx; simp at hx; subst hx; exact ⟨by simp, fun q => HNE.out q.symm⟩), s6, HS5.out.2.2.trans f6 (by simp; exact HS5.out.2.1.lo)⟩
      have hc6 : w6.cell? (ad.add i) = some (.string s) := by rw [HS6.out.2.2.old (by rw [add_block]; exact hbl)]; exact hcell
      have hadd := fun (w' : World) => run_string_add_sum (P := Tryz.prog) (w := w') s ⟨#[63]⟩ (by have e1 : (⟨#[63]⟩ : ByteArray).size = 1 := rfl; omega)
      have HQ := hidV (lnA_quest (quest_size s) (quest_byt s) R.st)
      have HZ := hidV (HS6.out.2.1.doesA hB (s ++ ⟨#[63]⟩) (by rw [quest_size]; omega))
      obtain ⟨Q, HQQ⟩ : ∃ Q, Hid (lnA R.st (s ++ ⟨#[63]⟩) = Q) := ⟨_, hidV rfl⟩
      rw [HQQ.out] at HQ HZ
      obtain ⟨q1, q2, q3, q4⟩ := HQ.out
      rw [q2, q4, bs_nil] at HZ
      clear s6 f6 HY HS5 hc5 q2 q4 HQ
      generalize s ++ ⟨#[63]⟩ = s' at *
      go_wp2_with fail
      refine HZ.out.mono ?_
      rintro e w7 ⟨rfl, s7, f7⟩
      have HS7 : Hid (Sess W.heap.size w7 [my, mx] sx mx R.st ∧ Sess W.heap.size w7 [mx, my] sy my R.st ∧ Fr [] W w7) := ⟨HS6.out.1.frs hB f7 (by intro x hx; simp at hx; subst hx; exact ⟨by simp, fun q => HNE.out q.symm⟩), s7, HS6.out.2.2.trans f7 (by simp; exact HS6.out.2.1.lo)⟩
      have hc7 : w7.cell? (ad.add i) = some (.string s) := by rw [HS7.out.2.2.old (by rw [add_block]; exact hbl)]; exact hcell
      have n1 : ((Q.e : Int) == 0) = false := by rw [beq_eq_false_iff_ne]; omega
      have n2 : ¬ ((Q.bad : Int) < 0) := by omega
      have n3 : ¬ s.size < Q.bad := by omega
      clear s7 f7 HZ HS6 hc6
      go_wp2
      go_roundg (n - (i + 1))
      case measure => omega
      case rel => exact ⟨i + 1, R.st, rfl, by omega, by go_num, HS7⟩
    · have i1 : ¬ (i : Int) < (n : Int) := by omega
      go_wp2
      go_ret
      exact ⟨rfl, HD.out.2.2.below (Nat.le_refl _) (by simp)⟩
end Go.Proofs.YthlmgpllapccfaaGreatDoor
/- WHAT THE ROWS' CONDITION GIVES A WALK: errors.errorType's cell; a world that meets it. -/
namespace Go.Proofs.YthlmgpllapccfaaGreatDoor
open Go.ChangeShapes Go.WideShapes Go.RowKit

theorem Tryz.own : ownKnob Tryz.prog.godebug = none := by kernel_rfl
theorem Tryz.et : Tryz.prog.globalNamed "errors.errorType" = some 0 := by kernel_rfl
theorem Tryz.rt : (Tryz.prog.cutTypes.find? (·.1 == "internal/reflectlite.rtype")).map (·.2) = some 195 := by kernel_rfl
theorem Tryz.oneRow : ((List.range Tryz.prog.types.size).filter fun t => Tryz.prog.rowNamed t [101, 114, 114, 111, 114]) = [127] := by kernel_rfl
theorem Tryz.hand : typeHandle Tryz.prog 127 = .pointer (some ⟨5, 127, none⟩) := by kernel_rfl

theorem errT_of_handle {W : World} (h : handlesMet Tryz.prog [("errors.errorType", Rows.laid_errors_errorType)] W) : ErrT W := by
  obtain ⟨name, u, ty, e1, e2, e3, e4, e5⟩ := h _ (List.mem_singleton.2 rfl)
  have en : name = [101, 114, 114, 111, 114] := (Option.some.inj e1).symm
  subst en
  obtain rfl := Option.some.inj (Tryz.rt.symm.trans e2)
  have hm : ty ∈ (List.range Tryz.prog.types.size).filter fun t => Tryz.prog.rowNamed t [101, 114, 114, 111, 114] := List.mem_filter.2 ⟨List.mem_range.2 e3, e4⟩
  rw [Tryz.oneRow] at hm
  obtain rfl := List.mem_singleton.1 hm
  rw [Tryz.hand] at e5
  unfold ErrT
  simpa using World.var?_cell Tryz.et e5 0

/-- A world that meets the condition: the settled one, the variable's cell laid. -/
noncomputable def laidWorld (os : Os) : World :=
  let w0 := World.holding Tryz.prog os ⟨#[], #[], []⟩
  { w0 with heap := w0.heap.modify 0 fun
      | .cells _ t frozen => .cells #[.iface 195 (.agg #[.pointer (some ⟨5, 127, none⟩)])] t frozen
      | o => o }
end Go.Proofs.YthlmgpllapccfaaGreatDoor
/- WHAT THE GREAT SEAT's ROWS SHARE: the condition on errors.errorType, slices of numbers. -/
namespace Go.Proofs.YthlmgpllapccfaaGreatDoor
open Go.ChangeShapes Go.WideShapes Go.ChangeAt Go.RowKit
open Go.ChangeMaps (open_string shut_string)

theorem err_laid {W : World} (h : laidMetH Tryz.prog [("errors.errorType", Rows.laid_errors_errorType)] W) : ErrT W := by
  have h' : laidMet Tryz.prog [] W ∧ handlesMet Tryz.prog [("errors.errorType", Rows.laid_errors_errorType)] W := h
  exact errT_of_handle h'.2
theorem err_world (os : Os) (args : Array Value) : laidMetH Tryz.prog [("errors.errorType", Rows.laid_errors_errorType)] ((laidWorld os).forCall (fun _ _ => 0) ⟨#[], args, []⟩).memory :=
  laidMetH_of_parts (laidMet_nil _ _) (by kernel_rfl)

theorem wf_bd64 {n : Int} (h : (Lit.int .i64 n).wf = true) : -9223372036854775808 ≤ n ∧ n ≤ 9223372036854775807 := by
  simp only [Lit.wf, Bool.and_eq_true, decide_eq_true_eq] at h
  exact ⟨h.1, h.2⟩

theorem text_of {H : Type} {enc : TypeId × Value → H} {W : World} {a : Option Addr} {len cap : Nat} {d : DataW H} {ps : List MemPlace} (h : DataW.Trod enc Tryz.prog W 0 (fun _ => true) true 43 (.slice a len cap) d ps) (hlt : ∀ y ∈ ps, y.block < W.heap.size) :
    ∃ xs : List Int, ∀ w', Below W.heap.size W w' → Calls Tryz.prog 21 #[.slice a len cap, .int .i64 4] w' fun e w'' => e = .returned (.string (bs (kX xs))) ∧ Below w'.heap.size w' w'' := by
  obtain ⟨fuel, hf⟩ := h
  rcases open_ints Tryz.underlying43 Tryz.underlying3 (by kernel_rfl) hf with ⟨hcs, _⟩ | ⟨ad, len', cap', zs, hcs, _, hl, hm, hz, hx, hcell, hwz⟩
  · simp [Value.cells] at hcs
    obtain ⟨rfl, rfl, rfl⟩ := hcs
    exact ⟨[], fun w' _ => ktext_nil _ _ w'⟩
  · simp [Value.cells] at hcs
    obtain ⟨rfl, rfl, rfl⟩ := hcs
    simp only [if_true] at hz
    by_cases h0 : len = 0
    · subst h0
      exact ⟨[], fun w' _ => ktext_nil _ _ w'⟩
    · have hlen : (zs.take len).length = len := by rw [List.length_take]; omega
      have hblk : ad.block < W.heap.size := by
        simp only [Prod.mk.injEq] at hx
        refine hlt (.cell ad.block ad.off) ?_
        rw [hx.2]
        simp [MemPlace.row]
        omega
      refine ⟨zs.take len, fun w' hb => ?_⟩
      have k := ktext_some (zs.take len) ad cap w' (by omega) (fun j x hj => ?_) (Nat.lt_of_lt_of_le hblk hb.size) (by unfold maxLen at hm; omega)
      · rw [hlen] at k; exact k
      · rw [List.getElem?_take] at hj
        split at hj
        · have hj' : j < zs.length := by omega
          have e : zs.getD j 0 = x := by rw [List.getD_eq_getElem?_getD, hj]; rfl
          have hc := hcell j hj'
          rw [e] at hc
          refine ⟨?_, wf_bd64 (hwz x (List.mem_of_getElem? hj))⟩
          rw [← hc]
          exact World.cell?_of_block (by rw [add_block]; exact hb.block _ hblk)
        · cases hj
end Go.Proofs.YthlmgpllapccfaaGreatDoor
/- KEPT: THE ROW, AND THE TIED CARD. -/
namespace Go.Proofs.YthlmgpllapccfaaGreatDoor
open Go.ChangeShapes Go.WideShapes Go.ChangeAt Go.RowKit
open Go.ChangeMaps (open_string shut_string)

theorem mem_weightsA {H : Type} {P : Program} {e : TypeId} {d : DataW H} {x : Nat} (hx : x ∈ d.weights P e) : ∀ {l : List (DataW H)}, d ∈ l → x ∈ DataW.weightsAll P e l
  | [], h => by simp at h
  | y :: l, h => by
    rw [DataW.weightsAll, List.mem_append]
    rcases List.mem_cons.1 h with h | h
    · subst h; exact Or.inl hx
    · exact Or.inr (mem_weightsA hx h)
theorem bytes_str : Tryz.prog.bytesOf 9 = 16 := by kernel_rfl
/-- Lines as they lie in memory. -/
theorem lines_of {H : Type} {enc : TypeId × Value → H} {W : World} {a : Option Addr} {len cap : Nat} {d : DataW H} {ps : List MemPlace} (h : DataW.Trod enc Tryz.prog W 0 (fun _ => true) true 52 (.slice a len cap) d ps) (hlt : ∀ y ∈ ps, y.block < W.heap.size) (hsz : (d.weights Tryz.prog 52).all (· ≤ reachBytes) = true) :
    ∃ Sx : Nat → ByteArray, len ≤ 140737488351232 ∧ (∀ i, i < len → ∃ ad, a = some ad ∧ ad.block < W.heap.size ∧ W.cell? (ad.add i) = some (.string (Sx i))) ∧ ∀ i, i < len → (Sx i).size ≤ 140737488351232 := by
  obtain ⟨fuel, hf⟩ := h
  rcases Go.Deep.open_strs Tryz.underlying52 Tryz.underlying9 (by kernel_rfl) hf with ⟨hcs, _⟩ | ⟨ad, len', cap', m, Sx, hcs, _, hl, hm, hmm, hx, hcell⟩
  · simp [Value.cells] at hcs
    obtain ⟨rfl, rfl, rfl⟩ := hcs
    exact ⟨fun _ => ⟨#[]⟩, by omega, fun i hi => by omega, fun i hi => by omega⟩
  · simp [Value.cells] at hcs
    obtain ⟨rfl, rfl, rfl⟩ := hcs
    simp only [if_true] at hmm
    simp only [Prod.mk.injEq] at hx
    obtain ⟨hd, hp⟩ := hx
    have hw : ∀ x, x ∈ d.weights Tryz.prog 52 → x ≤ reachBytes := fun x hxm => by simpa using (List.all_eq_true.1 hsz) x hxm
    have hwe : d.weights Tryz.prog 52 = (((List.range len).map fun i => DataW.lit (H := H) (.string (Sx i).data.toList)).length + ((List.range (m - len)).map fun j => DataW.lit (H := H) (.string (Sx (len + j)).data.toList)).length) * Tryz.prog.bytesOf 9 :: (DataW.weightsAll Tryz.prog 9 ((List.range len).map fun i => DataW.lit (H := H) (.string (Sx i).data.toList)) ++ DataW.weightsAll Tryz.prog 9 ((List.range (m - len)).map fun j => DataW.lit (H := H) (.string (Sx (len + j)).data.toList))) := by
      rw [hd, DataW.weights, Tryz.underlying52]
    refine ⟨Sx, ?_, fun i hi => ⟨ad, rfl, ?_, (hcell i (by omega)).1⟩, fun i hi => ?_⟩
    · have h1 := hw _ (by rw [hwe]; exact List.mem_cons_self)
      rw [bytes_str] at h1
      simp only [List.length_map, List.length_range] at h1
      unfold reachBytes at h1
      omega
    · refine hlt (.cell ad.block ad.off) ?_
      rw [hp]
      simp [MemPlace.row]
      omega
    · have hmem : (Sx i).data.toList.length ∈ (DataW.lit (H := H) (.string (Sx i).data.toList)).weights Tryz.prog 9 := by
        simp [DataW.weights]
      have hle := hw _ (by
        rw [hwe]
        refine List.mem_cons_of_mem _ (List.mem_append.2 (Or.inl (mem_weightsA hmem ?_)))
        exact List.mem_map.2 ⟨i, List.mem_range.2 hi, rfl⟩)
      have es : (Sx i).data.toList.length = (Sx i).size := by simp
      rw [es] at hle
      exact hle

set_option maxRecDepth 100000 in
theorem kept_lifted (os : Os) (started : os.Started) (H : Type) (enc : TypeId × Value → H) :
    ReturnsInHanded {} Tryz.checked os 8 .any (fun w args => (Rows.keptSpec.pre enc Tryz.prog Tryz.f8 [] false w args ∧ laidMetH Tryz.prog [("errors.errorType", Rows.laid_errors_errorType)] w) ∧ sizedMet enc Tryz.prog Tryz.f8 (OpenSpec.ofChange Rows.keptSpec) false w args)
      (Rows.keptSpec.post enc Tryz.prog Tryz.f8 false true false false) := by
  refine returnsInHanded_of_change_and (C := Tryz.checked) (X := fun w _ => laidMetH Tryz.prog [("errors.errorType", Rows.laid_errors_errorType)] w) (fun _ _ _ hh h => h.of_heap hh) Tryz.own started (by kernel_rfl) Tryz.func8
    (ChangeSpec.witness_at (enc := enc) (C := Tryz.checked) (os := os) (X := fun w _ => laidMetH Tryz.prog [("errors.errorType", Rows.laid_errors_errorType)] w) false (laidWorld os) #[.slice none 0 0] 8 rfl (by kernel_rfl) (by kernel_rfl) (by kernel_rfl) (by kernel_rfl) (by kernel_rfl) (err_world os _)) ?_
  intro W base args ds gs before hval0 hW _ hsz0 hL _
  have hval : ∀ (j : Nat) t v, Tryz.f8.params[j]? = some t → args[j]? = some v → Value.okWide Tryz.prog W .any base t v := hval0
  have hsz : (DataW.weightsEach Tryz.prog (Tryz.f8.params.toList ++ Rows.keptSpec.plain.varTypes Tryz.prog) (ds ++ gs)).all (· ≤ reachBytes) = true := hsz0
  have hW' := hW
  obtain ⟨p, q, hA0, hV0, rfl, hfz, hnd⟩ := hW
  have hA : DataW.TrodAll enc Tryz.prog W 0 (fun _ => true) true Tryz.f8.params.toList args.toList ds p := hA0
  have hV : DataW.TrodVars enc Tryz.prog W (fun _ => true) [] gs q := hV0
  rw [Tryz.params8] at hA hval hsz
  obtain ⟨v0, d0, rfl, rfl, h0⟩ := trodAll_one hA
  obtain ⟨a0, len0, cap0, rfl⟩ := okWide_slice Tryz.underlying52 (hval 0 52 v0 rfl rfl)
  have hg := err_laid hL
  obtain ⟨rfl, rfl⟩ : gs = [] ∧ q = [] := by
    cases gs with
    | nil => exact ⟨rfl, hV⟩
    | cons g r => exact absurd hV (by intro h; cases h)
  have hlt : ∀ y ∈ p ++ [], y.block < W.heap.size := fun y hy => hW'.lt y (by simpa using hy)
  have args0 : ∀ (W' : World), Below W.heap.size W W' → DataW.Trod enc Tryz.prog W' 0 (fun b => decide (b < W.heap.size)) true 52 (.slice a0 len0 cap0) d0 p :=
    fun W' hn => Below.trod (by kernel_rfl) (by kernel_rfl) (of_decide_eq_true (by kernel_rfl)) h0 hn (fun y hy => hlt y (by simp [hy]))
  have hsz1 : (d0.weights Tryz.prog 52).all (· ≤ reachBytes) = true := by
    simpa [DataW.weightsEach] using hsz
  obtain ⟨Sx, k1, k2, k3⟩ := lines_of h0 (fun y hy => hlt y (by simp [hy])) hsz1
  clear hA0 hval0 hsz0
  refine (lawKept_any a0 len0 cap0 Sx W hg k1 k2 k3).mono fun e W' ⟨he, hw⟩ => ?_
  subst he
  refine ⟨_, rfl, _, _, _, [], p, [], hW', ?_, ?_, ?_, hw.frame _, fun h => by cases h⟩
  · exact trodAll_mk1 (shut_bool Tryz.underlying4 true)
  · exact trodAll_mk1 (args0 _ hw)
  · rfl

theorem kept_holds : Rows.KeptSaid :=
  OpenClaim.holds_of_wide 8 Tryz.f8 rfl rfl rfl rfl rfl rfl rfl ⟨rfl, rfl, rfl, rfl, rfl⟩ rfl rfl rfl rfl rfl (by kernel_rfl) Tryz.func8 (by kernel_rfl)
    (of_decide_eq_true (by kernel_rfl)) (by unfold Func.isWrapper; rw [if_neg (of_decide_eq_false (by kernel_rfl))]; exact ⟨rfl, rfl⟩)
    (fun os started H enc _ => kept_lifted os started H enc)

theorem kept_card : Rows.KeptCardSaid :=
  Claim7.holds_tied_plain_at .later [] [.handle] true (true, "96a46c333c484247801d0ce534cef77f3d94ac4f4b7b00cca2ade548cce1501e") true
    kept_holds (fun _ h => by cases h) (by kernel_rfl) (fun _ h => by cases h) kept_row_tie rfl ⟨rfl, rfl⟩ (by kernel_rfl) rfl
    (fun f fn hf hfn => by
      obtain rfl : f = 8 := Option.some.inj ((show Tryz.prog.funcNamed "segments/segmentskeep.Kept" = some 8 by kernel_rfl).symm.trans hf) |>.symm
      obtain rfl : fn = Tryz.f8 := (Option.some.inj (Tryz.func8.symm.trans hfn)).symm
      exact ⟨by kernel_rfl, fun j t ht => by
        rw [Tryz.params8] at ht
        rcases j with _ | j
        · obtain rfl : t = 52 := by simpa using ht.symm
          exact (show Tryz.prog.wantsStandIn 52 = false by kernel_rfl)
        · simp at ht⟩)
    (by kernel_rfl)
end Go.Proofs.YthlmgpllapccfaaGreatDoor
