import Derived.Test.YthlmgpllapccfaaGreatDoorPack10
import Derived.KernelRfl
/- THE LAWS OF SESSIONS: several sessions in memory. -/
namespace Go.Proofs.YthlmgpllapccfaaGreatDoor
open Go.RowKit

/-- A pair of sessions: the program's block, its map, the document's desk. -/
structure Pr where
  b : Nat
  bm : Nat
  bd : Nat
def prV : Option Pr → List Value
  | none => [.pointer none, .pointer none]
  | some p => [.pointer (some ⟨p.b, 0, none⟩), .pointer (some ⟨p.bd, 0, none⟩)]
def prL (L : List (Option Pr)) : List Value := (L.map prV).flatten
theorem prV_len (p : Option Pr) : (prV p).length = 2 := by cases p <;> rfl
theorem prL_len : ∀ L : List (Option Pr), (prL L).length = L.length * 2
  | [] => rfl
  | p :: L => by
    have e : prL (p :: L) = prV p ++ prL L := by simp [prL]
    rw [e, List.length_append, prV_len, prL_len L, List.length_cons]; omega
theorem prL_snoc (L : List (Option Pr)) (p : Option Pr) : prL (L ++ [p]) = prL L ++ prV p := by simp [prL]
theorem prL_get : ∀ (L : List (Option Pr)) {k j : Nat} {p : Option Pr}, L[k]? = some p → j < 2 → (prL L)[k * 2 + j]? = (prV p)[j]?
  | [], k, j, p, h, _ => by simp at h
  | q :: L, k, j, p, h, hj => by
    have e : prL (q :: L) = prV q ++ prL L := by simp [prL]
    rw [e]
    have hq := prV_len q
    cases k with
    | zero =>
      simp at h; subst h
      rw [List.getElem?_append_left (by omega), Nat.zero_mul, Nat.zero_add]
    | succ k =>
      rw [List.getElem?_append_right (by omega), hq, show (k + 1) * 2 + j - 2 = k * 2 + j by omega]
      exact prL_get L (by simpa using h) hj

/-- All sessions in memory; M: the blocks that may be written, none of them below B. -/
structure SI (B : Nat) (w : World) (M : List Nat) (S : Nat → Nat → Mng) (L : List (Option Pr)) : Prop where
  one : ∀ p, some p ∈ L → Blk w p.b #[.map (some p.bm)] 71 ∧ Nm w M p.bm (S p.bm) ∧ Dk w M p.bd (S p.bm) ∧ p.b ∉ M
  inj : ∀ p q, some p ∈ L → some q ∈ L → (p.bm = q.bm ↔ p.bd = q.bd)
  lo : ∀ x ∈ M, B ≤ x
  hi : ∀ x ∈ M, x < w.heap.size
theorem Dk.blk {w : World} {M : List Nat} {b : Nat} {st : Nat → Mng} (h : Dk w M b st) : ∃ cs : Array Value, w.heap[b]? = some (.cells cs 84 (0, 0)) := by
  obtain ⟨⟨cs, h1, _⟩, _⟩ := h; exact ⟨cs, h1⟩
theorem Nm.blk {w : World} {M : List Nat} {b : Nat} {st : Nat → Mng} (h : Nm w M b st) : ∃ es clock, w.heap[b]? = some (.map es clock) := by
  obtain ⟨⟨es, clock, h1, _⟩, _⟩ := h; exact ⟨es, clock, h1⟩
theorem SI.fr {B : Nat} {w w' : World} {M : List Nat} {S : Nat → Nat → Mng} {L : List (Option Pr)} (h : SI B w M S L) (hf : Fr [] w w') : SI B w' M S L :=
  ⟨fun p hp => by
    obtain ⟨h1, h2, h3, h4⟩ := h.one p hp
    exact ⟨h1.fr hf (by simp), h2.fr hf (by simp) (by simp), h3.fr hf (by simp) (by simp), h4⟩, h.inj, h.lo, fun x hx => Nat.lt_of_lt_of_le (h.hi x hx) hf.size⟩
/-- The row of the pairs has been written. -/
theorem SI.row {B g : Nat} {w w' : World} {M : List Nat} {S : Nat → Nat → Mng} {L : List (Option Pr)} (h : SI B w M S L) (hf : Fr [g] w w') (hg : g ∈ M) {cs : Array Value} (hgb : w.heap[g]? = some (.cells cs 62 (0, 0))) : SI B w' M S L :=
  ⟨fun p hp => by
    obtain ⟨h1, h2, h3, h4⟩ := h.one p hp
    obtain ⟨es, clock, hm⟩ := h2.blk
    obtain ⟨ds, hd⟩ := h3.blk
    refine ⟨h1.fr hf (by simp; exact fun q => h4 (q ▸ hg)), h2.fr hf (by simp; intro q; subst q; rw [hm] at hgb; simp at hgb) (by simp [hg]), h3.fr hf (by simp; intro q; subst q; rw [hd] at hgb; simp at hgb) (by simp [hg]), h4⟩, h.inj, h.lo, fun x hx => Nat.lt_of_lt_of_le (h.hi x hx) hf.size⟩
theorem SI.more {B x : Nat} {w : World} {M : List Nat} {S : Nat → Nat → Mng} {L : List (Option Pr)} (h : SI B w M S L) (hx : w.heap.size ≤ x) (w' : World) (hf : Fr [] w w') (hx2 : x < w'.heap.size) (hB : B ≤ x) : SI B w' (x :: M) S L :=
  ⟨fun p hp => by
    obtain ⟨h1, h2, h3, h4⟩ := h.one p hp
    refine ⟨h1.fr hf (by simp), (h2.more hx).fr hf (by simp) (by simp), (h3.more hx).fr hf (by simp) (by simp), fun q => ?_⟩
    rw [List.mem_cons] at q
    rcases q with q | q
    · have := h1.lt; omega
    · exact h4 q, h.inj, fun y hy => by rw [List.mem_cons] at hy; rcases hy with rfl | hy; exact hB; exact h.lo y hy, fun y hy => by
      rw [List.mem_cons] at hy
      rcases hy with rfl | hy
      · exact hx2
      · exact Nat.lt_of_lt_of_le (h.hi y hy) hf.size⟩
/-- A pair more. -/
theorem SI.none {B : Nat} {w : World} {M : List Nat} {S : Nat → Nat → Mng} {L : List (Option Pr)} (h : SI B w M S L) : SI B w M S (L ++ [none]) :=
  ⟨fun p hp => h.one p (by simpa using hp), fun p q hp hq => h.inj p q (by simpa using hp) (by simpa using hq), h.lo, h.hi⟩
/-- What a line has done to one pair. -/
theorem SI.did {B : Nat} {w w1 w2 : World} {M : List Nat} {S : Nat → Nat → Mng} {L : List (Option Pr)} {p : Pr} {st : Nat → Mng} (h : SI B w M S L) (hp : some p ∈ L) (h1 : Nm w1 M p.bm st) (f1 : Fr [p.bm] w w1) (h2 : Dk w2 M p.bd st) (f2 : Fr [p.bd] w1 w2) :
    SI B w2 M (fun k => if k = p.bm then st else S k) L := by
  obtain ⟨a1, a2, a3, a4⟩ := h.one p hp
  have hbm := a2.mem
  have hbd := a3.mem
  obtain ⟨es0, c0, hm0⟩ := a2.blk
  obtain ⟨es1, c1, hm1⟩ := h1.blk
  obtain ⟨ds0, hd0⟩ := a3.blk
  have hne : p.bd ≠ p.bm := fun q => by rw [q, hm0] at hd0; simp at hd0
  refine ⟨fun q hq => ?_, h.inj, h.lo, fun x hx => Nat.lt_of_lt_of_le (Nat.lt_of_lt_of_le (h.hi x hx) f1.size) f2.size⟩
  obtain ⟨b1, b2, b3, b4⟩ := h.one q hq
  obtain ⟨es, clock, hm⟩ := b2.blk
  obtain ⟨ds, hd⟩ := b3.blk
  have n1 : q.bm ≠ p.bd := fun e => by rw [e, hd0] at hm; simp at hm
  have n2 : q.bd ≠ p.bm := fun e => by rw [e, hm0] at hd; simp at hd
  have k1 : Blk w1 q.b #[.map (some q.bm)] 71 := b1.fr f1 (by simp; exact fun e => b4 (e ▸ hbm))
  refine ⟨k1.fr f2 (by simp; exact fun e => b4 (e ▸ hbd)), ?_, ?_, b4⟩
  · by_cases e : q.bm = p.bm
    · rw [if_pos e, e]
      exact h1.fr f2 (by simp; exact fun q => hne q.symm) (by simp [hbd])
    · rw [if_neg e]
      exact (b2.fr f1 (by simp; exact e) (by simp [hbm])).fr f2 (by simp; exact n1) (by simp [hbd])
  · by_cases e : q.bm = p.bm
    · rw [if_pos e, (h.inj q p hq hp).1 e]
      exact h2
    · rw [if_neg e]
      have e2 : q.bd ≠ p.bd := fun t => e ((h.inj q p hq hp).2 t)
      exact (b3.fr f1 (by simp; exact n2) (by simp [hbm])).fr f2 (by simp; exact e2) (by simp [hbd])
/-- A new pair. -/
theorem SI.new {B : Nat} {w w1 w2 : World} {M : List Nat} {S : Nat → Nat → Mng} {L : List (Option Pr)} {b bm : Nat} (h : SI B w M S L) (hB : B ≤ w.heap.size) (f1 : Fr [] w w1) (h1 : Blk w1 b #[.map (some bm)] 71) (h2 : Nm w1 [bm] bm (fun _ => .non)) (hb : w.heap.size ≤ b) (hbm : w.heap.size ≤ bm)
    (h3 : Dk w2 [w1.heap.size] w1.heap.size (fun _ => .non)) (f2 : Fr [] w1 w2) (hne : b ≠ bm) :
    SI B w2 (w1.heap.size :: bm :: M) (fun k => if k = bm then (fun _ => .non) else S k) (L ++ [some ⟨b, bm, w1.heap.size⟩]) := by
  have hl2 : w1.heap.size < w2.heap.size := h3.lt
  have hbm1 : bm < w1.heap.size := h2.lt
  have hs := f1.size
  have hSI : SI B w2 (w1.heap.size :: bm :: M) S L := by
    have k1 := h.more (x := bm) hbm w1 f1 hbm1 (by omega)
    exact k1.more (x := w1.heap.size) (Nat.le_refl _) w2 f2 hl2 (by omega)
  refine ⟨fun p hp => ?_, fun p q hp hq => ?_, hSI.lo, hSI.hi⟩
  · rw [List.mem_append] at hp
    rcases hp with hp | hp
    · obtain ⟨a1, a2, a3, a4⟩ := hSI.one p hp
      have e : p.bm ≠ bm := fun q => by have := (h.one p hp).2.1.lt; omega
      rw [if_neg e]
      exact ⟨a1, a2, a3, a4⟩
    · simp at hp; subst hp
      dsimp only
      rw [if_pos rfl]
      refine ⟨h1.fr f2 (by simp), ?_, ?_, ?_⟩
      · obtain ⟨⟨es, clock, k1, k2, k3⟩, _⟩ := h2.fr f2 (by simp) (by simp)
        exact ⟨⟨es, clock, k1, k2, fun n hn => k3 n hn⟩, by simp⟩
      · obtain ⟨⟨cs, k1, k2, k3⟩, _⟩ := h3
        exact ⟨⟨cs, k1, k2, fun n hn => by obtain ⟨v, v1, v2⟩ := k3 n hn; exact ⟨v, v1, v2⟩⟩, by simp⟩
      · have := h1.lt
        simp only [List.mem_cons, not_or]
        exact ⟨by omega, hne, fun q => by have := h.hi b q; omega⟩
  · rw [List.mem_append] at hp hq
    rcases hp with hp | hp
    · rcases hq with hq | hq
      · exact h.inj p q hp hq
      · simp at hq; subst hq
        have a1 := (h.one p hp).2.1.lt
        have a2 := (h.one p hp).2.2.1.lt
        dsimp only
        constructor
        · intro e; omega
        · intro e; omega
    · simp at hp; subst hp
      rcases hq with hq | hq
      · have a1 := (h.one q hq).2.1.lt
        have a2 := (h.one q hq).2.2.1.lt
        dsimp only
        constructor
        · intro e; omega
        · intro e; omega
      · simp at hq; subst hq
        exact ⟨fun _ => rfl, fun _ => rfl⟩
end Go.Proofs.YthlmgpllapccfaaGreatDoor
/- PLAIN: the lines that the statements begin with. -/
namespace Go.Proofs.YthlmgpllapccfaaGreatDoor
open Go.RowKit

def bLet : List UInt8 := [108, 101, 116, 32, 65, 32, 61, 32, 120, 50, 45, 117, 44, 32, 117, 120, 45, 49]
def bSplit : List UInt8 := [115, 112, 108, 105, 116, 32, 65]
def bGcd : List UInt8 := [103, 99, 100, 32, 65, 32, 50]
def bRoots : List UInt8 := [114, 111, 111, 116, 115, 32, 65, 32, 50]
def bPrint : List UInt8 := [112, 114, 105, 110, 116, 32, 65]
def st1 : Nat → Mng := (lnR (fun _ => .non) (bs bLet)).st
def lnT (st : Nat → Mng) (l : List UInt8) : Nat × Nat × List UInt8 := ((lnR st (bs l)).e, (lnR st (bs l)).bad, (lnR st (bs l)).t)
theorem begun_let : lnT (fun _ => .non) bLet = (0, 0, []) := by kernel_rfl
theorem begun_split : lnT st1 bSplit = (0, 0, [48, 58, 32, 48, 32, 51, 32, 53, 32, 54, 59, 32, 49, 58, 32, 49, 32, 50, 32, 52]) := by kernel_rfl
theorem begun_gcd : lnT st1 bGcd = (0, 0, [120, 43, 51]) := by kernel_rfl
theorem begun_roots : lnT st1 bRoots = (0, 0, [52]) := by kernel_rfl
theorem begun_print : lnT st1 bPrint = (0, 0, [120, 50, 43, 54, 117, 44, 32, 117, 120, 43, 54]) := by kernel_rfl
end Go.Proofs.YthlmgpllapccfaaGreatDoor
/- THE STATEMENTS' OWN: says, begun. -/
namespace Go.Proofs.YthlmgpllapccfaaGreatDoor
open Go.RowKit

theorem wd_not {s : ByteArray} (h : oSets s = false) : wd s ≠ [115, 101, 116] ∧ wd s ≠ [115, 104, 111, 119] ∧ wd s ≠ [104, 97, 115] ∧ wd s ≠ [115, 117, 98] := by
  have hno : ¬ (wd s = [115, 101, 116] ∨ wd s = [115, 104, 111, 119] ∨ wd s = [104, 97, 115] ∨ wd s = [115, 117, 98]) := of_decide_eq_false h
  simp only [not_or] at hno
  exact hno
/-- Do at a line without sets whose outcome is known. -/
theorem pDo_to (s : ByteArray) (b bm : Nat) (Ms : List Nat) (st st' : Nat → Mng) (t : List UInt8) (w : World) (hP : Ps w Ms b bm st) (hM : ∀ x ∈ Ms, x < w.heap.size) (hg : ErrT w) (hm : s.size ≤ 140737488351232) (ho : oSets s = false) (hR : lnR st s = ⟨0, 0, t, st'⟩) :
    Calls Tryz.prog 16 #[.pointer (some ⟨b, 0, none⟩), .string s] w fun e w' => e = .returned (.tuple #[.string (bs t), .int .i64 0, .int .i64 0]) ∧ Ps w' Ms b bm st' ∧ Fr [bm] w w' := by
  obtain ⟨h1, h2, h3, h4⟩ := wd_not ho
  refine (pDo_any s b bm Ms st w hP hM hg hm h1 h2 h3 h4).mono ?_
  rw [hR]
  rintro e w1 ⟨rfl, q1, q2⟩
  refine ⟨rfl, ⟨hP.blk.fr q2 ?_, q1⟩, q2⟩
  simp
  intro q
  obtain ⟨es, clock, hb⟩ := hP.nm.blk
  have := hP.blk
  unfold Blk at this
  rw [q, hb] at this
  simp at this

set_option maxHeartbeats 1000000 in
theorem says_yes (s T : ByteArray) (b bm : Nat) (Ms : List Nat) (st st' : Nat → Mng) (t : List UInt8) (w : World) (hP : Ps w Ms b bm st) (hM : ∀ x ∈ Ms, x < w.heap.size) (hg : ErrT w) (hm : s.size ≤ 140737488351232) (ho : oSets s = false) (hR : lnR st s = ⟨0, 0, t, st'⟩) (hT : T = bs t) :
    Calls Tryz.prog 15 #[.pointer (some ⟨b, 0, none⟩), .string s, .string T] w fun e w' => e = .returned (.bool true) ∧ Ps w' Ms b bm st' ∧ Fr [bm] w w' := by
  have HD := hidV (pDo_to s b bm Ms st st' t w hP hM hg hm ho hR)
  rw [← hT] at HD
  clear hP hR hT ho
  go_enter Tryz.func15, Tryz.ntmps15
  go_wp2_with fail
  refine HD.out.mono ?_
  rintro e w1 ⟨rfl, q1, q2⟩
  go_wp2
  go_ret
  exact ⟨rfl, q1, q2⟩

theorem lnR_of {st : Nat → Mng} {l : List UInt8} {t : List UInt8} {st' : Nat → Mng} (h : lnT st l = (0, 0, t)) (hs : (lnR st (bs l)).st = st') : lnR st (bs l) = ⟨0, 0, t, st'⟩ := by
  unfold lnT at h
  simp only [Prod.mk.injEq] at h
  obtain ⟨h1, h2, h3⟩ := h
  cases hq : lnR st (bs l) with
  | mk e bad t2 st2 =>
    rw [hq] at h1 h2 h3 hs
    dsimp only at h1 h2 h3 hs
    rw [h1, h2, h3, hs]
theorem ask_st (st : Nat → Mng) (s : ByteArray) (h : wd s ≠ [108, 101, 116]) : (lnR st s).st = st := by
  unfold lnR
  split
  · rfl
  · split
    · rfl
    · first | rw [if_neg h] | skip
      unfold ans
      split <;> rfl
theorem ob_let : oSets (bs bLet) = false := by kernel_rfl
theorem ob_split : oSets (bs bSplit) = false ∧ wd (bs bSplit) = [115, 112, 108, 105, 116] := ⟨by kernel_rfl, by kernel_rfl⟩
theorem ob_gcd : oSets (bs bGcd) = false ∧ wd (bs bGcd) = [103, 99, 100] := ⟨by kernel_rfl, by kernel_rfl⟩
theorem ob_roots : oSets (bs bRoots) = false ∧ wd (bs bRoots) = [114, 111, 111, 116, 115] := ⟨by kernel_rfl, by kernel_rfl⟩
theorem ob_print : oSets (bs bPrint) = false ∧ wd (bs bPrint) = [112, 114, 105, 110, 116] := ⟨by kernel_rfl, by kernel_rfl⟩
theorem ln_let : lnR (fun _ => .non) (bs bLet) = ⟨0, 0, [], st1⟩ := lnR_of begun_let rfl
theorem ln_split : lnR st1 (bs bSplit) = ⟨0, 0, [48, 58, 32, 48, 32, 51, 32, 53, 32, 54, 59, 32, 49, 58, 32, 49, 32, 50, 32, 52], st1⟩ := lnR_of begun_split (ask_st _ _ (by rw [ob_split.2]; decide))
theorem ln_gcd : lnR st1 (bs bGcd) = ⟨0, 0, [120, 43, 51], st1⟩ := lnR_of begun_gcd (ask_st _ _ (by rw [ob_gcd.2]; decide))
theorem ln_roots : lnR st1 (bs bRoots) = ⟨0, 0, [52], st1⟩ := lnR_of begun_roots (ask_st _ _ (by rw [ob_roots.2]; decide))
theorem ln_print : lnR st1 (bs bPrint) = ⟨0, 0, [120, 50, 43, 54, 117, 44, 32, 117, 120, 43, 54], st1⟩ := lnR_of begun_print (ask_st _ _ (by rw [ob_print.2]; decide))

/-- A session that has begun, with blocks Ms that may be written without harm to it. -/
structure Sess (B : Nat) (w : World) (Ms : List Nat) (b bm : Nat) (st : Nat → Mng) : Prop where
  ps : Ps w Ms b bm st
  lo : B ≤ bm
  err : ErrT w
  hi : ∀ x ∈ Ms, x < w.heap.size ∧ B ≤ x
  nb : b ∉ Ms
theorem Sess.of {B : Nat} {w : World} {b bm : Nat} {st : Nat → Mng} (h : Ps w [bm] b bm st) (hl : B ≤ bm) (he : ErrT w) : Sess B w [bm] b bm st :=
  ⟨h, hl, he, by intro x hx; simp at hx; rw [hx]; exact ⟨h.nm.lt, hl⟩, fun q => by
    simp at q
    obtain ⟨es, clock, hb⟩ := h.nm.blk
    have := h.blk
    unfold Blk at this
    rw [q, hb] at this
    simp at this⟩
theorem Sess.frs {B : Nat} {w w' : World} {Ms bs : List Nat} {b bm : Nat} {st : Nat → Mng} (h : Sess B w Ms b bm st) (hB : 0 < B) (hf : Fr bs w w') (hs : ∀ x ∈ bs, x ∈ Ms ∧ x ≠ bm) : Sess B w' Ms b bm st :=
  ⟨⟨h.ps.blk.fr hf (fun q => h.nb (hs b q).1), h.ps.nm.fr hf (fun q => (hs bm q).2 rfl) (fun x hx => Or.inl (hs x hx).1)⟩, h.lo, h.err.fr hf (fun q => by have := (h.hi 0 (hs 0 q).1).2; omega), fun x hx => ⟨by have := (h.hi x hx).1; have := hf.size; omega, (h.hi x hx).2⟩, h.nb⟩
theorem Sess.fr {B : Nat} {w w' : World} {Ms : List Nat} {b bm : Nat} {st : Nat → Mng} (h : Sess B w Ms b bm st) (hf : Fr [] w w') : Sess B w' Ms b bm st :=
  ⟨⟨h.ps.blk.fr hf (by simp), h.ps.nm.fr hf (by simp) (by simp)⟩, h.lo, h.err.fr hf (by simp), fun x hx => ⟨by have := (h.hi x hx).1; have := hf.size; omega, (h.hi x hx).2⟩, h.nb⟩
theorem Sess.alloc {B : Nat} {w : World} {Ms : List Nat} {b bm : Nat} {st : Nat → Mng} (h : Sess B w Ms b bm st) (o : Obj) : Sess B (w.alloc o) (w.heap.size :: Ms) b bm st := by
  have hf : Fr [] w (w.alloc o) := (Fr.refl [] w).alloc o
  have h1 := h.lo
  have h2 := h.ps.nm.lt
  have h3 := h.ps.blk.lt
  refine ⟨⟨h.ps.blk.fr hf (by simp), (h.ps.nm.more (Nat.le_refl _)).fr hf (by simp) (by simp)⟩, h.lo, h.err.fr hf (by simp), fun x hx => ?_, fun q => ?_⟩
  · rcases List.mem_cons.1 hx with e | e
    · subst e; exact ⟨by simp, by omega⟩
    · have := h.hi x e; simp; omega
  · rcases List.mem_cons.1 q with e | e
    · omega
    · exact h.nb e
theorem Sess.less {B : Nat} {w : World} {Ms Ns : List Nat} {b bm : Nat} {st : Nat → Mng} (h : Sess B w Ms b bm st) (hs : ∀ x ∈ Ns, x ∈ Ms) (hm : bm ∈ Ns) : Sess B w Ns b bm st := by
  obtain ⟨⟨h1, ⟨⟨es, clock, k1, k2, k3⟩, k4⟩⟩, h2, h3, h4, h5⟩ := h
  exact ⟨⟨h1, ⟨⟨es, clock, k1, k2, fun n hn => (k3 n hn).less hs⟩, hm⟩⟩, h2, h3, fun x hx => h4 x (hs x hx), fun q => h5 (hs b q)⟩
theorem Sess.ne {B : Nat} {w : World} {Ms : List Nat} {b bm : Nat} {st : Nat → Mng} (h : Sess B w Ms b bm st) {k : Nat} {cs : Array Value} {t : TypeId} (hk : Blk w k cs t) : k ≠ bm := fun q => by
  obtain ⟨es, clock, hb⟩ := h.ps.nm.blk
  unfold Blk at hk
  rw [q, hb] at hk
  simp at hk
theorem Sess.says {B : Nat} {w : World} {Ms : List Nat} {b bm : Nat} {st : Nat → Mng} (h : Sess B w Ms b bm st) (hB : 0 < B) (s T : ByteArray) (st' : Nat → Mng) (t : List UInt8) (hm : s.size ≤ 140737488351232) (ho : oSets s = false) (hR : lnR st s = ⟨0, 0, t, st'⟩) (hT : T = bs t) :
    Calls Tryz.prog 15 #[.pointer (some ⟨b, 0, none⟩), .string s, .string T] w fun e w' => e = .returned (.bool true) ∧ Sess B w' Ms b bm st' ∧ Fr [bm] w w' :=
  (says_yes s T b bm Ms st st' t w h.ps (fun x hx => (h.hi x hx).1) h.err hm ho hR hT).mono (by
    rintro e w1 ⟨rfl, q1, q2⟩
    exact ⟨rfl, ⟨q1, h.lo, h.err.fr q2 (by simp; have := h.lo; omega), fun x hx => ⟨by have := (h.hi x hx).1; have := q2.size; omega, (h.hi x hx).2⟩, h.nb⟩, q2⟩)
theorem Sess.does {B : Nat} {w : World} {Ms : List Nat} {b bm : Nat} {st : Nat → Mng} (h : Sess B w Ms b bm st) (hB : 0 < B) (s : ByteArray) (st' : Nat → Mng) (t : List UInt8) (hm : s.size ≤ 140737488351232) (ho : oSets s = false) (hR : lnR st s = ⟨0, 0, t, st'⟩) :
    Calls Tryz.prog 16 #[.pointer (some ⟨b, 0, none⟩), .string s] w fun e w' => e = .returned (.tuple #[.string (bs t), .int .i64 0, .int .i64 0]) ∧ Sess B w' Ms b bm st' ∧ Fr [bm] w w' :=
  (pDo_to s b bm Ms st st' t w h.ps (fun x hx => (h.hi x hx).1) h.err hm ho hR).mono (by
    rintro e w1 ⟨rfl, q1, q2⟩
    exact ⟨rfl, ⟨q1, h.lo, h.err.fr q2 (by simp; have := h.lo; omega), fun x hx => ⟨by have := (h.hi x hx).1; have := q2.size; omega, (h.hi x hx).2⟩, h.nb⟩, q2⟩)

set_option maxRecDepth 100000 in
set_option maxHeartbeats 2000000 in
theorem begun_any (w : World) (hg : ErrT w) :
    Calls Tryz.prog 11 #[] w fun e w' => ∃ b bm, e = .returned (.pointer (some ⟨b, 0, none⟩)) ∧ Sess w.heap.size w' [bm] b bm st1 ∧ Fr [] w w' := by
  have HG := hidV hg
  have hB : 0 < w.heap.size := hg.lt
  clear hg
  go_enter Tryz.func11, Tryz.ntmps11
  go_wp2_with fail
  refine (pNew_any w).mono ?_
  rintro e w1 ⟨b, bm, rfl, h1, h2, h3, h4, h5⟩
  have HS1 : Hid (Sess w.heap.size w1 [bm] b bm (fun _ => .non) ∧ Fr [] w w1) := ⟨Sess.of ⟨h1, h2⟩ h4 (HG.out.fr h5 (by simp)), h5⟩
  have hbm := h4
  clear h1 h2 h3 h4 h5
  go_wp2_with fail
  refine (HS1.out.1.says hB (bs bLet) _ st1 [] (by decide) ob_let ln_let rfl).mono ?_
  rintro e w2 ⟨rfl, s2, f2⟩
  have HS2 : Hid (Sess w.heap.size w2 [bm] b bm st1 ∧ Fr [] w w2) := ⟨s2, HS1.out.2.trans f2 (by simp; exact hbm)⟩
  clear s2 f2
  go_wp2_with fail
  refine (HS2.out.1.says hB (bs bSplit) _ st1 _ (by decide) ob_split.1 ln_split rfl).mono ?_
  rintro e w3 ⟨rfl, s3, f3⟩
  have HS3 : Hid (Sess w.heap.size w3 [bm] b bm st1 ∧ Fr [] w w3) := ⟨s3, HS2.out.2.trans f3 (by simp; exact hbm)⟩
  clear s3 f3
  go_wp2_with fail
  refine (HS3.out.1.says hB (bs bGcd) _ st1 _ (by decide) ob_gcd.1 ln_gcd rfl).mono ?_
  rintro e w4 ⟨rfl, s4, f4⟩
  have HS4 : Hid (Sess w.heap.size w4 [bm] b bm st1 ∧ Fr [] w w4) := ⟨s4, HS3.out.2.trans f4 (by simp; exact hbm)⟩
  clear s4 f4
  go_wp2_with fail
  refine (HS4.out.1.says hB (bs bRoots) _ st1 _ (by decide) ob_roots.1 ln_roots rfl).mono ?_
  rintro e w5 ⟨rfl, s5, f5⟩
  have HS5 : Hid (Sess w.heap.size w5 [bm] b bm st1 ∧ Fr [] w w5) := ⟨s5, HS4.out.2.trans f5 (by simp; exact hbm)⟩
  clear s5 f5
  go_wp2_with fail
  refine (HS5.out.1.says hB (bs bPrint) _ st1 _ (by decide) ob_print.1 ln_print rfl).mono ?_
  rintro e w6 ⟨rfl, s6, f6⟩
  have HS6 : Hid (Sess w.heap.size w6 [bm] b bm st1 ∧ Fr [] w w6) := ⟨s6, HS5.out.2.trans f6 (by simp; exact hbm)⟩
  clear s6 f6
  go_wp2
  go_ret
  exact ⟨b, bm, rfl, HS6.out.1, HS6.out.2⟩
end Go.Proofs.YthlmgpllapccfaaGreatDoor
/- PLAIN: what is written is read back: tokens at a place of the text. -/
namespace Go.Proofs.YthlmgpllapccfaaGreatDoor

/-- From byte i on the text is R. -/
def Sfx (s : ByteArray) (i : Nat) (R : List UInt8) : Prop := s.data.toList.drop i = R ∧ i ≤ s.size
theorem Sfx.len {s : ByteArray} {i : Nat} {R : List UInt8} (h : Sfx s i R) : i + R.length = s.size := by
  have e := congrArg List.length h.1
  rw [List.length_drop] at e
  have : s.data.toList.length = s.size := by rw [Array.length_toList]; rfl
  have := h.2
  omega
theorem Sfx.cons {s : ByteArray} {i : Nat} {c : UInt8} {R : List UInt8} (h : Sfx s i (c :: R)) : byt s i = c.toNat ∧ Sfx s (i + 1) R := by
  have hl := h.len
  simp only [List.length_cons] at hl
  have hi : i < s.size := by omega
  have h1 := congrArg (fun l : List UInt8 => l[0]?) h.1
  have h2 := congrArg (fun l : List UInt8 => l.drop 1) h.1
  simp only [List.getElem?_drop, Nat.add_zero, List.getElem?_cons_zero] at h1
  simp only [List.drop_drop, List.drop_succ_cons, List.drop_zero] at h2
  refine ⟨?_, h2, by omega⟩
  rw [byt_lt hi]
  have : s.data.toList[i]? = some (s[i]'hi) := by
    rw [Array.getElem?_toList, Array.getElem?_eq_getElem hi]; rfl
  rw [this] at h1
  rw [Option.some.inj h1]
theorem Sfx.nil {s : ByteArray} {i : Nat} (h : Sfx s i []) : byt s i = 256 := by
  have hl := h.len
  simp only [List.length_nil] at hl
  exact byt_ge (by omega)
/-- No digit ahead. -/
def nd : List UInt8 → Prop
  | [] => True
  | c :: _ => ¬ (48 ≤ c.toNat ∧ c.toNat ≤ 57)
theorem Sfx.noD {s : ByteArray} {i : Nat} {R : List UInt8} (h : Sfx s i R) (hn : nd R) : isD s i = false := by
  cases R with
  | nil => have := h.nil; simp [isD, this]
  | cons c R =>
    have := h.cons.1
    unfold nd at hn
    simp only [isD, this, Bool.and_eq_false_iff, decide_eq_false_iff_not]
    omega
theorem tok_num {s : ByteArray} {i : Nat} {d : UInt8} {R : List UInt8} (h : Sfx s i (d :: R)) (h0 : 48 ≤ d.toNat) (h9 : d.toNat ≤ 57) (hn : nd R) : tok s i = ⟨1, i, i + 1, d.toNat - 48⟩ := by
  obtain ⟨hb, hs⟩ := h.cons
  have hd : isD s i = true := by rw [isD_iff]; omega
  unfold tok
  rw [skip_here (by omega)]
  unfold tokAt
  rw [if_neg (by omega), if_pos hd, hs.noD hn, if_neg (by simp), hb]
theorem tok_u1 {s : ByteArray} {i : Nat} {R : List UInt8} (h : Sfx s i (117 :: R)) (hn : nd R) : tok s i = ⟨2, i, i + 1, 1⟩ := by
  obtain ⟨hb, hs⟩ := h.cons
  have hb' : byt s i = 117 := hb
  have hd : ¬ isD s i = true := by rw [isD_iff]; omega
  unfold tok
  rw [skip_here (by omega)]
  unfold tokAt
  rw [if_neg (by omega), if_neg hd, if_pos hb', hs.noD hn, if_neg (by simp)]
theorem tok_u2 {s : ByteArray} {i : Nat} {d : UInt8} {R : List UInt8} (h : Sfx s i (117 :: d :: R)) (h0 : 48 ≤ d.toNat) (h9 : d.toNat ≤ 57) : tok s i = ⟨2, i, i + 2, d.toNat - 48⟩ := by
  obtain ⟨hb, hs⟩ := h.cons
  obtain ⟨hb2, _⟩ := hs.cons
  have hb' : byt s i = 117 := hb
  have hd : ¬ isD s i = true := by rw [isD_iff]; omega
  have hd2 : isD s (i + 1) = true := by rw [isD_iff]; omega
  unfold tok
  rw [skip_here (by omega)]
  unfold tokAt
  rw [if_neg (by omega), if_neg hd, if_pos hb', if_pos hd2, hb2]
theorem tok_x1 {s : ByteArray} {i : Nat} {R : List UInt8} (h : Sfx s i (120 :: R)) (hn : nd R) : tok s i = ⟨3, i, i + 1, 1⟩ := by
  obtain ⟨hb, hs⟩ := h.cons
  have hb' : byt s i = 120 := hb
  have hd : ¬ isD s i = true := by rw [isD_iff]; omega
  unfold tok
  rw [skip_here (by omega)]
  unfold tokAt
  rw [if_neg (by omega), if_neg hd, if_neg (by omega), if_pos hb', hs.noD hn, if_neg (by simp)]
theorem tok_x2 {s : ByteArray} {i : Nat} {d : UInt8} {R : List UInt8} (h : Sfx s i (120 :: d :: R)) (h0 : 48 ≤ d.toNat) (h9 : d.toNat ≤ 57) : tok s i = ⟨3, i, i + 2, d.toNat - 48⟩ := by
  obtain ⟨hb, hs⟩ := h.cons
  obtain ⟨hb2, _⟩ := hs.cons
  have hb' : byt s i = 120 := hb
  have hd : ¬ isD s i = true := by rw [isD_iff]; omega
  have hd2 : isD s (i + 1) = true := by rw [isD_iff]; omega
  unfold tok
  rw [skip_here (by omega)]
  unfold tokAt
  rw [if_neg (by omega), if_neg hd, if_neg (by omega), if_pos hb', if_pos hd2, hb2]
theorem tok_plus {s : ByteArray} {i : Nat} {R : List UInt8} (h : Sfx s i (43 :: R)) : tok s i = ⟨47, i, i + 1, 0⟩ := by
  obtain ⟨hb, hs⟩ := h.cons
  have hb' : byt s i = 43 := hb
  have hd : ¬ isD s i = true := by rw [isD_iff]; omega
  unfold tok
  rw [skip_here (by omega)]
  unfold tokAt
  rw [if_neg (by omega), if_neg hd, if_neg (by omega), if_neg (by omega), hb']
theorem tok_end {s : ByteArray} {i : Nat} (h : Sfx s i []) : tok s i = ⟨0, i, i, 0⟩ := by
  have hb := h.nil
  unfold tok
  rw [skip_here (by omega)]
  unfold tokAt
  rw [if_pos hb]

/-- Token k begins at i, where the text is R. -/
def TAt (s : ByteArray) (k i : Nat) (R : List UInt8) : Prop := pos s 0 k = i ∧ k ≤ i ∧ Sfx s i R
theorem TAt.next {s : ByteArray} {k i j : Nat} {R R' : List UInt8} {c a v : Nat} (h : TAt s k i R) (ht : tok s i = ⟨c, a, j, v⟩) (hj : i < j) (hs : Sfx s j R') : TAt s (k + 1) j R' := by
  refine ⟨?_, by have := h.2.1; omega, hs⟩
  show (tok s (pos s 0 k)).to = j
  rw [h.1, ht]
theorem TAt.tk {s : ByteArray} {k i : Nat} {R : List UInt8} (h : TAt s k i R) : tk s 0 k = tok s i := by unfold Go.Proofs.YthlmgpllapccfaaGreatDoor.tk; rw [h.1]
theorem dgt_nat {n : Nat} (h : n < 10) : (dgt n).toNat = 48 + n := by have := dgt_int h; omega
end Go.Proofs.YthlmgpllapccfaaGreatDoor
/- PLAIN: what is written is read back: powers, terms, the whole text. -/
namespace Go.Proofs.YthlmgpllapccfaaGreatDoor

/-- A term ends here. -/
def stp : List UInt8 → Prop
  | [] => True
  | c :: _ => c = 43
theorem stp_nd {R : List UInt8} (h : stp R) : nd R := by
  cases R with
  | nil => trivial
  | cons c R => unfold stp at h; subst h; exact (by decide : ¬ (48 ≤ (43 : UInt8).toNat ∧ (43 : UInt8).toNat ≤ 57))
theorem TAt.stp {s : ByteArray} {k i : Nat} {R : List UInt8} (h : TAt s k i R) (hs : stp R) : (Go.Proofs.YthlmgpllapccfaaGreatDoor.tk s 0 k).c ≠ 2 ∧ (Go.Proofs.YthlmgpllapccfaaGreatDoor.tk s 0 k).c ≠ 3 ∧ (Go.Proofs.YthlmgpllapccfaaGreatDoor.tk s 0 k).c ≠ 1 ∧ ((Go.Proofs.YthlmgpllapccfaaGreatDoor.tk s 0 k).c = 47 ↔ R ≠ []) ∧ (Go.Proofs.YthlmgpllapccfaaGreatDoor.tk s 0 k).c ≠ 49 ∧ ((Go.Proofs.YthlmgpllapccfaaGreatDoor.tk s 0 k).c = 0 ↔ R = []) := by
  rw [h.tk]
  cases R with
  | nil => rw [tok_end h.2.2]; simp
  | cons c R => unfold Go.Proofs.YthlmgpllapccfaaGreatDoor.stp at hs; subst hs; rw [tok_plus h.2.2]; simp
theorem nd_ptx {c : UInt8} {n : Nat} {R : List UInt8} (hc : ¬ (48 ≤ c.toNat ∧ c.toNat ≤ 57)) (h : nd R) : nd (ptx c n ++ R) := by
  unfold ptx
  split
  · exact h
  · split <;> exact hc
theorem pwx {s : ByteArray} {k i x u m : Nat} {R : List UInt8} (h : TAt s k i (ptx 120 x ++ R)) (hs : stp R) (hx : x ≤ 4) (hm : (ptx 120 x).length ≤ m) :
    ∃ k', pw (tk s 0) false m k u 0 = ⟨0, 0, k', u, x⟩ ∧ TAt s k' (i + (ptx 120 x).length) R := by
  unfold ptx at *
  by_cases h0 : x = 0
  · subst h0
    simp only [if_true, List.nil_append, List.length_nil, Nat.add_zero] at *
    obtain ⟨a, b, _⟩ := h.stp hs
    exact ⟨k, pw_end a b, h⟩
  · rw [if_neg h0] at *
    by_cases h1 : x = 1
    · subst h1
      simp only [if_true, List.cons_append, List.nil_append, List.length_cons, List.length_nil, Nat.zero_add] at *
      have ht := tok_x1 h.2.2 (stp_nd hs)
      have hn := h.next ht (by omega) h.2.2.cons.2
      obtain ⟨a, b, _⟩ := hn.stp hs
      refine ⟨k + 1, ?_, hn⟩
      rw [pw_x (by omega) (by rw [h.tk, ht]) (by rw [h.tk, ht]; omega), h.tk, ht]
      exact pw_end a b
    · rw [if_neg h1] at *
      simp only [List.cons_append, List.nil_append, List.length_cons, List.length_nil] at *
      have hd := dgt_nat (n := x) (by omega)
      have ht := tok_x2 h.2.2 (by omega) (by omega)
      have hn := h.next ht (by omega) h.2.2.cons.2.cons.2
      obtain ⟨a, b, _⟩ := hn.stp hs
      refine ⟨k + 1, ?_, hn⟩
      have e : (dgt x).toNat - 48 = x := by omega
      rw [e] at ht
      rw [pw_x (by omega) (by rw [h.tk, ht]) (by rw [h.tk, ht]; show 0 + x ≤ 4; omega), h.tk, ht]
      show pw (tk s 0) false (m - 1) (k + 1) u (0 + x) = _
      rw [Nat.zero_add]
      exact pw_end a b
theorem pwu {s : ByteArray} {k i u x m : Nat} {R : List UInt8} (h : TAt s k i (pws u x ++ R)) (hs : stp R) (hu : u ≤ 6) (hx : x ≤ 4) (hm : (pws u x).length ≤ m) :
    ∃ k', pw (tk s 0) false m k 0 0 = ⟨0, 0, k', u, x⟩ ∧ TAt s k' (i + (pws u x).length) R := by
  have hnx : nd (ptx 120 x ++ R) := nd_ptx (by decide) (stp_nd hs)
  unfold pws at *
  rw [List.append_assoc] at h
  rw [List.length_append] at *
  generalize hpx : ptx 120 x = P at *
  unfold ptx at h hm ⊢
  by_cases h0 : u = 0
  · subst h0
    simp only [if_true, List.nil_append, List.length_nil, Nat.zero_add] at *
    subst hpx
    exact pwx h hs hx hm
  · rw [if_neg h0] at *
    by_cases h1 : u = 1
    · subst h1
      simp only [if_true, List.cons_append, List.nil_append, List.length_cons, List.length_nil, Nat.zero_add] at *
      have ht := tok_u1 h.2.2 hnx
      have hn := h.next ht (by omega) h.2.2.cons.2
      subst hpx
      obtain ⟨k', e, ha⟩ := pwx (u := 1) (m := m - 1) hn hs hx (by omega)
      refine ⟨k', ?_, by rw [← Nat.add_assoc]; exact ha⟩
      rw [pw_u (by omega) (by rw [h.tk, ht]) (by rw [h.tk, ht]; omega), h.tk, ht]
      exact e
    · rw [if_neg h1] at *
      simp only [List.cons_append, List.nil_append, List.length_cons, List.length_nil] at *
      have hd := dgt_nat (n := u) (by omega)
      have ht := tok_u2 h.2.2 (by omega) (by omega)
      have hn := h.next ht (by omega) h.2.2.cons.2.cons.2
      have e' : (dgt u).toNat - 48 = u := by omega
      rw [e'] at ht
      subst hpx
      obtain ⟨k', e, ha⟩ := pwx (u := u) (m := m - 1) hn hs hx (by omega)
      refine ⟨k', ?_, by rw [← Nat.add_assoc]; exact ha⟩
      rw [pw_u (by omega) (by rw [h.tk, ht]) (by rw [h.tk, ht]; show 0 + u ≤ 6; omega), h.tk, ht]
      show pw (tk s 0) false (m - 1) (k + 1) (0 + u) 0 = _
      rw [Nat.zero_add]
      exact e
end Go.Proofs.YthlmgpllapccfaaGreatDoor
/- PLAIN: what is written is read back: terms, the whole text. -/
namespace Go.Proofs.YthlmgpllapccfaaGreatDoor

/-- The first token of powers. -/
theorem pws_first {s : ByteArray} {k i u x : Nat} {R : List UInt8} (h : TAt s k i (pws u x ++ R)) (hs : stp R) (hne : u ≠ 0 ∨ x ≠ 0) (hu : u ≤ 6) (hx : x ≤ 4) : (tk s 0 k).c = 2 ∨ (tk s 0 k).c = 3 := by
  have hnx : nd (ptx 120 x ++ R) := nd_ptx (by decide) (stp_nd hs)
  rw [h.tk]
  unfold pws at h
  rw [List.append_assoc] at h
  by_cases h0 : u = 0
  · subst h0
    have e : ptx 117 0 = [] := rfl
    rw [e, List.nil_append] at h
    by_cases h1 : x = 1
    · subst h1
      right; rw [tok_x1 h.2.2 (stp_nd hs)]
    · have e : ptx 120 x = [120, dgt x] := by unfold ptx; rw [if_neg (by omega), if_neg h1]
      rw [e] at h
      have hd := dgt_nat (n := x) (by omega)
      right; rw [tok_x2 h.2.2 (by omega) (by omega)]
  · by_cases h1 : u = 1
    · subst h1
      left; rw [tok_u1 h.2.2 hnx]
    · have e : ptx 117 u = [117, dgt u] := by unfold ptx; rw [if_neg (by omega), if_neg h1]
      rw [e] at h
      have hd := dgt_nat (n := u) (by omega)
      left; rw [tok_u2 h.2.2 (by omega) (by omega)]
theorem tm_read {s : ByteArray} {k i n u x N : Nat} {R : List UInt8} (h : TAt s k i (tmx n u x ++ R)) (hs : stp R) (hn : n < 7) (hu : u ≤ 6) (hx : x ≤ 4) (hN : (tmx n u x).length ≤ N - k) :
    ∃ k', tm (tk s 0) false N k = ⟨0, 0, k', n, u, x⟩ ∧ TAt s k' (i + (tmx n u x).length) R := by
  by_cases hc : n = 1 ∧ (u ≠ 0 ∨ x ≠ 0)
  · have e : tmx n u x = pws u x := by unfold tmx; rw [if_pos hc]
    rw [e] at h hN ⊢
    obtain ⟨k', e1, ha⟩ := pwu (m := N - k) h hs hu hx hN
    have hf := pws_first h hs hc.2 hu hx
    refine ⟨k', ?_, ha⟩
    unfold tm
    rw [if_neg (by omega), if_pos hf, e1, hc.1]
  · have e : tmx n u x = dgt n :: pws u x := by unfold tmx; rw [if_neg hc]
    rw [e] at h hN ⊢
    rw [List.cons_append] at h
    rw [List.length_cons] at hN ⊢
    have hd := dgt_nat (n := n) (by omega)
    have hnd : nd (pws u x ++ R) := by
      unfold pws; rw [List.append_assoc]
      exact nd_ptx (by decide) (nd_ptx (by decide) (stp_nd hs))
    have ht := tok_num h.2.2 (by omega) (by omega) hnd
    have hnx := h.next ht (by omega) h.2.2.cons.2
    obtain ⟨k', e1, ha⟩ := pwu (m := N - (k + 1)) hnx hs hu hx (by omega)
    refine ⟨k', ?_, by rw [show i + ((pws u x).length + 1) = i + 1 + (pws u x).length by omega]; exact ha⟩
    unfold tm
    have hc1 : (tk s 0 k).c = 1 := by rw [h.tk, ht]
    have hv : (tk s 0 k).v = n := by rw [h.tk, ht]; show (dgt n).toNat - 48 = n; omega
    rw [if_pos hc1, e1, hv]

def tm3 (t : Nat × Nat × Nat) : List UInt8 := tmx t.1 t.2.1 t.2.2
def add3 (q : List Nat) (t : Nat × Nat × Nat) : List Nat := plus q t.2.1 t.2.2 (1 * t.1)
def ok3 (t : Nat × Nat × Nat) : Prop := t.1 < 7 ∧ t.2.1 ≤ 6 ∧ t.2.2 ≤ 4
theorem pl_read {s : ByteArray} : ∀ (ts : List (Nat × Nat × Nat)) (q : List Nat) (m k i : Nat), ts ≠ [] → (∀ t ∈ ts, ok3 t) → TAt s k i (Lib.join (ts.map tm3) [43]) → s.size + 1 ≤ m + i →
    ∃ k', pl (tk s 0) false s.size m k 1 q = ⟨0, 0, k', ts.foldl add3 q⟩ ∧ TAt s k' s.size [] := by
  intro ts
  induction ts with
  | nil => intro q m k i h; exact absurd rfl h
  | cons t r ih =>
    intro q m k i _ hok h hm
    obtain ⟨h1, h2, h3⟩ := hok t (by simp)
    have hlen := h.2.2.len
    have hk := h.2.1
    obtain ⟨m, rfl⟩ : ∃ m', m = m' + 1 := ⟨m - 1, by omega⟩
    cases r with
    | nil =>
      have e : Lib.join ([t].map tm3) [43] = tmx t.1 t.2.1 t.2.2 ++ [] := by
        rw [List.append_nil]; exact Lib.join_one _ _
      rw [e] at h hlen
      rw [List.length_append] at hlen
      obtain ⟨k', e1, ha⟩ := tm_read (N := s.size) h trivial h1 h2 h3 (by simp only [List.length_nil] at hlen; omega)
      have hz := ha.stp trivial
      refine ⟨k', ?_, by simp only [List.length_nil] at hlen; rw [← hlen]; exact ha⟩
      rw [pl, e1]
      simp only [if_true]
      rw [if_neg (fun q => hz.2.2.2.1.1 q rfl), if_neg hz.2.2.2.2.1]
      rfl
    | cons t2 r2 =>
      have e : Lib.join ((t :: t2 :: r2).map tm3) [43] = tmx t.1 t.2.1 t.2.2 ++ (43 :: Lib.join ((t2 :: r2).map tm3) [43]) := by
        rw [List.map_cons, Lib.join_cons, List.map_cons, Lib.join_cons]
        simp [Lib.joinTail, tm3]
      rw [e] at h hlen
      rw [List.length_append, List.length_cons] at hlen
      obtain ⟨k', e1, ha⟩ := tm_read (N := s.size) h rfl h1 h2 h3 (by omega)
      have hp := ha.tk
      rw [tok_plus ha.2.2] at hp
      have hnx := ha.next (tok_plus ha.2.2) (by omega) ha.2.2.cons.2
      obtain ⟨k2, e2, hb⟩ := ih (plus q t.2.1 t.2.2 (1 * t.1)) m (k' + 1) _ (by simp) (fun y hy => hok y (by simp [hy])) hnx (by
        have : 0 < (tmx t.1 t.2.1 t.2.2).length := List.length_pos_iff.2 (tmx_ne _ _ _)
        omega)
      refine ⟨k2, ?_, hb⟩
      rw [pl, e1]
      simp only [if_true]
      rw [if_pos (by rw [hp]), e2]
      rfl

/-- The terms of p, from the top. -/
def trips (p : List Nat) : Nat → List (Nat × Nat × Nat)
  | 0 => []
  | k + 1 => if p.getD (34 - k) 0 = 0 then trips p k else trips p k ++ [(p.getD (34 - k) 0, (34 - k) % 7, (34 - k) / 7)]
theorem trips_tms (p : List Nat) : ∀ k, tms p k = (trips p k).map tm3
  | 0 => rfl
  | k + 1 => by
    unfold tms trips
    split
    · exact trips_tms p k
    · rw [trips_tms p k, List.map_append]; rfl
theorem trips_ok {p : List Nat} (hp : Good p) : ∀ k, ∀ t ∈ trips p k, ok3 t
  | 0, t, h => by simp [trips] at h
  | k + 1, t, h => by
    unfold trips at h
    split at h
    · exact trips_ok hp k t h
    · rw [List.mem_append] at h
      rcases h with h | h
      · exact trips_ok hp k t h
      · rw [List.mem_singleton] at h; subst h
        refine ⟨hp.2 _, ?_, ?_⟩ <;> simp only <;> omega
theorem getD_set (q : List Nat) (i j v : Nat) (h : i < q.length) : (q.set i v).getD j 0 = if i = j then v else q.getD j 0 := by
  simp only [List.getD_eq_getElem?_getD, List.getElem?_set]
  split
  · rfl
  · rfl
theorem trips_fold {p : List Nat} (hp : Good p) : ∀ k, k ≤ 35 → ((trips p k).foldl add3 zeros).length = 35 ∧ ∀ c, c < 35 → ((trips p k).foldl add3 zeros).getD c 0 = if 34 < c + k then p.getD c 0 else 0
  | 0, _ => by
    refine ⟨rfl, fun c hc => ?_⟩
    rw [if_neg (by omega)]
    show zeros.getD c 0 = 0
    unfold zeros; rw [List.getD_eq_getElem?_getD, List.getElem?_replicate]; split <;> rfl
  | k + 1, hk => by
    obtain ⟨ih1, ih2⟩ := trips_fold hp k (by omega)
    unfold trips
    split
    · rename_i h
      refine ⟨ih1, fun c hc => ?_⟩
      rw [ih2 c hc]
      by_cases hcc : c = 34 - k
      · subst hcc; rw [if_neg (by omega), if_pos (by omega), h]
      · by_cases h' : 34 < c + k
        · rw [if_pos h', if_pos (by omega)]
        · rw [if_neg h', if_neg (by omega)]
    · rw [List.foldl_append]
      simp only [List.foldl_cons, List.foldl_nil, add3, plus]
      generalize (trips p k).foldl add3 zeros = Q at *
      have hidx : 7 * ((34 - k) / 7) + (34 - k) % 7 = 34 - k := by omega
      rw [hidx]
      have h0 : Q.getD (34 - k) 0 = 0 := by rw [ih2 _ (by omega), if_neg (by omega)]
      have hv := hp.2 (34 - k)
      refine ⟨by rw [List.length_set]; exact ih1, fun c hc => ?_⟩
      rw [getD_set _ _ _ _ (by omega), h0]
      by_cases hcc : 34 - k = c
      · rw [if_pos hcc, if_pos (by omega), ← hcc]; omega
      · rw [if_neg hcc, ih2 c hc]
        by_cases h' : 34 < c + k
        · rw [if_pos h', if_pos (by omega)]
        · rw [if_neg h', if_neg (by omega)]
theorem trips_all {p : List Nat} (hp : Good p) : (trips p 35).foldl add3 zeros = p := by
  obtain ⟨h1, h2⟩ := trips_fold hp 35 (Nat.le_refl _)
  apply List.ext_getElem
  · rw [h1, hp.1]
  · intro c g1 g2
    have := h2 c (by omega)
    rw [if_pos (by omega), List.getD_eq_getElem?_getD, List.getD_eq_getElem?_getD, List.getElem?_eq_getElem g1, List.getElem?_eq_getElem g2] at this
    simpa using this

/-- WHAT IS WRITTEN IS READ BACK. -/
theorem round_trip {p : List Nat} (hp : Good p) (hl : (txt p).length ≤ 90) : rd (bs (txt p)) = ⟨0, 0, p⟩ := by
  by_cases hz : tms p 35 = []
  · rw [txt_zero p hz, (good_zeros hp).1 hz]
    kernel_rfl
  · have hsz : (bs (txt p)).size = (txt p).length := by rw [ByteArray.size]; simp [bs]
    have hts : trips p 35 ≠ [] := fun q => hz (by rw [trips_tms, q]; rfl)
    have hat : TAt (bs (txt p)) 0 0 (Lib.join ((trips p 35).map tm3) [43]) := by
      refine ⟨rfl, Nat.le_refl _, ?_, Nat.zero_le _⟩
      rw [← trips_tms, ← txt_join p hz]; rfl
    obtain ⟨k', e, ha⟩ := pl_read (trips p 35) zeros ((bs (txt p)).size + 1) 0 0 hts (trips_ok hp 35) hat (by omega)
    rw [trips_all hp] at e
    have hend := ha.stp trivial
    have h49 : (tk (bs (txt p)) 0 0).c ≠ 49 := by
      intro q
      have e4 : (tm (tk (bs (txt p)) 0) false (bs (txt p)).size 0).e = 4 := by unfold tm; rw [if_neg (by omega), if_neg (by omega)]
      have e5 : (pl (tk (bs (txt p)) 0) false (bs (txt p)).size ((bs (txt p)).size + 1) 0 1 zeros).e = 4 := by rw [pl, if_neg (by omega)]; exact e4
      rw [e] at e5
      exact absurd e5 (by simp)
    have hpoly : poly (tk (bs (txt p)) 0) false (bs (txt p)).size 0 = ⟨0, 0, k', p⟩ := by
      unfold poly; rw [if_neg h49, e]
    unfold rd
    rw [if_neg (by omega), hpoly]
    simp only [if_true]
    rw [if_pos (hend.2.2.2.2.2.2 rfl)]
end Go.Proofs.YthlmgpllapccfaaGreatDoor
/- PLAIN, FOR SUMS: what a polynomial comes to is additive; terms with signs, added cell by cell. -/
namespace Go.Proofs.YthlmgpllapccfaaGreatDoor

theorem pows_add {a b c : Nat → Nat} (u : Nat) : ∀ k, (∀ j, j < k → c j % 7 = (a j + b j) % 7) → pows c u k = (pows a u k + pows b u k) % 7
  | 0, _ => rfl
  | k + 1, h => by
    have ih := pows_add u k (fun j hj => h j (by omega))
    have hk := h k (by omega)
    rw [pows, pows, pows, ih]
    generalize pw7 u k = P
    have h1 : c k * P % 7 = (a k * P + b k * P) % 7 := by rw [← Nat.add_mul, Nat.mul_mod, hk, ← Nat.mul_mod]
    generalize a k * P = A at *
    generalize b k * P = B at *
    generalize c k * P = C at *
    omega
theorem valP_add {p q r : List Nat} (h : ∀ c, c < 35 → r.getD c 0 = (p.getD c 0 + q.getD c 0) % 7) (u x : Nat) : valP r u x = (valP p u x + valP q u x) % 7 := by
  rw [← val_same, ← val_same, ← val_same]
  unfold valL
  apply pows_add
  intro i hi
  rw [lineR_get _ _ _ hi, lineR_get _ _ _ hi, lineR_get _ _ _ hi, pows_add (a := fun j => p.getD (i * 7 + j) 0) (b := fun j => q.getD (i * 7 + j) 0) u 7 (fun j hj => by rw [h _ (by omega), Nat.mod_mod]), Nat.mod_mod]

/-- A term with its sign (1 or 6), its number and powers. -/
structure T4 where
  sg : Nat
  n : Nat
  u : Nat
  x : Nat
def add4 (q : List Nat) (t : T4) : List Nat := plus q t.u t.x (t.sg * t.n)
def ok4 (t : T4) : Prop := t.u ≤ 6 ∧ t.x ≤ 4
/-- What the terms add to cell c. -/
def sm (c : Nat) : List T4 → Nat
  | [] => 0
  | t :: ts => (if 7 * t.x + t.u = c then t.sg * t.n else 0) + sm c ts
theorem sm_append (c : Nat) : ∀ a b : List T4, sm c (a ++ b) = sm c a + sm c b
  | [], b => by simp [sm]
  | t :: a, b => by
    show (if 7 * t.x + t.u = c then t.sg * t.n else 0) + sm c (a ++ b) = (if 7 * t.x + t.u = c then t.sg * t.n else 0) + sm c a + sm c b
    rw [sm_append c a b]; omega
theorem fold_good : ∀ (ts : List T4) (q : List Nat), Good q → Good (ts.foldl add4 q)
  | [], _, h => h
  | t :: ts, q, h => fold_good ts (add4 q t) (plus_good h _ _ _)
theorem fold_cell : ∀ (ts : List T4) (q : List Nat), Good q → (∀ t ∈ ts, ok4 t) → ∀ c, c < 35 → (ts.foldl add4 q).getD c 0 = (q.getD c 0 + sm c ts) % 7
  | [], q, h, _, c, _ => by
    have := h.2 c
    show q.getD c 0 = (q.getD c 0 + 0) % 7
    omega
  | t :: ts, q, h, hok, c, hc => by
    obtain ⟨h1, h2⟩ := hok t (by simp)
    have ih := fold_cell ts (add4 q t) (plus_good h _ _ _) (fun y hy => hok y (by simp [hy])) c hc
    show (ts.foldl add4 (add4 q t)).getD c 0 = _
    rw [ih]
    show ((add4 q t).getD c 0 + sm c ts) % 7 = (q.getD c 0 + ((if 7 * t.x + t.u = c then t.sg * t.n else 0) + sm c ts)) % 7
    unfold add4 plus
    rw [getD_set _ _ _ _ (by rw [h.1]; omega)]
    by_cases e : 7 * t.x + t.u = c
    · rw [if_pos e, if_pos e, e]
      generalize t.sg * t.n = A
      omega
    · rw [if_neg e, if_neg e]; omega
/-- The polynomial that the terms come to. -/
def sumP (ts : List T4) : List Nat := ts.foldl add4 zeros
theorem sumP_good (ts : List T4) : Good (sumP ts) := fold_good ts zeros zeros_good
theorem zeros_get (c : Nat) : zeros.getD c 0 = 0 := by
  unfold zeros; rw [List.getD_eq_getElem?_getD, List.getElem?_replicate]; split <;> rfl
theorem sumP_cell {ts : List T4} (hok : ∀ t ∈ ts, ok4 t) {c : Nat} (hc : c < 35) : (sumP ts).getD c 0 = sm c ts % 7 := by
  unfold sumP; rw [fold_cell ts zeros zeros_good hok c hc, zeros_get, Nat.zero_add]
theorem good_ext {p q : List Nat} (hp : Good p) (hq : Good q) (h : ∀ c, c < 35 → p.getD c 0 = q.getD c 0) : p = q := by
  apply List.ext_getElem
  · rw [hp.1, hq.1]
  · intro c g1 g2
    have := h c (by rw [hp.1] at g1; exact g1)
    rw [List.getD_eq_getElem?_getD, List.getD_eq_getElem?_getD, List.getElem?_eq_getElem g1, List.getElem?_eq_getElem g2] at this
    simpa using this
theorem ok_append {a b : List T4} (ha : ∀ t ∈ a, ok4 t) (hb : ∀ t ∈ b, ok4 t) : ∀ t ∈ a ++ b, ok4 t := fun t ht => by
  rw [List.mem_append] at ht
  rcases ht with h | h
  · exact ha t h
  · exact hb t h
/-- In whichever order. -/
theorem sumP_comm {a b : List T4} (ha : ∀ t ∈ a, ok4 t) (hb : ∀ t ∈ b, ok4 t) : sumP (a ++ b) = sumP (b ++ a) :=
  good_ext (sumP_good _) (sumP_good _) fun c hc => by
    rw [sumP_cell (ok_append ha hb) hc, sumP_cell (ok_append hb ha) hc, sm_append, sm_append, Nat.add_comm]
/-- The sum is worth the sum. -/
theorem sumP_val {a b : List T4} (ha : ∀ t ∈ a, ok4 t) (hb : ∀ t ∈ b, ok4 t) (u x : Nat) : valP (sumP (a ++ b)) u x = (valP (sumP a) u x + valP (sumP b) u x) % 7 :=
  valP_add (fun c hc => by rw [sumP_cell (ok_append ha hb) hc, sumP_cell ha hc, sumP_cell hb hc, sm_append]; omega) u x
/-- A term 0 adds nothing. -/
theorem sumP_none {a : List T4} (ha : ∀ t ∈ a, ok4 t) (sg : Nat) : sumP (a ++ [⟨sg, 0, 0, 0⟩]) = sumP a := by
  have h0 : ∀ t ∈ [(⟨sg, 0, 0, 0⟩ : T4)], ok4 t := fun t ht => by
    rw [List.mem_singleton] at ht; subst ht; exact ⟨by simp, by simp⟩
  refine good_ext (sumP_good _) (sumP_good _) fun c hc => ?_
  rw [sumP_cell (ok_append ha h0) hc, sumP_cell ha hc, sm_append]
  simp [sm]
end Go.Proofs.YthlmgpllapccfaaGreatDoor
/- PLAIN, FOR SUMS: a written sum, with spaces and signs, is read as its terms. -/
namespace Go.Proofs.YthlmgpllapccfaaGreatDoor

/-- Token k is the first one from byte i on, where the text is R. -/
def ZAt (s : ByteArray) (k i : Nat) (R : List UInt8) : Prop := skip s (pos s 0 k) = skip s i ∧ k ≤ i ∧ Sfx s i R
theorem ZAt.tk {s : ByteArray} {k i : Nat} {R : List UInt8} (h : ZAt s k i R) : tk s 0 k = tok s i := by
  unfold Go.Proofs.YthlmgpllapccfaaGreatDoor.tk tok; rw [h.1]
theorem ZAt.space {s : ByteArray} {k i : Nat} {R : List UInt8} (h : ZAt s k i (32 :: R)) : ZAt s k (i + 1) R := by
  obtain ⟨hb, hs⟩ := h.2.2.cons
  exact ⟨by rw [h.1]; exact skip_space hb, by have := h.2.1; omega, hs⟩
theorem ZAt.next {s : ByteArray} {k i j : Nat} {R R' : List UInt8} {c a v : Nat} (h : ZAt s k i R) (ht : tok s i = ⟨c, a, j, v⟩) (hj : i < j) (hs : Sfx s j R') : ZAt s (k + 1) j R' := by
  refine ⟨?_, by have := h.2.1; omega, hs⟩
  have e : pos s 0 (k + 1) = j := by
    show (tok s (pos s 0 k)).to = j
    have e2 : tok s (pos s 0 k) = tok s i := by unfold tok; rw [h.1]
    rw [e2, ht]
  rw [e]
theorem tok_num2 {s : ByteArray} {i : Nat} {d : UInt8} {R : List UInt8} (h : Sfx s i (49 :: d :: R)) (h0 : 48 ≤ d.toNat) (h9 : d.toNat ≤ 57) : tok s i = ⟨1, i, i + 2, 10 + (d.toNat - 48)⟩ := by
  obtain ⟨hb, hs⟩ := h.cons
  obtain ⟨hb2, _⟩ := hs.cons
  have hb' : byt s i = 49 := hb
  have hd : isD s i = true := by rw [isD_iff]; omega
  have hd2 : isD s (i + 1) = true := by rw [isD_iff]; omega
  unfold tok
  rw [skip_here (by omega)]
  unfold tokAt
  rw [if_neg (by omega), if_pos hd, if_pos hd2, hb', hb2]
theorem tok_minus {s : ByteArray} {i : Nat} {R : List UInt8} (h : Sfx s i (45 :: R)) : tok s i = ⟨49, i, i + 1, 0⟩ := by
  obtain ⟨hb, hs⟩ := h.cons
  have hb' : byt s i = 45 := hb
  have hd : ¬ isD s i = true := by rw [isD_iff]; omega
  unfold tok
  rw [skip_here (by omega)]
  unfold tokAt
  rw [if_neg (by omega), if_neg hd, if_neg (by omega), if_neg (by omega), hb']

/-- A term ends here: spaces, then the end or a sign. -/
def spp : List UInt8 → Prop
  | [] => True
  | c :: R => c = 43 ∨ c = 45 ∨ (c = 32 ∧ spp R)
theorem spp_nd {R : List UInt8} (h : spp R) : nd R := by
  cases R with
  | nil => trivial
  | cons c R =>
    rcases h with h | h | ⟨h, _⟩ <;> subst h
    · exact (by decide : ¬ (48 ≤ (43 : UInt8).toNat ∧ (43 : UInt8).toNat ≤ 57))
    · exact (by decide : ¬ (48 ≤ (45 : UInt8).toNat ∧ (45 : UInt8).toNat ≤ 57))
    · exact (by decide : ¬ (48 ≤ (32 : UInt8).toNat ∧ (32 : UInt8).toNat ≤ 57))
theorem spp_tok {s : ByteArray} : ∀ (R : List UInt8) (k i : Nat), ZAt s k i R → spp R → (tk s 0 k).c ≠ 2 ∧ (tk s 0 k).c ≠ 3
  | [], k, i, h, _ => by rw [h.tk, tok_end h.2.2]; simp
  | c :: R, k, i, h, hs => by
    rcases hs with e | e | ⟨e, hs⟩
    · subst e; rw [h.tk, tok_plus h.2.2]; simp
    · subst e; rw [h.tk, tok_minus h.2.2]; simp
    · subst e; exact spp_tok R k (i + 1) h.space hs

def pkx (x : Nat) : List UInt8 := if x = 0 then [] else [32, 120, dgt x]
def pku (u : Nat) : List UInt8 := if u = 0 then [] else [117, dgt u]
def knum (n : Nat) : List UInt8 := if 9 < n then [49, dgt (n - 10)] else [dgt n]
/-- A term as the statement writes it. -/
def ktx (n u x : Nat) : List UInt8 := knum n ++ (pku u ++ pkx x)
theorem read_pkx {s : ByteArray} {k i x u m : Nat} {R : List UInt8} (h : ZAt s k i (pkx x ++ R)) (hs : spp R) (hx : x ≤ 4) (hm : (pkx x).length ≤ m) :
    ∃ k', pw (tk s 0) false m k u 0 = ⟨0, 0, k', u, x⟩ ∧ ZAt s k' (i + (pkx x).length) R := by
  unfold pkx at *
  by_cases h0 : x = 0
  · subst h0
    simp only [if_true, List.nil_append, List.length_nil, Nat.add_zero] at *
    obtain ⟨a, b⟩ := spp_tok R k i h hs
    exact ⟨k, pw_end a b, h⟩
  · rw [if_neg h0] at *
    simp only [List.cons_append, List.nil_append, List.length_cons, List.length_nil] at *
    have h' := h.space
    have hd := dgt_nat (n := x) (by omega)
    have ht := tok_x2 h'.2.2 (by omega) (by omega)
    have hn := h'.next ht (by omega) h'.2.2.cons.2.cons.2
    obtain ⟨a, b⟩ := spp_tok R _ _ hn hs
    refine ⟨k + 1, ?_, hn⟩
    have e : (dgt x).toNat - 48 = x := by omega
    rw [e] at ht
    rw [pw_x (by omega) (by rw [h'.tk, ht]) (by rw [h'.tk, ht]; show 0 + x ≤ 4; omega), h'.tk, ht]
    show pw (tk s 0) false (m - 1) (k + 1) u (0 + x) = _
    rw [Nat.zero_add]
    exact pw_end a b
theorem read_pk {s : ByteArray} {k i u x m : Nat} {R : List UInt8} (h : ZAt s k i (pku u ++ (pkx x ++ R))) (hs : spp R) (hu : u ≤ 6) (hx : x ≤ 4) (hm : (pku u).length + (pkx x).length ≤ m) :
    ∃ k', pw (tk s 0) false m k 0 0 = ⟨0, 0, k', u, x⟩ ∧ ZAt s k' (i + ((pku u).length + (pkx x).length)) R := by
  by_cases h0 : u = 0
  · subst h0
    have e : pku 0 = [] := rfl
    rw [e] at h hm ⊢
    simp only [List.nil_append, List.length_nil, Nat.zero_add] at *
    exact read_pkx h hs hx hm
  · have e : pku u = [117, dgt u] := by unfold pku; rw [if_neg h0]
    rw [e] at h hm ⊢
    simp only [List.cons_append, List.nil_append, List.length_cons, List.length_nil, Nat.zero_add] at *
    have hd := dgt_nat (n := u) (by omega)
    have ht := tok_u2 h.2.2 (by omega) (by omega)
    have hn := h.next ht (by omega) h.2.2.cons.2.cons.2
    have e' : (dgt u).toNat - 48 = u := by omega
    rw [e'] at ht
    obtain ⟨k', e1, ha⟩ := read_pkx (u := u) (m := m - 1) hn hs hx (by omega)
    refine ⟨k', ?_, by rw [← Nat.add_assoc]; exact ha⟩
    rw [pw_u (by omega) (by rw [h.tk, ht]) (by rw [h.tk, ht]; show 0 + u ≤ 6; omega), h.tk, ht]
    show pw (tk s 0) false (m - 1) (k + 1) (0 + u) 0 = _
    rw [Nat.zero_add]
    exact e1
theorem nd_pk {u x : Nat} {R : List UInt8} (hs : spp R) : nd (pku u ++ (pkx x ++ R)) := by
  unfold pku
  split
  · unfold pkx
    split
    · exact spp_nd hs
    · exact (by decide : ¬ (48 ≤ (32 : UInt8).toNat ∧ (32 : UInt8).toNat ≤ 57))
  · exact (by decide : ¬ (48 ≤ (117 : UInt8).toNat ∧ (117 : UInt8).toNat ≤ 57))
theorem ktx_len (n u x : Nat) : (ktx n u x).length = (knum n).length + ((pku u).length + (pkx x).length) := by unfold ktx; rw [List.length_append, List.length_append]
theorem read_num {s : ByteArray} {k i n : Nat} {R : List UInt8} (h : ZAt s k i (knum n ++ R)) (hn : n ≤ 13) (hd : nd R) : tok s i = ⟨1, i, i + (knum n).length, n⟩ ∧ Sfx s (i + (knum n).length) R ∧ 0 < (knum n).length := by
  unfold knum at *
  by_cases h9 : 9 < n
  · rw [if_pos h9] at *
    have e := dgt_nat (n := n - 10) (by omega)
    have ht := tok_num2 h.2.2 (by omega) (by omega)
    rw [show 10 + ((dgt (n - 10)).toNat - 48) = n by omega] at ht
    exact ⟨ht, h.2.2.cons.2.cons.2, by simp⟩
  · rw [if_neg h9] at *
    have e := dgt_nat (n := n) (by omega)
    have ht := tok_num h.2.2 (by omega) (by omega) hd
    rw [show (dgt n).toNat - 48 = n by omega] at ht
    exact ⟨ht, h.2.2.cons.2, by simp⟩
theorem read_ktx {s : ByteArray} {k i n u x N : Nat} {R : List UInt8} (h : ZAt s k i (ktx n u x ++ R)) (hs : spp R) (hn : n ≤ 13) (hu : u ≤ 6) (hx : x ≤ 4) (hN : (ktx n u x).length ≤ N - k) :
    ∃ k', tm (tk s 0) false N k = ⟨0, 0, k', n, u, x⟩ ∧ ZAt s k' (i + (ktx n u x).length) R := by
  rw [ktx_len] at *
  unfold ktx at h
  rw [List.append_assoc, List.append_assoc] at h
  obtain ⟨ht, hs2, hp⟩ := read_num h hn (nd_pk hs)
  have hnx := h.next ht (by omega) hs2
  obtain ⟨k', e1, ha⟩ := read_pk (m := N - (k + 1)) hnx hs hu hx (by omega)
  refine ⟨k', ?_, by rw [← Nat.add_assoc]; exact ha⟩
  unfold tm
  have hc1 : (tk s 0 k).c = 1 := by rw [h.tk, ht]
  have hv : (tk s 0 k).v = n := by rw [h.tk, ht]
  rw [if_pos hc1, e1, hv]

/-- What stands between two terms, and the sign that it gives. -/
def okSep (sep : List UInt8) (sg : Nat) : Prop := (sep = [43] ∧ sg = 1) ∨ (sep = [32, 43, 32] ∧ sg = 1) ∨ (sep = [32, 45, 32] ∧ sg = 6) ∨ (sep = [45] ∧ sg = 6)
theorem okSep_spp {sep R : List UInt8} {sg : Nat} (h : okSep sep sg) : spp (sep ++ R) := by
  rcases h with ⟨rfl, _⟩ | ⟨rfl, _⟩ | ⟨rfl, _⟩ | ⟨rfl, _⟩
  · exact Or.inl rfl
  · exact Or.inr (Or.inr ⟨rfl, Or.inl rfl⟩)
  · exact Or.inr (Or.inr ⟨rfl, Or.inr (Or.inl rfl)⟩)
  · exact Or.inr (Or.inl rfl)
theorem read_sep {s : ByteArray} {k i sg : Nat} {sep R : List UInt8} (h : ZAt s k i (sep ++ R)) (ho : okSep sep sg) : (((tk s 0 k).c = 47 ∧ sg = 1) ∨ ((tk s 0 k).c = 49 ∧ sg = 6)) ∧ ZAt s (k + 1) (i + sep.length) R := by
  rcases ho with ⟨rfl, rfl⟩ | ⟨rfl, rfl⟩ | ⟨rfl, rfl⟩ | ⟨rfl, rfl⟩
  · have ht := tok_plus h.2.2
    exact ⟨Or.inl ⟨by rw [h.tk, ht], rfl⟩, h.next ht (by simp) h.2.2.cons.2⟩
  · have h1 := h.space
    have ht := tok_plus h1.2.2
    exact ⟨Or.inl ⟨by rw [h1.tk, ht], rfl⟩, (h1.next ht (by omega) h1.2.2.cons.2).space⟩
  · have h1 := h.space
    have ht := tok_minus h1.2.2
    exact ⟨Or.inr ⟨by rw [h1.tk, ht], rfl⟩, (h1.next ht (by omega) h1.2.2.cons.2).space⟩
  · have ht := tok_minus h.2.2
    exact ⟨Or.inr ⟨by rw [h.tk, ht], rfl⟩, h.next ht (by simp) h.2.2.cons.2⟩

/-- A sign with its spaces, and a term. -/
structure It where
  sep : List UInt8
  t : T4
def okT (t : T4) : Prop := t.n ≤ 13 ∧ t.u ≤ 6 ∧ t.x ≤ 4
def okI (a : It) : Prop := okSep a.sep a.t.sg ∧ okT a.t
def its : List It → List UInt8
  | [] => []
  | a :: r => a.sep ++ (ktx a.t.n a.t.u a.t.x ++ its r)
theorem ktx_pos (n u x : Nat) : 0 < (ktx n u x).length := by
  rw [ktx_len]; unfold knum; split <;> simp <;> omega
theorem read_its {s : ByteArray} : ∀ (r : List It) (t : T4) (q : List Nat) (m k i : Nat), okT t → (∀ a ∈ r, okI a) → ZAt s k i (ktx t.n t.u t.x ++ its r) → s.size + 1 ≤ m + i →
    ∃ k', pl (tk s 0) false s.size m k t.sg q = ⟨0, 0, k', (t :: r.map It.t).foldl add4 q⟩ ∧ ZAt s k' s.size [] := by
  intro r
  induction r with
  | nil =>
    intro t q m k i ht _ h hm
    have hlen := h.2.2.len
    have hk := h.2.1
    have hp := ktx_pos t.n t.u t.x
    rw [List.length_append] at hlen
    obtain ⟨m, rfl⟩ : ∃ m', m = m' + 1 := ⟨m - 1, by omega⟩
    obtain ⟨k', e1, ha⟩ := read_ktx (N := s.size) h trivial ht.1 ht.2.1 ht.2.2 (by omega)
    have hz : (tk s 0 k').c = 0 := by rw [ha.tk, tok_end ha.2.2]
    refine ⟨k', ?_, by simp only [its, List.length_nil] at hlen; rw [← hlen]; exact ha⟩
    rw [pl, e1]
    simp only [if_true]
    rw [if_neg (by omega), if_neg (by omega)]
    rfl
  | cons a r ih =>
    intro t q m k i ht hok h hm
    have hlen := h.2.2.len
    have hk := h.2.1
    have hp := ktx_pos t.n t.u t.x
    obtain ⟨ho, hoT⟩ := hok a (by simp)
    rw [List.length_append] at hlen
    obtain ⟨m, rfl⟩ : ∃ m', m = m' + 1 := ⟨m - 1, by omega⟩
    obtain ⟨k', e1, ha⟩ := read_ktx (N := s.size) h (okSep_spp ho) ht.1 ht.2.1 ht.2.2 (by omega)
    obtain ⟨hc, hb⟩ := read_sep ha ho
    obtain ⟨k2, e2, hd⟩ := ih a.t (add4 q t) m (k' + 1) _ hoT (fun y hy => hok y (by simp [hy])) hb (by omega)
    refine ⟨k2, ?_, hd⟩
    rw [pl, e1]
    simp only [if_true]
    rcases hc with ⟨hc, hsg⟩ | ⟨hc, hsg⟩
    · rw [if_pos hc]
      rw [hsg] at e2
      exact e2
    · rw [if_neg (by omega), if_pos hc]
      rw [hsg] at e2
      exact e2
/-- A WRITTEN SUM IS READ AS ITS TERMS. -/
theorem rd_sum (t : T4) (r : List It) (ht : okT t) (h1 : t.sg = 1) (hok : ∀ a ∈ r, okI a) (hl : (ktx t.n t.u t.x ++ its r).length ≤ 90) : rd (bs (ktx t.n t.u t.x ++ its r)) = ⟨0, 0, sumP (t :: r.map It.t)⟩ := by
  generalize hT : ktx t.n t.u t.x ++ its r = T at *
  have hsz : (bs T).size = T.length := by rw [ByteArray.size]; simp [bs]
  have hat : ZAt (bs T) 0 0 (ktx t.n t.u t.x ++ its r) := ⟨rfl, Nat.le_refl _, by rw [hT]; rfl, Nat.zero_le _⟩
  obtain ⟨k', e, ha⟩ := read_its r t zeros ((bs T).size + 1) 0 0 ht hok hat (by omega)
  rw [h1] at e
  have hend : (tk (bs T) 0 k').c = 0 := by rw [ha.tk, tok_end ha.2.2]
  have h49 : (tk (bs T) 0 0).c ≠ 49 := by
    intro q
    have e4 : (tm (tk (bs T) 0) false (bs T).size 0).e = 4 := by unfold tm; rw [if_neg (by omega), if_neg (by omega)]
    have e5 : (pl (tk (bs T) 0) false (bs T).size ((bs T).size + 1) 0 1 zeros).e = 4 := by rw [pl, if_neg (by omega)]; exact e4
    rw [e] at e5
    exact absurd e5 (by simp)
  have hpoly : poly (tk (bs T) 0) false (bs T).size 0 = ⟨0, 0, k', sumP (t :: r.map It.t)⟩ := by
    unfold poly; rw [if_neg h49, e]; rfl
  unfold rd
  rw [if_neg (by omega), hpoly]
  simp only [if_true]
  rw [if_pos hend]
end Go.Proofs.YthlmgpllapccfaaGreatDoor
/- PLAIN: a line's system, out of written sums. -/
namespace Go.Proofs.YthlmgpllapccfaaGreatDoor

/-- From token k on the tokens stand one behind the other. -/
def Run (s : ByteArray) (f : Nat → Tok) (P : Nat → Nat) (k : Nat) : Prop := ∀ j, k ≤ j → f j = tok s (P j) ∧ P (j + 1) = (tok s (P j)).to
/-- Token k is the first one from byte i on, where the text is R. -/
def YAt (s : ByteArray) (f : Nat → Tok) (P : Nat → Nat) (k i : Nat) (R : List UInt8) : Prop := skip s (P k) = skip s i ∧ (k ≤ i ∧ Run s f P k) ∧ Sfx s i R
theorem YAt.tk {s : ByteArray} {f : Nat → Tok} {P : Nat → Nat} {k i : Nat} {R : List UInt8} (h : YAt s f P k i R) : f k = tok s i := by
  rw [(h.2.1.2 k (Nat.le_refl _)).1]; unfold tok; rw [h.1]
theorem YAt.space {s : ByteArray} {f : Nat → Tok} {P : Nat → Nat} {k i : Nat} {R : List UInt8} (h : YAt s f P k i (32 :: R)) : YAt s f P k (i + 1) R := by
  obtain ⟨hb, hs⟩ := h.2.2.cons
  exact ⟨by rw [h.1]; exact skip_space hb, ⟨by have := h.2.1.1; omega, h.2.1.2⟩, hs⟩
theorem YAt.next {s : ByteArray} {f : Nat → Tok} {P : Nat → Nat} {k i j : Nat} {R R' : List UInt8} {c a v : Nat} (h : YAt s f P k i R) (ht : tok s i = ⟨c, a, j, v⟩) (hj : i < j) (hs : Sfx s j R') : YAt s f P (k + 1) j R' := by
  refine ⟨?_, ⟨by have := h.2.1.1; omega, fun x hx => h.2.1.2 x (by omega)⟩, hs⟩
  have e : P (k + 1) = j := by
    rw [(h.2.1.2 k (Nat.le_refl _)).2]
    have e2 : tok s (P k) = tok s i := by unfold tok; rw [h.1]
    rw [e2, ht]
  rw [e]
theorem tok_comma {s : ByteArray} {i : Nat} {R : List UInt8} (h : Sfx s i (44 :: R)) : tok s i = ⟨48, i, i + 1, 0⟩ := by
  obtain ⟨hb, hs⟩ := h.cons
  have hb' : byt s i = 44 := hb
  have hd : ¬ isD s i = true := by rw [isD_iff]; omega
  unfold tok
  rw [skip_here (by omega)]
  unfold tokAt
  rw [if_neg (by omega), if_neg hd, if_neg (by omega), if_neg (by omega), hb']

/-- A term ends here: spaces, then the end, a sign or a comma. -/
def spc : List UInt8 → Prop
  | [] => True
  | c :: R => c = 43 ∨ c = 45 ∨ c = 44 ∨ (c = 32 ∧ spc R)
theorem spc_nd {R : List UInt8} (h : spc R) : nd R := by
  cases R with
  | nil => trivial
  | cons c R =>
    rcases h with h | h | h | ⟨h, _⟩ <;> subst h
    · exact (by decide : ¬ (48 ≤ (43 : UInt8).toNat ∧ (43 : UInt8).toNat ≤ 57))
    · exact (by decide : ¬ (48 ≤ (45 : UInt8).toNat ∧ (45 : UInt8).toNat ≤ 57))
    · exact (by decide : ¬ (48 ≤ (44 : UInt8).toNat ∧ (44 : UInt8).toNat ≤ 57))
    · exact (by decide : ¬ (48 ≤ (32 : UInt8).toNat ∧ (32 : UInt8).toNat ≤ 57))
theorem spc_tok {s : ByteArray} {f : Nat → Tok} {P : Nat → Nat} : ∀ (R : List UInt8) (k i : Nat), YAt s f P k i R → spc R → (f k).c ≠ 2 ∧ (f k).c ≠ 3
  | [], k, i, h, _ => by rw [h.tk, tok_end h.2.2]; simp
  | c :: R, k, i, h, hs => by
    rcases hs with e | e | e | ⟨e, hs⟩
    · subst e; rw [h.tk, tok_plus h.2.2]; simp
    · subst e; rw [h.tk, tok_minus h.2.2]; simp
    · subst e; rw [h.tk, tok_comma h.2.2]; simp
    · subst e; exact spc_tok R k (i + 1) h.space hs
/-- A text that is read as the term n u^u x^x. -/
def TmOk (X : List UInt8) (t : T4) : Prop := 0 < X.length ∧ ∀ (s : ByteArray) (f : Nat → Tok) (P : Nat → Nat) (k i N : Nat) (R : List UInt8), YAt s f P k i (X ++ R) → spc R → X.length ≤ N - k →
  ∃ k', tm f false N k = ⟨0, 0, k', t.n, t.u, t.x⟩ ∧ YAt s f P k' (i + X.length) R

theorem yread_pkx {s : ByteArray} {f : Nat → Tok} {P : Nat → Nat} {k i x u m : Nat} {R : List UInt8} (h : YAt s f P k i (pkx x ++ R)) (hs : spc R) (hx : x ≤ 4) (hm : (pkx x).length ≤ m) :
    ∃ k', pw f false m k u 0 = ⟨0, 0, k', u, x⟩ ∧ YAt s f P k' (i + (pkx x).length) R := by
  unfold pkx at *
  by_cases h0 : x = 0
  · subst h0
    simp only [if_true, List.nil_append, List.length_nil, Nat.add_zero] at *
    obtain ⟨a, b⟩ := spc_tok R k i h hs
    exact ⟨k, pw_end a b, h⟩
  · rw [if_neg h0] at *
    simp only [List.cons_append, List.nil_append, List.length_cons, List.length_nil] at *
    have h' := h.space
    have hd := dgt_nat (n := x) (by omega)
    have ht := tok_x2 h'.2.2 (by omega) (by omega)
    have hn := h'.next ht (by omega) h'.2.2.cons.2.cons.2
    obtain ⟨a, b⟩ := spc_tok R _ _ hn hs
    refine ⟨k + 1, ?_, hn⟩
    have e : (dgt x).toNat - 48 = x := by omega
    rw [e] at ht
    rw [pw_x (by omega) (by rw [h'.tk, ht]) (by rw [h'.tk, ht]; show 0 + x ≤ 4; omega), h'.tk, ht]
    show pw f false (m - 1) (k + 1) u (0 + x) = _
    rw [Nat.zero_add]
    exact pw_end a b
theorem yread_pk {s : ByteArray} {f : Nat → Tok} {P : Nat → Nat} {k i u x m : Nat} {R : List UInt8} (h : YAt s f P k i (pku u ++ (pkx x ++ R))) (hs : spc R) (hu : u ≤ 6) (hx : x ≤ 4) (hm : (pku u).length + (pkx x).length ≤ m) :
    ∃ k', pw f false m k 0 0 = ⟨0, 0, k', u, x⟩ ∧ YAt s f P k' (i + ((pku u).length + (pkx x).length)) R := by
  by_cases h0 : u = 0
  · subst h0
    have e : pku 0 = [] := rfl
    rw [e] at h hm ⊢
    simp only [List.nil_append, List.length_nil, Nat.zero_add] at *
    exact yread_pkx h hs hx hm
  · have e : pku u = [117, dgt u] := by unfold pku; rw [if_neg h0]
    rw [e] at h hm ⊢
    simp only [List.cons_append, List.nil_append, List.length_cons, List.length_nil, Nat.zero_add] at *
    have hd := dgt_nat (n := u) (by omega)
    have ht := tok_u2 h.2.2 (by omega) (by omega)
    have hn := h.next ht (by omega) h.2.2.cons.2.cons.2
    have e' : (dgt u).toNat - 48 = u := by omega
    rw [e'] at ht
    obtain ⟨k', e1, ha⟩ := yread_pkx (u := u) (m := m - 1) hn hs hx (by omega)
    refine ⟨k', ?_, by rw [← Nat.add_assoc]; exact ha⟩
    rw [pw_u (by omega) (by rw [h.tk, ht]) (by rw [h.tk, ht]; show 0 + u ≤ 6; omega), h.tk, ht]
    show pw f false (m - 1) (k + 1) (0 + u) 0 = _
    rw [Nat.zero_add]
    exact e1
theorem ynd_pk {u x : Nat} {R : List UInt8} (hs : spc R) : nd (pku u ++ (pkx x ++ R)) := by
  unfold pku
  split
  · unfold pkx
    split
    · exact spc_nd hs
    · exact (by decide : ¬ (48 ≤ (32 : UInt8).toNat ∧ (32 : UInt8).toNat ≤ 57))
  · exact (by decide : ¬ (48 ≤ (117 : UInt8).toNat ∧ (117 : UInt8).toNat ≤ 57))
theorem yread_num {s : ByteArray} {i n : Nat} {R : List UInt8} (h : Sfx s i (knum n ++ R)) (hn : n ≤ 13) (hd : nd R) : tok s i = ⟨1, i, i + (knum n).length, n⟩ ∧ Sfx s (i + (knum n).length) R ∧ 0 < (knum n).length := by
  unfold knum at *
  by_cases h9 : 9 < n
  · rw [if_pos h9] at *
    have e := dgt_nat (n := n - 10) (by omega)
    have ht := tok_num2 h (by omega) (by omega)
    rw [show 10 + ((dgt (n - 10)).toNat - 48) = n by omega] at ht
    exact ⟨ht, h.cons.2.cons.2, by simp⟩
  · rw [if_neg h9] at *
    have e := dgt_nat (n := n) (by omega)
    have ht := tok_num h (by omega) (by omega) hd
    rw [show (dgt n).toNat - 48 = n by omega] at ht
    exact ⟨ht, h.cons.2, by simp⟩
theorem ktx_ok {t : T4} (ht : okT t) : TmOk (ktx t.n t.u t.x) t := by
  refine ⟨ktx_pos _ _ _, fun s f P k i N R h hs hN => ?_⟩
  obtain ⟨hn, hu, hx⟩ := ht
  rw [ktx_len] at *
  unfold ktx at h
  rw [List.append_assoc, List.append_assoc] at h
  obtain ⟨ht, hs2, hp⟩ := yread_num h.2.2 hn (ynd_pk hs)
  have hnx := h.next ht (by omega) hs2
  obtain ⟨k', e1, ha⟩ := yread_pk (m := N - (k + 1)) hnx hs hu hx (by omega)
  refine ⟨k', ?_, by rw [← Nat.add_assoc]; exact ha⟩
  unfold tm
  have hc1 : (f k).c = 1 := by rw [h.tk, ht]
  have hv : (f k).v = t.n := by rw [h.tk, ht]
  rw [if_pos hc1, e1, hv]
end Go.Proofs.YthlmgpllapccfaaGreatDoor
/- PLAIN: sums and systems of a line. -/
namespace Go.Proofs.YthlmgpllapccfaaGreatDoor

/-- The polynomial ends here: spaces, then the end or a comma. -/
def enP : List UInt8 → Prop
  | [] => True
  | c :: R => c = 44 ∨ (c = 32 ∧ enP R)
theorem enP_spc : ∀ {R : List UInt8}, enP R → spc R
  | [], _ => trivial
  | _ :: _, h => by
    rcases h with h | ⟨h, k⟩
    · exact Or.inr (Or.inr (Or.inl h))
    · exact Or.inr (Or.inr (Or.inr ⟨h, enP_spc k⟩))
theorem enP_tok {s : ByteArray} {f : Nat → Tok} {P : Nat → Nat} : ∀ (R : List UInt8) (k i : Nat), YAt s f P k i R → enP R → (f k).c ≠ 47 ∧ (f k).c ≠ 49
  | [], k, i, h, _ => by rw [h.tk, tok_end h.2.2]; simp
  | c :: R, k, i, h, hs => by
    rcases hs with e | ⟨e, hs⟩
    · subst e; rw [h.tk, tok_comma h.2.2]; simp
    · subst e; exact enP_tok R k (i + 1) h.space hs
/-- n x^k with its power written. -/
def kwx (n x : Nat) : List UInt8 := [dgt n, 120, dgt x]
theorem kwx_ok {n x : Nat} (hn : n ≤ 9) (hx : x ≤ 4) (sg : Nat) : TmOk (kwx n x) ⟨sg, n, 0, x⟩ := by
  refine ⟨by simp [kwx], fun s f P k i N R h hs hN => ?_⟩
  unfold kwx at *
  simp only [List.cons_append, List.nil_append, List.length_cons, List.length_nil] at *
  have hdn := dgt_nat (n := n) (by omega)
  have hdx := dgt_nat (n := x) (by omega)
  have ht := tok_num h.2.2 (by omega) (by omega) (by exact (by decide : ¬ (48 ≤ (120 : UInt8).toNat ∧ (120 : UInt8).toNat ≤ 57)))
  have h' := h.next ht (by omega) h.2.2.cons.2
  have ht2 := tok_x2 h'.2.2 (by omega) (by omega)
  have hn2 := h'.next ht2 (by omega) h'.2.2.cons.2.cons.2
  obtain ⟨a, b⟩ := spc_tok R _ _ hn2 hs
  have e : (dgt x).toNat - 48 = x := by omega
  have e0 : (dgt n).toNat - 48 = n := by omega
  rw [e] at ht2
  rw [e0] at ht
  refine ⟨k + 1 + 1, ?_, hn2⟩
  unfold tm
  have hc1 : (f k).c = 1 := by rw [h.tk, ht]
  have hv : (f k).v = n := by rw [h.tk, ht]
  have hpw : pw f false (N - (k + 1)) (k + 1) 0 0 = ⟨0, 0, k + 1 + 1, 0, x⟩ := by
    rw [pw_x (by omega) (by rw [h'.tk, ht2]) (by rw [h'.tk, ht2]; show 0 + x ≤ 4; omega), h'.tk, ht2]
    show pw f false (N - (k + 1) - 1) (k + 1 + 1) 0 (0 + x) = _
    rw [Nat.zero_add]
    exact pw_end a b
  rw [if_pos hc1, hpw, hv]

/-- A sign with its spaces, and a term's text. -/
structure Jt where
  sep : List UInt8
  X : List UInt8
  t : T4
def okJ (a : Jt) : Prop := okSep a.sep a.t.sg ∧ TmOk a.X a.t
def jts : List Jt → List UInt8
  | [] => []
  | a :: r => a.sep ++ (a.X ++ jts r)
theorem okSep_spc {sep R : List UInt8} {sg : Nat} (h : okSep sep sg) : spc (sep ++ R) := by
  rcases h with ⟨rfl, _⟩ | ⟨rfl, _⟩ | ⟨rfl, _⟩ | ⟨rfl, _⟩
  · exact Or.inl rfl
  · exact Or.inr (Or.inr (Or.inr ⟨rfl, Or.inl rfl⟩))
  · exact Or.inr (Or.inr (Or.inr ⟨rfl, Or.inr (Or.inl rfl)⟩))
  · exact Or.inr (Or.inl rfl)
theorem yread_sep {s : ByteArray} {f : Nat → Tok} {P : Nat → Nat} {k i sg : Nat} {sep R : List UInt8} (h : YAt s f P k i (sep ++ R)) (ho : okSep sep sg) : (((f k).c = 47 ∧ sg = 1) ∨ ((f k).c = 49 ∧ sg = 6)) ∧ YAt s f P (k + 1) (i + sep.length) R := by
  rcases ho with ⟨rfl, rfl⟩ | ⟨rfl, rfl⟩ | ⟨rfl, rfl⟩ | ⟨rfl, rfl⟩
  · have ht := tok_plus h.2.2
    exact ⟨Or.inl ⟨by rw [h.tk, ht], rfl⟩, h.next ht (by simp) h.2.2.cons.2⟩
  · have h1 := h.space
    have ht := tok_plus h1.2.2
    exact ⟨Or.inl ⟨by rw [h1.tk, ht], rfl⟩, (h1.next ht (by omega) h1.2.2.cons.2).space⟩
  · have h1 := h.space
    have ht := tok_minus h1.2.2
    exact ⟨Or.inr ⟨by rw [h1.tk, ht], rfl⟩, (h1.next ht (by omega) h1.2.2.cons.2).space⟩
  · have ht := tok_minus h.2.2
    exact ⟨Or.inr ⟨by rw [h.tk, ht], rfl⟩, h.next ht (by simp) h.2.2.cons.2⟩
theorem yread_jts {s : ByteArray} {f : Nat → Tok} {P : Nat → Nat} (R0 : List UInt8) (hR : enP R0) : ∀ (r : List Jt) (X : List UInt8) (t : T4) (q : List Nat) (m k i : Nat), TmOk X t → (∀ a ∈ r, okJ a) → YAt s f P k i (X ++ (jts r ++ R0)) → s.size + 1 ≤ m + i →
    ∃ k', pl f false s.size m k t.sg q = ⟨0, 0, k', (t :: r.map Jt.t).foldl add4 q⟩ ∧ YAt s f P k' (i + (X.length + (jts r).length)) R0 := by
  intro r
  induction r with
  | nil =>
    intro X t q m k i ht _ h hm
    have hlen := h.2.2.len
    have hk := h.2.1.1
    have hp := ht.1
    rw [List.length_append] at hlen
    obtain ⟨m, rfl⟩ : ∃ m', m = m' + 1 := ⟨m - 1, by omega⟩
    obtain ⟨k', e1, ha⟩ := ht.2 s f P k i s.size _ h (enP_spc hR) (by omega)
    have ha' : YAt s f P k' (i + X.length) R0 := ha
    obtain ⟨z1, z2⟩ := enP_tok R0 k' _ ha' hR
    refine ⟨k', ?_, ha'⟩
    rw [pl, e1]
    simp only [if_true]
    rw [if_neg z1, if_neg z2]
    rfl
  | cons a r ih =>
    intro X t q m k i ht hok h hm
    have hlen := h.2.2.len
    have hk := h.2.1.1
    have hp := ht.1
    obtain ⟨ho, hoT⟩ := hok a (by simp)
    rw [List.length_append] at hlen
    obtain ⟨m, rfl⟩ : ∃ m', m = m' + 1 := ⟨m - 1, by omega⟩
    have hj : jts (a :: r) ++ R0 = a.sep ++ (a.X ++ (jts r ++ R0)) := by rw [jts]; simp
    rw [hj] at h
    obtain ⟨k', e1, ha⟩ := ht.2 s f P k i s.size _ h (okSep_spc ho) (by omega)
    obtain ⟨hc, hb⟩ := yread_sep ha ho
    obtain ⟨k2, e2, hd⟩ := ih a.X a.t (add4 q t) m (k' + 1) _ hoT (fun y hy => hok y (by simp [hy])) hb (by omega)
    refine ⟨k2, ?_, ?_⟩
    · rw [pl, e1]
      simp only [if_true]
      rcases hc with ⟨hc, hsg⟩ | ⟨hc, hsg⟩
      · rw [if_pos hc]
        rw [hsg] at e2
        exact e2
      · rw [if_neg (by omega), if_pos hc]
        rw [hsg] at e2
        exact e2
    · have e : i + (X.length + (jts (a :: r)).length) = i + X.length + a.sep.length + (a.X.length + (jts r).length) := by rw [jts, List.length_append, List.length_append]; omega
      rw [e]; exact hd
/-- A sum, as a polynomial of a line. -/
theorem ypoly {s : ByteArray} {f : Nat → Tok} {P : Nat → Nat} {k i : Nat} {R0 : List UInt8} (hR : enP R0) (r : List Jt) (X : List UInt8) (t : T4) (ht : TmOk X t) (h1 : t.sg = 1) (hok : ∀ a ∈ r, okJ a) (h : YAt s f P k i (X ++ (jts r ++ R0))) :
    ∃ k', poly f false s.size k = ⟨0, 0, k', sumP (t :: r.map Jt.t)⟩ ∧ YAt s f P k' (i + (X.length + (jts r).length)) R0 := by
  obtain ⟨k', e, ha⟩ := yread_jts R0 hR r X t zeros (s.size + 1) k i ht hok h (by omega)
  rw [h1] at e
  refine ⟨k', ?_, ha⟩
  have h49 : (f k).c ≠ 49 := by
    intro q
    have e4 : (tm f false s.size k).e = 4 := by unfold tm; rw [if_neg (by omega), if_neg (by omega)]
    have e5 : (pl f false s.size (s.size + 1) k 1 zeros).e = 4 := by rw [pl, if_neg (by omega)]; exact e4
    rw [e] at e5
    exact absurd e5 (by simp)
  unfold poly; rw [if_neg h49, e]; rfl
/-- Two sums with a comma between. -/
structure Sm where
  X : List UInt8
  t : T4
  r : List Jt
def Sm.txt (a : Sm) : List UInt8 := a.X ++ jts a.r
def Sm.val (a : Sm) : List Nat := sumP (a.t :: a.r.map Jt.t)
def Sm.ok (a : Sm) : Prop := TmOk a.X a.t ∧ a.t.sg = 1 ∧ ∀ b ∈ a.r, okJ b
theorem ysys {s : ByteArray} {f : Nat → Tok} {P : Nat → Nat} {k i : Nat} (a b : Sm) (ha : a.ok) (hb : b.ok) (cm : List UInt8) (hc : cm = [44] ∨ cm = [32, 44, 32]) (h : YAt s f P k i (a.txt ++ (cm ++ b.txt))) :
    ∃ k', syR f s.size 4 k = ⟨0, 0, k', [a.val, b.val]⟩ ∧ (f k').c = 0 := by
  have hE : enP (cm ++ b.txt) := by
    rcases hc with rfl | rfl
    · exact Or.inl rfl
    · exact Or.inr ⟨rfl, Or.inl rfl⟩
  unfold Sm.txt at h
  rw [List.append_assoc] at h
  obtain ⟨k1, e1, h1⟩ := ypoly hE a.r a.X a.t ha.1 ha.2.1 ha.2.2 h
  have h2 : (f k1).c = 48 ∧ YAt s f P (k1 + 1) (i + (a.X.length + (jts a.r).length) + cm.length) (b.X ++ jts b.r) := by
    rcases hc with rfl | rfl
    · have ht := tok_comma h1.2.2
      exact ⟨by rw [h1.tk, ht], h1.next ht (by simp) h1.2.2.cons.2⟩
    · have h3 := h1.space
      have ht := tok_comma h3.2.2
      exact ⟨by rw [h3.tk, ht], (h3.next ht (by omega) h3.2.2.cons.2).space⟩
  obtain ⟨hc48, h2⟩ := h2
  have h2' : YAt s f P (k1 + 1) (i + (a.X.length + (jts a.r).length) + cm.length) (b.X ++ (jts b.r ++ [])) := by rw [List.append_nil]; exact h2
  obtain ⟨k2, e2, h4⟩ := ypoly (R0 := []) trivial b.r b.X b.t hb.1 hb.2.1 hb.2.2 h2'
  have hz : (f k2).c = 0 := by rw [h4.tk, tok_end h4.2.2]
  refine ⟨k2, ?_, hz⟩
  rw [syR_more (m := 3) (by rw [e1]) (by omega) (by rw [e1]; exact hc48), e1]
  show SyR.app [sumP (a.t :: a.r.map Jt.t)] (syR f s.size 3 (k1 + 1)) = _
  rw [syR_last (m := 2) (by rw [e2]) (by rw [e2]; intro q; have q2 : (f k2).c = 48 := q.2; omega), e2]
  rfl
end Go.Proofs.YthlmgpllapccfaaGreatDoor
/- PLAIN: lines that ask: gcd, roots, split, of a name that means a system. -/
namespace Go.Proofs.YthlmgpllapccfaaGreatDoor
open Go.RowKit

theorem okS_at {st : Nat → Mng} {a : Nat} (h : (st a).kd = 1) : okS st a = true := by unfold okS; rw [h]; rfl
theorem nm_ok {st : Nat → Mng} {f : Nat → Tok} {a : Nat} (h1 : (f 1).c = 69 + a) (ha : a < 26) (hk : (st a).kd = 1) : nmS f (okS st) ws1 = ⟨2, 0, 0⟩ := by
  have hn : isN (f 1) = true := by rw [isN_iff]; omega
  unfold nmS ws1
  rw [if_neg (by simp), if_pos hn, if_pos (by rw [h1, Nat.add_sub_cancel_left]; exact okS_at hk)]
theorem ps_at {st : Nat → Mng} {f : Nat → Tok} {a : Nat} (h1 : (f 1).c = 69 + a) : ps1 st f = (st a).ps := by unfold ps1 nm1; rw [h1, Nat.add_sub_cancel_left]
theorem line_gcd {st : Nat → Mng} {s : ByteArray} {a d : Nat} (hl : s.size ≤ 90) (hs : sml s (w0 s) = true) (hw : wd s = [103, 99, 100]) (h1 : (lf s 1).c = 69 + a) (ha : a < 26) (hk : (st a).kd = 1) (h2 : (lf s 2).c = 1) (hv : (lf s 2).v = d) (h3 : (lf s 3).c = 0) :
    lnR st s = ⟨0, 0, txt (upL (gall (lins (d % 7) (st a).ps))), st⟩ := by
  unfold lnR
  rw [if_neg (by omega), if_neg (by rw [hs]; decide), if_neg (by rw [hw]; decide)]
  have hS : askS st (lf s) (wd s) = ⟨3, 0, 0⟩ := by
    rw [hw]
    unfold askS
    rw [if_neg (by decide), if_neg (by decide), if_pos rfl, nm_ok h1 ha hk]
    unfold ctS enS
    simp [h2, h3]
  have hT : askT st (lf s) (wd s) = txt (upL (gall (lins (d % 7) (st a).ps))) := by
    rw [hw]
    unfold askT
    rw [if_neg (by decide), if_neg (by decide), if_pos rfl, hv, ps_at h1]
  rw [hS, hT]
  unfold ans
  rw [if_neg (by simp)]
theorem line_roots {st : Nat → Mng} {s : ByteArray} {a d : Nat} (hl : s.size ≤ 90) (hs : sml s (w0 s) = true) (hw : wd s = [114, 111, 111, 116, 115]) (h1 : (lf s 1).c = 69 + a) (ha : a < 26) (hk : (st a).kd = 1) (h2 : (lf s 2).c = 1) (hv : (lf s 2).v = d) (h3 : (lf s 3).c = 0) :
    lnR st s = ⟨0, 0, lsd (rts (lins (d % 7) (st a).ps)) 7, st⟩ := by
  unfold lnR
  rw [if_neg (by omega), if_neg (by rw [hs]; decide), if_neg (by rw [hw]; decide)]
  have hS : askS st (lf s) (wd s) = ⟨3, 0, 0⟩ := by
    rw [hw]
    unfold askS
    rw [if_neg (by decide), if_neg (by decide), if_neg (by decide), if_pos rfl, nm_ok h1 ha hk]
    unfold ctS enS
    simp [h2, h3]
  have hT : askT st (lf s) (wd s) = lsd (rts (lins (d % 7) (st a).ps)) 7 := by
    rw [hw]
    unfold askT
    rw [if_neg (by decide), if_neg (by decide), if_neg (by decide), if_pos rfl, hv, ps_at h1]
  rw [hS, hT]
  unfold ans
  rw [if_neg (by simp)]
theorem line_split {st : Nat → Mng} {s : ByteArray} {a : Nat} (hl : s.size ≤ 90) (hs : sml s (w0 s) = true) (hw : wd s = [115, 112, 108, 105, 116]) (h1 : (lf s 1).c = 69 + a) (ha : a < 26) (hk : (st a).kd = 1) (h2 : (lf s 2).c = 0) :
    lnR st s = ⟨0, 0, spl (ofD (st a).ps) 6, st⟩ := by
  unfold lnR
  rw [if_neg (by omega), if_neg (by rw [hs]; decide), if_neg (by rw [hw]; decide)]
  have hS : askS st (lf s) (wd s) = ⟨2, 0, 0⟩ := by
    rw [hw]
    unfold askS
    rw [if_neg (by decide), if_pos rfl, nm_ok h1 ha hk]
    unfold enS
    simp [h2]
  have hT : askT st (lf s) (wd s) = spl (ofD (st a).ps) 6 := by
    rw [hw]
    unfold askT
    rw [if_neg (by decide), if_pos rfl, ps_at h1]
  rw [hS, hT]
  unfold ans
  rw [if_neg (by simp)]

/-- The lines of Common, Rooted and Parted that ask. -/
def qG (n d : Nat) : List UInt8 := [103, 99, 100, 32, UInt8.ofNat (65 + n), 32, dgt d]
def qR (n d : Nat) : List UInt8 := [114, 111, 111, 116, 115, 32, UInt8.ofNat (65 + n), 32, dgt d]
def qS (n : Nat) : List UInt8 := [115, 112, 108, 105, 116, 32, UInt8.ofNat (65 + n)]
def chG (n d : Nat) : Bool := sml (bs (qG n d)) (w0 (bs (qG n d))) && wd (bs (qG n d)) == [103, 99, 100] && (lf (bs (qG n d)) 1).c == 69 + n && (lf (bs (qG n d)) 2).c == 1 && (lf (bs (qG n d)) 2).v == d && (lf (bs (qG n d)) 3).c == 0
def chR (n d : Nat) : Bool := sml (bs (qR n d)) (w0 (bs (qR n d))) && wd (bs (qR n d)) == [114, 111, 111, 116, 115] && (lf (bs (qR n d)) 1).c == 69 + n && (lf (bs (qR n d)) 2).c == 1 && (lf (bs (qR n d)) 2).v == d && (lf (bs (qR n d)) 3).c == 0
def chS (n : Nat) : Bool := sml (bs (qS n)) (w0 (bs (qS n))) && wd (bs (qS n)) == [115, 112, 108, 105, 116] && (lf (bs (qS n)) 1).c == 69 + n && (lf (bs (qS n)) 2).c == 0
theorem chG_all : ((List.range 26).all fun n => (List.range 10).all fun d => chG n d) = true := by kernel_rfl
theorem chR_all : ((List.range 26).all fun n => (List.range 10).all fun d => chR n d) = true := by kernel_rfl
theorem chS_all : ((List.range 26).all fun n => chS n) = true := by kernel_rfl
theorem ask_gcd (st : Nat → Mng) {n d : Nat} (hn : n < 26) (hd : d < 10) (hk : (st n).kd = 1) : lnR st (bs (qG n d)) = ⟨0, 0, txt (upL (gall (lins (d % 7) (st n).ps))), st⟩ := by
  have h := List.all_eq_true.1 (List.all_eq_true.1 chG_all n (List.mem_range.2 hn)) d (List.mem_range.2 hd)
  simp only [chG, Bool.and_eq_true, beq_iff_eq] at h
  obtain ⟨⟨⟨⟨⟨h1, h2⟩, h3⟩, h4⟩, h5⟩, h6⟩ := h
  exact line_gcd (by rw [bs_size]; simp [qG]) h1 h2 h3 hn hk h4 h5 h6
theorem ask_roots (st : Nat → Mng) {n d : Nat} (hn : n < 26) (hd : d < 10) (hk : (st n).kd = 1) : lnR st (bs (qR n d)) = ⟨0, 0, lsd (rts (lins (d % 7) (st n).ps)) 7, st⟩ := by
  have h := List.all_eq_true.1 (List.all_eq_true.1 chR_all n (List.mem_range.2 hn)) d (List.mem_range.2 hd)
  simp only [chR, Bool.and_eq_true, beq_iff_eq] at h
  obtain ⟨⟨⟨⟨⟨h1, h2⟩, h3⟩, h4⟩, h5⟩, h6⟩ := h
  exact line_roots (by rw [bs_size]; simp [qR]) h1 h2 h3 hn hk h4 h5 h6
theorem ask_split (st : Nat → Mng) {n : Nat} (hn : n < 26) (hk : (st n).kd = 1) : lnR st (bs (qS n)) = ⟨0, 0, spl (ofD (st n).ps) 6, st⟩ := by
  have h := List.all_eq_true.1 chS_all n (List.mem_range.2 hn)
  simp only [chS, Bool.and_eq_true, beq_iff_eq] at h
  obtain ⟨⟨⟨h1, h2⟩, h3⟩, h4⟩ := h
  exact line_split (by rw [bs_size]; simp [qS]) h1 h2 h3 hn hk h4
end Go.Proofs.YthlmgpllapccfaaGreatDoor
/- PLAIN: a line that lets a name mean two sums. -/
namespace Go.Proofs.YthlmgpllapccfaaGreatDoor
open Go.RowKit

/-- let N = .. -/
def letL (n : Nat) (T : List UInt8) : List UInt8 := [108, 101, 116, 32, UInt8.ofNat (65 + n), 32, 61, 32] ++ T
theorem letL_sfx (n : Nat) (T : List UInt8) (j : Nat) (h : j ≤ 8) : Sfx (bs (letL n T)) j ((letL n T).drop j) := by
  refine ⟨rfl, ?_⟩
  rw [bs_size]; unfold letL; simp; omega
theorem tok_eq {s : ByteArray} {i : Nat} {R : List UInt8} (h : Sfx s i (61 :: R)) : tok s i = ⟨65, i, i + 1, 0⟩ := by
  obtain ⟨hb, hs⟩ := h.cons
  have hb' : byt s i = 61 := hb
  have hd : ¬ isD s i = true := by rw [isD_iff]; omega
  unfold tok
  rw [skip_here (by omega)]
  unfold tokAt
  rw [if_neg (by omega), if_neg hd, if_neg (by omega), if_neg (by omega), hb']
theorem tok_name {s : ByteArray} {i n : Nat} {R : List UInt8} (hn : n < 26) (h : Sfx s i (UInt8.ofNat (65 + n) :: R)) : tok s i = ⟨69 + n, i, i + 1, 0⟩ := by
  obtain ⟨hb, hs⟩ := h.cons
  have hb' : byt s i = 65 + n := by rw [hb]; simp; omega
  have hd : ¬ isD s i = true := by rw [isD_iff]; omega
  unfold tok
  rw [skip_here (by omega)]
  unfold tokAt
  rw [if_neg (by omega), if_neg hd, if_neg (by omega), if_neg (by omega), hb']
  congr 1
  omega
theorem let_word (n : Nat) (T : List UInt8) : sml (bs (letL n T)) (w0 (bs (letL n T))) = true ∧ w1 (bs (letL n T)) = 3 ∧ wd (bs (letL n T)) = [108, 101, 116] := by
  have h0 : byt (bs (letL n T)) 0 = 108 := (letL_sfx n T 0 (by omega)).cons.1
  have h1 : byt (bs (letL n T)) 1 = 101 := (letL_sfx n T 1 (by omega)).cons.1
  have h2 : byt (bs (letL n T)) 2 = 116 := (letL_sfx n T 2 (by omega)).cons.1
  have h3 : byt (bs (letL n T)) 3 = 32 := (letL_sfx n T 3 (by omega)).cons.1
  have hw0 : w0 (bs (letL n T)) = 0 := by unfold w0; exact skip_here (by omega)
  have s0 : sml (bs (letL n T)) 0 = true := by rw [sml_iff]; omega
  have s1 : sml (bs (letL n T)) 1 = true := by rw [sml_iff]; omega
  have s2 : sml (bs (letL n T)) 2 = true := by rw [sml_iff]; omega
  have s3 : ¬ sml (bs (letL n T)) 3 = true := by rw [sml_iff]; omega
  have hw1 : w1 (bs (letL n T)) = 3 := by unfold w1; rw [hw0, wend_step s0, wend_step s1, wend_step s2, wend_here s3]
  refine ⟨by rw [hw0]; exact s0, hw1, ?_⟩
  unfold wd
  rw [hw0, hw1]
  simp [bs, letL, ByteArray.extract, ByteArray.copySlice]
theorem let_run (n : Nat) (T : List UInt8) : Run (bs (letL n T)) (lf (bs (letL n T))) (lq (bs (letL n T))) 1 := by
  intro j hj
  refine ⟨lf_tok (Or.inr (by omega)), ?_⟩
  obtain ⟨hs, _, _⟩ := let_word n T
  unfold lq
  rw [if_pos hs, if_pos hs, if_neg (by omega), if_neg (by omega)]
  obtain ⟨k, rfl⟩ : ∃ k, j = k + 1 := ⟨j - 1, by omega⟩
  rfl
/-- WHAT A LINE THAT LETS COMES TO. -/
theorem line_let (st : Nat → Mng) {n : Nat} (hn : n < 26) (a b : Sm) (ha : a.ok) (hb : b.ok) (cm : List UInt8) (hc : cm = [44] ∨ cm = [32, 44, 32]) (hl : (letL n (a.txt ++ (cm ++ b.txt))).length ≤ 90) :
    lnR st (bs (letL n (a.txt ++ (cm ++ b.txt)))) = ⟨0, 0, [], upd st n (.sys [a.val, b.val])⟩ := by
  generalize hT : a.txt ++ (cm ++ b.txt) = T at *
  obtain ⟨hs, hw1, hw⟩ := let_word n T
  have hrun := let_run n T
  have hsz : (bs (letL n T)).size ≤ 90 := by rw [bs_size]; exact hl
  have hP1 : lq (bs (letL n T)) 1 = 3 := by unfold lq; rw [if_pos hs, if_neg (by omega)]; exact hw1
  have y0 : YAt (bs (letL n T)) (lf (bs (letL n T))) (lq (bs (letL n T))) 1 3 ((letL n T).drop 3) := ⟨by rw [hP1], ⟨by omega, hrun⟩, letL_sfx n T 3 (by omega)⟩
  have y1 : YAt (bs (letL n T)) (lf (bs (letL n T))) (lq (bs (letL n T))) 1 4 (UInt8.ofNat (65 + n) :: 32 :: 61 :: 32 :: T) := y0.space
  have t1 := tok_name hn y1.2.2
  have y2 := (y1.next t1 (by omega) y1.2.2.cons.2).space
  have t2 := tok_eq y2.2.2
  have y3 := (y2.next t2 (by omega) y2.2.2.cons.2).space
  have c1 : (lf (bs (letL n T)) 1).c = 69 + n := by rw [y1.tk, t1]
  have c2 : (lf (bs (letL n T)) 2).c = 65 := by rw [y2.tk, t2]
  rw [← hT] at y3
  obtain ⟨k', e, hz⟩ := ysys a b ha hb cm hc y3
  rw [hT] at e hz
  generalize bs (letL n T) = s at *
  have e' : syR (lf s) s.size 4 3 = ⟨0, 0, k', [a.val, b.val]⟩ := e
  unfold lnR
  rw [if_neg (by omega), if_neg (by rw [hs]; decide), if_pos hw]
  have hN : nmS (lf s) (ok0 st) ws1 = ⟨2, 0, 0⟩ := by
    have hi : isN (lf s 1) = true := by rw [isN_iff]; omega
    unfold nmS ws1
    rw [if_neg (by simp), if_pos hi, if_pos (by unfold ok0; rfl)]
  have hS : letS st (lf s) s.size = ⟨k', 0, 0⟩ := by
    unfold letS
    rw [hN]
    unfold wtS
    rw [if_neg (by simp), if_pos c2]
    unfold sysS
    rw [if_neg (by simp)]
    show enS (lf s) ⟨(syR (lf s) s.size 4 3).k, (syR (lf s) s.size 4 3).e, (syR (lf s) s.size 4 3).bad⟩ = _
    rw [e']
    unfold enS
    rw [if_neg (by simp), if_pos hz]
  rw [hS]
  unfold ans
  rw [if_neg (by simp), e']
  unfold nm1
  rw [c1, Nat.add_sub_cancel_left]
end Go.Proofs.YthlmgpllapccfaaGreatDoor
/- ADDED: the statement's own functions: pick, digit, term. -/
namespace Go.Proofs.YthlmgpllapccfaaGreatDoor
open Go.RowKit

/-- Which of n things. -/
def pck (c : Int) (n : Nat) : Nat := ((if c < 0 then -(c + 1) else c) % n).toNat
theorem pck_lt (c : Int) {n : Nat} (h : 0 < n) : pck c n < n := by
  unfold pck
  have h1 : (0 : Int) < n := by omega
  have := Int.emod_lt_of_pos (if c < 0 then -(c + 1) else c) h1
  have := Int.emod_nonneg (if c < 0 then -(c + 1) else c) (b := n) (by omega)
  omega
theorem pck_cast (c : Int) {n : Nat} (h : 0 < n) : (pck c n : Int) = Int.tmod (if c < 0 then -(c + 1) else c) n := by
  unfold pck
  have := Int.emod_nonneg (if c < 0 then -(c + 1) else c) (b := n) (by omega)
  rw [Int.toNat_of_nonneg this, Int.tmod_eq_emod_of_nonneg]
  split <;> omega
set_option maxRecDepth 100000 in
theorem kpick_any (c : Int) (n : Nat) (N : Int) (w : World) (hN : N = n) (h : 0 < n) (hn : n ≤ 100) (h1 : -9223372036854775808 ≤ c) (h2 : c ≤ 9223372036854775807) :
    Calls Tryz.prog 12 #[.int .i64 c, .int .i64 N] w fun e w' => e = .returned (.int .i64 (pck c n)) ∧ w' = w := by
  subst hN
  have hp := pck_cast c h
  have hl := pck_lt c h
  have hn0 : ¬ ((n : Int) = 0) := by omega
  have hn1 : ¬ ((n : Int) = -1) := by omega
  have HP := hidT hp
  clear hp
  by_cases hc : c < 0
  · rw [if_pos hc] at HP
    go_enter Tryz.func12, Tryz.ntmps12
    go_wp2
    go_ret
    exact ⟨by rw [HP.out, Int.neg_tmod]; rfl, rfl⟩
  · rw [if_neg hc] at HP
    go_enter Tryz.func12, Tryz.ntmps12
    go_wp2
    go_ret
    exact ⟨by rw [HP.out, Int.tmod_eq_emod_of_nonneg (by omega)]; rfl, rfl⟩
theorem kdigit_any (n : Nat) (N : Int) (w : World) (hN : N = n) (hn : n < 10) :
    Calls Tryz.prog 17 #[.int .i64 N] w fun e w' => e = .returned (.string (bs [dgt n])) ∧ Below w.heap.size w w' := by
  subst hN
  have hcv := fun (w' : World) => conv_new n hn w'
  go_enter Tryz.func17, Tryz.ntmps17
  go_wp2
  go_ret
  exact ⟨rfl, by go_grown⟩

theorem kpick_to (c : Int) (n : Nat) (C N : Int) (w : World) (hC : C = c) (hN : N = n) (h : 0 < n) (hn : n ≤ 100) (h1 : -9223372036854775808 ≤ c) (h2 : c ≤ 9223372036854775807) :
    Calls Tryz.prog 12 #[.int .i64 C, .int .i64 N] w fun e w' => e = .returned (.int .i64 (pck c n)) ∧ w' = w := by
  subst hC; exact kpick_any C n N w hN h hn h1 h2
theorem add_to0 (a : List UInt8) (A : ByteArray) (b c : List UInt8) (S : ByteArray) (hA : A = bs a) (hS : S = bs b) (hc : a ++ b = c) (ha : a.length ≤ 1000) (hb : b.length ≤ 1000) (w : World) : (Op.stringOp .add A S).run Tryz.prog w = .ok (.string (bs c)) w := by
  subst hA; exact add_to a b c S hS hc ha hb w
theorem tdiv_bd (v : Int) (k : Nat) (hk : 2 ≤ k) (h1 : -9223372036854775808 ≤ v) (h2 : v ≤ 9223372036854775807) : -9223372036854775808 ≤ Int.tdiv v k ∧ Int.tdiv v k ≤ 9223372036854775807 := by
  have h := Int.natAbs_tdiv v k
  have e : Nat.div v.natAbs (k : Int).natAbs = v.natAbs / k := rfl
  rw [e] at h
  have h3 : v.natAbs / k ≤ v.natAbs / 2 := Nat.div_le_div_left hk (by omega)
  omega
theorem bel2 {a b c : World} (h : Below a.heap.size a b) (k : Below b.heap.size b c) : Below a.heap.size a c :=
  Fr.below (bs := []) ((Fr.of_below h).trans (Fr.of_below (bs := []) k) (by simp)) (Nat.le_refl _) (by simp)
end Go.Proofs.YthlmgpllapccfaaGreatDoor
