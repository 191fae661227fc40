import Derived.Test.YthlmgpllapccfaaGreatDoorPack10
import Derived.Test.YthlmgpllapccfaaGreatDoorRows
import Derived.ChangeSame
import Derived.ChangeVars
import Derived.JoinedOf
import Derived.RowKit
import Derived.RowKitTokens
import Derived.LaidLaws
import Derived.LaidHandle
import Derived.SizedLaws
import Derived.Stop.Joined
import Derived.Test.YthlmgpllapccfaaGreatDoorTie
import Derived.Test.YthlmgpllapccfaaGreatDoorCards
import Derived.SevenTiedAt
import Derived.ProofKit
import Derived.ChangeMaps5
import Derived.ChangeSlices
import Derived.Deep.SlicePairs
/- THE LAWS OF SESSIONS: several sessions in memory. -/
namespace Go.Proofs.YthlmgpllapccfaaGreatDoor
open Go.RowKit

/-- A pair of sessions: the program's block, its map, the document's desk. -/
structure Pr where
  b : Nat
  bm : Nat
  bd : Nat
def prV : Option Pr → List Value
  | none => [.pointer none, .pointer none]
  | some p => [.pointer (some ⟨p.b, 0, none⟩), .pointer (some ⟨p.bd, 0, none⟩)]
def prL (L : List (Option Pr)) : List Value := (L.map prV).flatten
theorem prV_len (p : Option Pr) : (prV p).length = 2 := by cases p <;> rfl
theorem prL_len : ∀ L : List (Option Pr), (prL L).length = L.length * 2
  | [] => rfl
  | p :: L => by
    have e : prL (p :: L) = prV p ++ prL L := by simp [prL]
    rw [e, List.length_append, prV_len, prL_len L, List.length_cons]; omega
theorem prL_snoc (L : List (Option Pr)) (p : Option Pr) : prL (L ++ [p]) = prL L ++ prV p := by simp [prL]
theorem prL_get : ∀ (L : List (Option Pr)) {k j : Nat} {p : Option Pr}, L[k]? = some p → j < 2 → (prL L)[k * 2 + j]? = (prV p)[j]?
  | [], k, j, p, h, _ => by simp at h
  | q :: L, k, j, p, h, hj => by
    have e : prL (q :: L) = prV q ++ prL L := by simp [prL]
    rw [e]
    have hq := prV_len q
    cases k with
    | zero =>
      simp at h; subst h
      rw [List.getElem?_append_left (by omega), Nat.zero_mul, Nat.zero_add]
    | succ k =>
      rw [List.getElem?_append_right (by omega), hq, show (k + 1) * 2 + j - 2 = k * 2 + j by omega]
      exact prL_get L (by simpa using h) hj

/-- All sessions in memory; M: the blocks that may be written, none of them below B. -/
structure SI (B : Nat) (w : World) (M : List Nat) (S : Nat → Nat → Mng) (L : List (Option Pr)) : Prop where
  one : ∀ p, some p ∈ L → Blk w p.b #[.map (some p.bm)] 71 ∧ Nm w M p.bm (S p.bm) ∧ Dk w M p.bd (S p.bm) ∧ p.b ∉ M
  inj : ∀ p q, some p ∈ L → some q ∈ L → (p.bm = q.bm ↔ p.bd = q.bd)
  lo : ∀ x ∈ M, B ≤ x
  hi : ∀ x ∈ M, x < w.heap.size
theorem Dk.blk {w : World} {M : List Nat} {b : Nat} {st : Nat → Mng} (h : Dk w M b st) : ∃ cs : Array Value, w.heap[b]? = some (.cells cs 84 (0, 0)) := by
  obtain ⟨⟨cs, h1, _⟩, _⟩ := h; exact ⟨cs, h1⟩
theorem Nm.blk {w : World} {M : List Nat} {b : Nat} {st : Nat → Mng} (h : Nm w M b st) : ∃ es clock, w.heap[b]? = some (.map es clock) := by
  obtain ⟨⟨es, clock, h1, _⟩, _⟩ := h; exact ⟨es, clock, h1⟩
theorem SI.fr {B : Nat} {w w' : World} {M : List Nat} {S : Nat → Nat → Mng} {L : List (Option Pr)} (h : SI B w M S L) (hf : Fr [] w w') : SI B w' M S L :=
  ⟨fun p hp => by
    obtain ⟨h1, h2, h3, h4⟩ := h.one p hp
    exact ⟨h1.fr hf (by simp), h2.fr hf (by simp) (by simp), h3.fr hf (by simp) (by simp), h4⟩, h.inj, h.lo, fun x hx => Nat.lt_of_lt_of_le (h.hi x hx) hf.size⟩
/-- The row of the pairs has been written. -/
theorem SI.row {B g : Nat} {w w' : World} {M : List Nat} {S : Nat → Nat → Mng} {L : List (Option Pr)} (h : SI B w M S L) (hf : Fr [g] w w') (hg : g ∈ M) {cs : Array Value} (hgb : w.heap[g]? = some (.cells cs 62 (0, 0))) : SI B w' M S L :=
  ⟨fun p hp => by
    obtain ⟨h1, h2, h3, h4⟩ := h.one p hp
    obtain ⟨es, clock, hm⟩ := h2.blk
    obtain ⟨ds, hd⟩ := h3.blk
    refine ⟨h1.fr hf (by simp; exact fun q => h4 (q ▸ hg)), h2.fr hf (by simp; intro q; subst q; rw [hm] at hgb; simp at hgb) (by simp [hg]), h3.fr hf (by simp; intro q; subst q; rw [hd] at hgb; simp at hgb) (by simp [hg]), h4⟩, h.inj, h.lo, fun x hx => Nat.lt_of_lt_of_le (h.hi x hx) hf.size⟩
theorem SI.more {B x : Nat} {w : World} {M : List Nat} {S : Nat → Nat → Mng} {L : List (Option Pr)} (h : SI B w M S L) (hx : w.heap.size ≤ x) (w' : World) (hf : Fr [] w w') (hx2 : x < w'.heap.size) (hB : B ≤ x) : SI B w' (x :: M) S L :=
  ⟨fun p hp => by
    obtain ⟨h1, h2, h3, h4⟩ := h.one p hp
    refine ⟨h1.fr hf (by simp), (h2.more hx).fr hf (by simp) (by simp), (h3.more hx).fr hf (by simp) (by simp), fun q => ?_⟩
    rw [List.mem_cons] at q
    rcases q with q | q
    · have := h1.lt; omega
    · exact h4 q, h.inj, fun y hy => by rw [List.mem_cons] at hy; rcases hy with rfl | hy; exact hB; exact h.lo y hy, fun y hy => by
      rw [List.mem_cons] at hy
      rcases hy with rfl | hy
      · exact hx2
      · exact Nat.lt_of_lt_of_le (h.hi y hy) hf.size⟩
/-- A pair more. -/
theorem SI.none {B : Nat} {w : World} {M : List Nat} {S : Nat → Nat → Mng} {L : List (Option Pr)} (h : SI B w M S L) : SI B w M S (L ++ [none]) :=
  ⟨fun p hp => h.one p (by simpa using hp), fun p q hp hq => h.inj p q (by simpa using hp) (by simpa using hq), h.lo, h.hi⟩
/-- What a line has done to one pair. -/
theorem SI.did {B : Nat} {w w1 w2 : World} {M : List Nat} {S : Nat → Nat → Mng} {L : List (Option Pr)} {p : Pr} {st : Nat → Mng} (h : SI B w M S L) (hp : some p ∈ L) (h1 : Nm w1 M p.bm st) (f1 : Fr [p.bm] w w1) (h2 : Dk w2 M p.bd st) (f2 : Fr [p.bd] w1 w2) :
    SI B w2 M (fun k => if k = p.bm then st else S k) L := by
  obtain ⟨a1, a2, a3, a4⟩ := h.one p hp
  have hbm := a2.mem
  have hbd := a3.mem
  obtain ⟨es0, c0, hm0⟩ := a2.blk
  obtain ⟨es1, c1, hm1⟩ := h1.blk
  obtain ⟨ds0, hd0⟩ := a3.blk
  have hne : p.bd ≠ p.bm := fun q => by rw [q, hm0] at hd0; simp at hd0
  refine ⟨fun q hq => ?_, h.inj, h.lo, fun x hx => Nat.lt_of_lt_of_le (Nat.lt_of_lt_of_le (h.hi x hx) f1.size) f2.size⟩
  obtain ⟨b1, b2, b3, b4⟩ := h.one q hq
  obtain ⟨es, clock, hm⟩ := b2.blk
  obtain ⟨ds, hd⟩ := b3.blk
  have n1 : q.bm ≠ p.bd := fun e => by rw [e, hd0] at hm; simp at hm
  have n2 : q.bd ≠ p.bm := fun e => by rw [e, hm0] at hd; simp at hd
  have k1 : Blk w1 q.b #[.map (some q.bm)] 71 := b1.fr f1 (by simp; exact fun e => b4 (e ▸ hbm))
  refine ⟨k1.fr f2 (by simp; exact fun e => b4 (e ▸ hbd)), ?_, ?_, b4⟩
  · by_cases e : q.bm = p.bm
    · rw [if_pos e, e]
      exact h1.fr f2 (by simp; exact fun q => hne q.symm) (by simp [hbd])
    · rw [if_neg e]
      exact (b2.fr f1 (by simp; exact e) (by simp [hbm])).fr f2 (by simp; exact n1) (by simp [hbd])
  · by_cases e : q.bm = p.bm
    · rw [if_pos e, (h.inj q p hq hp).1 e]
      exact h2
    · rw [if_neg e]
      have e2 : q.bd ≠ p.bd := fun t => e ((h.inj q p hq hp).2 t)
      exact (b3.fr f1 (by simp; exact n2) (by simp [hbm])).fr f2 (by simp; exact e2) (by simp [hbd])
/-- A new pair. -/
theorem SI.new {B : Nat} {w w1 w2 : World} {M : List Nat} {S : Nat → Nat → Mng} {L : List (Option Pr)} {b bm : Nat} (h : SI B w M S L) (hB : B ≤ w.heap.size) (f1 : Fr [] w w1) (h1 : Blk w1 b #[.map (some bm)] 71) (h2 : Nm w1 [bm] bm (fun _ => .non)) (hb : w.heap.size ≤ b) (hbm : w.heap.size ≤ bm)
    (h3 : Dk w2 [w1.heap.size] w1.heap.size (fun _ => .non)) (f2 : Fr [] w1 w2) (hne : b ≠ bm) :
    SI B w2 (w1.heap.size :: bm :: M) (fun k => if k = bm then (fun _ => .non) else S k) (L ++ [some ⟨b, bm, w1.heap.size⟩]) := by
  have hl2 : w1.heap.size < w2.heap.size := h3.lt
  have hbm1 : bm < w1.heap.size := h2.lt
  have hs := f1.size
  have hSI : SI B w2 (w1.heap.size :: bm :: M) S L := by
    have k1 := h.more (x := bm) hbm w1 f1 hbm1 (by omega)
    exact k1.more (x := w1.heap.size) (Nat.le_refl _) w2 f2 hl2 (by omega)
  refine ⟨fun p hp => ?_, fun p q hp hq => ?_, hSI.lo, hSI.hi⟩
  · rw [List.mem_append] at hp
    rcases hp with hp | hp
    · obtain ⟨a1, a2, a3, a4⟩ := hSI.one p hp
      have e : p.bm ≠ bm := fun q => by have := (h.one p hp).2.1.lt; omega
      rw [if_neg e]
      exact ⟨a1, a2, a3, a4⟩
    · simp at hp; subst hp
      dsimp only
      rw [if_pos rfl]
      refine ⟨h1.fr f2 (by simp), ?_, ?_, ?_⟩
      · obtain ⟨⟨es, clock, k1, k2, k3⟩, _⟩ := h2.fr f2 (by simp) (by simp)
        exact ⟨⟨es, clock, k1, k2, fun n hn => k3 n hn⟩, by simp⟩
      · obtain ⟨⟨cs, k1, k2, k3⟩, _⟩ := h3
        exact ⟨⟨cs, k1, k2, fun n hn => by obtain ⟨v, v1, v2⟩ := k3 n hn; exact ⟨v, v1, v2⟩⟩, by simp⟩
      · have := h1.lt
        simp only [List.mem_cons, not_or]
        exact ⟨by omega, hne, fun q => by have := h.hi b q; omega⟩
  · rw [List.mem_append] at hp hq
    rcases hp with hp | hp
    · rcases hq with hq | hq
      · exact h.inj p q hp hq
      · simp at hq; subst hq
        have a1 := (h.one p hp).2.1.lt
        have a2 := (h.one p hp).2.2.1.lt
        dsimp only
        constructor
        · intro e; omega
        · intro e; omega
    · simp at hp; subst hp
      rcases hq with hq | hq
      · have a1 := (h.one q hq).2.1.lt
        have a2 := (h.one q hq).2.2.1.lt
        dsimp only
        constructor
        · intro e; omega
        · intro e; omega
      · simp at hq; subst hq
        exact ⟨fun _ => rfl, fun _ => rfl⟩
end Go.Proofs.YthlmgpllapccfaaGreatDoor
/- THE LAWS OF SESSIONS: a script is played. -/
namespace Go.Proofs.YthlmgpllapccfaaGreatDoor
open Go.RowKit

theorem SI.rowMore {B g x : Nat} {w w' : World} {M : List Nat} {S : Nat → Nat → Mng} {L : List (Option Pr)} (h : SI B w M S L) (hf : Fr [g] w w') (hg : g ∈ M) {cs : Array Value} (hgb : w.heap[g]? = some (.cells cs 62 (0, 0))) (hx : w.heap.size ≤ x) (hx2 : x < w'.heap.size) (hB : B ≤ x) : SI B w' (x :: M) S L :=
  ⟨fun p hp => by
    obtain ⟨h1, h2, h3, h4⟩ := h.one p hp
    obtain ⟨es, clock, hm⟩ := h2.blk
    obtain ⟨ds, hd⟩ := h3.blk
    refine ⟨h1.fr hf (by simp; exact fun q => h4 (q ▸ hg)), (h2.more hx).fr hf (by simp; intro q; subst q; rw [hm] at hgb; simp at hgb) (by simp [hg]), (h3.more hx).fr hf (by simp; intro q; subst q; rw [hd] at hgb; simp at hgb) (by simp [hg]), fun q => ?_⟩
    rw [List.mem_cons] at q
    rcases q with q | q
    · have := h1.lt; omega
    · exact h4 q, h.inj, fun y hy => by rw [List.mem_cons] at hy; rcases hy with rfl | hy; exact hB; exact h.lo y hy, fun y hy => by
      rw [List.mem_cons] at hy
      rcases hy with rfl | hy
      · exact hx2
      · exact Nat.lt_of_lt_of_le (h.hi y hy) hf.size⟩
theorem grown_fr {w w' : World} {row : Option Nat} (h : w.grownBy w' row) : Fr row.toList w w' :=
  ⟨h.os, h.tape, h.output, h.size, fun k hk hn => h.block k hk (fun q => hn (by rw [← q]; simp))⟩
/-- The row of the pairs has grown. -/
theorem SI.grow {B n g2 H : Nat} {w w' : World} {M : List Nat} {S : Nat → Nat → Mng} {L : List (Option Pr)} {v : Value} {xs : List Value} (h : SI B w M S L) (hB : B ≤ w.heap.size) (ho : w.ownsRow B 62 2 v n xs) (hv : ∀ g, v.ownBlock = some g → g ∈ M) (hg : w.grownBy w' v.ownBlock) (hH : H = w.heap.size) (hat : v.ownBlock = some g2 ∨ g2 = H) (hlt : g2 < w'.heap.size) :
    ∃ M', SI B w' M' S L ∧ g2 ∈ M' := by
  subst hH
  have hf := grown_fr hg
  obtain ⟨_, ho | ⟨g, cap, cur, ho1, ho2, ho3, _⟩⟩ := ho
  · rw [ho.1] at hf hat
    have hg2 : g2 = w.heap.size := by
      rcases hat with q | q
      · simp [Value.ownBlock] at q
      · exact q
    exact ⟨g2 :: M, h.more (by omega) w' hf hlt (by omega), by simp⟩
  · have hvb : v.ownBlock = some g := by rw [ho1]; rfl
    rw [hvb] at hf hat
    have hgM := hv g hvb
    by_cases e : g2 = g
    · exact ⟨M, h.row hf hgM ho3, by rw [e]; exact hgM⟩
    · have hg2 : g2 = w.heap.size := by
        rcases hat with q | q
        · exact absurd (Option.some.inj q).symm e
        · exact q
      exact ⟨g2 :: M, h.rowMore hf hgM ho3 (by omega) hlt (by omega), by simp⟩
theorem pair_info : (Tryz.prog.info? 62).map (fun i => (i.zero, i.size, i.bytes)) = some (some (.agg #[.pointer none, .pointer none]), 2, 16) := by kernel_rfl
theorem SI.off {B n c : Nat} {w : World} {v : Value} {xs : List Value} (ho : w.ownsRow B 62 2 v n xs) (hc : ∀ cs : Array Value, w.heap[c]? ≠ some (.cells cs 62 (0, 0))) : v.ownBlock ≠ some c := by
  obtain ⟨_, ho | ⟨g, cap, cur, ho1, ho2, ho3, _⟩⟩ := ho
  · rw [ho.1]; simp [Value.ownBlock]
  · rw [ho1]
    intro q
    have : g = c := by simpa [Value.ownBlock] using q
    rw [this] at ho3
    exact hc _ ho3
theorem addB (ad : Addr) (k : Nat) : (ad.add k).block = ad.block := by unfold Addr.add; split <;> rfl
theorem addO (ad : Addr) (k : Nat) : (ad.add k).off = ad.off + k := by
  unfold Addr.add
  split
  · rename_i h; omega
  · rfl
theorem addS (ad : Addr) (k j : Nat) (hj : 0 < j) : ad.add (k + j) = ⟨(ad.add k).block, (ad.add k).off + j, none⟩ := by
  rw [addB, addO]
  unfold Addr.add
  rw [if_neg (by omega)]
  simp only [Addr.mk.injEq, true_and, and_true]
  omega

set_option maxRecDepth 100000 in
set_option maxHeartbeats 4000000 in
theorem holds_false (ad : Addr) (n cap : Nat) (K Mi : Nat → Int) (Sx : Nat → ByteArray) (W : World) (hg : ErrT W) (hn : n ≤ 4398046511104) (hblk : ad.block < W.heap.size)
    (hc : ∀ i, i < n → W.cell? (ad.add (i * 3)) = some (.int .i64 (K i)) ∧ W.cell? (ad.add (i * 3 + 1)) = some (.int .i64 (Mi i)) ∧ W.cell? (ad.add (i * 3 + 2)) = some (.string (Sx i)))
    (hm : ∀ i, i < n → -9223372036854775808 ≤ Mi i ∧ Mi i ≤ 9223372036854775807) (hs : ∀ i, i < n → (Sx i).size ≤ 140737488351232) :
    Calls Tryz.prog 10 #[.slice (some ad) n cap, .bool false] W fun e w' => e = .returned (.bool true) ∧ Below W.heap.size W w' := by
  have HC := hidV hc
  have HM := hidV hm
  have HS := hidV hs
  have HG := hidV hg
  clear hc hm hs hg
  go_enter Tryz.func10, Tryz.ntmps10
  go_wp2
  go_loopg [5, 6] n (fun gm v5 v6 wr => ∃ i : Nat, ∃ L : List (Option Pr), ∃ M : List Nat, ∃ S : Nat → Nat → Mng, gm = n - i ∧ i ≤ n ∧ v6 = .int .i64 i ∧ L.length ≤ i ∧ Hid (wr.ownsRow W.heap.size 62 2 v5 L.length (prL L) ∧ (∀ g, v5.ownBlock = some g → g ∈ M) ∧ SI W.heap.size wr M S L ∧ Below W.heap.size W wr))
  case atStart => exact ⟨0, [], [], fun _ _ => .non, rfl, by omega, rfl, by simp, World.ownsRow_nil _ _ _ _, fun g hg => by simp [Value.ownBlock] at hg, ⟨fun p hp => by simp at hp, fun p q hp => by simp at hp, fun x hx => by simp at hx, fun x hx => by simp at hx⟩, Below.refl _ _⟩
  case round =>
    obtain ⟨i, L, M, S, hgm, hi, rfl, hLi, HD⟩ := hrel
    by_cases hlt : i < n
    · obtain ⟨q0, q1, q2⟩ := HC.out i hlt
      have hb0 : ∀ k, wr.cell? (ad.add k) = W.cell? (ad.add k) := fun k => World.cell?_of_block (by rw [addB]; exact HD.out.2.2.2.block _ hblk)
      have c0 : wr.cell? (ad.add (i * 3)) = some (.int .i64 (K i)) := (hb0 _).trans q0
      have c1 : wr.cell? ⟨(ad.add (i * 3)).block, (ad.add (i * 3)).off + 1, none⟩ = some (.int .i64 (Mi i)) := by rw [← addS ad (i * 3) 1 (by omega)]; exact (hb0 _).trans q1
      have c2 : wr.cell? ⟨(ad.add (i * 3)).block, (ad.add (i * 3)).off + 2, none⟩ = some (.string (Sx i)) := by rw [← addS ad (i * 3) 2 (by omega)]; exact (hb0 _).trans q2
      have HMI := hidV (HM.out i hlt)
      have HSX := hidV (HS.out i hlt)
      have i0 : (0 : Int) ≤ (i : Int) := by omega
      have i1 : (i : Int) < (n : Int) := by omega
      clear hb0 q0 q1 q2
      go_upto_region 7 with fail
      have HLI := hidV hLi
      refine wp_forget (fun V => Blk V wr.heap.size #[.int .i64 (K i), .int .i64 (Mi i), .string (Sx i)] 58 ∧ V.ownsRow W.heap.size 62 2 u5 L.length (prL L) ∧ (∀ g, u5.ownBlock = some g → g ∈ M) ∧ SI W.heap.size V M S L ∧ Below W.heap.size W V ∧ (∀ x ∈ M, x < wr.heap.size)) ?_ ?_
      · have hf : Fr [] wr (wr.alloc (.cells #[.int .i64 (K i), .int .i64 (Mi i), .string (Sx i)] 58)) := (Fr.refl [] wr).alloc _
        exact ⟨Blk.new wr _ _, ownsRow_frL HD.out.1 hf (by simp), HD.out.2.1, HD.out.2.2.1.fr hf, HD.out.2.2.2.trans (hf.below (B := W.heap.size) HD.out.2.2.2.size (by simp)), HD.out.2.2.1.hi⟩
      rintro V ⟨v1, v2, v3, v4, v5, v6⟩
      have HV := hidV (And.intro v1 (And.intro v2 (And.intro v3 (And.intro v4 (And.intro v5 v6)))))
      have d0 : V.cell? ⟨wr.heap.size, 0, none⟩ = some (.int .i64 (K i)) := v1.cell 0
      have d1 : V.cell? ⟨wr.heap.size, 1, none⟩ = some (.int .i64 (Mi i)) := v1.cell 1
      have d2 : V.cell? ⟨wr.heap.size, 2, none⟩ = some (.string (Sx i)) := v1.cell 2
      have hob : wr.heap.size < V.heap.size := v1.lt
      have hWV : W.heap.size ≤ V.heap.size := v5.size
      obtain ⟨p5, cap5, hu5⟩ := ownsRow_form v2
      subst hu5
      clear v1 v2 v3 v4 v5 v6 HD c0 c1 c2
      generalize wr.heap.size = ob at *
      clear wr
      have HGV : Hid (ErrT V) := HG.out.fr (bs := []) (Fr.of_below HV.out.2.2.2.2.1) (by simp)
      obtain ⟨i9, hii, hz0, hz1, hz2⟩ := info_parts pair_info
      have hLn : L.length ≤ 4398046511104 := by omega
      by_cases k1 : K i = 1
      · rw [k1] at *
        clear k1
        go_wp2_with fail
        refine (pNew_any V).mono ?_
        rintro e w1 ⟨b, bm, rfl, b1, b2, b3, b4, f1⟩
        have HB := hidV (And.intro b1 (And.intro b2 (And.intro b3 (And.intro b4 f1))))
        clear b1 b2 b3 b4 f1
        go_wp2_with fail
        refine (rNew_any w1).mono ?_
        rintro e w2 ⟨rfl, e1, e2, e3⟩
        have HN : Hid (SI W.heap.size w2 (w1.heap.size :: bm :: M) (fun k => if k = bm then (fun _ => .non) else S k) (L ++ [some ⟨b, bm, w1.heap.size⟩]) ∧ Fr [] V w2) := ⟨HV.out.2.2.2.1.new hWV HB.out.2.2.2.2 HB.out.1 HB.out.2.1 HB.out.2.2.1 HB.out.2.2.2.1 e1 e2 (fun q => by
          obtain ⟨es, clock, hm⟩ := HB.out.2.1.blk
          have hb := HB.out.1
          unfold Blk at hb
          rw [q, hm] at hb; simp at hb), HB.out.2.2.2.2.trans e2 (by simp)⟩
        have HO2 := hidV (ownsRow_frL HV.out.2.1 HN.out.2 (by simp))
        clear e1 e2 e3
        go_wp2_with (at_builtin; refine wpList_append_lies _ (by rfl) (.tmp 36) (.tmp 40) 56 (by rfl) W.heap.size 62 i9 _ 2 16 Tryz.underlying56 hii hz0 hz1 hz2 (by rfl) (by decide) _ L.length (prL L) (by rfl) (by exact HO2.out.alloc _) ⟨w2.heap.size, 0, none⟩ 1 1 [.pointer (some ⟨b, 0, none⟩), .pointer (some ⟨w1.heap.size, 0, none⟩)] (by rfl) (by rfl) (by exact World.news_of_block (Blk.new w2 _ _)) (by simp; exact ⟨rfl, rfl⟩) (by decide) (by unfold maxLen; omega) (by omega) (by have := HN.out.2.size; simp; omega) _ rfl ?_; intro g2 cap2 w3 hown1 hgrow hat hlt1; have HW3 := hidV (And.intro hown1 (And.intro hgrow (And.intro hat hlt1))); clear hown1 hgrow hat hlt1)
        go_roundg (n - (i + 1))
        case measure => omega
        case rel =>
          obtain ⟨hown1, hgrow, hat, hlt1⟩ := HW3.out
          have hfa : Fr [] w2 (w2.alloc (.cells #[.pointer (some ⟨b, 0, none⟩), .pointer (some ⟨w1.heap.size, 0, none⟩)] 62)) := (Fr.refl [] w2).alloc _
          have hsz := hfa.size
          have hV2 := HN.out.2.size
          obtain ⟨M', hS', hg'⟩ := (HN.out.1.fr hfa).grow (by omega) (HO2.out.alloc _) (fun g hg => by have := HV.out.2.2.1 g hg; simp [this]) hgrow (by simp) hat (hown1.lt g2 rfl).2
          refine ⟨i + 1, L ++ [some ⟨b, bm, w1.heap.size⟩], M', _, rfl, by omega, by go_num, by simp; omega, ?_, fun g hg => ?_, hS', ?_⟩
          · rw [prL_snoc, List.length_append]; exact hown1
          · have : g2 = g := by simpa [Value.ownBlock] using hg
            rw [← this]; exact hg'
          · have hbb : Below W.heap.size W (w2.alloc (.cells #[.pointer (some ⟨b, 0, none⟩), .pointer (some ⟨w1.heap.size, 0, none⟩)] 62)) := HV.out.2.2.2.2.1.trans ((HN.out.2.trans hfa (by simp)).below (B := W.heap.size) hWV (by simp))
            exact hbb.grown hgrow hbb.size (fun c hc => HV.out.2.2.2.1.lo c (HV.out.2.2.1 c hc))
      · have n1 : (K i == 1) = false := by rw [beq_eq_false_iff_ne]; exact k1
        clear k1
        by_cases k2 : K i = 2
        · rw [k2] at *
          clear k2 n1
          go_wp2_with (at_builtin; refine wpList_append_lies _ (by rfl) (.tmp 44) (.tmp 46) 56 (by rfl) W.heap.size 62 i9 _ 2 16 Tryz.underlying56 hii hz0 hz1 hz2 (by rfl) (by decide) _ L.length (prL L) (by rfl) (by exact HV.out.2.1.alloc _) ⟨V.heap.size, 0, none⟩ 1 1 [.pointer none, .pointer none] (by rfl) (by rfl) (by exact World.news_of_block (Blk.new V _ _)) (by simp; rfl) (by decide) (by unfold maxLen; omega) (by omega) (by simp; omega) _ rfl ?_; intro g2 cap2 w3 hown1 hgrow hat hlt1; have HW3 := hidV (And.intro hown1 (And.intro hgrow (And.intro hat hlt1))); clear hown1 hgrow hat hlt1)
          go_roundg (n - (i + 1))
          case measure => omega
          case rel =>
            obtain ⟨hown1, hgrow, hat, hlt1⟩ := HW3.out
            have hfa : Fr [] V (V.alloc (.cells #[.pointer none, .pointer none] 62)) := (Fr.refl [] V).alloc _
            have hsz := hfa.size
            obtain ⟨M', hS', hg'⟩ := (HV.out.2.2.2.1.none.fr hfa).grow (by omega) (HV.out.2.1.alloc _) HV.out.2.2.1 hgrow (by simp) hat (hown1.lt g2 rfl).2
            refine ⟨i + 1, L ++ [none], M', _, rfl, by omega, by go_num, by simp; omega, ?_, fun g hg => ?_, hS', ?_⟩
            · rw [prL_snoc, List.length_append]; exact hown1
            · have : g2 = g := by simpa [Value.ownBlock] using hg
              rw [← this]; exact hg'
            · have hbb : Below W.heap.size W (V.alloc (.cells #[.pointer none, .pointer none] 62)) := HV.out.2.2.2.2.1.trans (hfa.below (B := W.heap.size) hWV (by simp))
              exact hbb.grown hgrow hbb.size (fun c hc => HV.out.2.2.2.1.lo c (HV.out.2.2.1 c hc))
        · have n2 : (K i == 2) = false := by rw [beq_eq_false_iff_ne]; exact k2
          clear k2
          have HNEXT : Hid (∃ i' : Nat, ∃ L' : List (Option Pr), ∃ M' : List Nat, ∃ S' : Nat → Nat → Mng, n - (i + 1) = n - i' ∧ i' ≤ n ∧ Value.int .i64 ((i : Int) + 1) = .int .i64 i' ∧ L'.length ≤ i' ∧ Hid (V.ownsRow W.heap.size 62 2 (.slice p5 L.length cap5) L'.length (prL L') ∧ (∀ g, (Value.slice p5 L.length cap5).ownBlock = some g → g ∈ M') ∧ SI W.heap.size V M' S' L' ∧ Below W.heap.size W V)) := ⟨i + 1, L, M, S, rfl, by omega, by go_num, by omega, HV.out.2.1, HV.out.2.2.1, HV.out.2.2.2.1, HV.out.2.2.2.2.1⟩
          by_cases k3 : K i = 3
          · rw [k3] at *
            clear k3 n1 n2
            cases hos : oSets (Sx i) with
            | true =>
              have HOS := hidV hos
              have hz : L.length = 0 ∨ ¬ L.length = 0 := Decidable.em _
              rcases hz with hz | hz
              all_goals
                go_wp2_with (go_at_call 28; refine (ofSets_any (Sx i) _ HSX.out).mono ?_; rintro e w1 ⟨rfl, rfl⟩; rw [HOS.out])
                go_roundg (n - (i + 1))
                case measure => omega
                case rel => first | exact HNEXT.out | (have h0 : L.length = 0 := (by omega); have q := HNEXT.out; rw [h0] at q; exact q)
            | false =>
              have HOS := hidV hos
              by_cases hL0 : L.length = 0
              · have hL0i : ((L.length : Nat) : Int) = 0 := by omega
                go_wp2_with (go_at_call 28; refine (ofSets_any (Sx i) _ HSX.out).mono ?_; rintro e w1 ⟨rfl, rfl⟩; rw [HOS.out])
                all_goals
                  go_roundg (n - (i + 1))
                  case measure => omega
                  case rel => first | exact HNEXT.out | (have h0 : L.length = 0 := (by omega); have q := HNEXT.out; rw [h0] at q; exact q)
              · have hL0i : ¬ ((L.length : Nat) : Int) = 0 := by omega
                obtain ⟨g5, hp5⟩ : ∃ g5, p5 = some ⟨g5, 0, none⟩ := by
                  obtain ⟨_, ho | ⟨g, cc, cur, ho1, _⟩⟩ := HV.out.2.1
                  · exact absurd ho.2 hL0
                  · injection ho1 with q1 q2 q3
                    exact ⟨g, q1⟩
                subst hp5
                have HPC : Hid (∀ k p, L[k]? = some p → ∃ qx qd, V.cell? ⟨g5, k * 2, none⟩ = some (.pointer qx) ∧ V.cell? ⟨g5, k * 2 + 1, none⟩ = some (.pointer qd) ∧ Hid (prV p = [.pointer qx, .pointer qd])) := by
                  intro k p hk
                  have hc : ∀ j v, (prL L)[k * 2 + j]? = some v → V.cell? ⟨g5, k * 2 + j, none⟩ = some v := fun j v hv => by
                    have := HV.out.2.1.cells (g := g5) rfl (k * 2 + j) v hv
                    rw [Addr.add_mid, Nat.zero_add] at this
                    exact this
                  have e0 := prL_get L hk (j := 0) (by omega)
                  have e1 := prL_get L hk (j := 1) (by omega)
                  cases p with
                  | none => exact ⟨none, none, hc 0 _ e0, hc 1 _ e1, rfl⟩
                  | some p => exact ⟨some ⟨p.b, 0, none⟩, some ⟨p.bd, 0, none⟩, hc 0 _ e0, hc 1 _ e1, rfl⟩
                have hg5 : g5 < V.heap.size := (HV.out.2.1.lt g5 rfl).2
                go_upto_region 19 with (first | (go_at_call 28; refine (ofSets_any (Sx i) _ HSX.out).mono ?_; rintro e w1 ⟨rfl, rfl⟩; rw [HOS.out]) | (go_at_call 29; refine (lpick_any (Mi i) L.length _ (by omega) (by omega) HMI.out.1 HMI.out.2).mono ?_; rintro e w1 ⟨⟨k, hk, rfl⟩, rfl⟩; obtain ⟨pp, hpp⟩ : ∃ pp, L[k]? = some pp := ⟨_, List.getElem?_eq_getElem hk⟩; obtain ⟨qx, qd, x0, x1, HQQ⟩ := HPC.out k pp hpp; have HPP := hidV (List.mem_of_getElem? hpp); have hk0 : (0 : Int) ≤ (k : Int) := (by omega); have hk1 : (k : Int) < (L.length : Int) := (by omega); clear hpp))
                refine wp_forget (fun U => Blk U w1.heap.size #[.pointer qx, .pointer qd] 62 ∧ Fr [] w1 U) ⟨Blk.new w1 _ _, (Fr.refl [] w1).alloc _⟩ ?_
                rintro U ⟨u1, u2⟩
                have HU := hidV (And.intro u1 u2)
                have y0 : U.cell? ⟨w1.heap.size, 0, none⟩ = some (.pointer qx) := u1.cell 0
                have y1 : U.cell? ⟨w1.heap.size, 1, none⟩ = some (.pointer qd) := u1.cell 1
                have hOB := HV.out.1.fr u2 (by simp)
                have z2 : U.cell? ⟨ob, 2, none⟩ = some (.string (Sx i)) := hOB.cell 2
                have HOB := hidV hOB
                have HBU : Hid (Below W.heap.size W U) := HV.out.2.2.2.2.1.trans (u2.below (B := W.heap.size) hWV (by simp))
                have HSI := hidV (HV.out.2.2.2.1.fr u2)
                have HRU := hidV (ownsRow_frL HV.out.2.1 u2 (by simp))
                have HGU : Hid (ErrT U) := HGV.out.fr u2 (by simp)
                have HPB := hidV (show ∀ x ∈ M, x < ob ∧ x < w1.heap.size from fun x hx => ⟨HV.out.2.2.2.2.2 x hx, HV.out.2.2.2.1.hi x hx⟩)
                have HVM := hidV HV.out.2.2.1
                clear u1 u2 hOB d0 d1 d2 x0 x1 HNEXT HV HPC
                generalize w1.heap.size = pb at *
                cases pp with
                | none =>
                  have hq : (Value.pointer none = .pointer qx) ∧ (Value.pointer none = .pointer qd) := by
                    have := HQQ.out
                    unfold prV at this
                    injection this with e1 e2
                    injection e2 with e2 e3
                    exact ⟨e1, e2⟩
                  obtain ⟨e1, e2⟩ := hq
                  injection e1 with e1
                  injection e2 with e2
                  subst e1 e2
                  go_wp2_with (first | (go_at_call 16; refine (pDo_nil (Sx i) _).mono ?_; rintro e w2 ⟨rfl, rfl⟩) | (go_at_call 30; refine (rDo_nil (Sx i) _).mono ?_; rintro e w2 ⟨rfl, rfl⟩))
                  go_roundg (n - (i + 1))
                  case measure => omega
                  case rel => exact ⟨i + 1, L, M, S, rfl, by omega, by go_num, by omega, HRU.out, HVM.out, HSI.out, HBU.out⟩
                | some p =>
                  have hq : (Value.pointer (some ⟨p.b, 0, none⟩) = .pointer qx) ∧ (Value.pointer (some ⟨p.bd, 0, none⟩) = .pointer qd) := by
                    have := HQQ.out
                    unfold prV at this
                    injection this with e1 e2
                    injection e2 with e2 e3
                    exact ⟨e1, e2⟩
                  obtain ⟨e1, e2⟩ := hq
                  injection e1 with e1
                  injection e2 with e2
                  subst e1 e2
                  obtain ⟨a1, a2, a3, a4⟩ := HSI.out.one p HPP.out
                  have hbmM := a2.mem
                  have hbdM := a3.mem
                  obtain ⟨esm, ckm, hmm⟩ := a2.blk
                  obtain ⟨dsd, hdd⟩ := a3.blk
                  have hne : p.bd ≠ p.bm := fun q => by rw [q, hmm] at hdd; simp at hdd
                  have hno : ¬ (wd (Sx i) = [115, 101, 116] ∨ wd (Sx i) = [115, 104, 111, 119] ∨ wd (Sx i) = [104, 97, 115] ∨ wd (Sx i) = [115, 117, 98]) := of_decide_eq_false HOS.out
                  simp only [not_or] at hno
                  obtain ⟨m1, m2, m3, m4⟩ := hno
                  have HP1 := hidV (pDo_any (Sx i) p.b p.bm M (S p.bm) U ⟨a1, a2⟩ HSI.out.hi HGU.out HSX.out m1 m2 m3 m4)
                  have HR1 := hidV (fun w' h1 h2 => rDo_any M p.bd (S p.bm) (Sx i) w' h1 h2 HSX.out m2 m3 m4 m1)
                  have HAA := hidV (And.intro a1 (And.intro a2 (And.intro a3 (And.intro hbmM (And.intro hbdM hne)))))
                  have HTY := hidV (And.intro (SI.off HRU.out (c := p.bm) (fun cs q => by rw [hmm] at q; simp at q)) (SI.off HRU.out (c := p.bd) (fun cs q => by rw [hdd] at q; simp at q)))
                  have hpm := HPB.out p.bm hbmM
                  have hpd := HPB.out p.bd hbdM
                  have hobU : ob < U.heap.size := HOB.out.lt
                  have hpbU : pb < U.heap.size := HU.out.1.lt
                  clear a1 a2 a3 a4 hmm hdd m1 m2 m3 m4 hbmM hbdM hne
                  obtain ⟨R, HR⟩ : ∃ R, Hid (lnR (S p.bm) (Sx i) = R) := ⟨_, hidV rfl⟩
                  rw [HR.out] at HP1 HR1
                  obtain ⟨TT, HTT⟩ : ∃ TT, Hid (bs R.t = TT) := ⟨_, hidV rfl⟩
                  go_wp2_with fail
                  refine (HP1.out).mono ?_
                  rintro x w2 ⟨rfl, r1, r2⟩
                  rw [HTT.out]
                  have HR2 := hidV (And.intro r1 r2)
                  have y12 : w2.cell? ⟨pb, 1, none⟩ = some (.pointer (some ⟨p.bd, 0, none⟩)) := by rw [r2.cell 1 hpbU (by simp; omega)]; exact y1
                  have z22 : w2.cell? ⟨ob, 2, none⟩ = some (.string (Sx i)) := by rw [r2.cell 2 hobU (by simp; omega)]; exact z2
                  have HDK := hidV (HAA.out.2.2.1.fr r2 (by simp; exact HAA.out.2.2.2.2.2) (by simp [HAA.out.2.2.2.1]))
                  have HHI : Hid (∀ x ∈ M, x < w2.heap.size) := fun x hx => Nat.lt_of_lt_of_le (HSI.out.hi x hx) r2.size
                  clear r1 r2 y0 y1 z2
                  go_wp2_with fail
                  refine (HR1.out w2 HDK.out HHI.out).mono ?_
                  rintro x w3 ⟨rfl, r3, r4⟩
                  rw [HTT.out]
                  have HR3 := hidV (And.intro r3 r4)
                  clear r3 r4 y12 z22
                  generalize (R.e : Int) = RE at *
                  generalize (R.bad : Int) = RB at *
                  go_wp2
                  go_roundg (n - (i + 1))
                  case measure => omega
                  case rel =>
                    have hS' := HSI.out.did HPP.out HR2.out.1 HR2.out.2 HR3.out.1 HR3.out.2
                    refine ⟨i + 1, L, M, _, rfl, by omega, by go_num, by omega, ?_, HVM.out, hS', ?_⟩
                    · exact ownsRow_frL (ownsRow_frL HRU.out HR2.out.2 (by simp; exact HTY.out.1)) HR3.out.2 (by simp; exact HTY.out.2)
                    · have l1 := HSI.out.lo p.bm HAA.out.2.2.2.1
                      have l2 := HSI.out.lo p.bd HAA.out.2.2.2.2.1
                      have s1 := HBU.out.size
                      have s2 := HR2.out.2.size
                      exact (HBU.out.trans (HR2.out.2.below (B := W.heap.size) s1 (by simp; exact l1))).trans (HR3.out.2.below (B := W.heap.size) (by omega) (by simp; exact l2))
          · have n3 : (K i == 3) = false := by rw [beq_eq_false_iff_ne]; exact k3
            go_wp2
            go_roundg (n - (i + 1))
            case measure => omega
            case rel => exact HNEXT.out
    · go_wp2
      go_ret
      exact ⟨rfl, HD.out.2.2.2⟩
end Go.Proofs.YthlmgpllapccfaaGreatDoor
/- WHAT THE ROWS' CONDITION GIVES A WALK: errors.errorType's cell; a world that meets it. -/
namespace Go.Proofs.YthlmgpllapccfaaGreatDoor
open Go.ChangeShapes Go.WideShapes Go.RowKit

theorem Tryz.own : ownKnob Tryz.prog.godebug = none := by kernel_rfl
theorem Tryz.et : Tryz.prog.globalNamed "errors.errorType" = some 0 := by kernel_rfl
theorem Tryz.rt : (Tryz.prog.cutTypes.find? (·.1 == "internal/reflectlite.rtype")).map (·.2) = some 195 := by kernel_rfl
theorem Tryz.oneRow : ((List.range Tryz.prog.types.size).filter fun t => Tryz.prog.rowNamed t [101, 114, 114, 111, 114]) = [127] := by kernel_rfl
theorem Tryz.hand : typeHandle Tryz.prog 127 = .pointer (some ⟨5, 127, none⟩) := by kernel_rfl

theorem errT_of_handle {W : World} (h : handlesMet Tryz.prog [("errors.errorType", Rows.laid_errors_errorType)] W) : ErrT W := by
  obtain ⟨name, u, ty, e1, e2, e3, e4, e5⟩ := h _ (List.mem_singleton.2 rfl)
  have en : name = [101, 114, 114, 111, 114] := (Option.some.inj e1).symm
  subst en
  obtain rfl := Option.some.inj (Tryz.rt.symm.trans e2)
  have hm : ty ∈ (List.range Tryz.prog.types.size).filter fun t => Tryz.prog.rowNamed t [101, 114, 114, 111, 114] := List.mem_filter.2 ⟨List.mem_range.2 e3, e4⟩
  rw [Tryz.oneRow] at hm
  obtain rfl := List.mem_singleton.1 hm
  rw [Tryz.hand] at e5
  unfold ErrT
  simpa using World.var?_cell Tryz.et e5 0

/-- A world that meets the condition: the settled one, the variable's cell laid. -/
noncomputable def laidWorld (os : Os) : World :=
  let w0 := World.holding Tryz.prog os ⟨#[], #[], []⟩
  { w0 with heap := w0.heap.modify 0 fun
      | .cells _ t frozen => .cells #[.iface 195 (.agg #[.pointer (some ⟨5, 127, none⟩)])] t frozen
      | o => o }
end Go.Proofs.YthlmgpllapccfaaGreatDoor
/- SYSTEMS: THE LAW, THE ROW, AND THE TIED CARD. -/
namespace Go.Proofs.YthlmgpllapccfaaGreatDoor
open Go.ChangeShapes Go.WideShapes Go.ChangeAt Go.RowKit
open Go.ChangeMaps (open_string shut_string)

theorem err_laid {W : World} (h : laidMetH Tryz.prog [("errors.errorType", Rows.laid_errors_errorType)] W) : ErrT W := by
  have h' : laidMet Tryz.prog [] W ∧ handlesMet Tryz.prog [("errors.errorType", Rows.laid_errors_errorType)] W := h
  exact errT_of_handle h'.2
theorem err_world (os : Os) (args : Array Value) : laidMetH Tryz.prog [("errors.errorType", Rows.laid_errors_errorType)] ((laidWorld os).forCall (fun _ _ => 0) ⟨#[], args, []⟩).memory :=
  laidMetH_of_parts (laidMet_nil _ _) (by kernel_rfl)

set_option maxRecDepth 100000 in
theorem holds_nil (a : Option Addr) (cap : Nat) (b : Bool) (W : World) :
    Calls Tryz.prog 10 #[.slice a 0 cap, .bool b] W fun e w' => e = .returned (.bool true) ∧ Below W.heap.size W w' := by
  go_enter Tryz.func10, Tryz.ntmps10
  go_wp2
  refine wp_loop_rounds 1 ?_
  rw [rounds_succ]
  go_wp2
  go_ret
  exact ⟨rfl, Below.refl _ _⟩

theorem mem_weightsAll {H : Type} {P : Program} {e : TypeId} {d : DataW H} {x : Nat} (hx : x ∈ d.weights P e) : ∀ {l : List (DataW H)}, d ∈ l → x ∈ DataW.weightsAll P e l
  | [], h => by simp at h
  | y :: l, h => by
    rw [DataW.weightsAll, List.mem_append]
    rcases List.mem_cons.1 h with h | h
    · subst h; exact Or.inl hx
    · exact Or.inr (mem_weightsAll hx h)

theorem wf_bd64 {n : Int} (h : (Lit.int .i64 n).wf = true) : -9223372036854775808 ≤ n ∧ n ≤ 9223372036854775807 := by
  simp only [Lit.wf, Bool.and_eq_true, decide_eq_true_eq] at h
  exact ⟨h.1, h.2⟩

theorem three_of {α : Type} {l : List α} (h : l.length = 3) : ∃ a b c, l = [a, b, c] := by
  match l, h with
  | [a, b, c], _ => exact ⟨a, b, c, rfl⟩
theorem addAdd (ad : Addr) (k j : Nat) : (ad.add k).add j = ad.add (k + j) := by
  rcases Nat.eq_zero_or_pos j with h | h
  · subst h; simp [Addr.add]
  · rw [addS ad k j h]
    conv => lhs; unfold Addr.add
    rw [if_neg (by omega)]
    rfl
theorem cells_op : Tryz.prog.cellsOf 58 = 3 := by kernel_rfl
theorem bytes_op : Tryz.prog.bytesOf 58 = 32 := by kernel_rfl
/-- A script as it lies in memory. -/
theorem ops_of {H : Type} {enc : TypeId × Value → H} {W : World} {a : Option Addr} {len cap : Nat} {d : DataW H} {ps : List MemPlace} (h : DataW.Trod enc Tryz.prog W 0 (fun _ => true) true 22 (.slice a len cap) d ps) (hlt : ∀ y ∈ ps, y.block < W.heap.size) (hsz : (d.weights Tryz.prog 22).all (· ≤ reachBytes) = true) :
    len = 0 ∨ ∃ ad : Addr, ∃ K Mi : Nat → Int, ∃ Sx : Nat → ByteArray, a = some ad ∧ len ≤ 4398046511104 ∧ ad.block < W.heap.size ∧
      (∀ i, i < len → W.cell? (ad.add (i * 3)) = some (.int .i64 (K i)) ∧ W.cell? (ad.add (i * 3 + 1)) = some (.int .i64 (Mi i)) ∧ W.cell? (ad.add (i * 3 + 2)) = some (.string (Sx i))) ∧
      (∀ i, i < len → -9223372036854775808 ≤ Mi i ∧ Mi i ≤ 9223372036854775807) ∧ (∀ i, i < len → (Sx i).size ≤ 140737488351232) := by
  obtain ⟨fuel, hf⟩ := h
  rcases Go.Deep.open_slice Tryz.underlying22 hf with ⟨hcs, _⟩ | ⟨ad, len', cap', m, n, D, Pl, hcs, _, hl, hm, hmm, hx, hel⟩
  · simp [Value.cells] at hcs
    exact Or.inl hcs.2.1
  · simp [Value.cells] at hcs
    obtain ⟨rfl, rfl, rfl⟩ := hcs
    simp only [if_true] at hmm
    by_cases h0 : len = 0
    · exact Or.inl h0
    right
    simp only [Prod.mk.injEq] at hx
    obtain ⟨hd, hp⟩ := hx
    have hw : ∀ x, x ∈ d.weights Tryz.prog 22 → x ≤ reachBytes := fun x hxm => by simpa using (List.all_eq_true.1 hsz) x hxm
    have hwe : d.weights Tryz.prog 22 = (((List.range len).map D).length + ((List.range (m - len)).map fun j => D (len + j)).length) * Tryz.prog.bytesOf 58 :: (DataW.weightsAll Tryz.prog 58 ((List.range len).map D) ++ DataW.weightsAll Tryz.prog 58 ((List.range (m - len)).map fun j => D (len + j))) := by
      rw [hd, DataW.weights, Tryz.underlying22]
    have hlen : len ≤ 4398046511104 := by
      have h1 := hw _ (by rw [hwe]; exact List.mem_cons_self)
      rw [bytes_op] at h1
      simp only [List.length_map, List.length_range] at h1
      unfold reachBytes at h1
      omega
    have hblk : ad.block < W.heap.size := by
      refine hlt (.cell ad.block ad.off) ?_
      rw [hp, cells_op]
      simp [MemPlace.row]
      omega
    have each : ∀ i, i < len → ∃ q : Int × Int × ByteArray, W.cell? (ad.add (i * 3)) = some (.int .i64 q.1) ∧ W.cell? (ad.add (i * 3 + 1)) = some (.int .i64 q.2.1) ∧ W.cell? (ad.add (i * 3 + 2)) = some (.string q.2.2) ∧ (-9223372036854775808 ≤ q.2.1 ∧ q.2.1 ≤ 9223372036854775807) ∧ q.2.2.size ≤ 140737488351232 := by
      intro i hi
      obtain ⟨cs', h1, h2⟩ := hel i (by omega)
      rw [cells_op] at h1
      obtain ⟨_, hlen3, hcell⟩ := World.cells?_some h1
      obtain ⟨xs, k, hk, hxy, _, hxl, hff⟩ := DataW.trod_struct Tryz.underlying58 h2
      obtain ⟨y0, y1, y2, rfl⟩ := three_of (show xs.length = 3 from hxl)
      obtain ⟨v0, v1, v2, rfl⟩ := three_of hlen3
      have g0 := hff 0 _ rfl
      have g1 := hff 1 _ rfl
      have g2 := hff 2 _ rfl
      have ci : Tryz.prog.cellsOf 3 = 1 := by kernel_rfl
      have cstr : Tryz.prog.cellsOf 9 = 1 := by kernel_rfl
      simp [ci, cstr] at g0 g1 g2
      obtain ⟨n0, e0, _, _⟩ := DataW.trod_int Tryz.underlying3 g0
      obtain ⟨n1, e1, _, w1⟩ := DataW.trod_int Tryz.underlying3 g1
      obtain ⟨s2, e2, e3, _⟩ := DataW.trod_string Tryz.underlying9 g2
      simp at e0 e1 e2
      subst e0 e1 e2
      have c0 := hcell 0 (by omega)
      have c1 := hcell 1 (by omega)
      have c2 := hcell 2 (by omega)
      rw [addAdd] at c0 c1 c2
      refine ⟨(n0, n1, s2), by simpa using c0, by simpa using c1, by simpa using c2, wf_bd64 w1, ?_⟩
      have hDi : D i = .agg [y0.1, y1.1, y2.1] := by
        simp only [Prod.mk.injEq] at hxy
        simpa using hxy.1
      have hmem : s2.data.toList.length ∈ (D i).weights Tryz.prog 58 := by
        rw [hDi, DataW.weights, Tryz.underlying58, e3]
        simp [DataW.weightsEach, DataW.weights]
      have hle := hw _ (by
        rw [hwe]
        refine List.mem_cons_of_mem _ (List.mem_append.2 (Or.inl (mem_weightsAll hmem ?_)))
        exact List.mem_map.2 ⟨i, List.mem_range.2 hi, rfl⟩)
      have es : s2.data.toList.length = s2.size := by simp
      rw [es] at hle
      exact hle
    obtain ⟨q, hq⟩ := Go.Deep.choose_lt each
    exact ⟨ad, fun i => (q i).1, fun i => (q i).2.1, fun i => (q i).2.2, rfl, hlen, hblk, fun i hi => ⟨(hq i hi).1, (hq i hi).2.1, (hq i hi).2.2.1⟩, fun i hi => (hq i hi).2.2.2.1, fun i hi => (hq i hi).2.2.2.2⟩

theorem lawSystems_nil (a : Option Addr) (cap : Nat) (W : World) :
    Calls Tryz.prog 3 #[.slice a 0 cap] W fun e w' => e = .returned (.bool true) ∧ Below W.heap.size W w' := by
  go_enter Tryz.func3, Tryz.ntmps3
  go_wp2_with fail
  refine (holds_nil a cap false W).mono ?_
  rintro e w1 ⟨rfl, hb⟩
  go_wp2
  go_ret
  exact ⟨rfl, hb⟩
theorem lawSystems_any (ad : Addr) (n cap : Nat) (W : World) (h : Calls Tryz.prog 10 #[.slice (some ad) n cap, .bool false] W fun e w' => e = .returned (.bool true) ∧ Below W.heap.size W w') :
    Calls Tryz.prog 3 #[.slice (some ad) n cap] W fun e w' => e = .returned (.bool true) ∧ Below W.heap.size W w' := by
  have HH := hidV h
  clear h
  go_enter Tryz.func3, Tryz.ntmps3
  go_wp2_with fail
  refine (HH.out).mono ?_
  rintro e w1 ⟨rfl, hb⟩
  go_wp2
  go_ret
  exact ⟨rfl, hb⟩

set_option maxRecDepth 100000 in
theorem systems_lifted (os : Os) (started : os.Started) (H : Type) (enc : TypeId × Value → H) :
    ReturnsInHanded {} Tryz.checked os 3 .any (fun w args => (Rows.systemsSpec.pre enc Tryz.prog Tryz.f3 [] false w args ∧ laidMetH Tryz.prog [("errors.errorType", Rows.laid_errors_errorType)] w) ∧ sizedMet enc Tryz.prog Tryz.f3 (OpenSpec.ofChange Rows.systemsSpec) false w args)
      (Rows.systemsSpec.post enc Tryz.prog Tryz.f3 false true false false) := by
  refine returnsInHanded_of_change_and (C := Tryz.checked) (X := fun w _ => laidMetH Tryz.prog [("errors.errorType", Rows.laid_errors_errorType)] w) (fun _ _ _ hh h => h.of_heap hh) Tryz.own started (by kernel_rfl) Tryz.func3
    (ChangeSpec.witness_at (enc := enc) (C := Tryz.checked) (os := os) (X := fun w _ => laidMetH Tryz.prog [("errors.errorType", Rows.laid_errors_errorType)] w) false (laidWorld os) #[.slice none 0 0] 8 rfl (by kernel_rfl) (by kernel_rfl) (by kernel_rfl) (by kernel_rfl) (by kernel_rfl) (err_world os _)) ?_
  intro W base args ds gs before hval0 hW _ hsz0 hL _
  have hval : ∀ (j : Nat) t v, Tryz.f3.params[j]? = some t → args[j]? = some v → Value.okWide Tryz.prog W .any base t v := hval0
  have hsz : (DataW.weightsEach Tryz.prog (Tryz.f3.params.toList ++ Rows.systemsSpec.plain.varTypes Tryz.prog) (ds ++ gs)).all (· ≤ reachBytes) = true := hsz0
  have hW' := hW
  obtain ⟨p, q, hA0, hV0, rfl, hfz, hnd⟩ := hW
  have hA : DataW.TrodAll enc Tryz.prog W 0 (fun _ => true) true Tryz.f3.params.toList args.toList ds p := hA0
  have hV : DataW.TrodVars enc Tryz.prog W (fun _ => true) [] gs q := hV0
  rw [Tryz.params3] at hA hval hsz
  obtain ⟨v0, d0, rfl, rfl, h0⟩ := trodAll_one hA
  obtain ⟨a0, len0, cap0, rfl⟩ := okWide_slice Tryz.underlying22 (hval 0 22 v0 rfl rfl)
  have hg := err_laid hL
  obtain ⟨rfl, rfl⟩ : gs = [] ∧ q = [] := by
    cases gs with
    | nil => exact ⟨rfl, hV⟩
    | cons g r => exact absurd hV (by intro h; cases h)
  have hlt : ∀ y ∈ p ++ [], y.block < W.heap.size := fun y hy => hW'.lt y (by simpa using hy)
  have args0 : ∀ (W' : World), Below W.heap.size W W' → DataW.Trod enc Tryz.prog W' 0 (fun b => decide (b < W.heap.size)) true 22 (.slice a0 len0 cap0) d0 p :=
    fun W' hn => Below.trod (by kernel_rfl) (by kernel_rfl) (of_decide_eq_true (by kernel_rfl)) h0 hn (fun y hy => hlt y (by simp [hy]))
  have hsz1 : (d0.weights Tryz.prog 22).all (· ≤ reachBytes) = true := by
    have e : DataW.weightsEach Tryz.prog (#[22].toList ++ Rows.systemsSpec.plain.varTypes Tryz.prog) ([d0] ++ []) = d0.weights Tryz.prog 22 ++ [] := rfl
    rw [e, List.append_nil] at hsz
    exact hsz
  have law : Calls Tryz.prog 3 #[.slice a0 len0 cap0] W fun e w' => e = .returned (.bool true) ∧ Below W.heap.size W w' := by
    rcases ops_of h0 (fun y hy => hlt y (by simp [hy])) hsz1 with rfl | ⟨ad, K, Mi, Sx, rfl, k1, k2, k3, k4, k5⟩
    · exact lawSystems_nil a0 cap0 W
    · exact lawSystems_any ad len0 cap0 W (holds_false ad len0 cap0 K Mi Sx W hg k1 k2 k3 k4 k5)
  clear hA0 hval0 hsz0
  refine law.mono fun e W' ⟨he, hw⟩ => ?_
  subst he
  refine ⟨_, rfl, _, _, _, [], p, [], hW', ?_, ?_, ?_, hw.frame _, fun h => by cases h⟩
  · exact trodAll_mk1 (shut_bool Tryz.underlying4 true)
  · exact trodAll_mk1 (args0 _ hw)
  · rfl

theorem systems_holds : Rows.SystemsSaid :=
  OpenClaim.holds_of_wide 3 Tryz.f3 rfl rfl rfl rfl rfl rfl rfl ⟨rfl, rfl, rfl, rfl, rfl⟩ rfl rfl rfl rfl rfl (by kernel_rfl) Tryz.func3 (by kernel_rfl)
    (of_decide_eq_true (by kernel_rfl)) (by unfold Func.isWrapper; rw [if_neg (of_decide_eq_false (by kernel_rfl))]; exact ⟨rfl, rfl⟩)
    (fun os started H enc _ => systems_lifted os started H enc)

theorem systems_card : Rows.SystemsCardSaid :=
  Claim7.holds_tied_plain_at .later [] [.handle] true (true, "96a46c333c484247801d0ce534cef77f3d94ac4f4b7b00cca2ade548cce1501e") true
    systems_holds (fun _ h => by cases h) (by kernel_rfl) (fun _ h => by cases h) systems_row_tie rfl ⟨rfl, rfl⟩ (by kernel_rfl) rfl
    (fun f fn hf hfn => by
      obtain rfl : f = 3 := Option.some.inj ((show Tryz.prog.funcNamed "segments/segmentslaw.Systems" = some 3 by kernel_rfl).symm.trans hf) |>.symm
      obtain rfl : fn = Tryz.f3 := (Option.some.inj (Tryz.func3.symm.trans hfn)).symm
      exact ⟨by kernel_rfl, fun j t ht => by
        rw [Tryz.params3] at ht
        rcases j with _ | j
        · obtain rfl : t = 22 := by simpa using ht.symm
          exact (show Tryz.prog.wantsStandIn 22 = false by kernel_rfl)
        · simp at ht⟩)
    (by kernel_rfl)
end Go.Proofs.YthlmgpllapccfaaGreatDoor
