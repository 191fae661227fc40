import Derived.Test.YthlmgpllapccfaaGreatDoorPack10
import Derived.Test.YthlmgpllapccfaaGreatDoorRows
import Derived.ChangeSame
import Derived.ChangeVars
import Derived.JoinedOf
import Derived.RowKit
import Derived.RowKitTokens
import Derived.LaidLaws
import Derived.LaidHandle
import Derived.SizedLaws
import Derived.Stop.Joined
import Derived.SevenTiedAt
import Derived.ProofKit
import Derived.ChangeMaps5
import Derived.ChangeSlices
import Derived.Deep.SlicePairs
/- THE LAWS OF SESSIONS: several sessions in memory. -/
namespace Go.Proofs.YthlmgpllapccfaaGreatDoor
open Go.RowKit

/-- A pair of sessions: the program's block, its map, the document's desk. -/
structure Pr where
  b : Nat
  bm : Nat
  bd : Nat
def prV : Option Pr → List Value
  | none => [.pointer none, .pointer none]
  | some p => [.pointer (some ⟨p.b, 0, none⟩), .pointer (some ⟨p.bd, 0, none⟩)]
def prL (L : List (Option Pr)) : List Value := (L.map prV).flatten
theorem prV_len (p : Option Pr) : (prV p).length = 2 := by cases p <;> rfl
theorem prL_len : ∀ L : List (Option Pr), (prL L).length = L.length * 2
  | [] => rfl
  | p :: L => by
    have e : prL (p :: L) = prV p ++ prL L := by simp [prL]
    rw [e, List.length_append, prV_len, prL_len L, List.length_cons]; omega
theorem prL_snoc (L : List (Option Pr)) (p : Option Pr) : prL (L ++ [p]) = prL L ++ prV p := by simp [prL]
theorem prL_get : ∀ (L : List (Option Pr)) {k j : Nat} {p : Option Pr}, L[k]? = some p → j < 2 → (prL L)[k * 2 + j]? = (prV p)[j]?
  | [], k, j, p, h, _ => by simp at h
  | q :: L, k, j, p, h, hj => by
    have e : prL (q :: L) = prV q ++ prL L := by simp [prL]
    rw [e]
    have hq := prV_len q
    cases k with
    | zero =>
      simp at h; subst h
      rw [List.getElem?_append_left (by omega), Nat.zero_mul, Nat.zero_add]
    | succ k =>
      rw [List.getElem?_append_right (by omega), hq, show (k + 1) * 2 + j - 2 = k * 2 + j by omega]
      exact prL_get L (by simpa using h) hj

/-- All sessions in memory; M: the blocks that may be written, none of them below B. -/
structure SI (B : Nat) (w : World) (M : List Nat) (S : Nat → Nat → Mng) (L : List (Option Pr)) : Prop where
  one : ∀ p, some p ∈ L → Blk w p.b #[.map (some p.bm)] 71 ∧ Nm w M p.bm (S p.bm) ∧ Dk w M p.bd (S p.bm) ∧ p.b ∉ M
  inj : ∀ p q, some p ∈ L → some q ∈ L → (p.bm = q.bm ↔ p.bd = q.bd)
  lo : ∀ x ∈ M, B ≤ x
  hi : ∀ x ∈ M, x < w.heap.size
theorem Dk.blk {w : World} {M : List Nat} {b : Nat} {st : Nat → Mng} (h : Dk w M b st) : ∃ cs : Array Value, w.heap[b]? = some (.cells cs 84 (0, 0)) := by
  obtain ⟨⟨cs, h1, _⟩, _⟩ := h; exact ⟨cs, h1⟩
theorem Nm.blk {w : World} {M : List Nat} {b : Nat} {st : Nat → Mng} (h : Nm w M b st) : ∃ es clock, w.heap[b]? = some (.map es clock) := by
  obtain ⟨⟨es, clock, h1, _⟩, _⟩ := h; exact ⟨es, clock, h1⟩
theorem SI.fr {B : Nat} {w w' : World} {M : List Nat} {S : Nat → Nat → Mng} {L : List (Option Pr)} (h : SI B w M S L) (hf : Fr [] w w') : SI B w' M S L :=
  ⟨fun p hp => by
    obtain ⟨h1, h2, h3, h4⟩ := h.one p hp
    exact ⟨h1.fr hf (by simp), h2.fr hf (by simp) (by simp), h3.fr hf (by simp) (by simp), h4⟩, h.inj, h.lo, fun x hx => Nat.lt_of_lt_of_le (h.hi x hx) hf.size⟩
/-- The row of the pairs has been written. -/
theorem SI.row {B g : Nat} {w w' : World} {M : List Nat} {S : Nat → Nat → Mng} {L : List (Option Pr)} (h : SI B w M S L) (hf : Fr [g] w w') (hg : g ∈ M) {cs : Array Value} (hgb : w.heap[g]? = some (.cells cs 62 (0, 0))) : SI B w' M S L :=
  ⟨fun p hp => by
    obtain ⟨h1, h2, h3, h4⟩ := h.one p hp
    obtain ⟨es, clock, hm⟩ := h2.blk
    obtain ⟨ds, hd⟩ := h3.blk
    refine ⟨h1.fr hf (by simp; exact fun q => h4 (q ▸ hg)), h2.fr hf (by simp; intro q; subst q; rw [hm] at hgb; simp at hgb) (by simp [hg]), h3.fr hf (by simp; intro q; subst q; rw [hd] at hgb; simp at hgb) (by simp [hg]), h4⟩, h.inj, h.lo, fun x hx => Nat.lt_of_lt_of_le (h.hi x hx) hf.size⟩
theorem SI.more {B x : Nat} {w : World} {M : List Nat} {S : Nat → Nat → Mng} {L : List (Option Pr)} (h : SI B w M S L) (hx : w.heap.size ≤ x) (w' : World) (hf : Fr [] w w') (hx2 : x < w'.heap.size) (hB : B ≤ x) : SI B w' (x :: M) S L :=
  ⟨fun p hp => by
    obtain ⟨h1, h2, h3, h4⟩ := h.one p hp
    refine ⟨h1.fr hf (by simp), (h2.more hx).fr hf (by simp) (by simp), (h3.more hx).fr hf (by simp) (by simp), fun q => ?_⟩
    rw [List.mem_cons] at q
    rcases q with q | q
    · have := h1.lt; omega
    · exact h4 q, h.inj, fun y hy => by rw [List.mem_cons] at hy; rcases hy with rfl | hy; exact hB; exact h.lo y hy, fun y hy => by
      rw [List.mem_cons] at hy
      rcases hy with rfl | hy
      · exact hx2
      · exact Nat.lt_of_lt_of_le (h.hi y hy) hf.size⟩
/-- A pair more. -/
theorem SI.none {B : Nat} {w : World} {M : List Nat} {S : Nat → Nat → Mng} {L : List (Option Pr)} (h : SI B w M S L) : SI B w M S (L ++ [none]) :=
  ⟨fun p hp => h.one p (by simpa using hp), fun p q hp hq => h.inj p q (by simpa using hp) (by simpa using hq), h.lo, h.hi⟩
/-- What a line has done to one pair. -/
theorem SI.did {B : Nat} {w w1 w2 : World} {M : List Nat} {S : Nat → Nat → Mng} {L : List (Option Pr)} {p : Pr} {st : Nat → Mng} (h : SI B w M S L) (hp : some p ∈ L) (h1 : Nm w1 M p.bm st) (f1 : Fr [p.bm] w w1) (h2 : Dk w2 M p.bd st) (f2 : Fr [p.bd] w1 w2) :
    SI B w2 M (fun k => if k = p.bm then st else S k) L := by
  obtain ⟨a1, a2, a3, a4⟩ := h.one p hp
  have hbm := a2.mem
  have hbd := a3.mem
  obtain ⟨es0, c0, hm0⟩ := a2.blk
  obtain ⟨es1, c1, hm1⟩ := h1.blk
  obtain ⟨ds0, hd0⟩ := a3.blk
  have hne : p.bd ≠ p.bm := fun q => by rw [q, hm0] at hd0; simp at hd0
  refine ⟨fun q hq => ?_, h.inj, h.lo, fun x hx => Nat.lt_of_lt_of_le (Nat.lt_of_lt_of_le (h.hi x hx) f1.size) f2.size⟩
  obtain ⟨b1, b2, b3, b4⟩ := h.one q hq
  obtain ⟨es, clock, hm⟩ := b2.blk
  obtain ⟨ds, hd⟩ := b3.blk
  have n1 : q.bm ≠ p.bd := fun e => by rw [e, hd0] at hm; simp at hm
  have n2 : q.bd ≠ p.bm := fun e => by rw [e, hm0] at hd; simp at hd
  have k1 : Blk w1 q.b #[.map (some q.bm)] 71 := b1.fr f1 (by simp; exact fun e => b4 (e ▸ hbm))
  refine ⟨k1.fr f2 (by simp; exact fun e => b4 (e ▸ hbd)), ?_, ?_, b4⟩
  · by_cases e : q.bm = p.bm
    · rw [if_pos e, e]
      exact h1.fr f2 (by simp; exact fun q => hne q.symm) (by simp [hbd])
    · rw [if_neg e]
      exact (b2.fr f1 (by simp; exact e) (by simp [hbm])).fr f2 (by simp; exact n1) (by simp [hbd])
  · by_cases e : q.bm = p.bm
    · rw [if_pos e, (h.inj q p hq hp).1 e]
      exact h2
    · rw [if_neg e]
      have e2 : q.bd ≠ p.bd := fun t => e ((h.inj q p hq hp).2 t)
      exact (b3.fr f1 (by simp; exact n2) (by simp [hbm])).fr f2 (by simp; exact e2) (by simp [hbd])
/-- A new pair. -/
theorem SI.new {B : Nat} {w w1 w2 : World} {M : List Nat} {S : Nat → Nat → Mng} {L : List (Option Pr)} {b bm : Nat} (h : SI B w M S L) (hB : B ≤ w.heap.size) (f1 : Fr [] w w1) (h1 : Blk w1 b #[.map (some bm)] 71) (h2 : Nm w1 [bm] bm (fun _ => .non)) (hb : w.heap.size ≤ b) (hbm : w.heap.size ≤ bm)
    (h3 : Dk w2 [w1.heap.size] w1.heap.size (fun _ => .non)) (f2 : Fr [] w1 w2) (hne : b ≠ bm) :
    SI B w2 (w1.heap.size :: bm :: M) (fun k => if k = bm then (fun _ => .non) else S k) (L ++ [some ⟨b, bm, w1.heap.size⟩]) := by
  have hl2 : w1.heap.size < w2.heap.size := h3.lt
  have hbm1 : bm < w1.heap.size := h2.lt
  have hs := f1.size
  have hSI : SI B w2 (w1.heap.size :: bm :: M) S L := by
    have k1 := h.more (x := bm) hbm w1 f1 hbm1 (by omega)
    exact k1.more (x := w1.heap.size) (Nat.le_refl _) w2 f2 hl2 (by omega)
  refine ⟨fun p hp => ?_, fun p q hp hq => ?_, hSI.lo, hSI.hi⟩
  · rw [List.mem_append] at hp
    rcases hp with hp | hp
    · obtain ⟨a1, a2, a3, a4⟩ := hSI.one p hp
      have e : p.bm ≠ bm := fun q => by have := (h.one p hp).2.1.lt; omega
      rw [if_neg e]
      exact ⟨a1, a2, a3, a4⟩
    · simp at hp; subst hp
      dsimp only
      rw [if_pos rfl]
      refine ⟨h1.fr f2 (by simp), ?_, ?_, ?_⟩
      · obtain ⟨⟨es, clock, k1, k2, k3⟩, _⟩ := h2.fr f2 (by simp) (by simp)
        exact ⟨⟨es, clock, k1, k2, fun n hn => k3 n hn⟩, by simp⟩
      · obtain ⟨⟨cs, k1, k2, k3⟩, _⟩ := h3
        exact ⟨⟨cs, k1, k2, fun n hn => by obtain ⟨v, v1, v2⟩ := k3 n hn; exact ⟨v, v1, v2⟩⟩, by simp⟩
      · have := h1.lt
        simp only [List.mem_cons, not_or]
        exact ⟨by omega, hne, fun q => by have := h.hi b q; omega⟩
  · rw [List.mem_append] at hp hq
    rcases hp with hp | hp
    · rcases hq with hq | hq
      · exact h.inj p q hp hq
      · simp at hq; subst hq
        have a1 := (h.one p hp).2.1.lt
        have a2 := (h.one p hp).2.2.1.lt
        dsimp only
        constructor
        · intro e; omega
        · intro e; omega
    · simp at hp; subst hp
      rcases hq with hq | hq
      · have a1 := (h.one q hq).2.1.lt
        have a2 := (h.one q hq).2.2.1.lt
        dsimp only
        constructor
        · intro e; omega
        · intro e; omega
      · simp at hq; subst hq
        exact ⟨fun _ => rfl, fun _ => rfl⟩
end Go.Proofs.YthlmgpllapccfaaGreatDoor
/- THE LAWS OF SESSIONS: the row of the pairs. -/
namespace Go.Proofs.YthlmgpllapccfaaGreatDoor
open Go.RowKit

theorem SI.rowMore {B g x : Nat} {w w' : World} {M : List Nat} {S : Nat → Nat → Mng} {L : List (Option Pr)} (h : SI B w M S L) (hf : Fr [g] w w') (hg : g ∈ M) {cs : Array Value} (hgb : w.heap[g]? = some (.cells cs 62 (0, 0))) (hx : w.heap.size ≤ x) (hx2 : x < w'.heap.size) (hB : B ≤ x) : SI B w' (x :: M) S L :=
  ⟨fun p hp => by
    obtain ⟨h1, h2, h3, h4⟩ := h.one p hp
    obtain ⟨es, clock, hm⟩ := h2.blk
    obtain ⟨ds, hd⟩ := h3.blk
    refine ⟨h1.fr hf (by simp; exact fun q => h4 (q ▸ hg)), (h2.more hx).fr hf (by simp; intro q; subst q; rw [hm] at hgb; simp at hgb) (by simp [hg]), (h3.more hx).fr hf (by simp; intro q; subst q; rw [hd] at hgb; simp at hgb) (by simp [hg]), fun q => ?_⟩
    rw [List.mem_cons] at q
    rcases q with q | q
    · have := h1.lt; omega
    · exact h4 q, h.inj, fun y hy => by rw [List.mem_cons] at hy; rcases hy with rfl | hy; exact hB; exact h.lo y hy, fun y hy => by
      rw [List.mem_cons] at hy
      rcases hy with rfl | hy
      · exact hx2
      · exact Nat.lt_of_lt_of_le (h.hi y hy) hf.size⟩
theorem grown_fr {w w' : World} {row : Option Nat} (h : w.grownBy w' row) : Fr row.toList w w' :=
  ⟨h.os, h.tape, h.output, h.size, fun k hk hn => h.block k hk (fun q => hn (by rw [← q]; simp))⟩
/-- The row of the pairs has grown. -/
theorem SI.grow {B n g2 H : Nat} {w w' : World} {M : List Nat} {S : Nat → Nat → Mng} {L : List (Option Pr)} {v : Value} {xs : List Value} (h : SI B w M S L) (hB : B ≤ w.heap.size) (ho : w.ownsRow B 62 2 v n xs) (hv : ∀ g, v.ownBlock = some g → g ∈ M) (hg : w.grownBy w' v.ownBlock) (hH : H = w.heap.size) (hat : v.ownBlock = some g2 ∨ g2 = H) (hlt : g2 < w'.heap.size) :
    ∃ M', SI B w' M' S L ∧ g2 ∈ M' := by
  subst hH
  have hf := grown_fr hg
  obtain ⟨_, ho | ⟨g, cap, cur, ho1, ho2, ho3, _⟩⟩ := ho
  · rw [ho.1] at hf hat
    have hg2 : g2 = w.heap.size := by
      rcases hat with q | q
      · simp [Value.ownBlock] at q
      · exact q
    exact ⟨g2 :: M, h.more (by omega) w' hf hlt (by omega), by simp⟩
  · have hvb : v.ownBlock = some g := by rw [ho1]; rfl
    rw [hvb] at hf hat
    have hgM := hv g hvb
    by_cases e : g2 = g
    · exact ⟨M, h.row hf hgM ho3, by rw [e]; exact hgM⟩
    · have hg2 : g2 = w.heap.size := by
        rcases hat with q | q
        · exact absurd (Option.some.inj q).symm e
        · exact q
      exact ⟨g2 :: M, h.rowMore hf hgM ho3 (by omega) hlt (by omega), by simp⟩
theorem pair_info : (Tryz.prog.info? 62).map (fun i => (i.zero, i.size, i.bytes)) = some (some (.agg #[.pointer none, .pointer none]), 2, 16) := by kernel_rfl
theorem SI.off {B n c : Nat} {w : World} {v : Value} {xs : List Value} (ho : w.ownsRow B 62 2 v n xs) (hc : ∀ cs : Array Value, w.heap[c]? ≠ some (.cells cs 62 (0, 0))) : v.ownBlock ≠ some c := by
  obtain ⟨_, ho | ⟨g, cap, cur, ho1, ho2, ho3, _⟩⟩ := ho
  · rw [ho.1]; simp [Value.ownBlock]
  · rw [ho1]
    intro q
    have : g = c := by simpa [Value.ownBlock] using q
    rw [this] at ho3
    exact hc _ ho3
theorem addB (ad : Addr) (k : Nat) : (ad.add k).block = ad.block := by unfold Addr.add; split <;> rfl
theorem addO (ad : Addr) (k : Nat) : (ad.add k).off = ad.off + k := by
  unfold Addr.add
  split
  · rename_i h; omega
  · rfl
theorem addS (ad : Addr) (k j : Nat) (hj : 0 < j) : ad.add (k + j) = ⟨(ad.add k).block, (ad.add k).off + j, none⟩ := by
  rw [addB, addO]
  unfold Addr.add
  rw [if_neg (by omega)]
  simp only [Addr.mk.injEq, true_and, and_true]
  omega
end Go.Proofs.YthlmgpllapccfaaGreatDoor
/- WHAT THE ROWS' CONDITION GIVES A WALK: errors.errorType's cell; a world that meets it. -/
namespace Go.Proofs.YthlmgpllapccfaaGreatDoor
open Go.ChangeShapes Go.WideShapes Go.RowKit

theorem Tryz.own : ownKnob Tryz.prog.godebug = none := by kernel_rfl
theorem Tryz.et : Tryz.prog.globalNamed "errors.errorType" = some 0 := by kernel_rfl
theorem Tryz.rt : (Tryz.prog.cutTypes.find? (·.1 == "internal/reflectlite.rtype")).map (·.2) = some 195 := by kernel_rfl
theorem Tryz.oneRow : ((List.range Tryz.prog.types.size).filter fun t => Tryz.prog.rowNamed t [101, 114, 114, 111, 114]) = [127] := by kernel_rfl
theorem Tryz.hand : typeHandle Tryz.prog 127 = .pointer (some ⟨5, 127, none⟩) := by kernel_rfl

theorem errT_of_handle {W : World} (h : handlesMet Tryz.prog [("errors.errorType", Rows.laid_errors_errorType)] W) : ErrT W := by
  obtain ⟨name, u, ty, e1, e2, e3, e4, e5⟩ := h _ (List.mem_singleton.2 rfl)
  have en : name = [101, 114, 114, 111, 114] := (Option.some.inj e1).symm
  subst en
  obtain rfl := Option.some.inj (Tryz.rt.symm.trans e2)
  have hm : ty ∈ (List.range Tryz.prog.types.size).filter fun t => Tryz.prog.rowNamed t [101, 114, 114, 111, 114] := List.mem_filter.2 ⟨List.mem_range.2 e3, e4⟩
  rw [Tryz.oneRow] at hm
  obtain rfl := List.mem_singleton.1 hm
  rw [Tryz.hand] at e5
  unfold ErrT
  simpa using World.var?_cell Tryz.et e5 0

/-- A world that meets the condition: the settled one, the variable's cell laid. -/
noncomputable def laidWorld (os : Os) : World :=
  let w0 := World.holding Tryz.prog os ⟨#[], #[], []⟩
  { w0 with heap := w0.heap.modify 0 fun
      | .cells _ t frozen => .cells #[.iface 195 (.agg #[.pointer (some ⟨5, 127, none⟩)])] t frozen
      | o => o }
end Go.Proofs.YthlmgpllapccfaaGreatDoor
/- WHAT THE GREAT SEAT's ROWS SHARE: the condition on errors.errorType. -/
namespace Go.Proofs.YthlmgpllapccfaaGreatDoor
open Go.ChangeShapes Go.WideShapes Go.ChangeAt Go.RowKit
open Go.ChangeMaps (open_string shut_string)

theorem err_laid {W : World} (h : laidMetH Tryz.prog [("errors.errorType", Rows.laid_errors_errorType)] W) : ErrT W := by
  have h' : laidMet Tryz.prog [] W ∧ handlesMet Tryz.prog [("errors.errorType", Rows.laid_errors_errorType)] W := h
  exact errT_of_handle h'.2
theorem err_world (os : Os) (args : Array Value) : laidMetH Tryz.prog [("errors.errorType", Rows.laid_errors_errorType)] ((laidWorld os).forCall (fun _ _ => 0) ⟨#[], args, []⟩).memory :=
  laidMetH_of_parts (laidMet_nil _ _) (by kernel_rfl)

theorem wf_bd64 {n : Int} (h : (Lit.int .i64 n).wf = true) : -9223372036854775808 ≤ n ∧ n ≤ 9223372036854775807 := by
  simp only [Lit.wf, Bool.and_eq_true, decide_eq_true_eq] at h
  exact ⟨h.1, h.2⟩

end Go.Proofs.YthlmgpllapccfaaGreatDoor
/- A SCRIPT AS IT LIES IN MEMORY. -/
namespace Go.Proofs.YthlmgpllapccfaaGreatDoor
open Go.ChangeShapes Go.WideShapes Go.ChangeAt Go.RowKit
open Go.ChangeMaps (open_string shut_string)

set_option maxRecDepth 100000 in
theorem holds_nil (a : Option Addr) (cap : Nat) (b : Bool) (W : World) :
    Calls Tryz.prog 10 #[.slice a 0 cap, .bool b] W fun e w' => e = .returned (.bool true) ∧ Below W.heap.size W w' := by
  go_enter Tryz.func10, Tryz.ntmps10
  go_wp2
  refine wp_loop_rounds 1 ?_
  rw [rounds_succ]
  go_wp2
  go_ret
  exact ⟨rfl, Below.refl _ _⟩

theorem mem_weightsAll {H : Type} {P : Program} {e : TypeId} {d : DataW H} {x : Nat} (hx : x ∈ d.weights P e) : ∀ {l : List (DataW H)}, d ∈ l → x ∈ DataW.weightsAll P e l
  | [], h => by simp at h
  | y :: l, h => by
    rw [DataW.weightsAll, List.mem_append]
    rcases List.mem_cons.1 h with h | h
    · subst h; exact Or.inl hx
    · exact Or.inr (mem_weightsAll hx h)

theorem three_of {α : Type} {l : List α} (h : l.length = 3) : ∃ a b c, l = [a, b, c] := by
  match l, h with
  | [a, b, c], _ => exact ⟨a, b, c, rfl⟩
theorem addAdd (ad : Addr) (k j : Nat) : (ad.add k).add j = ad.add (k + j) := by
  rcases Nat.eq_zero_or_pos j with h | h
  · subst h; simp [Addr.add]
  · rw [addS ad k j h]
    conv => lhs; unfold Addr.add
    rw [if_neg (by omega)]
    rfl
theorem cells_op : Tryz.prog.cellsOf 58 = 3 := by kernel_rfl
theorem bytes_op : Tryz.prog.bytesOf 58 = 32 := by kernel_rfl
/-- A script as it lies in memory. -/
theorem ops_of {H : Type} {enc : TypeId × Value → H} {W : World} {a : Option Addr} {len cap : Nat} {d : DataW H} {ps : List MemPlace} (h : DataW.Trod enc Tryz.prog W 0 (fun _ => true) true 22 (.slice a len cap) d ps) (hlt : ∀ y ∈ ps, y.block < W.heap.size) (hsz : (d.weights Tryz.prog 22).all (· ≤ reachBytes) = true) :
    len = 0 ∨ ∃ ad : Addr, ∃ K Mi : Nat → Int, ∃ Sx : Nat → ByteArray, a = some ad ∧ len ≤ 4398046511104 ∧ ad.block < W.heap.size ∧
      (∀ i, i < len → W.cell? (ad.add (i * 3)) = some (.int .i64 (K i)) ∧ W.cell? (ad.add (i * 3 + 1)) = some (.int .i64 (Mi i)) ∧ W.cell? (ad.add (i * 3 + 2)) = some (.string (Sx i))) ∧
      (∀ i, i < len → -9223372036854775808 ≤ Mi i ∧ Mi i ≤ 9223372036854775807) ∧ (∀ i, i < len → (Sx i).size ≤ 140737488351232) := by
  obtain ⟨fuel, hf⟩ := h
  rcases Go.Deep.open_slice Tryz.underlying22 hf with ⟨hcs, _⟩ | ⟨ad, len', cap', m, n, D, Pl, hcs, _, hl, hm, hmm, hx, hel⟩
  · simp [Value.cells] at hcs
    exact Or.inl hcs.2.1
  · simp [Value.cells] at hcs
    obtain ⟨rfl, rfl, rfl⟩ := hcs
    simp only [if_true] at hmm
    by_cases h0 : len = 0
    · exact Or.inl h0
    right
    simp only [Prod.mk.injEq] at hx
    obtain ⟨hd, hp⟩ := hx
    have hw : ∀ x, x ∈ d.weights Tryz.prog 22 → x ≤ reachBytes := fun x hxm => by simpa using (List.all_eq_true.1 hsz) x hxm
    have hwe : d.weights Tryz.prog 22 = (((List.range len).map D).length + ((List.range (m - len)).map fun j => D (len + j)).length) * Tryz.prog.bytesOf 58 :: (DataW.weightsAll Tryz.prog 58 ((List.range len).map D) ++ DataW.weightsAll Tryz.prog 58 ((List.range (m - len)).map fun j => D (len + j))) := by
      rw [hd, DataW.weights, Tryz.underlying22]
    have hlen : len ≤ 4398046511104 := by
      have h1 := hw _ (by rw [hwe]; exact List.mem_cons_self)
      rw [bytes_op] at h1
      simp only [List.length_map, List.length_range] at h1
      unfold reachBytes at h1
      omega
    have hblk : ad.block < W.heap.size := by
      refine hlt (.cell ad.block ad.off) ?_
      rw [hp, cells_op]
      simp [MemPlace.row]
      omega
    have each : ∀ i, i < len → ∃ q : Int × Int × ByteArray, W.cell? (ad.add (i * 3)) = some (.int .i64 q.1) ∧ W.cell? (ad.add (i * 3 + 1)) = some (.int .i64 q.2.1) ∧ W.cell? (ad.add (i * 3 + 2)) = some (.string q.2.2) ∧ (-9223372036854775808 ≤ q.2.1 ∧ q.2.1 ≤ 9223372036854775807) ∧ q.2.2.size ≤ 140737488351232 := by
      intro i hi
      obtain ⟨cs', h1, h2⟩ := hel i (by omega)
      rw [cells_op] at h1
      obtain ⟨_, hlen3, hcell⟩ := World.cells?_some h1
      obtain ⟨xs, k, hk, hxy, _, hxl, hff⟩ := DataW.trod_struct Tryz.underlying58 h2
      obtain ⟨y0, y1, y2, rfl⟩ := three_of (show xs.length = 3 from hxl)
      obtain ⟨v0, v1, v2, rfl⟩ := three_of hlen3
      have g0 := hff 0 _ rfl
      have g1 := hff 1 _ rfl
      have g2 := hff 2 _ rfl
      have ci : Tryz.prog.cellsOf 3 = 1 := by kernel_rfl
      have cstr : Tryz.prog.cellsOf 9 = 1 := by kernel_rfl
      simp [ci, cstr] at g0 g1 g2
      obtain ⟨n0, e0, _, _⟩ := DataW.trod_int Tryz.underlying3 g0
      obtain ⟨n1, e1, _, w1⟩ := DataW.trod_int Tryz.underlying3 g1
      obtain ⟨s2, e2, e3, _⟩ := DataW.trod_string Tryz.underlying9 g2
      simp at e0 e1 e2
      subst e0 e1 e2
      have c0 := hcell 0 (by omega)
      have c1 := hcell 1 (by omega)
      have c2 := hcell 2 (by omega)
      rw [addAdd] at c0 c1 c2
      refine ⟨(n0, n1, s2), by simpa using c0, by simpa using c1, by simpa using c2, wf_bd64 w1, ?_⟩
      have hDi : D i = .agg [y0.1, y1.1, y2.1] := by
        simp only [Prod.mk.injEq] at hxy
        simpa using hxy.1
      have hmem : s2.data.toList.length ∈ (D i).weights Tryz.prog 58 := by
        rw [hDi, DataW.weights, Tryz.underlying58, e3]
        simp [DataW.weightsEach, DataW.weights]
      have hle := hw _ (by
        rw [hwe]
        refine List.mem_cons_of_mem _ (List.mem_append.2 (Or.inl (mem_weightsAll hmem ?_)))
        exact List.mem_map.2 ⟨i, List.mem_range.2 hi, rfl⟩)
      have es : s2.data.toList.length = s2.size := by simp
      rw [es] at hle
      exact hle
    obtain ⟨q, hq⟩ := Go.Deep.choose_lt each
    exact ⟨ad, fun i => (q i).1, fun i => (q i).2.1, fun i => (q i).2.2, rfl, hlen, hblk, fun i hi => ⟨(hq i hi).1, (hq i hi).2.1, (hq i hi).2.2.1⟩, fun i hi => (hq i hi).2.2.2.1, fun i hi => (hq i hi).2.2.2.2⟩
end Go.Proofs.YthlmgpllapccfaaGreatDoor
/- THE PROGRAM: a line that is too long, however long it is. -/
namespace Go.Proofs.YthlmgpllapccfaaGreatDoor
open Go.RowKit
variable {M : Value} {D : Int} {O : Bool}

set_option maxHeartbeats 1000000 in
theorem begin_far (s : ByteArray) (b : Nat) (t : Tok) (w : World) (hr : Rd w b s M D O t) (h : 90 < s.size) (hm : s.size ≤ 1000000000000000) :
    Calls Tryz.prog 70 #[.pointer (some ⟨b, 0, none⟩)] w fun e w' => e = .panicked (faulty 2 0) ∧ w' = w := by
  have h' : ((s.size : Nat) : Int) > 90 := by omega
  obtain ⟨c0, c1, c2, c3, c4⟩ := hr.cells
  have hb : b < w.heap.size := Blk.lt hr
  clear hr
  go_enter Tryz.func70, Tryz.ntmps70
  go_wp2_with (go_at_call 78; refine (fail_any _ _ _).mono ?_; rintro e w2 ⟨rfl, rfl⟩)
  exact ⟨rfl, rfl, rfl⟩

set_option maxRecDepth 100000 in
set_option maxHeartbeats 1000000 in
theorem readCmd_far (s : ByteArray) (b : Nat) (M : Value) (t : Tok) (w : World) (hr : Rd w b s M 0 false t) (hg : ErrT w) (hl : 90 < s.size) (hm : s.size ≤ 1000000000000000) :
    Calls Tryz.prog 43 #[.pointer (some ⟨b, 0, none⟩), .func (.func 44) #[] #[]] w fun e w' => e = .returned (.tuple #[.nilIface, .int .i64 2, .int .i64 0]) ∧ Fr [b] w w' := by
  have hmf : ∀ (fn : Fn) (first cap : Array Value) (w : World), (Instr.makeFunc fn first cap).run Tryz.prog w = .ok (.func fn first cap) w := fun _ _ _ _ => rfl
  have HG := hidV hg
  have HR := hidV hr
  clear hg hr
  go_enter_defers Tryz.func43, Tryz.ntmps43
  go_wp2_with fail
  refine (begin_far s b t _ (by exact Blk.alloc (Blk.alloc (Blk.alloc HR.out _) _) _) hl hm).mono ?_
  rintro e w1 ⟨rfl, rfl⟩
  go_wp2
  exact caughtC b w _ _ .nilIface 2 0 _ rfl rfl rfl (three0C w) (HG.out.fr (bs := []) ((((Fr.refl [] w).alloc _).alloc _).alloc _) (by simp)) ((((Fr.refl [b] w).alloc _).alloc _).alloc _) (fun W' h => ⟨rfl, h⟩)

set_option maxRecDepth 100000 in
set_option maxHeartbeats 1000000 in
theorem LineRead_far (s : ByteArray) (bm : Nat) (w : World) (hg : ErrT w) (hl : 90 < s.size) (hm : s.size ≤ 1000000000000000) :
    Calls Tryz.prog 31 #[.string s, .map (some bm)] w fun e w' => e = .returned (.tuple #[.nilIface, .int .i64 2, .int .i64 0]) ∧ Fr [] w w' := by
  have HG := hidV hg
  clear hg
  go_enter Tryz.func31, Tryz.ntmps31
  go_wp2_with fail
  refine (readCmd_far s w.heap.size (.map (some bm)) ⟨0, 0, 0, 0⟩ _ (by exact Blk.new w _ _) (HG.out.fr (bs := []) ((Fr.refl [] w).alloc _) (by simp)) hl hm).mono ?_
  rintro e w1 ⟨rfl, hf1⟩
  go_wp2
  go_ret3
  exact ⟨rfl, ((Fr.refl [] w).alloc _).trans hf1 (by simp)⟩

theorem pDo_far (s : ByteArray) (b bm : Nat) (Ms : List Nat) (st : Nat → Mng) (w : World) (hP : Ps w Ms b bm st) (hg : ErrT w) (hl : 90 < s.size) (hm : s.size ≤ 1000000000000000) :
    Calls Tryz.prog 16 #[.pointer (some ⟨b, 0, none⟩), .string s] w (DoPost w Ms bm ⟨2, 0, [], st⟩) := by
  refine (pDo_bad s b bm 2 0 w hP.blk (by decide) (LineRead_far s bm w hg hl hm)).mono ?_
  rintro x w1 ⟨rfl, hf⟩
  exact ⟨rfl, hP.nm.fr hf (by simp) (by simp), hf.mono (by simp)⟩

end Go.Proofs.YthlmgpllapccfaaGreatDoor
/- THE READER: a name that means a set. -/
namespace Go.Proofs.YthlmgpllapccfaaGreatDoor
open Go.RowKit
variable {D : Int} {O : Bool}

theorem exit_forget {Q : Exit → Act → World → Prop} {e : Exit} {a : Act} {w : World} (I : World → Prop) (hI : I w) (h : ∀ W, I W → Q e a W) : Q e a w := h w hI
set_option maxRecDepth 100000 in
set_option maxHeartbeats 2000000 in
theorem namedSet_any (s : ByteArray) (f : Nat → Tok) (k b bm : Nat) (Ms : List Nat) (st : Nat → Mng) (ok : Nat → Bool) (w : World) (hs : s.size ≤ 1000) (ha : Str s f) (hn : Nam s f) (hr : Rd w b s (.map (some bm)) D O (f k)) (hm : Nm w Ms bm st) (hbm : b ≠ bm) (hbM : b ∈ Ms) (hok : ∀ a, ok a = decide ((st a).kd = 2)) :
    Calls Tryz.prog 77 #[.pointer (some ⟨b, 0, none⟩)] w (RP w b s (.map (some bm)) D O f (nmS f ok ⟨k, 0, 0⟩) (fun v w' => NV w' Ms (st ((f k).c - 69)) (some (.iface 155 v)))) := by
  have HR := hidV hr
  have HA := hidV ha
  have hb : b < w.heap.size := Blk.lt hr
  clear hr ha
  by_cases h1 : isN (f k) = true
  · rw [nm_eq h1, hok]
    have HPK : Hid (pk (f k).c = 4) := pk_4.2 ((isN_iff _).1 h1)
    have hci := (isN_iff _).1 h1
    obtain ⟨hby, hin⟩ := hn k h1
    have hbc := byt_cast hin
    have hbs := byt_small hin
    obtain ⟨a, HAA, ha26, hca⟩ : ∃ a, Hid ((f k).c - 69 = a) ∧ a < 26 ∧ byt s (f k).at' = a + 65 := ⟨_, hidV rfl, by omega, by omega⟩
    rw [HAA.out]
    rw [hca] at hbc
    obtain ⟨o, hnv, hlk⟩ := hm.look ha26
    have HM := hidV hm
    have HNV := hidV hnv
    have hbml := hm.lt
    clear hm hby hci
    obtain ⟨S, HS⟩ : ∃ S, Hid ((if decide ((st a).kd = 2) = true then (⟨k + 1, 0, 0⟩ : WS) else ⟨k, 6, (f k).at'⟩) = S) := ⟨_, hidV rfl⟩
    rw [HS.out]
    go_enter Tryz.func77, Tryz.ntmps77
    go_wp2_with fail
    refine (expect_ok s f k b 4 _ (by omega) HA.out (by exact Blk.alloc HR.out _) HPK.out).mono ?_
    rintro e w1 ⟨rfl, hr1, hf1⟩
    have HR1 := hidV hr1
    have HF1 : Hid (Fr [b] w w1 ∧ Blk w1 w.heap.size (bv fun _ => false) 155) := ⟨((Fr.refl [b] w).alloc _).trans hf1 (by simp), (Blk.new w _ _).fr hf1 (by simp; omega)⟩
    have hb1 : b < w1.heap.size := Blk.lt hr1
    have c0 := hr1.cells.1
    have c1 := hr1.more.1

    clear hr1 hf1 c0 c1 hnv
    have ta1 : ∀ (v : Value) (w : World), (Instr.typeAssert (.iface 155 v) 139 155 true).run Tryz.prog w = .ok (.tuple #[v, .bool true]) w := fun _ _ => by kernel_rfl
    have ta2 : ∀ (v : Value) (w : World), (Instr.typeAssert (.iface 136 v) 139 155 true).run Tryz.prog w = .ok (.tuple #[.agg #[.bool false, .bool false, .bool false, .bool false, .bool false, .bool false, .bool false], .bool false]) w := fun _ _ => by kernel_rfl
    have ta3 : ∀ (w : World), (Instr.typeAssert .nilIface 139 155 true).run Tryz.prog w = .ok (.tuple #[.agg #[.bool false, .bool false, .bool false, .bool false, .bool false, .bool false, .bool false], .bool false]) w := fun _ => by kernel_rfl
    go_wp2
    refine wp_forget (fun V => Rd V b s (.map (some bm)) D O (f (k + 1)) ∧ Blk V w1.heap.size #[.int .i64 4, .int .i64 (f k).at', .int .i64 (f k).to, .int .i64 (f k).v] 102 ∧ Fr [b] w V ∧ Blk V w.heap.size (bv fun _ => false) 155) ⟨Blk.alloc HR1.out _, Blk.new w1 _ _, HF1.out.1.alloc _, Blk.alloc HF1.out.2 _⟩ ?_
    rintro V ⟨hrV, hbV, hfV, hzV⟩
    have HZV := hidV hzV
    have hlV : ∀ w', Fr [] V w' → (Instr.lookup 69 (.map (some bm)) (.int .u8 ((a : Int) + 65)) false).run Tryz.prog w' = .ok (o.getD .nilIface) w' := fun w' hw' => by
      have := hlk w' (fun q hq => by subst hq; exact (hfV.trans hw' (by simp)).block _ hbml (by simp; exact fun q => hbm q.symm))
      rw [show ((a + 65 : Nat) : Int) = (a : Int) + 65 by omega] at this
      exact this
    have hSS : ∀ w', Fr [] V w' → (w'.cell? ⟨b, 0, none⟩ = some (.string s) ∧ w'.cell? ⟨b, 1, none⟩ = some (.map (some bm)) ∧ w'.cell? ⟨w1.heap.size, 1, none⟩ = some (.int .i64 (f k).at') ∧ (Instr.lookup 69 (.map (some bm)) (.int .u8 ((a : Int) + 65)) false).run Tryz.prog w' = .ok (o.getD .nilIface) w') := fun w' hw' =>
      ⟨(Rd.cells (D := D) (O := O) (Blk.fr hrV hw' (by simp))).1, (Rd.more (D := D) (O := O) (Blk.fr hrV hw' (by simp))).1, (hbV.fr hw' (by simp)).cell 1, hlV w' hw'⟩
    clear hlV
    have c0 := hrV.cells.1
    have c1 := hrV.more.1
    have t1 : V.cell? ⟨w1.heap.size, 1, none⟩ = some (.int .i64 (f k).at') := hbV.cell 1
    have HRV := hidV hrV
    have HFV := hidV hfV
    have HMV := hidV (HM.out.fr hfV (by simp; exact fun q => hbm q.symm) (by simp [hbM]))
    have HNVV := hidV (HNV.out.fr hfV (by simp [hbM]))
    generalize w1.heap.size = tb at *
    clear hlk HR1 HF1 hrV hbV hfV hzV hb1 HM HNV
    clear w1
    cases hst : st a with
    | set c =>
      rw [hst] at HNVV
      have ho : o = some (.iface 155 (.agg (bv c))) := HNVV.out
      subst ho
      dsimp only [Option.getD_some] at hSS
      have HSE : Hid (S = ⟨k + 1, 0, 0⟩) := by unfold Hid; rw [← HS.out, hst]; rfl
      have HSZ : Hid ((Tryz.prog.info? 155).map (·.size) = some (bv c).size) := size_bv c
      have HON : Hid ((bv c).all (·.oneCell') = true) := bv_one c
      have HSS : Hid (∀ w', Fr [] V w' → (w'.cell? ⟨b, 0, none⟩ = some (.string s) ∧ w'.cell? ⟨b, 1, none⟩ = some (.map (some bm)) ∧ w'.cell? ⟨tb, 1, none⟩ = some (.int .i64 (f k).at') ∧ (Instr.lookup 69 (.map (some bm)) (.int .u8 ((a : Int) + 65)) false).run Tryz.prog w' = .ok (.iface 155 (.agg #[.bool (c 0), .bool (c 1), .bool (c 2), .bool (c 3), .bool (c 4), .bool (c 5), .bool (c 6)])) w')) := hSS
      go_region_held3 (fun w' => w'.cell? ⟨b, 0, none⟩ = some (.string s) ∧ w'.cell? ⟨b, 1, none⟩ = some (.map (some bm)) ∧ w'.cell? ⟨tb, 1, none⟩ = some (.int .i64 (f k).at') ∧ (Instr.lookup 69 (.map (some bm)) (.int .u8 ((a : Int) + 65)) false).run Tryz.prog w' = .ok (.iface 155 (.agg #[.bool (c 0), .bool (c 1), .bool (c 2), .bool (c 3), .bool (c 4), .bool (c 5), .bool (c 6)])) w') (first | (refine HSS.out _ ?_; first | exact (Fr.refl [] V).drew | exact (Fr.refl [] V).drew.alloc _)) (first | fail)
      all_goals
        refine exit_forget (fun W => Blk W V.heap.size (bv c) 155 ∧ Blk W w.heap.size (bv fun _ => false) 155 ∧ Fr [] V W) ⟨by exact Blk.new V _ _, by exact Blk.alloc HZV.out _, ((Fr.refl [] V).alloc _).drew⟩ ?_
        rintro W g9
        have HW := hidV g9
        have HTH := hidV (Blk.there g9.2.1 (show (bv c).size ≤ (bv fun _ => false).size by exact Nat.le_refl _))
        have hwl : w.heap.size < W.heap.size := g9.2.1.lt
        clear g9 hSS HSS
        obtain ⟨y, HY⟩ : ∃ y, Hid (bv c = y) := ⟨_, hidV rfl⟩
        rw [HY.out] at HSZ HON HTH HW
        have HYS : Hid (y.size = (bv fun _ => false).size) := by unfold Hid; rw [← HY.out]; rfl
        clear ta1 ta2 ta3
        go_wp2_with (first | (refine wpList_load_row (by rfl) 155 _ (by rfl) V.heap.size (by rfl) 155 y (0, 0) _ HW.out.1 Tryz.underlying155 (by rfl) HSZ.out ?_) | (refine wpList_store_mid (by rfl) 155 _ _ (by rfl) w.heap.size 0 y (by rfl) (by rfl) HTH.out HSZ.out HON.out ?_))
        refine bodyPost_ret (results_cell_row Tryz.results77 _ _ w.heap.size 155 y (0, 0) _ (by rfl) (Blk.setAll HW.out.2.1 _ HYS.out) Tryz.underlying155 rfl HSZ.out) rfl ?_
        rw [HSE.out]
        have f9 : Fr [w.heap.size] V (W.setCells w.heap.size 0 y.toList) := Fr.setCells (HW.out.2.2.mono (by simp)) _ _ _ (Or.inl (by simp))
        refine Or.inl ⟨rfl, _, rfl, ?_, Blk.fr HRV.out f9 (by simp; omega), Fr.setCells (HFV.out.trans HW.out.2.2 (by simp)) _ _ _ (Or.inr (Nat.le_refl _))⟩
        show NV _ Ms (st a) _
        rw [hst, ← HY.out]
        exact rfl
    | non =>
      rw [hst] at HNVV
      have ho : o = none := HNVV.out
      subst ho
      dsimp only [Option.getD_none] at hSS
      have HSE : Hid (S = ⟨k, 6, (f k).at'⟩) := by unfold Hid; rw [← HS.out, hst]; rfl
      have HSS : Hid (∀ w', Fr [] V w' → (w'.cell? ⟨b, 0, none⟩ = some (.string s) ∧ w'.cell? ⟨b, 1, none⟩ = some (.map (some bm)) ∧ w'.cell? ⟨tb, 1, none⟩ = some (.int .i64 (f k).at') ∧ (Instr.lookup 69 (.map (some bm)) (.int .u8 ((a : Int) + 65)) false).run Tryz.prog w' = .ok (.nilIface) w')) := hSS
      go_region_held3 (fun w' => w'.cell? ⟨b, 0, none⟩ = some (.string s) ∧ w'.cell? ⟨b, 1, none⟩ = some (.map (some bm)) ∧ w'.cell? ⟨tb, 1, none⟩ = some (.int .i64 (f k).at') ∧ (Instr.lookup 69 (.map (some bm)) (.int .u8 ((a : Int) + 65)) false).run Tryz.prog w' = .ok (.nilIface) w') (first | (refine HSS.out _ ?_; first | exact (Fr.refl [] V).drew | exact (Fr.refl [] V).drew.alloc _)) (first | fail)
      all_goals
        go_wp2
        exact ⟨rfl, by rw [HSE.out]; exact Or.inr ⟨by simp, rfl, (HFV.out.alloc _).drew⟩⟩
    | sys ps =>
      rw [hst] at HNVV
      obtain ⟨g, cap, rfl, _⟩ := HNVV.out
      dsimp only [Option.getD_some] at hSS
      have HSE : Hid (S = ⟨k, 6, (f k).at'⟩) := by unfold Hid; rw [← HS.out, hst]; rfl
      have HSS : Hid (∀ w', Fr [] V w' → (w'.cell? ⟨b, 0, none⟩ = some (.string s) ∧ w'.cell? ⟨b, 1, none⟩ = some (.map (some bm)) ∧ w'.cell? ⟨tb, 1, none⟩ = some (.int .i64 (f k).at') ∧ (Instr.lookup 69 (.map (some bm)) (.int .u8 ((a : Int) + 65)) false).run Tryz.prog w' = .ok (.iface 136 (.slice (some ⟨g, 0, none⟩) ps.length cap)) w')) := hSS
      go_region_held3 (fun w' => w'.cell? ⟨b, 0, none⟩ = some (.string s) ∧ w'.cell? ⟨b, 1, none⟩ = some (.map (some bm)) ∧ w'.cell? ⟨tb, 1, none⟩ = some (.int .i64 (f k).at') ∧ (Instr.lookup 69 (.map (some bm)) (.int .u8 ((a : Int) + 65)) false).run Tryz.prog w' = .ok (.iface 136 (.slice (some ⟨g, 0, none⟩) ps.length cap)) w') (first | (refine HSS.out _ ?_; first | exact (Fr.refl [] V).drew | exact (Fr.refl [] V).drew.alloc _)) (first | fail)
      all_goals
        go_wp2
        exact ⟨rfl, by rw [HSE.out]; exact Or.inr ⟨by simp, rfl, (HFV.out.alloc _).drew⟩⟩
  · rw [nm_bad h1]
    have HPK : Hid (pk (f k).c ≠ 4) := fun q => h1 ((isN_iff _).2 (pk_4.1 q))
    go_enter Tryz.func77, Tryz.ntmps77
    go_wp2_with fail
    refine (expect_not s (f k) b 4 _ (by exact Blk.alloc HR.out _) HPK.out).mono ?_
    rintro e w2 ⟨rfl, hf2⟩
    go_wp2
    exact ⟨rfl, Or.inr ⟨by simp, rfl, ((Fr.refl [b] w).alloc _).trans hf2 (by simp)⟩⟩
end Go.Proofs.YthlmgpllapccfaaGreatDoor
/- PLAIN: the reading of a set: what is wrong, or the values that are in it. -/
namespace Go.Proofs.YthlmgpllapccfaaGreatDoor

/-- What the reading of a set comes to: the error (0: none), its place; the next token's number; the set. -/
structure StR where
  e : Nat
  bad : Nat
  k : Nat
  b : Nat → Bool
/-- One or more pieces: those behind the first. -/
def prF (f : Nat → Tok) (pc : Nat → StR) : Nat → Nat → (Nat → Bool) → StR
  | 0, k, b => ⟨0, 0, k, b⟩
  | m + 1, k, b =>
    if (f k).c = 42 then (if (pc (k + 1)).e = 0 then prF f pc m (pc (k + 1)).k (fun v => b v && (pc (k + 1)).b v) else pc (k + 1))
    else if (f k).c = 49 then (if (pc (k + 1)).e = 0 then prF f pc m (pc (k + 1)).k (fun v => b v && !(pc (k + 1)).b v) else pc (k + 1))
    else ⟨0, 0, k, b⟩
def prG (f : Nat → Tok) (pc : Nat → StR) (N k : Nat) : StR := if (pc k).e = 0 then prF f pc (N + 1) (pc k).k (pc k).b else pc k
/-- One or more parts: those behind the first. -/
def seF (f : Nat → Tok) (pt : Nat → StR) : Nat → Nat → (Nat → Bool) → StR
  | 0, k, b => ⟨0, 0, k, b⟩
  | m + 1, k, b => if (f k).c = 128 then (if (pt (k + 1)).e = 0 then seF f pt m (pt (k + 1)).k (fun v => b v || (pt (k + 1)).b v) else pt (k + 1)) else ⟨0, 0, k, b⟩
def seG (f : Nat → Tok) (pt : Nat → StR) (N k : Nat) : StR := if (pt k).e = 0 then seF f pt (N + 1) (pt k).k (pt k).b else pt k
def StR.neg (R : StR) : StR := ⟨R.e, R.bad, R.k, fun v => !R.b v⟩
def StR.wants (f : Nat → Tok) (c : Nat) (R : StR) : StR := if R.e = 0 then (if (f R.k).c = c then ⟨0, 0, R.k + 1, R.b⟩ else ⟨4, (f R.k).at', R.k, R.b⟩) else R
/-- The values at which a polynomial without x is 0. -/
def zrs (p : List Nat) (v : Nat) : Bool := decide ((lineR p v).getD 0 0 = 0)
def zrR (R : PlR) : StR := ⟨R.e, R.bad, R.k, zrs R.p⟩
def nmR (f : Nat → Tok) (st : Nat → Mng) (k : Nat) : StR :=
  if isN (f k) = true then (if (st ((f k).c - 69)).kd = 2 then ⟨0, 0, k + 1, (st ((f k).c - 69)).bit⟩ else ⟨6, (f k).at', k, fun _ => false⟩) else ⟨4, (f k).at', k, fun _ => false⟩
/-- A piece; d: so many things may still be opened. -/
def pcR (f : Nat → Tok) (N : Nat) (st : Nat → Mng) : Nat → Nat → StR
  | 0, k => if (f k).c = 130 ∨ (f k).c = 44 then ⟨8, (f k).at', k, fun _ => false⟩ else if (f k).c = 95 then StR.wants f 97 (zrR (poly f true N (k + 1))) else nmR f st k
  | d + 1, k => if (f k).c = 130 then StR.neg (pcR f N st d (k + 1)) else if (f k).c = 44 then StR.wants f 45 (seG f (prG f (pcR f N st d) N) N (k + 1))
    else if (f k).c = 95 then StR.wants f 97 (zrR (poly f true N (k + 1))) else nmR f st k
def ptR (f : Nat → Tok) (N : Nat) (st : Nat → Mng) (d k : Nat) : StR := prG f (pcR f N st d) N k
def stR (f : Nat → Tok) (N : Nat) (st : Nat → Mng) (d k : Nat) : StR := seG f (ptR f N st d) N k

theorem pl_grow (f : Nat → Tok) (bare : Bool) (N : Nat) : ∀ (m k sg : Nat) (p : List Nat), (pl f bare N m k sg p).e = 0 → k ≤ (pl f bare N m k sg p).k := by
  intro m
  induction m with
  | zero => intro k sg p h; simp [pl] at h
  | succ m ih =>
    intro k sg p h
    have ht := (tm_facts f bare N k).2.2.1
    unfold pl at h ⊢
    split at h
    · rename_i h1
      rw [if_pos h1]
      split at h
      · rename_i h2
        rw [if_pos h2]
        have := ih _ _ _ h; omega
      · rename_i h2
        rw [if_neg h2]
        split at h
        · rename_i h3
          rw [if_pos h3]
          have := ih _ _ _ h; omega
        · rename_i h3
          rw [if_neg h3]; exact ht
    · rename_i h1
      exact absurd h h1
theorem poly_grow {f : Nat → Tok} {bare : Bool} {N k : Nat} (h : (poly f bare N k).e = 0) : k ≤ (poly f bare N k).k := by
  unfold poly at h ⊢
  split at h
  · rename_i h1; rw [if_pos h1]; have := pl_grow _ _ _ _ _ _ _ h; omega
  · rename_i h1; rw [if_neg h1]; exact pl_grow _ _ _ _ _ _ _ h

theorem prF_and {f : Nat → Tok} {pc : Nat → StR} {m k : Nat} {b : Nat → Bool} (hm : 0 < m) (hc : (f k).c = 42) (h : (pc (k + 1)).e = 0) : prF f pc m k b = prF f pc (m - 1) (pc (k + 1)).k (fun v => b v && (pc (k + 1)).b v) := by
  obtain ⟨m, rfl⟩ : ∃ n, m = n + 1 := ⟨m - 1, by omega⟩
  rw [prF, if_pos hc, if_pos h]; rfl
theorem prF_not {f : Nat → Tok} {pc : Nat → StR} {m k : Nat} {b : Nat → Bool} (hm : 0 < m) (hc : (f k).c = 49) (h : (pc (k + 1)).e = 0) : prF f pc m k b = prF f pc (m - 1) (pc (k + 1)).k (fun v => b v && !(pc (k + 1)).b v) := by
  obtain ⟨m, rfl⟩ : ∃ n, m = n + 1 := ⟨m - 1, by omega⟩
  rw [prF, if_neg (by omega), if_pos hc, if_pos h]; rfl
theorem prF_bad {f : Nat → Tok} {pc : Nat → StR} {m k : Nat} {b : Nat → Bool} (hm : 0 < m) (hc : (f k).c = 42 ∨ (f k).c = 49) (h : (pc (k + 1)).e ≠ 0) : prF f pc m k b = pc (k + 1) := by
  obtain ⟨m, rfl⟩ : ∃ n, m = n + 1 := ⟨m - 1, by omega⟩
  rw [prF]
  rcases hc with hc | hc
  · rw [if_pos hc, if_neg h]
  · rw [if_neg (by omega), if_pos hc, if_neg h]
theorem prF_end {f : Nat → Tok} {pc : Nat → StR} {m k : Nat} {b : Nat → Bool} (h1 : (f k).c ≠ 42) (h2 : (f k).c ≠ 49) : prF f pc m k b = ⟨0, 0, k, b⟩ := by
  cases m with
  | zero => rfl
  | succ m => rw [prF, if_neg h1, if_neg h2]
theorem seF_or {f : Nat → Tok} {pt : Nat → StR} {m k : Nat} {b : Nat → Bool} (hm : 0 < m) (hc : (f k).c = 128) (h : (pt (k + 1)).e = 0) : seF f pt m k b = seF f pt (m - 1) (pt (k + 1)).k (fun v => b v || (pt (k + 1)).b v) := by
  obtain ⟨m, rfl⟩ : ∃ n, m = n + 1 := ⟨m - 1, by omega⟩
  rw [seF, if_pos hc, if_pos h]; rfl
theorem seF_bad {f : Nat → Tok} {pt : Nat → StR} {m k : Nat} {b : Nat → Bool} (hm : 0 < m) (hc : (f k).c = 128) (h : (pt (k + 1)).e ≠ 0) : seF f pt m k b = pt (k + 1) := by
  obtain ⟨m, rfl⟩ : ∃ n, m = n + 1 := ⟨m - 1, by omega⟩
  rw [seF, if_pos hc, if_neg h]
theorem seF_end {f : Nat → Tok} {pt : Nat → StR} {m k : Nat} {b : Nat → Bool} (h1 : (f k).c ≠ 128) : seF f pt m k b = ⟨0, 0, k, b⟩ := by
  cases m with
  | zero => rfl
  | succ m => rw [seF, if_neg h1]

/-- What is read goes on. -/
def Grow (pc : Nat → StR) : Prop := ∀ k, (pc k).e = 0 → k < (pc k).k
theorem prF_grow {f : Nat → Tok} {pc : Nat → StR} (hp : Grow pc) : ∀ (m k : Nat) (b : Nat → Bool), (prF f pc m k b).e = 0 → k ≤ (prF f pc m k b).k := by
  intro m
  induction m with
  | zero => intro k b _; exact Nat.le_refl _
  | succ m ih =>
    intro k b h
    by_cases h1 : (f k).c = 42
    · by_cases he : (pc (k + 1)).e = 0
      · rw [prF_and (by omega) h1 he, Nat.add_sub_cancel] at h ⊢
        have := ih _ _ h; have := hp _ he; omega
      · rw [prF_bad (by omega) (Or.inl h1) he] at h; exact absurd h he
    · by_cases h2 : (f k).c = 49
      · by_cases he : (pc (k + 1)).e = 0
        · rw [prF_not (by omega) h2 he, Nat.add_sub_cancel] at h ⊢
          have := ih _ _ h; have := hp _ he; omega
        · rw [prF_bad (by omega) (Or.inr h2) he] at h; exact absurd h he
      · rw [prF_end h1 h2]; exact Nat.le_refl _
theorem prG_grow {f : Nat → Tok} {pc : Nat → StR} (hp : Grow pc) (N : Nat) : Grow (prG f pc N) := by
  intro k h
  unfold prG at h ⊢
  split at h
  · rename_i h1
    rw [if_pos h1]
    have := prF_grow hp _ _ _ h; have := hp _ h1; omega
  · rename_i h1; exact absurd h h1
theorem seF_grow {f : Nat → Tok} {pc : Nat → StR} (hp : Grow pc) : ∀ (m k : Nat) (b : Nat → Bool), (seF f pc m k b).e = 0 → k ≤ (seF f pc m k b).k := by
  intro m
  induction m with
  | zero => intro k b _; exact Nat.le_refl _
  | succ m ih =>
    intro k b h
    by_cases h1 : (f k).c = 128
    · by_cases he : (pc (k + 1)).e = 0
      · rw [seF_or (by omega) h1 he, Nat.add_sub_cancel] at h ⊢
        have := ih _ _ h; have := hp _ he; omega
      · rw [seF_bad (by omega) h1 he] at h; exact absurd h he
    · rw [seF_end h1]; exact Nat.le_refl _
theorem seG_grow {f : Nat → Tok} {pc : Nat → StR} (hp : Grow pc) (N : Nat) : Grow (seG f pc N) := by
  intro k h
  unfold seG at h ⊢
  split at h
  · rename_i h1
    rw [if_pos h1]
    have := seF_grow hp _ _ _ h; have := hp _ h1; omega
  · rename_i h1; exact absurd h h1
theorem wants_grow {f : Nat → Tok} {c : Nat} {R : StR} (h : (StR.wants f c R).e = 0) : R.e = 0 ∧ (f R.k).c = c ∧ (StR.wants f c R).k = R.k + 1 ∧ (StR.wants f c R).b = R.b := by
  unfold StR.wants at h ⊢
  split at h
  · rename_i h1
    rw [if_pos h1]
    split at h
    · rename_i h2; rw [if_pos h2]; exact ⟨h1, h2, rfl, rfl⟩
    · simp at h
  · rename_i h1; exact absurd h h1
theorem nmR_grow (f : Nat → Tok) (st : Nat → Mng) : Grow (nmR f st) := by
  intro k h
  unfold nmR at h ⊢
  split at h
  · rename_i h1
    rw [if_pos h1]
    split at h
    · rename_i h2; rw [if_pos h2]; show k < k + 1; omega
    · simp at h
  · simp at h
theorem pcR_grow (f : Nat → Tok) (N : Nat) (st : Nat → Mng) : ∀ d, Grow (pcR f N st d) := by
  intro d
  induction d with
  | zero =>
    intro k h
    unfold pcR at h ⊢
    split at h
    · simp at h
    · rename_i h1
      rw [if_neg h1]
      split at h
      · rename_i h2
        rw [if_pos h2]
        obtain ⟨q1, q2, q3, _⟩ := wants_grow h
        have := poly_grow (f := f) (bare := true) (N := N) (k := k + 1) q1
        rw [q3]; show k < (poly f true N (k + 1)).k + 1; omega
      · rename_i h2
        rw [if_neg h2]; exact nmR_grow f st k h
  | succ d ih =>
    intro k h
    unfold pcR at h ⊢
    split at h
    · rename_i h1
      rw [if_pos h1]
      have := ih (k + 1) h
      show k < (pcR f N st d (k + 1)).k; omega
    · rename_i h1
      rw [if_neg h1]
      split at h
      · rename_i h2
        rw [if_pos h2]
        obtain ⟨q1, q2, q3, _⟩ := wants_grow h
        have := seG_grow (prG_grow ih N) N (f := f) (k + 1) q1
        rw [q3]; omega
      · rename_i h2
        rw [if_neg h2]
        split at h
        · rename_i h3
          rw [if_pos h3]
          obtain ⟨q1, q2, q3, _⟩ := wants_grow h
          have := poly_grow (f := f) (bare := true) (N := N) (k := k + 1) q1
          rw [q3]; show k < (poly f true N (k + 1)).k + 1; omega
        · rename_i h3
          rw [if_neg h3]; exact nmR_grow f st k h
theorem ptR_grow (f : Nat → Tok) (N : Nat) (st : Nat → Mng) (d : Nat) : Grow (ptR f N st d) := prG_grow (pcR_grow f N st d) N
theorem stR_grow (f : Nat → Tok) (N : Nat) (st : Nat → Mng) (d : Nat) : Grow (stR f N st d) := seG_grow (ptR_grow f N st d) N
theorem pcR_tilde {f : Nat → Tok} {N : Nat} {st : Nat → Mng} {d k : Nat} (h : (f k).c = 130) : pcR f N st (d + 1) k = StR.neg (pcR f N st d (k + 1)) := by rw [pcR, if_pos h]
theorem pcR_open {f : Nat → Tok} {N : Nat} {st : Nat → Mng} {d k : Nat} (h : (f k).c = 44) : pcR f N st (d + 1) k = StR.wants f 45 (stR f N st d (k + 1)) := by rw [pcR, if_neg (by omega), if_pos h]; rfl
theorem pcR_deep {f : Nat → Tok} {N : Nat} {st : Nat → Mng} {k : Nat} (h : (f k).c = 130 ∨ (f k).c = 44) : pcR f N st 0 k = ⟨8, (f k).at', k, fun _ => false⟩ := by rw [pcR, if_pos h]
theorem pcR_zeros {f : Nat → Tok} {N : Nat} {st : Nat → Mng} {d k : Nat} (h : (f k).c = 95) : pcR f N st d k = StR.wants f 97 (zrR (poly f true N (k + 1))) := by
  cases d with
  | zero => rw [pcR, if_neg (by omega), if_pos h]
  | succ d => rw [pcR, if_neg (by omega), if_neg (by omega), if_pos h]
theorem pcR_name {f : Nat → Tok} {N : Nat} {st : Nat → Mng} {d k : Nat} (h1 : (f k).c ≠ 130) (h2 : (f k).c ≠ 44) (h3 : (f k).c ≠ 95) : pcR f N st d k = nmR f st k := by
  cases d with
  | zero => rw [pcR, if_neg (by omega), if_neg h3]
  | succ d => rw [pcR, if_neg h1, if_neg h2, if_neg h3]
end Go.Proofs.YthlmgpllapccfaaGreatDoor
/- A REGION THAT DRAWS ITS ORDER, WHOSE FIRST m OPERATIONS YIELD THE SAME IN EVERY WORLD OF A CLASS, OPERATION m TAKES A NEW BLOCK (AT ANY TIME AMONG THEM), THE REST FORCED BEHIND: one walk in the text's order serves every order. -/
namespace Go.Proofs.YthlmgpllapccfaaGreatDoor
open Go
section
variable {P : Program} {ops : Array Oper} {md : Region.Mode} {D : World → Prop} {E : Nat → World → Prop}

/-- One value, in every world of D (the new block not yet taken) and of each E b (taken at b). -/
def quietF (P : Program) (D : World → Prop) (E : Nat → World → Prop) (o : Oper) (a : Act) (next : Act → Prop) : Prop :=
  ∃ v, (∀ w, D w → o.quietAt P a D w v) ∧ (∀ b w, E b w → o.quietAt P a (E b) w v) ∧ next (a.put o.dst v)
def walkF (P : Program) (D : World → Prop) (E : Nat → World → Prop) (Q : Act → Prop) : List Oper → Act → Prop
  | [], a => Q a
  | o :: rest, a => o.guard = none ∧ quietF P D E o a (walkF P D E Q rest)

/-- f operations more come up, one of them m, the others quiet; then L. -/
def headX (P : Program) (md : Region.Mode) (ops : Array Oper) (D : World → Prop) (E : Nat → World → Prop) (n m : Nat) (dm : Option Tmp) (pt : Nat → Value) (L : Nat → Array Bool → Act → Prop) : Nat → Array Bool → Act → Prop
  | 0, _, _ => False
  | f + 1, listed, a => Region.ready md ops listed ≠ [] ∧ ∀ i ∈ Region.ready md ops listed, i < n ∧
      ((i = m ∧ ∀ b, headQ P md ops (E b) n (L b) f (listed.setIfInBounds m true) (a.put dm (pt b))) ∨ (i ≠ m ∧ qOp P ops D i (headX P md ops D E n m dm pt L f (listed.setIfInBounds i true)) a))

theorem any_of_headX {n m g : Nat} {om : Oper} {pt : Nat → Value} {L : Nat → Array Bool → Act → Prop} {Q : Exit → Act → World → Prop} (hom : ops[m]? = some om) (hgd : om.guard = none)
    (hrun : ∀ (a : Act) w, D w → ∃ b w', (execOp a.eval om).run P w = .ok (.value (pt b)) w' ∧ E b w')
    (hL : ∀ b listed a w, E b w → L b listed a → wpAny P md ops Q g listed a w) :
    ∀ (f : Nat) (listed : Array Bool) (a : Act) (w : World), D w → headX P md ops D E n m om.dst pt L f listed a → wpAny P md ops Q (f + g) listed a w := by
  intro f
  induction f with
  | zero => intro listed a w hw h; exact h.elim
  | succ f ih =>
    intro listed a w hw h
    rw [Nat.add_right_comm]
    refine ⟨fun e => absurd e h.1, fun i hi => ?_⟩
    rcases (h.2 i hi).2 with ⟨rfl, h2⟩ | ⟨_, h2⟩
    · unfold wpOp
      simp only [hom]
      rw [if_pos (by unfold Region.wanted; rw [hgd])]
      obtain ⟨b, w', hr, he⟩ := hrun a w hw
      refine .inl ?_
      unfold Oper.wp
      rw [hr]
      exact any_of_headQ (hL b) f _ _ _ he (h2 b)
    · exact wpOp_of_qOp hw (fun a' w' hw' h' => ih _ a' w' hw' h') h2

theorem headX_first {n m i : Nat} {oi om : Oper} {v : Value} {pt : Nat → Value} {L : Nat → Array Bool → Act → Prop} (hi : ops[i]? = some oi) (hom : ops[m]? = some om) (him : i ≠ m) (hsel : ∀ (j : Nat) (o : Oper) cs b, ops[j]? = some o → o.op ≠ .select cs b)
    (hs : Region.sinkB md ops n = true) (hc : Region.chainB md ops n = true) (hn : n < ops.size) (hin : i < n) (hdone : ∀ b listed a, L b listed a → ∀ j ∈ Region.ready md ops listed, n ≤ j) :
    ∀ (f : Nat) (listed : Array Bool) (a : Act), HeadInv md ops n listed →
      (∀ j oj, ops[j]? = some oj → j ≠ i → listed.getD j true = false → (∀ e ∈ oj.after, Region.binds md e = true → e.on ≠ i) → oi.apart ops oj = true) →
      i ∈ Region.ready md ops listed → YieldsIn P ops D oi v a → (∀ b, YieldsIn P ops (E b) oi v a) →
      headX P md ops D E n m om.dst pt L f (listed.setIfInBounds i true) (a.put oi.dst v) → headX P md ops D E n m om.dst pt L (f + 1) listed a := by
  intro f
  induction f with
  | zero => intro listed a inv hfree hr hy hyE H; exact H.elim
  | succ f ih =>
    intro listed a inv hfree hr hy hyE H
    have hun := (mem_ready.1 hr).1
    refine ⟨List.ne_nil_of_mem hr, fun j hj => ?_⟩
    have hjn : j < n := Nat.lt_of_not_le fun h => tail_waits hs hc hn inv _ i rfl hin hun j h hj
    refine ⟨hjn, ?_⟩
    obtain ⟨hjun, oj, hoj, hall⟩ := mem_ready.1 hj
    by_cases hji : j = i
    · refine .inr ⟨by rw [hji]; exact him, ?_⟩
      rw [hji]; exact hy.qOp hi H
    · have hno : ∀ e ∈ oj.after, Region.binds md e = true → e.on ≠ i := fun e he hb heq => by
        have := hall e he hb
        rw [heq, getD_both hun] at this
        exact Bool.false_ne_true this
      have hap := hfree j oj hoj hji hjun hno
      have hfree' : ∀ k ok, ops[k]? = some ok → k ≠ i → (listed.setIfInBounds j true).getD k true = false → (∀ e ∈ ok.after, Region.binds md e = true → e.on ≠ i) → oi.apart ops ok = true :=
        fun k ok hk hki hunk hnk => hfree k ok hk hki (by
          by_cases hjk : j = k
          · rw [← hjk]; exact hjun
          · rw [getD_set_ne true hjk] at hunk; exact hunk) hnk
      have h1 := (H.2 j (ready_mono hj hji)).2
      by_cases hjm : j = m
      · refine .inl ⟨hjm, fun b => ?_⟩
        have hojm : oj = om := Option.some.inj (hoj.symm.trans (by rw [hjm]; exact hom))
        rcases h1 with ⟨_, h1⟩ | ⟨h1, _⟩
        · obtain ⟨p1, p2, p3⟩ := Oper.apart_spec hap
          have hyb : YieldsIn P ops (E b) oi v (a.put om.dst (pt b)) := (hyE b).of_same (execOp_put oi (fun cs b => hsel i oi cs b hi) a om.dst (pt b) (by rw [← hojm]; exact p3)) (wanted_put oi a om.dst (pt b) (by rw [← hojm]; exact p3))
          refine headQ_first hi hsel hs hc hn hin (hdone b) f (listed.setIfInBounds m true) (a.put om.dst (pt b)) ?_ ?_ ?_ hyb ?_
          · rw [← hjm]; exact inv.set hj hjn
          · rw [← hjm]; exact hfree'
          · rw [← hjm]; exact ready_mono hr (Ne.symm hji)
          · rw [← hojm, ← hjm, Array.setIfInBounds_comm _ _ hji, ← Act.put_comm a v (pt b) p2, hojm, hjm]
            exact h1 b
        · exact absurd hjm h1
      · refine .inr ⟨hjm, ?_⟩
        rcases h1 with ⟨h1, _⟩ | ⟨_, h1⟩
        · exact absurd h1 hjm
        · have hsi : ∀ cs b, oi.op ≠ .select cs b := fun cs b => hsel i oi cs b hi
          have hsj : ∀ cs b, oj.op ≠ .select cs b := fun cs b => hsel j oj cs b hoj
          obtain ⟨p1, p2, p3⟩ := Oper.apart_spec hap
          have h2 := qOp_put hoj hap hsi hsj hy h1
          obtain ⟨u, hu, h3, h4⟩ := yieldsIn_of_qOp hoj h2
          refine hu.qOp hoj (ih (listed.setIfInBounds j true) _ (inv.set hj hjn) hfree' (ready_mono hr (Ne.symm hji)) h3 (fun b => (hyE b).of_same (execOp_put oi hsi a oj.dst u p3) (wanted_put oi a oj.dst u p3)) ?_)
          rw [Array.setIfInBounds_comm _ _ hji]; exact h4

theorem headX_lex {n m g : Nat} {om : Oper} {pt : Nat → Value} {Lq : Nat → Act → Prop} (hsel : Region.noSelect ops = true) (hs : Region.sinkB md ops n = true) (hc : Region.chainB md ops n = true) (hn : n < ops.size) (hmn : m + 1 = n) (hom : ops[m]? = some om) :
    ∀ (l : List Oper) (k : Nat) (listed : Array Bool) (a : Act), (∀ j, j < l.length → l[j]? = ops[k + j]?) → k + l.length = m → HeadInv md ops n listed →
    Region.lexHead md ops g (l.length + 1) k listed = true → walkF P D E (fun a' => ∀ b, Lq b (a'.put om.dst (pt b))) l a →
    headX P md ops D E n m om.dst pt (fun b listed' a' => Region.seqB md ops g n listed' = true ∧ Lq b a') (l.length + 1) listed a := by
  intro l
  induction l with
  | nil =>
    intro k listed a _ hk inv hB h
    have e : k = m := by simpa using hk
    subst e
    simp only [List.length_nil, Region.lexHead, Bool.and_eq_true] at hB
    have hr : k ∈ Region.ready md ops listed := by simpa using hB.1.1
    have hsq : Region.seqB md ops g n (listed.setIfInBounds k true) = true := by rw [← hmn]; exact hB.2
    have hun := (mem_ready.1 hr).1
    refine ⟨List.ne_nil_of_mem hr, fun i hi => ?_⟩
    have hin : i < n := Nat.lt_of_not_le fun h' => tail_waits hs hc hn inv _ k rfl (by omega) hun i h' hi
    refine ⟨hin, ?_⟩
    by_cases hik : i = k
    · exact .inl ⟨hik, fun b => ⟨hsq, h b⟩⟩
    · have := seqB_ready hsq i (ready_mono hi hik)
      omega
  | cons o l ih =>
    intro k listed a hl hk inv hB h
    have h0 : ops[k]? = some o := by simpa using (hl 0 (by simp)).symm
    rw [List.length_cons, Region.lexHead] at hB
    simp only [Bool.and_eq_true] at hB
    simp only [List.length_cons] at hk
    have hr : k ∈ Region.ready md ops listed := by simpa using hB.1.1
    obtain ⟨hgd, v, hD, hE, hK⟩ := h
    have hw : Region.wanted o (yielded ops a.tmps) = true := by unfold Region.wanted; rw [hgd]
    refine headX_first h0 hom (by omega) (Region.noSelect_spec hsel) hs hc hn (by omega) (fun b listed' a' hL => seqB_ready hL.1) (l.length + 1) listed a inv (Region.free_spec h0 hB.1.2) hr (.inl ⟨hw, hD⟩) (fun b => .inl ⟨hw, hE b⟩) ?_
    refine ih (k + 1) _ _ (fun j hj => ?_) (by omega) (inv.set hr (by omega)) hB.2 hK
    have := hl (j + 1) (by simp; omega)
    rw [show k + 1 + j = k + (j + 1) by omega, ← this]; simp

/-- THE LAW. -/
theorem region_alloc_tail {id : Nat} {Q : Exit → Act → World → Prop} {a : Act} {w : World} {l : List Oper} (D : World → Prop) (E : Nat → World → Prop) (pt : Nat → Value) (m : Nat) (om : Oper) (hD : D w.drew) (hm : P.follows .mixedOrders = true) (hB : Region.lexTailB .any l.toArray (m + 1) = true)
    (hom : l.toArray[m]? = some om) (hgd : om.guard = none) (hrun : ∀ (a : Act) w, D w → ∃ b w', (execOp a.eval om).run P w = .ok (.value (pt b)) w' ∧ E b w')
    (h : walkF P D E (fun a' => ∀ b w', E b w' → wpList P l.toArray Q (l.drop (m + 1)) (a'.put om.dst (pt b)) w') (l.take m) a) : (Code.region id l.toArray true).wp P Q a w := by
  simp only [Region.lexTailB, Bool.and_eq_true, decide_eq_true_eq] at hB
  obtain ⟨⟨⟨⟨hsel, hn⟩, hs⟩, hc⟩, hlex⟩ := hB
  have htl : (l.take m).length = m := by simp only [List.size_toArray] at hn; simp; omega
  have hdl : (l.drop (m + 1)).length = l.toArray.size - (m + 1) := by simp
  have H := headX_lex (md := .any) (pt := pt) (Lq := fun b a' => ∀ w', E b w' → wpList P l.toArray Q (l.drop (m + 1)) a' w') (g := l.toArray.size - (m + 1)) hsel hs hc hn rfl hom (l.take m) 0 (Array.replicate l.toArray.size false) a (fun j hj => by
      rw [htl] at hj
      simp [hj]) (by omega)
    ⟨by simp, fun j oj _ hl => by rw [getD_replicate_false] at hl; exact absurd hl Bool.false_ne_true, fun t _ ht => getD_in (by simpa using ht) (getD_replicate_false _ _)⟩
    (by rw [htl]; exact hlex) h
  refine wp_region_any hm ?_
  have K := any_of_headX (Q := Q) (g := l.toArray.size - (m + 1)) hom hgd hrun (fun b listed a' w' hw' hL => by
    have := wpAny_of_seq (md := .any) (Q' := Q) (l.drop (m + 1)) (m + 1) listed a' w' (fun j => by simp [List.getElem?_drop]) (by rw [hdl]; exact hL.1) (hL.2 w' hw')
    rwa [hdl] at this) _ _ _ { w with drawn := w.drawn + 1 } hD H
  rw [htl, show m + 1 + (l.toArray.size - (m + 1)) = l.toArray.size by omega] at K
  exact K
end
end Go.Proofs.YthlmgpllapccfaaGreatDoor
/- A REGION THAT DRAWS ITS ORDER, TWO OF WHOSE OPERATIONS TAKE NEW BLOCKS, AT ANY TIME AMONG THE OTHERS: one walk in the text's order serves every order. -/
namespace Go.Proofs.YthlmgpllapccfaaGreatDoor
open Go
section
variable {P : Program} {ops : Array Oper} {md : Region.Mode} {D : World → Prop} {E1 E2 : Nat → World → Prop} {E3 : Nat → Nat → World → Prop} {F : (World → Prop) → Prop}

/-- One value, in every world of every class of a family. -/
def quietG (P : Program) (F : (World → Prop) → Prop) (o : Oper) (a : Act) (next : Act → Prop) : Prop :=
  ∃ v, (∀ C, F C → ∀ w, C w → o.quietAt P a C w v) ∧ next (a.put o.dst v)
def walkG (P : Program) (F : (World → Prop) → Prop) (Q : Act → Prop) : List Oper → Act → Prop
  | [], a => Q a
  | o :: rest, a => o.guard = none ∧ quietG P F o a (walkG P F Q rest)

def head2 (P : Program) (md : Region.Mode) (ops : Array Oper) (D : World → Prop) (E1 E2 : Nat → World → Prop) (E3 : Nat → Nat → World → Prop) (n m1 m2 : Nat) (d1 d2 : Option Tmp) (pt : Nat → Value) (L : Nat → Nat → Array Bool → Act → Prop) : Nat → Array Bool → Act → Prop
  | 0, _, _ => False
  | f + 1, listed, a => Region.ready md ops listed ≠ [] ∧ ∀ i ∈ Region.ready md ops listed, i < n ∧
      ((i = m1 ∧ ∀ b, headX P md ops (E1 b) (E3 b) n m2 d2 pt (L b) f (listed.setIfInBounds m1 true) (a.put d1 (pt b))) ∨
       (i = m2 ∧ ∀ b, headX P md ops (E2 b) (fun b1 => E3 b1 b) n m1 d1 pt (fun b1 => L b1 b) f (listed.setIfInBounds m2 true) (a.put d2 (pt b))) ∨
       (i ≠ m1 ∧ i ≠ m2 ∧ qOp P ops D i (head2 P md ops D E1 E2 E3 n m1 m2 d1 d2 pt L f (listed.setIfInBounds i true)) a))

theorem any_of_head2 {n m1 m2 g : Nat} {o1 o2 : Oper} {pt : Nat → Value} {L : Nat → Nat → Array Bool → Act → Prop} {Q : Exit → Act → World → Prop} (h1 : ops[m1]? = some o1) (h2 : ops[m2]? = some o2) (g1 : o1.guard = none) (g2 : o2.guard = none)
    (r1 : ∀ (a : Act) w, D w → ∃ b w', (execOp a.eval o1).run P w = .ok (.value (pt b)) w' ∧ E1 b w') (r2 : ∀ (a : Act) w, D w → ∃ b w', (execOp a.eval o2).run P w = .ok (.value (pt b)) w' ∧ E2 b w')
    (r12 : ∀ c (a : Act) w, E1 c w → ∃ b w', (execOp a.eval o2).run P w = .ok (.value (pt b)) w' ∧ E3 c b w') (r21 : ∀ c (a : Act) w, E2 c w → ∃ b w', (execOp a.eval o1).run P w = .ok (.value (pt b)) w' ∧ E3 b c w')
    (hL : ∀ b c listed a w, E3 b c w → L b c listed a → wpAny P md ops Q g listed a w) :
    ∀ (f : Nat) (listed : Array Bool) (a : Act) (w : World), D w → head2 P md ops D E1 E2 E3 n m1 m2 o1.dst o2.dst pt L f listed a → wpAny P md ops Q (f + g) listed a w := by
  intro f
  induction f with
  | zero => intro listed a w hw h; exact h.elim
  | succ f ih =>
    intro listed a w hw h
    rw [Nat.add_right_comm]
    refine ⟨fun e => absurd e h.1, fun i hi => ?_⟩
    rcases (h.2 i hi).2 with ⟨rfl, h3⟩ | ⟨rfl, h3⟩ | ⟨_, _, h3⟩
    · unfold wpOp
      simp only [h1]
      rw [if_pos (by unfold Region.wanted; rw [g1])]
      obtain ⟨b, w', hr, he⟩ := r1 a w hw
      refine .inl ?_
      unfold Oper.wp
      rw [hr]
      exact any_of_headX h2 g2 (r12 b) (fun c => hL b c) f _ _ _ he (h3 b)
    · unfold wpOp
      simp only [h2]
      rw [if_pos (by unfold Region.wanted; rw [g2])]
      obtain ⟨b, w', hr, he⟩ := r2 a w hw
      refine .inl ?_
      unfold Oper.wp
      rw [hr]
      exact any_of_headX h1 g1 (r21 b) (fun c => hL c b) f _ _ _ he (h3 b)
    · exact wpOp_of_qOp hw (fun a' w' hw' h' => ih _ a' w' hw' h') h3

theorem head2_first {n m1 m2 i : Nat} {oi o1 o2 : Oper} {v : Value} {pt : Nat → Value} {L : Nat → Nat → Array Bool → Act → Prop} (hi : ops[i]? = some oi) (h1 : ops[m1]? = some o1) (h2 : ops[m2]? = some o2) (hi1 : i ≠ m1) (hi2 : i ≠ m2)
    (hsel : ∀ (j : Nat) (o : Oper) cs b, ops[j]? = some o → o.op ≠ .select cs b) (hs : Region.sinkB md ops n = true) (hc : Region.chainB md ops n = true) (hn : n < ops.size) (hin : i < n) (hdone : ∀ b c listed a, L b c listed a → ∀ j ∈ Region.ready md ops listed, n ≤ j) :
    ∀ (f : Nat) (listed : Array Bool) (a : Act), HeadInv md ops n listed →
      (∀ j oj, ops[j]? = some oj → j ≠ i → listed.getD j true = false → (∀ e ∈ oj.after, Region.binds md e = true → e.on ≠ i) → oi.apart ops oj = true) →
      i ∈ Region.ready md ops listed → YieldsIn P ops D oi v a → (∀ b, YieldsIn P ops (E1 b) oi v a) → (∀ b, YieldsIn P ops (E2 b) oi v a) → (∀ b c, YieldsIn P ops (E3 b c) oi v a) →
      head2 P md ops D E1 E2 E3 n m1 m2 o1.dst o2.dst pt L f (listed.setIfInBounds i true) (a.put oi.dst v) → head2 P md ops D E1 E2 E3 n m1 m2 o1.dst o2.dst pt L (f + 1) listed a := by
  intro f
  induction f with
  | zero => intro listed a inv hfree hr hy hy1 hy2 hy3 H; exact H.elim
  | succ f ih =>
    intro listed a inv hfree hr hy hy1 hy2 hy3 H
    have hun := (mem_ready.1 hr).1
    have hsi : ∀ cs b, oi.op ≠ .select cs b := fun cs b => hsel i oi cs b hi
    refine ⟨List.ne_nil_of_mem hr, fun j hj => ?_⟩
    have hjn : j < n := Nat.lt_of_not_le fun h => tail_waits hs hc hn inv _ i rfl hin hun j h hj
    refine ⟨hjn, ?_⟩
    obtain ⟨hjun, oj, hoj, hall⟩ := mem_ready.1 hj
    by_cases hji : j = i
    · refine .inr (.inr ⟨by rw [hji]; exact hi1, by rw [hji]; exact hi2, ?_⟩)
      rw [hji]; exact hy.qOp hi H
    · have hno : ∀ e ∈ oj.after, Region.binds md e = true → e.on ≠ i := fun e he hb heq => by
        have := hall e he hb
        rw [heq, getD_both hun] at this
        exact Bool.false_ne_true this
      have hap := hfree j oj hoj hji hjun hno
      have hfree' : ∀ k ok, ops[k]? = some ok → k ≠ i → (listed.setIfInBounds j true).getD k true = false → (∀ e ∈ ok.after, Region.binds md e = true → e.on ≠ i) → oi.apart ops ok = true :=
        fun k ok hk hki hunk hnk => hfree k ok hk hki (by
          by_cases hjk : j = k
          · rw [← hjk]; exact hjun
          · rw [getD_set_ne true hjk] at hunk; exact hunk) hnk
      obtain ⟨p1, p2, p3⟩ := Oper.apart_spec hap
      have keep : ∀ {C : World → Prop} (u : Value), YieldsIn P ops C oi v a → YieldsIn P ops C oi v (a.put oj.dst u) := fun u h => h.of_same (execOp_put oi hsi a oj.dst u p3) (wanted_put oi a oj.dst u p3)
      rcases (H.2 j (ready_mono hj hji)).2 with ⟨e1, k1⟩ | ⟨e1, k1⟩ | ⟨e1, e2, k1⟩
      · refine .inl ⟨e1, fun b => ?_⟩
        have hojm : oj = o1 := Option.some.inj (hoj.symm.trans (by rw [e1]; exact h1))
        rw [← hojm, ← e1]
        refine headX_first hi h2 hi2 hsel hs hc hn hin (fun c => hdone b c) f (listed.setIfInBounds j true) (a.put oj.dst (pt b)) (inv.set hj hjn) hfree' (ready_mono hr (Ne.symm hji)) (keep _ (hy1 b)) (fun c => keep _ (hy3 b c)) ?_
        have k2 := k1 b
        rw [← hojm, ← e1] at k2
        rw [Array.setIfInBounds_comm _ _ hji, ← Act.put_comm a v (pt b) p2]
        exact k2
      · refine .inr (.inl ⟨e1, fun b => ?_⟩)
        have hojm : oj = o2 := Option.some.inj (hoj.symm.trans (by rw [e1]; exact h2))
        rw [← hojm, ← e1]
        refine headX_first hi h1 hi1 hsel hs hc hn hin (fun c => hdone c b) f (listed.setIfInBounds j true) (a.put oj.dst (pt b)) (inv.set hj hjn) hfree' (ready_mono hr (Ne.symm hji)) (keep _ (hy2 b)) (fun c => keep _ (hy3 c b)) ?_
        have k2 := k1 b
        rw [← hojm, ← e1] at k2
        rw [Array.setIfInBounds_comm _ _ hji, ← Act.put_comm a v (pt b) p2]
        exact k2
      · refine .inr (.inr ⟨e1, e2, ?_⟩)
        have hsj : ∀ cs b, oj.op ≠ .select cs b := fun cs b => hsel j oj cs b hoj
        have k2 := qOp_put hoj hap hsi hsj hy k1
        obtain ⟨u, hu, k3, k4⟩ := yieldsIn_of_qOp hoj k2
        refine hu.qOp hoj (ih (listed.setIfInBounds j true) _ (inv.set hj hjn) hfree' (ready_mono hr (Ne.symm hji)) k3 (fun b => keep u (hy1 b)) (fun b => keep u (hy2 b)) (fun b c => keep u (hy3 b c)) ?_)
        rw [Array.setIfInBounds_comm _ _ hji]; exact k4

theorem headX_last {n m g : Nat} {dm : Option Tmp} {pt : Nat → Value} {E : Nat → World → Prop} {Lq : Nat → Act → Prop} {listed : Array Bool} {a : Act} (hs : Region.sinkB md ops n = true) (hc : Region.chainB md ops n = true) (hn : n < ops.size) (hmn : m < n) (inv : HeadInv md ops n listed)
    (hr : m ∈ Region.ready md ops listed) (hsq : Region.seqB md ops g n (listed.setIfInBounds m true) = true) (h : ∀ b, Lq b (a.put dm (pt b))) : headX P md ops D E n m dm pt (fun b listed' a' => Region.seqB md ops g n listed' = true ∧ Lq b a') 1 listed a := by
  have hun := (mem_ready.1 hr).1
  refine ⟨List.ne_nil_of_mem hr, fun i hi => ?_⟩
  have hin : i < n := Nat.lt_of_not_le fun h' => tail_waits hs hc hn inv _ m rfl hmn hun i h' hi
  refine ⟨hin, ?_⟩
  by_cases hik : i = m
  · exact .inl ⟨hik, fun b => ⟨hsq, h b⟩⟩
  · have := seqB_ready hsq i (ready_mono hi hik)
    omega

theorem head2_lex {n m g : Nat} {o1 o2 : Oper} {pt : Nat → Value} {Lq : Nat → Nat → Act → Prop} (hsel : Region.noSelect ops = true) (hs : Region.sinkB md ops n = true) (hc : Region.chainB md ops n = true) (hn : n < ops.size) (hmn : m + 1 + 1 = n) (h1 : ops[m]? = some o1) (h2 : ops[m + 1]? = some o2)
    (fD : F D) (fE1 : ∀ b, F (E1 b)) (fE2 : ∀ b, F (E2 b)) (fE3 : ∀ b c, F (E3 b c)) :
    ∀ (l : List Oper) (k : Nat) (listed : Array Bool) (a : Act), (∀ j, j < l.length → l[j]? = ops[k + j]?) → k + l.length = m → HeadInv md ops n listed →
    Region.lexHead md ops g (l.length + 1 + 1) k listed = true → walkG P F (fun a' => ∀ b c, Lq b c ((a'.put o1.dst (pt b)).put o2.dst (pt c))) l a →
    head2 P md ops D E1 E2 E3 n m (m + 1) o1.dst o2.dst pt (fun b c listed' a' => Region.seqB md ops g n listed' = true ∧ Lq b c a') (l.length + 1 + 1) listed a := by
  intro l
  induction l with
  | nil =>
    intro k listed a _ hk inv hB h
    have e : k = m := by simpa using hk
    subst e
    simp only [List.length_nil, Region.lexHead, Bool.and_eq_true] at hB
    have hr : k ∈ Region.ready md ops listed := by simpa using hB.1.1
    have hr2 : k + 1 ∈ Region.ready md ops (listed.setIfInBounds k true) := by simpa using hB.2.1.1
    have hsq : Region.seqB md ops g n ((listed.setIfInBounds k true).setIfInBounds (k + 1) true) = true := by rw [← hmn]; exact hB.2.2
    have hun := (mem_ready.1 hr).1
    refine ⟨List.ne_nil_of_mem hr, fun i hi => ?_⟩
    have hin : i < n := Nat.lt_of_not_le fun h' => tail_waits hs hc hn inv _ k rfl (by omega) hun i h' hi
    refine ⟨hin, ?_⟩
    by_cases hik : i = k
    · exact .inl ⟨hik, fun b => headX_last hs hc hn (by omega) (inv.set hr (by omega)) hr2 hsq (fun c => h b c)⟩
    · by_cases hik2 : i = k + 1
      · refine .inr (.inl ⟨hik2, fun b => ?_⟩)
        rw [hik2] at hi
        obtain ⟨hiun, oi, hoi, hall⟩ := mem_ready.1 hi
        have eoi : oi = o2 := Option.some.inj (hoi.symm.trans h2)
        have hap := Region.free_spec h1 hB.1.2 (k + 1) oi hoi (by omega) hiun (fun e he hb heq => by
          have := hall e he hb
          rw [heq, getD_both hun] at this
          exact Bool.false_ne_true this)
        rw [eoi] at hap
        obtain ⟨_, p2, _⟩ := Oper.apart_spec hap
        refine headX_last hs hc hn (by omega) (inv.set hi (by omega)) (ready_mono hr (by omega)) ?_ (fun c => ?_)
        · rw [Array.setIfInBounds_comm _ _ (by omega)]; exact hsq
        · rw [← Act.put_comm a (pt c) (pt b) p2]; exact h c b
      · have := seqB_ready hsq i (ready_mono (ready_mono hi hik) hik2)
        omega
  | cons o l ih =>
    intro k listed a hl hk inv hB h
    have h0 : ops[k]? = some o := by simpa using (hl 0 (by simp)).symm
    rw [List.length_cons, Region.lexHead] at hB
    simp only [Bool.and_eq_true] at hB
    simp only [List.length_cons] at hk
    have hr : k ∈ Region.ready md ops listed := by simpa using hB.1.1
    obtain ⟨hgd, v, hD, hK⟩ := h
    have hw : Region.wanted o (yielded ops a.tmps) = true := by unfold Region.wanted; rw [hgd]
    refine head2_first h0 h1 h2 (by omega) (by omega) (Region.noSelect_spec hsel) hs hc hn (by omega) (fun b c listed' a' hL => seqB_ready hL.1) (l.length + 1 + 1) listed a inv (Region.free_spec h0 hB.1.2) hr (.inl ⟨hw, hD _ fD⟩) (fun b => .inl ⟨hw, hD _ (fE1 b)⟩) (fun b => .inl ⟨hw, hD _ (fE2 b)⟩) (fun b c => .inl ⟨hw, hD _ (fE3 b c)⟩) ?_
    refine ih (k + 1) _ _ (fun j hj => ?_) (by omega) (inv.set hr (by omega)) hB.2 hK
    have := hl (j + 1) (by simp; omega)
    rw [show k + 1 + j = k + (j + 1) by omega, ← this]; simp

/-- THE LAW. -/
theorem region_alloc2_tail {id : Nat} {Q : Exit → Act → World → Prop} {a : Act} {w : World} {l : List Oper} (D : World → Prop) (E1 E2 : Nat → World → Prop) (E3 : Nat → Nat → World → Prop) (F : (World → Prop) → Prop) (pt : Nat → Value) (m : Nat) (o1 o2 : Oper) (hD : D w.drew)
    (hm : P.follows .mixedOrders = true) (hB : Region.lexTailB .any l.toArray (m + 1 + 1) = true) (h1 : l.toArray[m]? = some o1) (h2 : l.toArray[m + 1]? = some o2) (g1 : o1.guard = none) (g2 : o2.guard = none)
    (fD : F D) (fE1 : ∀ b, F (E1 b)) (fE2 : ∀ b, F (E2 b)) (fE3 : ∀ b c, F (E3 b c))
    (r1 : ∀ (a : Act) w, D w → ∃ b w', (execOp a.eval o1).run P w = .ok (.value (pt b)) w' ∧ E1 b w') (r2 : ∀ (a : Act) w, D w → ∃ b w', (execOp a.eval o2).run P w = .ok (.value (pt b)) w' ∧ E2 b w')
    (r12 : ∀ c (a : Act) w, E1 c w → ∃ b w', (execOp a.eval o2).run P w = .ok (.value (pt b)) w' ∧ E3 c b w') (r21 : ∀ c (a : Act) w, E2 c w → ∃ b w', (execOp a.eval o1).run P w = .ok (.value (pt b)) w' ∧ E3 b c w')
    (h : walkG P F (fun a' => ∀ b c w', E3 b c w' → wpList P l.toArray Q (l.drop (m + 1 + 1)) ((a'.put o1.dst (pt b)).put o2.dst (pt c)) w') (l.take m) a) : (Code.region id l.toArray true).wp P Q a w := by
  simp only [Region.lexTailB, Bool.and_eq_true, decide_eq_true_eq] at hB
  obtain ⟨⟨⟨⟨hsel, hn⟩, hs⟩, hc⟩, hlex⟩ := hB
  have htl : (l.take m).length = m := by simp only [List.size_toArray] at hn; simp; omega
  have hdl : (l.drop (m + 1 + 1)).length = l.toArray.size - (m + 1 + 1) := by simp
  have H := head2_lex (md := .any) (pt := pt) (Lq := fun b c a' => ∀ w', E3 b c w' → wpList P l.toArray Q (l.drop (m + 1 + 1)) a' w') (g := l.toArray.size - (m + 1 + 1)) hsel hs hc hn rfl h1 h2 fD fE1 fE2 fE3 (l.take m) 0 (Array.replicate l.toArray.size false) a (fun j hj => by
      rw [htl] at hj
      simp [hj]) (by omega)
    ⟨by simp, fun j oj _ hl => by rw [getD_replicate_false] at hl; exact absurd hl Bool.false_ne_true, fun t _ ht => getD_in (by simpa using ht) (getD_replicate_false _ _)⟩
    (by rw [htl]; exact hlex) h
  refine wp_region_any hm ?_
  have K := any_of_head2 (Q := Q) (g := l.toArray.size - (m + 1 + 1)) h1 h2 g1 g2 r1 r2 r12 r21 (fun b c listed a' w' hw' hL => by
    have := wpAny_of_seq (md := .any) (Q' := Q) (l.drop (m + 1 + 1)) (m + 1 + 1) listed a' w' (fun j => by simp [List.getElem?_drop]) (by rw [hdl]; exact hL.1) (hL.2 w' hw')
    rwa [hdl] at this) _ _ _ { w with drawn := w.drawn + 1 } hD H
  rw [htl, show m + 1 + 1 + (l.toArray.size - (m + 1 + 1)) = l.toArray.size by omega] at K
  exact K
end
end Go.Proofs.YthlmgpllapccfaaGreatDoor
/- A REGION THAT TAKES A BLOCK AMONG ITS CALLS: the classes of worlds that keep all old blocks. -/
namespace Go.Proofs.YthlmgpllapccfaaGreatDoor
open Go.RowKit
variable {P : Program} {V : World} {cs : Array Value} {t : TypeId} {Q : Act → Prop} {a : Act} {o : Oper} {rest : List Oper}

def DF (V : World) (w : World) : Prop := Fr [] V w
def EF (V : World) (cs : Array Value) (t : TypeId) (b : Nat) (w : World) : Prop := V.heap.size ≤ b ∧ Blk w b cs t ∧ Fr [] V w
theorem quietAt_mono {C C' : World → Prop} {w : World} {v : Value} (h : ∀ w', C w' → C' w') (hq : o.quietAt P a C w v) : o.quietAt P a C' w v := by
  unfold Oper.quietAt at *
  generalize (execOp a.eval o).run P w = r at *
  cases r with
  | ok n w' =>
    cases n <;> simp only [Oper.quietUpon] at hq ⊢
    case value u => exact hq
    case skip => exact hq
    case enter f args => exact ⟨hq.1, hq.2.mono fun e w'' hh => ⟨hh.1, h _ hh.2⟩⟩
  | halt x w' => simp only [Oper.quietUpon] at hq
theorem walkF_step (hgd : o.guard = none) (v : Value) (hq : ∀ w, Fr [] V w → o.quietAt P a (fun w'' => Fr [] w w'') w v) (h : walkF P (DF V) (EF V cs t) Q rest (a.put o.dst v)) : walkF P (DF V) (EF V cs t) Q (o :: rest) a :=
  ⟨hgd, v, fun w hw => quietAt_mono (fun w'' hh => Fr.trans hw hh (by simp)) (hq w hw), fun _ w hw => quietAt_mono (fun w'' hh => ⟨hw.1, hw.2.1.fr hh (by simp), hw.2.2.trans hh (by simp)⟩) (hq w hw.2.2), h⟩
theorem walkF_val (hgd : o.guard = none) (v : Value) (hr : ∀ w, Fr [] V w → (execOp a.eval o).run P w = .ok (.value v) w) (h : walkF P (DF V) (EF V cs t) Q rest (a.put o.dst v)) : walkF P (DF V) (EF V cs t) Q (o :: rest) a :=
  walkF_step hgd v (fun w hw => by
    unfold Oper.quietAt
    rw [hr w hw]
    exact ⟨rfl, rfl⟩) h
theorem walkF_calls (hgd : o.guard = none) (f : FuncId) (vs : Array Value) (v : Value) (hr : ∀ w, (execOp a.eval o).run P w = .ok (.enter f vs) w)
    (hc : ∀ w, Fr [] V w → Calls P f vs w (fun e w' => e = .returned v ∧ Fr [] w w')) (h : walkF P (DF V) (EF V cs t) Q rest (a.put o.dst v)) : walkF P (DF V) (EF V cs t) Q (o :: rest) a :=
  walkF_step hgd v (fun w hw => by
    unfold Oper.quietAt
    rw [hr w]
    exact ⟨rfl, hc w hw⟩) h
theorem walkF_ld (hgd : o.guard = none) (ty : TypeId) (x : Operand) (ho : o.op = .load ty x) (b : Nat) (hx : a.eval x = .pointer (some ⟨b, 0, none⟩)) (xs : Array Value) (d : TypeDesc) (hC : ∀ w, Fr [] V w → w.heap[b]? = some (.cells xs ty (0, 0)))
    (hu : P.underlying ty = some d) (hd : d.isRow = true) (hi : (P.info? ty).map (·.size) = some xs.size) (h : walkF P (DF V) (EF V cs t) Q rest (a.put o.dst (.agg xs))) : walkF P (DF V) (EF V cs t) Q (o :: rest) a :=
  walkF_step hgd (.agg xs) (fun w hw => by
    have hl := run_loadAt_mid (P := P) w b 0 ty xs.toList d (fun j v hv => by rw [Nat.zero_add, cell_of_row w b j xs ty (0, 0) (hC w hw)]; simpa using hv) hu hd (by rw [Array.length_toList]; exact hi)
    unfold Oper.quietAt execOp
    simp only [ho, hx, Sem.run_bind, hl, Result.andThen_ok, Sem.run_pure, Array.toArray_toList]
    exact ⟨rfl, rfl⟩) h
theorem walkF_nil (h : Q a) : walkF P (DF V) (EF V cs t) Q [] a := h
end Go.Proofs.YthlmgpllapccfaaGreatDoor
/- A REGION THAT TAKES TWO BLOCKS AMONG ITS CALLS: the classes of worlds that keep all old blocks. -/
namespace Go.Proofs.YthlmgpllapccfaaGreatDoor
open Go.RowKit
variable {P : Program} {V : World} {Q : Act → Prop} {a : Act} {o : Oper} {rest : List Oper}

/-- The classes of worlds that come behind V, and stay so. -/
def Fam (V : World) (C : World → Prop) : Prop := (∀ w, C w → Fr [] V w) ∧ ∀ w w', C w → Fr [] w w' → C w'
theorem walkG_step (hgd : o.guard = none) (v : Value) (hq : ∀ w, Fr [] V w → o.quietAt P a (fun w'' => Fr [] w w'') w v) (h : walkG P (Fam V) Q rest (a.put o.dst v)) : walkG P (Fam V) Q (o :: rest) a :=
  ⟨hgd, v, fun _ hF w hw => quietAt_mono (fun w'' hh => hF.2 w w'' hw hh) (hq w (hF.1 w hw)), h⟩
theorem walkG_val (hgd : o.guard = none) (v : Value) (hr : ∀ w, Fr [] V w → (execOp a.eval o).run P w = .ok (.value v) w) (h : walkG P (Fam V) Q rest (a.put o.dst v)) : walkG P (Fam V) Q (o :: rest) a :=
  walkG_step hgd v (fun w hw => by
    unfold Oper.quietAt
    rw [hr w hw]
    exact ⟨rfl, rfl⟩) h
theorem walkG_calls (hgd : o.guard = none) (f : FuncId) (vs : Array Value) (v : Value) (hr : ∀ w, (execOp a.eval o).run P w = .ok (.enter f vs) w)
    (hc : ∀ w, Fr [] V w → Calls P f vs w (fun e w' => e = .returned v ∧ Fr [] w w')) (h : walkG P (Fam V) Q rest (a.put o.dst v)) : walkG P (Fam V) Q (o :: rest) a :=
  walkG_step hgd v (fun w hw => by
    unfold Oper.quietAt
    rw [hr w]
    exact ⟨rfl, hc w hw⟩) h
theorem walkG_nil (h : Q a) : walkG P (Fam V) Q [] a := h
def E3F (V : World) (cs ds : Array Value) (t u : TypeId) (b c : Nat) (w : World) : Prop := V.heap.size ≤ b ∧ V.heap.size ≤ c ∧ b ≠ c ∧ Blk w b cs t ∧ Blk w c ds u ∧ Fr [] V w
theorem fam_D (V : World) : Fam V (DF V) := ⟨fun _ h => h, fun _ _ h hh => Fr.trans h hh (by simp)⟩
theorem fam_E (V : World) (cs : Array Value) (t : TypeId) (b : Nat) : Fam V (EF V cs t b) := ⟨fun _ h => h.2.2, fun _ _ h hh => ⟨h.1, h.2.1.fr hh (by simp), h.2.2.trans hh (by simp)⟩⟩
theorem fam_E3 (V : World) (cs ds : Array Value) (t u : TypeId) (b c : Nat) : Fam V (E3F V cs ds t u b c) := ⟨fun _ h => h.2.2.2.2.2, fun _ _ h hh => ⟨h.1, h.2.1, h.2.2.1, h.2.2.2.1.fr hh (by simp), h.2.2.2.2.1.fr hh (by simp), h.2.2.2.2.2.trans hh (by simp)⟩⟩
/-- THE LAW, at blocks of cells. -/
theorem region_two_blocks {id : Nat} {Q : Exit → Act → World → Prop} {a : Act} {w : World} {l : List Oper} (cs : Array Value) (t : TypeId) (m : Nat) (o1 o2 : Oper)
    (hm : P.follows .mixedOrders = true) (hB : Region.lexTailB .any l.toArray (m + 1 + 1) = true) (h1 : l.toArray[m]? = some o1) (h2 : l.toArray[m + 1]? = some o2) (g1 : o1.guard = none) (g2 : o2.guard = none)
    (r1 : ∀ (a : Act) w, (execOp a.eval o1).run P w = .ok (.value (.pointer (some ⟨w.heap.size, 0, none⟩))) (w.alloc (.cells cs t)))
    (r2 : ∀ (a : Act) w, (execOp a.eval o2).run P w = .ok (.value (.pointer (some ⟨w.heap.size, 0, none⟩))) (w.alloc (.cells cs t)))
    (h : walkG P (Fam w) (fun a' => ∀ b c w', E3F w cs cs t t b c w' → wpList P l.toArray Q (l.drop (m + 1 + 1)) ((a'.put o1.dst (.pointer (some ⟨b, 0, none⟩))).put o2.dst (.pointer (some ⟨c, 0, none⟩))) w') (l.take m) a) : (Code.region id l.toArray true).wp P Q a w :=
  region_alloc2_tail (DF w) (EF w cs t) (EF w cs t) (E3F w cs cs t t) (Fam w) (fun b => .pointer (some ⟨b, 0, none⟩)) m o1 o2 (Fr.drew (Fr.refl [] w)) hm hB h1 h2 g1 g2 (fam_D w) (fam_E w cs t) (fam_E w cs t) (fam_E3 w cs cs t t)
    (fun a v hv => ⟨_, _, r1 a v, Fr.size hv, Blk.new _ _ _, Fr.alloc hv _⟩) (fun a v hv => ⟨_, _, r2 a v, Fr.size hv, Blk.new _ _ _, Fr.alloc hv _⟩)
    (fun c a v hv => ⟨_, _, r2 a v, hv.1, hv.2.2.size, by have := hv.2.1.lt; omega, hv.2.1.alloc _, Blk.new _ _ _, hv.2.2.alloc _⟩)
    (fun c a v hv => ⟨_, _, r1 a v, hv.2.2.size, hv.1, by have := hv.2.1.lt; omega, Blk.new _ _ _, hv.2.1.alloc _, hv.2.2.alloc _⟩) h
end Go.Proofs.YthlmgpllapccfaaGreatDoor
