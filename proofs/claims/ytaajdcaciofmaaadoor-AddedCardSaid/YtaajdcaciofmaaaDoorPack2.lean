import Derived.Test.YtaajdcaciofmaaaDoorPack1
import Derived.Shelf.Strings.Builder1
import Derived.Shelf.Strings.Builder2
import Derived.Shelf.Strings.OnBuilder
import Derived.Shelf.Strconv.Itoa0
import Derived.Shelf.Strconv.Itoa1
import Derived.Shelf.LaysM
import Derived.Shelf.Strconv.Itoa2
import Derived.Shelf.Strconv.Itoa3
import Derived.Test.YtaajdcaciofmaaaDoorProg
import Derived.StillTail
import Derived.BigQuiet
import Derived.Deep.MidRow
import Derived.Deep.RegionHeld3
import Derived.Laws.IdiomStrings
import Derived.Laws.ResultCell
import Derived.Laws.Rows
import Derived.Deep.AppendLies
import Derived.Deep.LoopGhost
import Derived.Deep.Cut
/- THE LIBRARY's CONTRACTS THAT THE PROOFS TAKE, laid at this dump in plain words by the kit's own commands (wip/shelf.py keeps those that are wanted). -/
namespace Go.Proofs
open Go.Shelf
def Tryd.lays156_ren : Go.Shelf.Ren := ⟨fun | 156 => 30 | 165 => 48 | 166 => 49 | 169 => 50 | 240 => 68 | 241 => 69 | 276 => 73 | 277 => 74 | n => n, fun | 31 => 61 | 9 => 9 | 3 => 3 | 4 => 4 | 0 => 0 | 20 => 20 | 72 => 98 | 76 => 100 | 70 => 96 | 37 => 72 | 75 => 52 | 127 => 127 | 164 => 74 | 5 => 5 | 80 => 40 | n => n, fun | n => n⟩
theorem Tryd.lays156 : Go.Proofs.Lays.n156 Tryd.prog Tryd.lays156_ren := {
  mixed := by kernel_rfl
  f156 := Tryd.func30.trans (congrArg some (by kernel_rfl))
  f165 := Tryd.func48.trans (congrArg some (by kernel_rfl))
  f166 := Tryd.func49.trans (congrArg some (by kernel_rfl))
  f169 := Tryd.func50.trans (congrArg some (by kernel_rfl))
  f240 := Tryd.func68.trans (congrArg some (by kernel_rfl))
  f241 := Tryd.func69.trans (congrArg some (by kernel_rfl))
  f276 := Tryd.func73.trans (congrArg some (by kernel_rfl))
  f277 := Tryd.func74.trans (congrArg some (by kernel_rfl))
  t0 := Tryd.underlying0
  a0 := Tryd.isAgg0
  z0 := Tryd.sizeOf0
  v0 := Tryd.zeroValue0
  t3 := Tryd.underlying3
  a3 := Tryd.isAgg3
  z3 := Tryd.sizeOf3
  v3 := Tryd.zeroValue3
  t4 := Tryd.underlying4
  a4 := Tryd.isAgg4
  z4 := Tryd.sizeOf4
  v4 := Tryd.zeroValue4
  t9 := Tryd.underlying9
  a9 := Tryd.isAgg9
  z9 := Tryd.sizeOf9
  v9 := Tryd.zeroValue9
  t20 := Tryd.underlying20
  a20 := Tryd.isAgg20
  z20 := Tryd.sizeOf20
  v20 := Tryd.zeroValue20
  t31 := Tryd.underlying61
  a31 := Tryd.isAgg61
  z31 := Tryd.sizeOf61
  v31 := Tryd.zeroValue61
  t37 := Tryd.underlying72
  a37 := Tryd.isAgg72
  z37 := Tryd.sizeOf72
  v37 := Tryd.zeroValue72
  t70 := Tryd.underlying96
  a70 := Tryd.isAgg96
  z70 := Tryd.sizeOf96
  v70 := Tryd.zeroValue96
  t72 := Tryd.underlying98
  a72 := Tryd.isAgg98
  z72 := Tryd.sizeOf98
  v72 := Tryd.zeroValue98
  t75 := Tryd.underlying52
  a75 := Tryd.isAgg52
  z75 := Tryd.sizeOf52
  v75 := Tryd.zeroValue52
  t76 := Tryd.underlying100
  a76 := Tryd.isAgg100
  z76 := Tryd.sizeOf100
  v76 := Tryd.zeroValue100
  t127 := Tryd.underlying127
  a127 := Tryd.isAgg127
  z127 := Tryd.sizeOf127
  v127 := Tryd.zeroValue127
  t164 := Tryd.underlying74
  a164 := Tryd.isAgg74
  z164 := Tryd.sizeOf74
  v164 := Tryd.zeroValue74 }
theorem Tryd.Builder_Extra_156 : Builder.Extra Tryd.prog Tryd.lays156_ren := {
  sizeBuilder := by kernel_rfl
  liesBuilder := by kernel_rfl
  t5 := Tryd.underlying5
  a5 := Tryd.isAgg5
  z5 := Tryd.sizeOf5
  v5 := Tryd.zeroValue5
  infoByte := by kernel_rfl
  cellsByte := by kernel_rfl
  sizeByte := by kernel_rfl
  neB5 := by decide }
open Go.RowKit in
theorem Tryd.strings_Join_none (a : Option Addr) (c : Nat) (sep : ByteArray) (w : World) :
    Calls Tryd.prog 30 #[.slice a 0 c, .string sep] w fun e w' => e = .returned (.string ⟨#[]⟩) ∧ w' = w := Any.strings_Join_none Tryd.lays156 Tryd.Builder_Extra_156 a c sep w
open Go.RowKit in
theorem Tryd.strings_Join (bk o c : Nat) (xs : List ByteArray) (sep : ByteArray) (w : World) (hcells : ∀ (j : Nat) x, xs[j]? = some x → w.cell? ⟨bk, o + j, none⟩ = some (.string x)) (hbk : bk < w.heap.size) (hN : xs.length ≤ 140737488355328) (hcap : xs.length ≤ c) (hlen : (Lib.join (xs.map (·.data.toList)) sep.data.toList).length ≤ 140737488355328) :
    Calls Tryd.prog 30 #[.slice (some ⟨bk, o, none⟩) xs.length c, .string sep] w fun e w' => e = .returned (.string ⟨(Lib.join (xs.map (·.data.toList)) sep.data.toList).toArray⟩) ∧ Below w.heap.size w w' := Any.strings_Join Tryd.lays156 Tryd.Builder_Extra_156 bk o c xs sep w hcells hbk hN hcap hlen
def Tryd.lays171_ren : Go.Shelf.Ren := ⟨fun | 171 => 47 | 243 => 67 | 246 => 72 | 283 => 75 | 284 => 76 | 285 => 77 | 286 => 78 | 129 => 80 | 317 => 79 | 318 => 81 | 319 => 82 | 320 => 83 | 337 => 84 | 338 => 85 | n => n, fun | 3 => 3 | 9 => 9 | 2 => 2 | 4 => 4 | 171 => 133 | 0 => 0 | 53 => 134 | 37 => 72 | 5 => 5 | 173 => 137 | 212 => 140 | 51 => 141 | 20 => 20 | 213 => 142 | 46 => 144 | 232 => 147 | 233 => 148 | n => n, fun | 17 => 2 | 18 => 3 | 19 => 4 | n => n⟩
theorem Tryd.lays171 : Go.Proofs.Lays.n171 Tryd.prog Tryd.lays171_ren := {
  mixed := by kernel_rfl
  f129 := Tryd.func80.trans (congrArg some (by kernel_rfl))
  f171 := Tryd.func47.trans (congrArg some (by kernel_rfl))
  f243 := Tryd.func67.trans (congrArg some (by kernel_rfl))
  f246 := Tryd.func72.trans (congrArg some (by kernel_rfl))
  f283 := Tryd.func75.trans (congrArg some (by kernel_rfl))
  f284 := Tryd.func76.trans (congrArg some (by kernel_rfl))
  f285 := Tryd.func77.trans (congrArg some (by kernel_rfl))
  f286 := Tryd.func78.trans (congrArg some (by kernel_rfl))
  f317 := Tryd.func79.trans (congrArg some (by kernel_rfl))
  f318 := Tryd.func81.trans (congrArg some (by kernel_rfl))
  f319 := Tryd.func82.trans (congrArg some (by kernel_rfl))
  f320 := Tryd.func83.trans (congrArg some (by kernel_rfl))
  f337 := Tryd.func84.trans (congrArg some (by kernel_rfl))
  f338 := Tryd.func85.trans (congrArg some (by kernel_rfl))
  t0 := Tryd.underlying0
  a0 := Tryd.isAgg0
  z0 := Tryd.sizeOf0
  v0 := Tryd.zeroValue0
  t2 := Tryd.underlying2
  a2 := Tryd.isAgg2
  z2 := Tryd.sizeOf2
  v2 := Tryd.zeroValue2
  t3 := Tryd.underlying3
  a3 := Tryd.isAgg3
  z3 := Tryd.sizeOf3
  v3 := Tryd.zeroValue3
  t4 := Tryd.underlying4
  a4 := Tryd.isAgg4
  z4 := Tryd.sizeOf4
  v4 := Tryd.zeroValue4
  t5 := Tryd.underlying5
  a5 := Tryd.isAgg5
  z5 := Tryd.sizeOf5
  v5 := Tryd.zeroValue5
  t9 := Tryd.underlying9
  a9 := Tryd.isAgg9
  z9 := Tryd.sizeOf9
  v9 := Tryd.zeroValue9
  t20 := Tryd.underlying20
  a20 := Tryd.isAgg20
  z20 := Tryd.sizeOf20
  v20 := Tryd.zeroValue20
  t37 := Tryd.underlying72
  a37 := Tryd.isAgg72
  z37 := Tryd.sizeOf72
  v37 := Tryd.zeroValue72
  t46 := Tryd.underlying144
  a46 := Tryd.isAgg144
  z46 := Tryd.sizeOf144
  v46 := Tryd.zeroValue144
  t51 := Tryd.underlying141
  a51 := Tryd.isAgg141
  z51 := Tryd.sizeOf141
  v51 := Tryd.zeroValue141
  t53 := Tryd.underlying134
  a53 := Tryd.isAgg134
  z53 := Tryd.sizeOf134
  v53 := Tryd.zeroValue134
  t171 := Tryd.underlying133
  a171 := Tryd.isAgg133
  z171 := Tryd.sizeOf133
  v171 := Tryd.zeroValue133
  t173 := Tryd.underlying137
  a173 := Tryd.isAgg137
  z173 := Tryd.sizeOf137
  v173 := Tryd.zeroValue137
  t212 := Tryd.underlying140
  a212 := Tryd.isAgg140
  z212 := Tryd.sizeOf140
  v212 := Tryd.zeroValue140
  t213 := Tryd.underlying142
  a213 := Tryd.isAgg142
  z213 := Tryd.sizeOf142
  t232 := Tryd.underlying147
  a232 := Tryd.isAgg147
  z232 := Tryd.sizeOf147
  v232 := Tryd.zeroValue147
  t233 := Tryd.underlying148
  a233 := Tryd.isAgg148
  z233 := Tryd.sizeOf148
  v233 := Tryd.zeroValue148
  g17 := by kernel_rfl
  g18 := by kernel_rfl
  g19 := by kernel_rfl }
open Go.RowKit Go.Sort Go.Lib in
theorem Tryd.strconv_Itoa_small (i : Nat) (hi : i < 100) (w : World) :
    Calls Tryd.prog 47 #[.int .i64 i] w fun e w' => e = .returned (.string ⟨(Lib.decDigits i).toArray⟩) ∧ w' = w := Any.strconv_Itoa_small Tryd.lays171 i hi w
end Go.Proofs
/- A REGION THAT DRAWS ITS ORDER, WHOSE FIRST n OPERATIONS ONLY READ (AND CALL WHAT ONLY READS), THE REST FORCED BEHIND THEM (a store at the end): one walk in the text's order serves every order. Over the library's notions of quiet operations (Derived.Deep.Quiet) and of a forced tail (Derived.StillTail). -/
namespace Go.Proofs.YtaajdcaciofmaaaDoor
open Go
section
variable {P : Program} {ops : Array Oper} {md : Region.Mode} {C : World → Prop}

/-- f operations more come up, each of the first n and quiet; then L. -/
def headQ (P : Program) (md : Region.Mode) (ops : Array Oper) (C : World → Prop) (n : Nat) (L : Array Bool → Act → Prop) : Nat → Array Bool → Act → Prop
  | 0, listed, a => L listed a
  | f + 1, listed, a => Region.ready md ops listed ≠ [] ∧ ∀ i ∈ Region.ready md ops listed, i < n ∧ qOp P ops C i (headQ P md ops C n L f (listed.setIfInBounds i true)) a

theorem any_of_headQ {n g : Nat} {L : Array Bool → Act → Prop} {Q : Exit → Act → World → Prop} (hL : ∀ listed a w, C w → L listed a → wpAny P md ops Q g listed a w) :
    ∀ (f : Nat) (listed : Array Bool) (a : Act) (w : World), C w → headQ P md ops C n L f listed a → wpAny P md ops Q (f + g) listed a w := by
  intro f
  induction f with
  | zero => intro listed a w hw h; rw [Nat.zero_add]; exact hL listed a w hw h
  | succ f ih =>
    intro listed a w hw h
    rw [Nat.add_right_comm]
    exact ⟨fun e => absurd e h.1, fun i hi => wpOp_of_qOp hw (fun a' w' hw' h' => ih _ a' w' hw' h') (h.2 i hi).2⟩

theorem headQ_ready {n : Nat} {L : Array Bool → Act → Prop} (hdone : ∀ listed a, L listed a → ∀ j ∈ Region.ready md ops listed, n ≤ j) {f : Nat} {listed : Array Bool} {a : Act}
    (h : headQ P md ops C n L f listed a) {j : Nat} (hj : j ∈ Region.ready md ops listed) (hn : j < n) : ∃ f', f = f' + 1 ∧ qOp P ops C j (headQ P md ops C n L f' (listed.setIfInBounds j true)) a := by
  cases f with
  | zero => have := hdone listed a h j hj; omega
  | succ f => exact ⟨f, rfl, (h.2 j hj).2⟩

theorem headQ_first {n i : Nat} {oi : Oper} {v : Value} {L : Array Bool → Act → Prop} (hi : ops[i]? = some oi) (hsel : ∀ (j : Nat) (o : Oper) cs b, ops[j]? = some o → o.op ≠ .select cs b)
    (hs : Region.sinkB md ops n = true) (hc : Region.chainB md ops n = true) (hn : n < ops.size) (hin : i < n) (hdone : ∀ listed a, L listed a → ∀ j ∈ Region.ready md ops listed, n ≤ j) :
    ∀ (f : Nat) (listed : Array Bool) (a : Act), HeadInv md ops n listed →
      (∀ j oj, ops[j]? = some oj → j ≠ i → listed.getD j true = false → (∀ e ∈ oj.after, Region.binds md e = true → e.on ≠ i) → oi.apart ops oj = true) →
      i ∈ Region.ready md ops listed → YieldsIn P ops C oi v a → headQ P md ops C n L f (listed.setIfInBounds i true) (a.put oi.dst v) → headQ P md ops C n L (f + 1) listed a := by
  intro f
  induction f with
  | zero =>
    intro listed a inv hfree hr hy H
    have hun := (mem_ready.1 hr).1
    refine ⟨List.ne_nil_of_mem hr, fun j hj => ?_⟩
    have hjn : j < n := Nat.lt_of_not_le fun h => tail_waits hs hc hn inv _ i rfl hin hun j h hj
    refine ⟨hjn, ?_⟩
    by_cases hji : j = i
    · rw [hji]; exact hy.qOp hi H
    · obtain ⟨f', e, _⟩ := headQ_ready hdone H (ready_mono hj hji) hjn
      omega
  | succ f ih =>
    intro listed a inv hfree hr hy H
    have hun := (mem_ready.1 hr).1
    refine ⟨List.ne_nil_of_mem hr, fun j hj => ?_⟩
    have hjn : j < n := Nat.lt_of_not_le fun h => tail_waits hs hc hn inv _ i rfl hin hun j h hj
    refine ⟨hjn, ?_⟩
    by_cases hji : j = i
    · rw [hji]; exact hy.qOp hi H
    · obtain ⟨f', e, h1⟩ := headQ_ready hdone H (ready_mono hj hji) hjn
      have e' : f' = f := by omega
      subst e'
      obtain ⟨hjun, oj, hoj, hall⟩ := mem_ready.1 hj
      have hno : ∀ e ∈ oj.after, Region.binds md e = true → e.on ≠ i := fun e he hb heq => by
        have := hall e he hb
        rw [heq, getD_both hun] at this
        exact Bool.false_ne_true this
      have h2 := qOp_put hoj (hfree j oj hoj hji hjun hno) (fun cs b => hsel i oi cs b hi) (fun cs b => hsel j oj cs b hoj) hy h1
      refine qOp_mono (fun a' h3 => ih (listed.setIfInBounds j true) a' (inv.set hj hjn) (fun k ok hk hki hunk hnk => hfree k ok hk hki ?_ hnk) (ready_mono hr (Ne.symm hji)) h3.1 ?_) h2
      · by_cases hjk : j = k
        · rw [← hjk]; exact hjun
        · rw [getD_set_ne true hjk] at hunk; exact hunk
      · rw [Array.setIfInBounds_comm _ _ hji]; exact h3.2

theorem headQ_lex {n g : Nat} {Lq : Act → Prop} (hsel : Region.noSelect ops = true) (hs : Region.sinkB md ops n = true) (hc : Region.chainB md ops n = true) (hn : n < ops.size) :
    ∀ (l : List Oper) (k : Nat) (listed : Array Bool) (a : Act), (∀ j, j < l.length → l[j]? = ops[k + j]?) → k + l.length = n → HeadInv md ops n listed →
    Region.lexHead md ops g l.length k listed = true → wpQuiet P ops C Lq l a →
    headQ P md ops C n (fun listed' a' => Region.seqB md ops g n listed' = true ∧ Lq a') l.length listed a := by
  intro l
  induction l with
  | nil =>
    intro k listed a _ hk _ hB h
    have e : k = n := by simpa using hk
    subst e
    exact ⟨by simpa [Region.lexHead] using hB, h⟩
  | cons o l ih =>
    intro k listed a hl hk inv hB h
    have h0 : ops[k]? = some o := by simpa using (hl 0 (by simp)).symm
    simp only [List.length_cons, Region.lexHead, Bool.and_eq_true] at hB
    simp only [List.length_cons] at hk
    have hr : k ∈ Region.ready md ops listed := by simpa using hB.1.1
    have hq : qOp P ops C k (wpQuiet P ops C Lq l) a := by unfold qOp; simp only [h0]; exact h
    obtain ⟨v, hy, hK⟩ := yieldsIn_of_qOp h0 hq
    refine headQ_first h0 (Region.noSelect_spec hsel) hs hc hn (by omega) (fun listed' a' hL => seqB_ready hL.1) l.length listed a inv (Region.free_spec h0 hB.1.2) hr hy ?_
    refine ih (k + 1) _ _ (fun j hj => ?_) (by omega) (inv.set hr (by omega)) hB.2 hK
    have := hl (j + 1) (by simp; omega)
    rw [show k + 1 + j = k + (j + 1) by omega, ← this]; simp

/-- THE LAW. -/
theorem region_quiet_tail {id : Nat} {Q : Exit → Act → World → Prop} {a : Act} {w : World} {l : List Oper} (n : Nat) (hm : P.follows .mixedOrders = true) (hB : Region.lexTailB .any l.toArray n = true)
    (h : wpQuiet P l.toArray (fun w' => ∃ m, w' = w.drewN m) (fun a' => ∀ w', (∃ m, w' = w.drewN m) → wpList P l.toArray Q (l.drop n) a' w') (l.take n) a) : (Code.region id l.toArray true).wp P Q a w := by
  simp only [Region.lexTailB, Bool.and_eq_true, decide_eq_true_eq] at hB
  obtain ⟨⟨⟨⟨hsel, hn⟩, hs⟩, hc⟩, hlex⟩ := hB
  have htl : (l.take n).length = n := by simp only [List.size_toArray] at hn; simp; omega
  have hdl : (l.drop n).length = l.toArray.size - n := by simp
  have H := headQ_lex (md := .any) (g := l.toArray.size - n) hsel hs hc hn (l.take n) 0 (Array.replicate l.toArray.size false) a (fun j hj => by
      rw [htl] at hj
      simp [hj]) (by omega)
    ⟨by simp, fun j oj _ hl => by rw [getD_replicate_false] at hl; exact absurd hl Bool.false_ne_true, fun t _ ht => getD_in (by simpa using ht) (getD_replicate_false _ _)⟩
    (by rw [htl]; exact hlex) h
  refine wp_region_any hm ?_
  have K := any_of_headQ (Q := Q) (g := l.toArray.size - n) (fun listed a' w' hw' hL => by
    have := wpAny_of_seq (md := .any) (Q' := Q) (l.drop n) n listed a' w' (fun j => by simp [List.getElem?_drop]) (by rw [hdl]; exact hL.1) (hL.2 w' hw')
    rwa [hdl] at this) _ _ _ { w with drawn := w.drawn + 1 } ⟨1, rfl⟩ H
  rw [htl, show n + (l.toArray.size - n) = l.toArray.size by omega] at K
  exact K
end
end Go.Proofs.YtaajdcaciofmaaaDoor
/- WHOLE ARRAYS IN BLOCKS OF THEIR OWN: loads and stores of 35 cells. -/
namespace Go.Proofs.YtaajdcaciofmaaaDoor
open Go.RowKit

/-- A polynomial as cells. -/
def pv (p : List Nat) : Array Value := (p.map fun n : Nat => Value.int .i64 (n : Int)).toArray
theorem pv_size (p : List Nat) : (pv p).size = p.length := by simp [pv]
theorem pv_get {p : List Nat} {j : Nat} (h : j < p.length) : (pv p)[j]? = some (.int .i64 (p.getD j 0)) := by simp [pv, List.getElem?_eq_getElem h]
theorem pv_set (p : List Nat) (j v : Nat) : (pv p).setIfInBounds j (.int .i64 v) = pv (p.set j v) := by simp [pv, List.map_set]
theorem pv_one (p : List Nat) : (pv p).all (·.oneCell') = true := by
  rw [Array.all_eq_true_iff_forall_mem]
  intro v hv
  simp only [pv, List.mem_toArray, List.mem_map] at hv
  obtain ⟨n, _, rfl⟩ := hv
  rfl

/-- What is known of the world alone. -/
theorem wp_forget {P : Program} {c : Code} {Q : Exit → Act → World → Prop} {a : Act} {w : World} (I : World → Prop) (hI : I w) (h : ∀ W, I W → Code.wp P c Q a W) : Code.wp P c Q a w := h w hI

theorem Blk.putN {w : World} {b : Nat} {p : List Nat} {t : TypeId} (h : Blk w b (pv p) t) (j k : Nat) (n : Int) (hn : n = k) : Blk (w.setCell ⟨b, j, none⟩ (.int .i64 n)) b (pv (p.set j k)) t := by
  subst hn
  have := h.set j (.int .i64 k)
  rwa [pv_set] at this
theorem Blk.there {w : World} {b : Nat} {cs : Array Value} {t : TypeId} (h : Blk w b cs t) {n : Nat} (hn : n ≤ cs.size) : w.there b 0 n := fun j hj => by
  rw [Nat.zero_add, h.cell, h.frozen]
  exact ⟨by simp; omega, rfl⟩
theorem heap_setCells (b : Nat) : ∀ (vs : List Value) (o : Nat) (w : World) (k : Nat), k ≠ b → (w.setCells b o vs).heap[k]? = w.heap[k]?
  | [], _, _, _, _ => rfl
  | v :: r, o, w, k, h => by
    rw [World.setCells, heap_setCells b r (o + 1) _ k h]
    exact Below.heap_setCell _ _ _ _ h
theorem rest_setCells (b : Nat) : ∀ (vs : List Value) (o : Nat) (w : World), (w.setCells b o vs).os = w.os ∧ (w.setCells b o vs).tape = w.tape ∧ (w.setCells b o vs).output = w.output ∧ (w.setCells b o vs).heap.size = w.heap.size
  | [], _, _ => ⟨rfl, rfl, rfl, rfl⟩
  | v :: r, o, w => by
    rw [World.setCells]
    have := rest_setCells b r (o + 1) (w.setCell ⟨b, o, none⟩ v)
    refine ⟨this.1, this.2.1, this.2.2.1, this.2.2.2.trans (by simp [World.setCell])⟩
theorem Fr.setCells {bs : List Nat} {a w : World} (h : Fr bs a w) (b o : Nat) (vs : List Value) (hp : b ∈ bs ∨ a.heap.size ≤ b) : Fr bs a (w.setCells b o vs) := by
  obtain ⟨h1, h2, h3, h4⟩ := rest_setCells b vs o w
  exact ⟨h1.trans h.os, h2.trans h.tape, h3.trans h.output, by rw [h4]; exact h.size, fun k hk hn => (heap_setCells b vs o w k (fun e => by subst e; rcases hp with g | g; exact hn g; omega)).trans (h.block k hk hn)⟩
theorem Below.setCells {B : Nat} {a w : World} (h : Below B a w) (b o : Nat) (vs : List Value) (hp : B ≤ b) : Below B a (w.setCells b o vs) := by
  obtain ⟨h1, h2, h3, h4⟩ := rest_setCells b vs o w
  exact ⟨h1.trans h.os, h2.trans h.tape, h3.trans h.output, by rw [h4]; exact h.size, fun k hk => (heap_setCells b vs o w k (by omega)).trans (h.block k hk)⟩
theorem Blk.setCellsOther {w : World} {b : Nat} {cs : Array Value} {t : TypeId} (h : Blk w b cs t) (c o : Nat) (vs : List Value) (hn : b ≠ c) : Blk (w.setCells c o vs) b cs t := by
  unfold Blk at *; rw [heap_setCells _ _ _ _ _ hn]; exact h
theorem Blk.over (b : Nat) (t : TypeId) : ∀ (vs : List Value) (o : Nat) (w : World) (cs : Array Value), Blk w b cs t → ∃ ds : Array Value, Blk (w.setCells b o vs) b ds t ∧ ds.size = cs.size ∧ ∀ j, j < cs.size → ds[j]? = if o ≤ j ∧ j < o + vs.length then vs[j - o]? else cs[j]?
  | [], o, w, cs, h => ⟨cs, h, rfl, fun j _ => by rw [if_neg (by simp)]⟩
  | v :: r, o, w, cs, h => by
    obtain ⟨ds, h1, h2, h3⟩ := Blk.over b t r (o + 1) (w.setCell ⟨b, o, none⟩ v) _ (h.set o v)
    refine ⟨ds, h1, by simpa using h2, fun j hj => ?_⟩
    rw [h3 j (by simpa using hj)]
    by_cases hjo : j = o
    · subst hjo
      rw [if_neg (by omega), if_pos (by simp)]
      simp [hj]
    · by_cases hin : o + 1 ≤ j ∧ j < o + 1 + r.length
      · rw [if_pos hin, if_pos (by simp; omega), show j - o = (j - (o + 1)) + 1 by omega]; simp
      · rw [if_neg hin, if_neg (by simp; omega)]
        simp [Ne.symm hjo]
theorem Blk.setAll {w : World} {b : Nat} {cs : Array Value} {t : TypeId} (h : Blk w b cs t) (vs : Array Value) (hs : vs.size = cs.size) : Blk (w.setCells b 0 vs.toList) b vs t := by
  obtain ⟨ds, h1, h2, h3⟩ := Blk.over b t vs.toList 0 w cs h
  have e : ds = vs := by
    apply Array.ext_getElem?
    intro j
    by_cases hj : j < cs.size
    · rw [h3 j hj, if_pos (by simp; omega)]; simp
    · rw [Array.getElem?_eq_none (by omega), Array.getElem?_eq_none (by omega)]
  rw [← e]; rw [← e] at h1; exact h1
theorem size_poly {p : List Nat} (hp : Good p) : (Tryd.prog.info? 37).map (·.size) = some (pv p).size := by rw [pv_size, hp.1]; kernel_rfl
theorem size_rPoly {p : List Nat} (hp : Good p) : (Tryd.prog.info? 41).map (·.size) = some (pv p).size := by rw [pv_size, hp.1]; kernel_rfl
end Go.Proofs.YtaajdcaciofmaaaDoor
/- THE PROGRAM's TEXT OF A POLYNOMIAL: powerText, termText. -/
namespace Go.Proofs.YtaajdcaciofmaaaDoor
open Go.RowKit
theorem hidT {p : Prop} (h : p) : Hid p := h
theorem Itoa_dgt (n : Nat) (N : Int) (w : World) (hN : N = n) (hn : n < 10) :
    Calls Tryd.prog 47 #[.int .i64 N] w fun e w' => e = .returned (.string (bs [dgt n])) ∧ w' = w := by
  subst hN
  have h := Tryd.strconv_Itoa_small n (by omega) w
  rw [dec_small hn] at h
  exact h

set_option maxRecDepth 100000 in
theorem powerText_any (c : UInt8) (n : Nat) (N : Int) (w : World) (hN : N = n) (hn : n ≤ 6) :
    Calls Tryd.prog 46 #[.string (bs [c]), .int .i64 N] w fun e w' => e = .returned (.string (bs (ptx c n))) ∧ w' = w := by
  subst hN
  unfold ptx
  by_cases h0 : n = 0
  · subst h0
    go_enter Tryd.func46, Tryd.ntmps46
    go_wp2
    go_ret
    exact ⟨rfl, rfl⟩
  · rw [if_neg h0]
    by_cases h1 : n = 1
    · subst h1
      go_enter Tryd.func46, Tryd.ntmps46
      go_wp2
      go_ret
      exact ⟨rfl, rfl⟩
    · rw [if_neg h1]
      have q0 : ((n : Int) == 0) = false := by rw [beq_eq_false_iff_ne]; omega
      have q1 : ((n : Int) == 1) = false := by rw [beq_eq_false_iff_ne]; omega
      go_enter Tryd.func46, Tryd.ntmps46
      go_wp2_with (go_at_call 47; refine (Itoa_dgt n _ _ rfl (by omega)).mono ?_; rintro e w1 ⟨rfl, rfl⟩)
      go_ret
      exact ⟨by rw [bs_append]; rfl, rfl⟩

theorem powerText_to (c : UInt8) (S : ByteArray) (n : Nat) (N : Int) (w : World) (hN : N = n) (hS : S = bs [c]) (hn : n ≤ 6) :
    Calls Tryd.prog 46 #[.string S, .int .i64 N] w fun e w' => e = .returned (.string (bs (ptx c n))) ∧ w' = w := by
  subst hS; exact powerText_any c n N w hN hn

theorem bs_size (l : List UInt8) : (bs l).size = l.length := by simp [bs, ByteArray.size]
theorem ptx_len (c : UInt8) (n : Nat) : (ptx c n).length ≤ 2 := by
  unfold ptx; split
  · simp
  · split <;> simp
theorem pws_len (u x : Nat) : (pws u x).length ≤ 4 := by
  have := ptx_len 117 u; have := ptx_len 120 x
  unfold pws; simp; omega
theorem pws_eq (u x : Nat) : bs (ptx 117 u) ++ bs (ptx 120 x) = bs (pws u x) := bs_append _ _
theorem bs_empty (l : List UInt8) : (bs l).toList.isEmpty = l.isEmpty := by rw [ByteArray.toList_eq]; rfl
set_option maxRecDepth 100000 in
set_option maxHeartbeats 2000000 in
theorem termText_any (n u x : Nat) (N U X : Int) (w : World) (hN : N = n) (hU : U = u) (hX : X = x) (hn : n < 7) (hu : u ≤ 6) (hx : x ≤ 4) :
    Calls Tryd.prog 29 #[.agg #[.int .i64 N, .int .i64 U, .int .i64 X]] w fun e w' => e = .returned (.string (bs (tmx n u x))) ∧ Below w.heap.size w w' := by
  subst hN hU hX
  have HP := hidT (pws_eq u x)
  have HN := pws_nil (u := u) (x := x)
  have HT : tmx n u x = if n = 1 ∧ (u ≠ 0 ∨ x ≠ 0) then pws u x else dgt n :: pws u x := rfl
  have hs1 : ¬ (9223372036854775807 < (bs (ptx 117 u)).size + (bs (ptx 120 x)).size) := by rw [bs_size, bs_size]; have := ptx_len 117 u; have := ptx_len 120 x; omega
  have hs2 : ¬ (9223372036854775807 < (bs [dgt n]).size + (bs (pws u x)).size) := by rw [bs_size, bs_size]; have := pws_len u x; simp; omega
  have HA := hidT (bs_append [dgt n] (pws u x))
  rw [HT]
  by_cases h1 : n = 1
  · subst h1
    by_cases hP : pws u x = []
    · have hE : (bs (pws u x)).toList.isEmpty = true := by rw [bs_empty, hP]; rfl
      have hc : ¬ ((1 : Nat) = 1 ∧ (u ≠ 0 ∨ x ≠ 0)) := by have := HN.1 hP; omega
      rw [if_neg hc]
      clear HN HT hc hP
      generalize pws u x = P at *
      go_enter Tryd.func29, Tryd.ntmps29
      go_wp2_with fail
      go_quiet ((go_at_call 46; first | exact Calls.quiet_of_same (powerText_to 117 _ u _ _ rfl rfl hu) | exact Calls.quiet_of_same (powerText_to 120 _ x _ _ rfl rfl (by omega))))
      rw [HP.out]
      clear HP hs1
      go_wp2_with (go_at_call 47; refine (Itoa_dgt 1 _ _ rfl (by omega)).mono ?_; rintro e w1 ⟨rfl, rfl⟩)
      go_ret
      refine ⟨by rw [HA.out]; rfl, below_drewN (by go_grown) nq⟩
    · have hE : (bs (pws u x)).toList.isEmpty = false := by rw [bs_empty]; simp [hP]
      have hc : ((1 : Nat) = 1 ∧ (u ≠ 0 ∨ x ≠ 0)) := ⟨rfl, by
        by_cases hu0 : u = 0
        · exact Or.inr (fun hx0 => hP (HN.2 ⟨hu0, hx0⟩))
        · exact Or.inl hu0⟩
      rw [if_pos hc]
      clear HN HT hc hP
      generalize pws u x = P at *
      go_enter Tryd.func29, Tryd.ntmps29
      go_wp2_with fail
      go_quiet ((go_at_call 46; first | exact Calls.quiet_of_same (powerText_to 117 _ u _ _ rfl rfl hu) | exact Calls.quiet_of_same (powerText_to 120 _ x _ _ rfl rfl (by omega))))
      rw [HP.out]
      clear HP hs1
      go_wp2
      go_ret
      refine ⟨rfl, below_drewN (by go_grown) nq⟩
  · rw [if_neg (fun q => h1 q.1)]
    clear HN HT
    generalize pws u x = P at *
    go_enter Tryd.func29, Tryd.ntmps29
    go_wp2_with fail
    go_quiet ((go_at_call 46; first | exact Calls.quiet_of_same (powerText_to 117 _ u _ _ rfl rfl hu) | exact Calls.quiet_of_same (powerText_to 120 _ x _ _ rfl rfl (by omega))))
    rw [HP.out]
    clear HP hs1
    have h1' : ¬ ((n : Int) = 1) := by omega
    go_wp2_with (go_at_call 47; refine (Itoa_dgt n _ _ rfl (by omega)).mono ?_; rintro e w1 ⟨rfl, rfl⟩)
    go_ret
    refine ⟨by rw [HA.out]; rfl, below_drewN (by go_grown) nq⟩
end Go.Proofs.YtaajdcaciofmaaaDoor
/- THE DOCUMENT's TEXT OF A POLYNOMIAL: letter. -/
namespace Go.Proofs.YtaajdcaciofmaaaDoor
open Go.RowKit

theorem conv_at (n : Nat) (hn : n < 10) (g : Nat) (w : World) (h : w.cell? ⟨g, 0, none⟩ = some (.int .u8 (48 + (n : Int)))) :
    (convert 72 9 (.slice (some ⟨g, 0, none⟩) 1 1)).run Tryd.prog w = .ok (.string (bs [dgt n])) w := by
  refine run_convert_bytes_back w 72 9 5 ⟨g, 0, none⟩ 1 [dgt n] Tryd.underlying72 Tryd.underlying5 Tryd.underlying9 ?_
  intro j hj
  have : j = 0 := by simpa using hj
  subst this
  show w.cell? ⟨g, 0, none⟩ = some (.int .u8 ((dgt n).toNat : Int))
  rw [dgt_int hn]; exact h
theorem conv_new (n : Nat) (hn : n < 10) (w : World) :
    (convert 72 9 (.slice (some ⟨w.heap.size, 0, none⟩) 1 1)).run Tryd.prog (w.alloc (.cells #[.int .u8 (48 + (n : Int))] 5)) = .ok (.string (bs [dgt n])) (w.alloc (.cells #[.int .u8 (48 + (n : Int))] 5)) :=
  conv_at n hn w.heap.size _ (Blk.cell (Blk.new w _ _) 0)

set_option maxRecDepth 100000 in
theorem letter_any (c : UInt8) (S : ByteArray) (n : Nat) (N : Int) (w : World) (hN : N = n) (hS : S = bs [c]) (hn : n ≤ 6) :
    Calls Tryd.prog 34 #[.string S, .int .i64 N] w fun e w' => e = .returned (.string (bs (ptx c n))) ∧ Below w.heap.size w w' := by
  subst hN hS
  unfold ptx
  by_cases h0 : n = 0
  · subst h0
    go_enter Tryd.func34, Tryd.ntmps34
    go_wp2
    go_ret
    exact ⟨rfl, Below.refl _ _⟩
  · rw [if_neg h0]
    by_cases h1 : n = 1
    · subst h1
      go_enter Tryd.func34, Tryd.ntmps34
      go_wp2
      go_ret
      exact ⟨rfl, Below.refl _ _⟩
    · rw [if_neg h1]
      have q0 : ((n : Int) == 0) = false := by rw [beq_eq_false_iff_ne]; omega
      have q1 : ((n : Int) == 1) = false := by rw [beq_eq_false_iff_ne]; omega
      go_enter Tryd.func34, Tryd.ntmps34
      have hcv := fun (w' : World) => conv_new n (by omega) w'
      go_wp2
      go_ret
      exact ⟨by rw [bs_append]; rfl, by go_grown⟩
end Go.Proofs.YtaajdcaciofmaaaDoor
/- THE DOCUMENT's ANSWER: digit, small, sign. -/
namespace Go.Proofs.YtaajdcaciofmaaaDoor
open Go.RowKit

/-- The signs. -/
def sgn (b : Nat) : Bool := b == 43 || b == 45 || b == 44 || b == 61 || b == 124 || b == 38 || b == 126 || b == 40 || b == 41 || b == 91 || b == 93

theorem sgn_of (k n : Nat) (h : ((k : Int) == (n : Int)) = true) (hk : sgn k = true) : sgn n = true := by
  have e : k = n := by simp at h; omega
  subst e; exact hk
theorem sgn_none (n : Nat) (h0 : (((43 : Nat) : Int) == (n : Int)) = false) (h1 : (((45 : Nat) : Int) == (n : Int)) = false) (h2 : (((44 : Nat) : Int) == (n : Int)) = false) (h3 : (((61 : Nat) : Int) == (n : Int)) = false) (h4 : (((124 : Nat) : Int) == (n : Int)) = false) (h5 : (((38 : Nat) : Int) == (n : Int)) = false) (h6 : (((126 : Nat) : Int) == (n : Int)) = false) (h7 : (((40 : Nat) : Int) == (n : Int)) = false) (h8 : (((41 : Nat) : Int) == (n : Int)) = false) (h9 : (((91 : Nat) : Int) == (n : Int)) = false) (h10 : (((93 : Nat) : Int) == (n : Int)) = false) : sgn n = false := by
  simp only [beq_eq_false_iff_ne] at *
  unfold sgn
  simp only [Bool.or_eq_false_iff, beq_eq_false_iff_ne]
  omega

set_option maxHeartbeats 400000 in
theorem rdigit_any (n : Nat) (a : Int) (w : World) (ha : a = n) (_h : n ≤ 255) :
    Calls Tryd.prog 53 #[.int .u8 a] w fun e w' => e = .returned (.bool (decide (48 ≤ n) && decide (n ≤ 57))) ∧ w' = w := by
  subst ha
  by_cases h1 : 48 ≤ n
  · by_cases h2 : n ≤ 57
    · go_enter Tryd.func53, Tryd.ntmps53
      go_wp2
      go_ret
      exact ⟨by simp [h1, h2]; omega, rfl⟩
    · go_enter Tryd.func53, Tryd.ntmps53
      go_wp2
      go_ret
      exact ⟨by simp [h1, h2]; omega, rfl⟩
  · go_enter Tryd.func53, Tryd.ntmps53
    go_wp2
    go_ret
    exact ⟨by simp, rfl⟩

set_option maxRecDepth 100000 in
set_option maxHeartbeats 4000000 in
theorem sign_any (n : Nat) (a : Int) (w : World) (ha : a = n) (_h : n ≤ 255) :
    Calls Tryd.prog 56 #[.int .u8 a] w fun e w' => e = .returned (.bool (sgn n)) ∧ w' = w := by
  subst ha
  go_enter Tryd.func56, Tryd.ntmps56
  go_wp2
  refine wp_loop_rounds 12 ?_
  repeat any_goals (rw [rounds_succ]; go_wp2)
  all_goals go_ret
  all_goals first
    | exact ⟨congrArg (fun b => Ending.returned (.bool b)) (sgn_of _ n (by assumption) (by decide)).symm, rfl⟩
    | exact ⟨congrArg (fun b => Ending.returned (.bool b)) (sgn_none n (by assumption) (by assumption) (by assumption) (by assumption) (by assumption) (by assumption) (by assumption) (by assumption) (by assumption) (by assumption) (by assumption)).symm, rfl⟩
end Go.Proofs.YtaajdcaciofmaaaDoor
/- THE DOCUMENT's ANSWER: tokens in memory; number, power. -/
namespace Go.Proofs.YtaajdcaciofmaaaDoor
open Go.RowKit

/-- The kind and the text of a token in the document's answer. -/
def rk (c : Nat) : Int := if c = 0 then 6 else if c = 1 then 1 else if c = 2 ∨ c = 3 then 2 else if 69 ≤ c ∧ c ≤ 94 then 3 else if sgn (c - 4) = true then ((c - 4 : Nat) : Int) else 5
def rs (c : Nat) : ByteArray := if c = 2 then ⟨#[117]⟩ else if c = 3 then ⟨#[120]⟩ else if 69 ≤ c ∧ c ≤ 94 then ⟨#[UInt8.ofNat (c - 4)]⟩ else ⟨#[]⟩

theorem one_byte {s : ByteArray} {i : Nat} (h : i < s.size) : s.extract i (i + 1) = ⟨#[UInt8.ofNat (byt s i)]⟩ := by
  rw [byt_lt h]
  apply ByteArray.ext
  apply Array.ext
  · simp; omega
  · intro j h1 h2
    have : j = 0 := by simp at h2; omega
    subst this
    simp
    rfl

theorem results_tok {fn : Func} {p u : Tmp} (h : fn.results = #[.cell p 103, .tmp u]) (tmps : Array Value) (w : World) (g : Nat) (x0 x1 x2 x3 : Value)
    (hp : tmps.getD p undef = .pointer (some ⟨g, 0, none⟩)) (hg : Blk w g #[x0, x1, x2, x3] 103) :
    (results fn tmps).run Tryd.prog w = .ok (.tuple #[.agg #[x0, x1, x2, x3], tmps.getD u undef]) w := by
  rw [results_cell_tmp h, hp]
  simp [asAddr, run_loadVar_row (P := Tryd.prog) w g 103 103 #[x0, x1, x2, x3] (0, 0) _ hg Tryd.underlying103 rfl (by kernel_rfl)]
theorem retTok {a b c d a' b' c' d' : Int} {s s' : ByteArray} (h1 : a = a') (h2 : b = b') (h3 : c = c') (hs : s = s') (h4 : d = d') : Ending.returned (.tuple #[.agg #[.int .i64 a, .int .i64 b, .int .i64 c, .string s], .int .i64 d]) = Ending.returned (.tuple #[.agg #[.int .i64 a', .int .i64 b', .int .i64 c', .string s'], .int .i64 d']) := by subst h1 h2 h3 h4 hs; rfl

set_option maxHeartbeats 1000000 in
theorem number_any (s : ByteArray) (i : Nat) (a : Int) (w : World) (ha : a = i) (hs : s.size ≤ 1000) (hd : isD s i = true) :
    Calls Tryd.prog 54 #[.string s, .int .i64 a] w fun e w' => e = .returned (.tuple #[.agg #[.int .i64 1, .int .i64 (tokAt s i).at', .int .i64 (tokAt s i).v, .string ⟨#[]⟩], .int .i64 (tokAt s i).to]) ∧ Below w.heap.size w w' := by
  subst ha
  have hi := isD_in hd
  have hb := byt_cast hi
  have hD := (isD_iff s i).1 hd
  have ht : byt s i ≠ 256 := by omega
  by_cases h2 : isD s (i + 1) = true
  · have hi2 := isD_in h2
    have hb2 := byt_cast hi2
    have hD2 := (isD_iff s (i + 1)).1 h2
    have HT : Hid (tokAt s i = ⟨1, i, i + 2, 10 * (byt s i - 48) + (byt s (i + 1) - 48)⟩) := by unfold Hid tokAt; rw [if_neg ht, if_pos hd, if_pos h2]
    have hdec : (decide (48 ≤ byt s (i + 1)) && decide (byt s (i + 1) ≤ 57)) = true := h2
    clear hd ht h2
    go_enter Tryd.func54, Tryd.ntmps54
    go_wp2_with (go_at_call 53; refine (rdigit_any (byt s (i + 1)) _ _ (by omega) (by omega)).mono ?_; rintro e w' ⟨rfl, rfl⟩)
    refine bodyPost_ret (results_tok Tryd.results54 _ _ w.heap.size _ _ _ _ (by rfl) (Blk.new w _ _)) rfl ⟨?_, by go_grown⟩
    rw [HT.out]; dsimp only
    exact retTok (by omega) (by omega) (by omega) rfl (by omega)
  · have HT : Hid (tokAt s i = ⟨1, i, i + 1, byt s i - 48⟩) := by unfold Hid tokAt; rw [if_neg ht, if_pos hd, if_neg h2]
    by_cases hi2 : i + 1 < s.size
    · have hb2 := byt_cast hi2
      have hsm := byt_small hi2
      have hdec : (decide (48 ≤ byt s (i + 1)) && decide (byt s (i + 1) ≤ 57)) = false := by
        cases q : (decide (48 ≤ byt s (i + 1)) && decide (byt s (i + 1) ≤ 57)) with
        | false => rfl
        | true => exact absurd q h2
      clear hd ht h2
      go_enter Tryd.func54, Tryd.ntmps54
      go_wp2_with (go_at_call 53; refine (rdigit_any (byt s (i + 1)) _ _ (by omega) (by omega)).mono ?_; rintro e w' ⟨rfl, rfl⟩)
      refine bodyPost_ret (results_tok Tryd.results54 _ _ w.heap.size _ _ _ _ (by rfl) (Blk.new w _ _)) rfl ⟨?_, by go_grown⟩
      rw [HT.out]; dsimp only
      exact retTok (by omega) (by omega) (by omega) rfl (by omega)
    · clear hd ht h2
      go_enter Tryd.func54, Tryd.ntmps54
      go_wp2
      refine bodyPost_ret (results_tok Tryd.results54 _ _ w.heap.size _ _ _ _ (by rfl) (Blk.new w _ _)) rfl ⟨?_, by go_grown⟩
      rw [HT.out]; dsimp only
      exact retTok (by omega) (by omega) (by omega) rfl (by omega)

set_option maxHeartbeats 1000000 in
theorem rpower_any (s : ByteArray) (i : Nat) (a : Int) (w : World) (ha : a = i) (hs : s.size ≤ 1000) (hi : i < s.size) (hx : byt s i = 117 ∨ byt s i = 120) :
    Calls Tryd.prog 55 #[.string s, .int .i64 a] w fun e w' => e = .returned (.tuple #[.agg #[.int .i64 2, .int .i64 (tokAt s i).at', .int .i64 (tokAt s i).v, .string (rs (tokAt s i).c)], .int .i64 (tokAt s i).to]) ∧ Below w.heap.size w w' := by
  subst ha
  have h0 : byt s i ≠ 256 := by omega
  have h1 : ¬ isD s i = true := by rw [isD_iff]; omega
  have HS : Hid (s.extract i (i + 1) = rs (tokAt s i).c) := by
    unfold Hid
    rw [one_byte hi]
    unfold tokAt
    rw [if_neg h0, if_neg h1]
    rcases hx with hx | hx
    · rw [if_pos hx, hx]; split <;> rfl
    · rw [if_neg (by omega), if_pos hx, hx]; split <;> rfl
  by_cases h2 : isD s (i + 1) = true
  · have hi2 := isD_in h2
    have hb2 := byt_cast hi2
    have hD2 := (isD_iff s (i + 1)).1 h2
    have HT : Hid ((tokAt s i).at' = i ∧ (tokAt s i).to = i + 2 ∧ (tokAt s i).v = byt s (i + 1) - 48) := by
      unfold Hid tokAt
      rcases hx with hx | hx <;> simp [h1, h2, hx]
    have hdec : (decide (48 ≤ byt s (i + 1)) && decide (byt s (i + 1) ≤ 57)) = true := h2
    clear h0 h1 hx h2
    go_enter Tryd.func55, Tryd.ntmps55
    go_wp2_with (go_at_call 53; refine (rdigit_any (byt s (i + 1)) _ _ (by omega) (by omega)).mono ?_; rintro e w' ⟨rfl, rfl⟩)
    go_region
    go_wp2
    obtain ⟨e1, e2, e3⟩ := HT.out
    refine bodyPost_ret (results_tok Tryd.results55 _ _ w.heap.size _ _ _ _ (by rfl) (Blk.drew (Blk.new w _ _))) rfl ⟨?_, by go_grown⟩
    rw [e1, e2, e3]
    exact retTok (by omega) (by omega) (by omega) HS.out (by omega)
  · have HT : Hid ((tokAt s i).at' = i ∧ (tokAt s i).to = i + 1 ∧ (tokAt s i).v = 1) := by
      unfold Hid tokAt
      rcases hx with hx | hx <;> simp [h1, h2, hx]
    by_cases hi2 : i + 1 < s.size
    · have hb2 := byt_cast hi2
      have hsm := byt_small hi2
      have hdec : (decide (48 ≤ byt s (i + 1)) && decide (byt s (i + 1) ≤ 57)) = false := by
        cases q : (decide (48 ≤ byt s (i + 1)) && decide (byt s (i + 1) ≤ 57)) with
        | false => rfl
        | true => exact absurd q h2
      clear h0 h1 hx h2
      go_enter Tryd.func55, Tryd.ntmps55
      go_wp2_with (go_at_call 53; refine (rdigit_any (byt s (i + 1)) _ _ (by omega) (by omega)).mono ?_; rintro e w' ⟨rfl, rfl⟩)
      obtain ⟨e1, e2, e3⟩ := HT.out
      refine bodyPost_ret (results_tok Tryd.results55 _ _ w.heap.size _ _ _ _ (by rfl) (Blk.new w _ _)) rfl ⟨?_, by go_grown⟩
      rw [e1, e2, e3]
      exact retTok (by omega) (by omega) (by omega) HS.out (by omega)
    · clear h0 h1 hx h2
      go_enter Tryd.func55, Tryd.ntmps55
      go_wp2
      obtain ⟨e1, e2, e3⟩ := HT.out
      refine bodyPost_ret (results_tok Tryd.results55 _ _ w.heap.size _ _ _ _ (by rfl) (Blk.new w _ _)) rfl ⟨?_, by go_grown⟩
      rw [e1, e2, e3]
      exact retTok (by omega) (by omega) (by omega) HS.out (by omega)
end Go.Proofs.YtaajdcaciofmaaaDoor
/- THE DOCUMENT's ANSWER: cut. -/
namespace Go.Proofs.YtaajdcaciofmaaaDoor
open Go.RowKit

/-- A token's cells; the first k tokens' cells. -/
def tokL (t : Tok) : List Value := [.int .i64 (rk t.c), .int .i64 t.at', .int .i64 t.v, .string (rs t.c)]
def toksL (s : ByteArray) (a : Nat) : Nat → List Value
  | 0 => []
  | k + 1 => toksL s a k ++ tokL (tk s a k)
theorem toksL_length (s : ByteArray) (a : Nat) : ∀ k, (toksL s a k).length = k * 4
  | 0 => rfl
  | k + 1 => by simp [toksL, toksL_length s a k, tokL]; omega
theorem toksL_get (s : ByteArray) (a : Nat) : ∀ (k j i : Nat), j < k → i < 4 → (toksL s a k)[j * 4 + i]? = (tokL (tk s a j))[i]?
  | 0, _, _, h, _ => by omega
  | k + 1, j, i, h, hi => by
    show (toksL s a k ++ tokL (tk s a k))[j * 4 + i]? = _
    by_cases hj : j < k
    · rw [List.getElem?_append_left (by rw [toksL_length]; omega)]
      exact toksL_get s a k j i hj hi
    · have e : j = k := by omega
      subst e
      rw [List.getElem?_append_right (by rw [toksL_length]; omega), toksL_length]
      congr 1; omega
theorem Token_info : (Tryd.prog.info? 103).map (fun i => (i.zero, i.size, i.bytes)) = some (some (.agg #[.int .i64 0, .int .i64 0, .int .i64 0, .string ⟨#[]⟩]), 4, 40) := by kernel_rfl
theorem tokL_one (t : Tok) : ∀ u ∈ tokL t, u.oneCell' = true := by
  intro u hu
  simp only [tokL, List.mem_cons, List.not_mem_nil, or_false] at hu
  rcases hu with rfl | rfl | rfl | rfl <;> rfl

theorem hideR {p : Prop} (h : p) : Hid p := h
/-- What is owned stays owned where nothing old but one other block has turned. -/
theorem ownsRow_fr {w w' : World} {base : Nat} {e : TypeId} {size : Nat} {v : Value} {n : Nat} {xs : List Value} {c : Nat} (h : w.ownsRow base e size v n xs) (hf : Fr [c] w w') (hc : v.ownBlock ≠ some c) : w'.ownsRow base e size v n xs :=
  h.kept (row := some c) ⟨hf.os, hf.tape, hf.output, hf.size, fun k hk hn => hf.block k hk (by simp; intro q; exact hn (by rw [q]))⟩ (Or.inr hc)
theorem ownsRow_ne {w : World} {base : Nat} {e : TypeId} {size : Nat} {v : Value} {n : Nat} {xs : List Value} (h : w.ownsRow base e size v n xs) {c : Nat} (hc : w.heap.size ≤ c) : v.ownBlock ≠ some c := fun q => by
  have := (h.lt c q).2; omega

set_option maxRecDepth 100000 in
set_option maxHeartbeats 8000000 in
theorem cut_plain (s : ByteArray) (w : World) (hs : s.size ≤ 1000) :
    Calls Tryd.prog 31 #[.string s, .bool false] w fun e w' => ∃ n g cap, e = .returned (.slice (some ⟨g, 0, none⟩) (n + 1) cap) ∧ n ≤ s.size ∧ (∀ j, j < n → (tk s 0 j).c ≠ 0) ∧ (tk s 0 n).c = 0 ∧ w'.ownsRow w.heap.size 103 4 (.slice (some ⟨g, 0, none⟩) (n + 1) cap) (n + 1) (toksL s 0 (n + 1)) ∧ w.heap.size ≤ g ∧ Below w.heap.size w w' := by
  obtain ⟨i0, hi, hz0, hz1, hz2⟩ := info_parts Token_info
  go_enter Tryd.func31, Tryd.ntmps31
  go_wp2
  go_loopg [5, 6] (s.size) (fun m v5 v6 wr => ∃ k i : Nat, m = s.size - i ∧ v6 = .int .i64 i ∧ i ≤ s.size ∧ k ≤ i ∧ Hid (skip s i = skip s (pos s 0 k)) ∧ Hid (∀ j, j < k → (tk s 0 j).c ≠ 0) ∧ wr.ownsRow w.heap.size 103 4 v5 k (toksL s 0 k) ∧ Below w.heap.size w wr)
  case atStart => exact ⟨0, 0, rfl, rfl, by omega, by omega, rfl, fun j hj => by omega, World.ownsRow_nil _ _ _ _, Below.refl _ _⟩
  case round =>
    obtain ⟨k, i, hm, rfl, hi', hki, HS, HC, hown, hbel⟩ := hrel
    by_cases hlt : i < s.size
    · have hb := byt_cast hlt
      have hsm := byt_small hlt
      by_cases hsp : byt s i = 32
      · have H2 : Hid (skip s (i + 1) = skip s (pos s 0 k)) := by unfold Hid; rw [← skip_space hsp]; exact HS.out
        go_wp2
        go_roundg (s.size - (i + 1))
        case measure => omega
        case rel => exact ⟨k, i + 1, rfl, by go_num, by omega, by omega, H2, HC, hown.alloc _, hbel.alloc hbel.size _⟩
      · have hz : byt s i ≠ 256 := by omega
        have HT : Hid (tk s 0 k = tokAt s i) := by unfold Hid tk tok; rw [← HS.out, skip_here hsp]
        by_cases hd : isD s i = true
        · have HD := hideR hd
          have hd' : (decide (48 ≤ byt s i) && decide (byt s i ≤ 57)) = true := hd
          have HK : Hid (rk (tokAt s i).c = 1 ∧ rs (tokAt s i).c = ⟨#[]⟩) := by
            unfold Hid tokAt; rw [if_neg hz, if_pos hd]; split <;> exact ⟨rfl, rfl⟩
          clear hd
          have HF : Hid ((tk s 0 k).to ≤ s.size ∧ i < (tk s 0 k).to ∧ (tk s 0 k).c ≠ 0) := by
            obtain ⟨_, _, f1, _, _, f2, f3⟩ := tokAt_facts hi'
            have f4 : (tokAt s i).c ≠ 0 := fun q => by have := f2.1 q; omega
            unfold Hid; rw [HT.out]; exact ⟨f1, f3 f4, f4⟩

          go_upto_region 19 with (first | (go_at_call 53; refine (rdigit_any (byt s i) _ _ (by omega) (by omega)).mono ?_; rintro e w' ⟨rfl, rfl⟩) | (go_at_call 54; refine (number_any s i _ _ (by omega) (by omega) HD.out).mono ?_; rintro e w1 ⟨rfl, hb1⟩; obtain ⟨hc1, hf1⟩ := bcell hb1))
          refine wp_forget (fun W => Blk W wr.heap.size #[.int .i64 (rk (tk s 0 k).c), .int .i64 (tk s 0 k).at', .int .i64 (tk s 0 k).v, .string (rs (tk s 0 k).c)] 103 ∧ W.ownsRow w.heap.size 103 4 u5 k (toksL s 0 k) ∧ Below w.heap.size w W) ?_ ?_
          · have hf8 : Fr [] (wr.alloc (.cells #[.int .i64 5, .int .i64 i, .int .i64 0, .string ⟨#[]⟩] 103)) w1 := Fr.of_below hb1
            have b8 : Blk w1 wr.heap.size #[.int .i64 5, .int .i64 i, .int .i64 0, .string ⟨#[]⟩] 103 := Blk.fr (Blk.new wr _ _) hf8 (by simp)
            refine ⟨?_, ?_, ?_⟩
            · rw [HT.out, HK.out.1, HK.out.2]
              exact Blk.store4 b8 _ _ _ _
            · refine ownsRow_fr (c := wr.heap.size) (hown.alloc (.cells #[.int .i64 5, .int .i64 i, .int .i64 0, .string ⟨#[]⟩] 103)) ?_ (ownsRow_ne hown (Nat.le_refl _))
              repeat (refine Fr.setCell ?_ _ _ (by simp))
              exact hf8.mono (by simp)
            · repeat (refine Below.setCell ?_ hbel.size _)
              exact (hbel.alloc hbel.size _).trans (hb1.mono (by have := hbel.size; simp; omega))
          rintro W ⟨b8, hownW, hbelW⟩
          have k0 : W.cell? ⟨wr.heap.size, 0, none⟩ = some (.int .i64 (rk (tk s 0 k).c)) := b8.cell 0
          have k1 : W.cell? ⟨wr.heap.size, 1, none⟩ = some (.int .i64 (tk s 0 k).at') := b8.cell 1
          have k2 : W.cell? ⟨wr.heap.size, 2, none⟩ = some (.int .i64 (tk s 0 k).v) := b8.cell 2
          have k3 : W.cell? ⟨wr.heap.size, 3, none⟩ = some (.string (rs (tk s 0 k).c)) := b8.cell 3
          have HOWN := hideR hownW
          have HBEL := hideR hbelW
          clear b8 hownW hbelW hown hbel
          go_wp2_with (at_builtin; refine wpList_append_lies _ (by rfl) (.tmp 86) (.tmp 88) 67 (by rfl) w.heap.size 103 i0 _ 4 40 Tryd.underlying67 hi hz0 hz1 hz2 (by rfl) (by decide) _ k (toksL s 0 k) (by rfl) (by exact HOWN.out.alloc _) ⟨W.heap.size, 0, none⟩ 1 1 (tokL (tk s 0 k)) (by rfl) (by rfl) (by exact World.news_of_block (Blk.new W _ _)) (tokL_one _) (by decide) (by unfold maxLen; omega) (by omega) (by have := HBEL.out.size; simp; omega) _ rfl ?_; intro g cap w1 hown1 hgrow hat hlt1)
          go_roundg (s.size - (tk s 0 k).to)
          case measure => have := HF.out.2.1; omega
          case rel =>
            have hq := HOWN.out
            refine ⟨k + 1, (tk s 0 k).to, rfl, (by rw [HT.out]), HF.out.1, (by have := HF.out.2.1; omega), rfl, ?_, hown1, ?_⟩
            · intro j hj
              by_cases q : j < k
              · exact HC.out j q
              · have e : j = k := by omega
                subst e; exact HF.out.2.2
            · exact (HBEL.out.alloc (by have := HBEL.out.size; omega) _).grown hgrow (by have := HBEL.out.size; simp; omega) (fun b hb => (hq.lt b hb).1)
        · have hd' : (decide (48 ≤ byt s i) && decide (byt s i ≤ 57)) = false := by
            cases q : (decide (48 ≤ byt s i) && decide (byt s i ≤ 57)) with
            | false => rfl
            | true => exact absurd q hd
          by_cases hux : byt s i = 117 ∨ byt s i = 120
          · have HK : Hid (rk (tokAt s i).c = 2) := by
              unfold Hid tokAt; rw [if_neg hz, if_neg hd]
              rcases hux with q | q
              · rw [if_pos q]; split <;> rfl
              · rw [if_neg (by omega), if_pos q]; split <;> rfl
            have HU := hideR hux
            clear hd
            rcases hux with hu | hu
            all_goals
              have HF : Hid ((tk s 0 k).to ≤ s.size ∧ i < (tk s 0 k).to ∧ (tk s 0 k).c ≠ 0) := by
                obtain ⟨_, _, f1, _, _, f2, f3⟩ := tokAt_facts hi'
                have f4 : (tokAt s i).c ≠ 0 := fun q => by have := f2.1 q; omega
                unfold Hid; rw [HT.out]; exact ⟨f1, f3 f4, f4⟩

              go_upto_region 19 with (first | (go_at_call 53; refine (rdigit_any (byt s i) _ _ (by omega) (by omega)).mono ?_; rintro e w' ⟨rfl, rfl⟩) | (go_at_call 55; refine (rpower_any s i _ _ (by omega) (by omega) hlt HU.out).mono ?_; rintro e w1 ⟨rfl, hb1⟩; obtain ⟨hc1, hf1⟩ := bcell hb1))
              refine wp_forget (fun W => Blk W wr.heap.size #[.int .i64 (rk (tk s 0 k).c), .int .i64 (tk s 0 k).at', .int .i64 (tk s 0 k).v, .string (rs (tk s 0 k).c)] 103 ∧ W.ownsRow w.heap.size 103 4 u5 k (toksL s 0 k) ∧ Below w.heap.size w W) ?_ ?_
              · have hf8 : Fr [] (wr.alloc (.cells #[.int .i64 5, .int .i64 i, .int .i64 0, .string ⟨#[]⟩] 103)) w1 := Fr.of_below hb1
                have b8 : Blk w1 wr.heap.size #[.int .i64 5, .int .i64 i, .int .i64 0, .string ⟨#[]⟩] 103 := Blk.fr (Blk.new wr _ _) hf8 (by simp)
                refine ⟨?_, ?_, ?_⟩
                · rw [HT.out, HK.out]
                  exact Blk.store4 b8 _ _ _ _
                · refine ownsRow_fr (c := wr.heap.size) (hown.alloc (.cells #[.int .i64 5, .int .i64 i, .int .i64 0, .string ⟨#[]⟩] 103)) ?_ (ownsRow_ne hown (Nat.le_refl _))
                  repeat (refine Fr.setCell ?_ _ _ (by simp))
                  exact hf8.mono (by simp)
                · repeat (refine Below.setCell ?_ hbel.size _)
                  exact (hbel.alloc hbel.size _).trans (hb1.mono (by have := hbel.size; simp; omega))
              rintro W ⟨b8, hownW, hbelW⟩
              have k0 : W.cell? ⟨wr.heap.size, 0, none⟩ = some (.int .i64 (rk (tk s 0 k).c)) := b8.cell 0
              have k1 : W.cell? ⟨wr.heap.size, 1, none⟩ = some (.int .i64 (tk s 0 k).at') := b8.cell 1
              have k2 : W.cell? ⟨wr.heap.size, 2, none⟩ = some (.int .i64 (tk s 0 k).v) := b8.cell 2
              have k3 : W.cell? ⟨wr.heap.size, 3, none⟩ = some (.string (rs (tk s 0 k).c)) := b8.cell 3
              have HOWN := hideR hownW
              have HBEL := hideR hbelW
              clear b8 hownW hbelW hown hbel
              go_wp2_with (at_builtin; refine wpList_append_lies _ (by rfl) (.tmp 86) (.tmp 88) 67 (by rfl) w.heap.size 103 i0 _ 4 40 Tryd.underlying67 hi hz0 hz1 hz2 (by rfl) (by decide) _ k (toksL s 0 k) (by rfl) (by exact HOWN.out.alloc _) ⟨W.heap.size, 0, none⟩ 1 1 (tokL (tk s 0 k)) (by rfl) (by rfl) (by exact World.news_of_block (Blk.new W _ _)) (tokL_one _) (by decide) (by unfold maxLen; omega) (by omega) (by have := HBEL.out.size; simp; omega) _ rfl ?_; intro g cap w1 hown1 hgrow hat hlt1)
              go_roundg (s.size - (tk s 0 k).to)
              case measure => have := HF.out.2.1; omega
              case rel =>
                have hq := HOWN.out
                refine ⟨k + 1, (tk s 0 k).to, rfl, (by rw [HT.out]), HF.out.1, (by have := HF.out.2.1; omega), rfl, ?_, hown1, ?_⟩
                · intro j hj
                  by_cases q : j < k
                  · exact HC.out j q
                  · have e : j = k := by omega
                    subst e; exact HF.out.2.2
                · exact (HBEL.out.alloc (by have := HBEL.out.size; omega) _).grown hgrow (by have := HBEL.out.size; simp; omega) (fun b hb => (hq.lt b hb).1)
          · have hu : byt s i ≠ 117 := by omega
            have hx : byt s i ≠ 120 := by omega
            have qu : ((byt s i : Int) == 117) = false := by rw [beq_eq_false_iff_ne]; omega
            have qx : ((byt s i : Int) == 120) = false := by rw [beq_eq_false_iff_ne]; omega
            have HA : Hid (tokAt s i = ⟨byt s i + 4, i, i + 1, 0⟩) := by unfold Hid tokAt; rw [if_neg hz, if_neg hd, if_neg hu, if_neg hx]
            by_cases hname : 65 ≤ byt s i ∧ byt s i ≤ 90
            · obtain ⟨hn1, hn2⟩ := hname
              have HX : Hid (s.extract i (i + 1) = ⟨#[UInt8.ofNat (byt s i)]⟩) := one_byte hlt
              have HF : Hid ((tk s 0 k).to ≤ s.size ∧ i < (tk s 0 k).to ∧ (tk s 0 k).c ≠ 0) := by unfold Hid; rw [HT.out, HA.out]; refine ⟨?_, ?_, ?_⟩ <;> dsimp only <;> omega
              have HK : Hid (rk (byt s i + 4) = 3 ∧ rs (byt s i + 4) = s.extract i (i + 1)) := by
                unfold Hid rk rs
                rw [if_neg (by omega), if_neg (by omega), if_neg (by omega), if_pos (by omega), if_neg (by omega), if_neg (by omega), if_pos (by omega), HX.out]; exact ⟨rfl, rfl⟩
              clear hd hux hu hx
              go_upto_region 19 with ((go_at_call 53; refine (rdigit_any (byt s i) _ _ (by omega) (by omega)).mono ?_; rintro e w' ⟨rfl, rfl⟩))
              refine wp_forget (fun W => Blk W wr.heap.size #[.int .i64 (rk (tk s 0 k).c), .int .i64 (tk s 0 k).at', .int .i64 (tk s 0 k).v, .string (rs (tk s 0 k).c)] 103 ∧ W.ownsRow w.heap.size 103 4 u5 k (toksL s 0 k) ∧ Below w.heap.size w W) ?_ ?_
              · refine ⟨?_, hown.alloc _, hbel.alloc hbel.size _⟩
                rw [HT.out, HA.out]; dsimp only
                rw [HK.out.1, HK.out.2]
                exact Blk.new wr _ _
              rintro W ⟨b8, hownW, hbelW⟩
              have k0 : W.cell? ⟨wr.heap.size, 0, none⟩ = some (.int .i64 (rk (tk s 0 k).c)) := b8.cell 0
              have k1 : W.cell? ⟨wr.heap.size, 1, none⟩ = some (.int .i64 (tk s 0 k).at') := b8.cell 1
              have k2 : W.cell? ⟨wr.heap.size, 2, none⟩ = some (.int .i64 (tk s 0 k).v) := b8.cell 2
              have k3 : W.cell? ⟨wr.heap.size, 3, none⟩ = some (.string (rs (tk s 0 k).c)) := b8.cell 3
              have HOWN := hideR hownW
              have HBEL := hideR hbelW
              clear b8 hownW hbelW hown hbel
              go_wp2_with (at_builtin; refine wpList_append_lies _ (by rfl) (.tmp 86) (.tmp 88) 67 (by rfl) w.heap.size 103 i0 _ 4 40 Tryd.underlying67 hi hz0 hz1 hz2 (by rfl) (by decide) _ k (toksL s 0 k) (by rfl) (by exact HOWN.out.alloc _) ⟨W.heap.size, 0, none⟩ 1 1 (tokL (tk s 0 k)) (by rfl) (by rfl) (by exact World.news_of_block (Blk.new W _ _)) (tokL_one _) (by decide) (by unfold maxLen; omega) (by omega) (by have := HBEL.out.size; simp; omega) _ rfl ?_; intro g cap w1 hown1 hgrow hat hlt1)
              go_roundg (s.size - (tk s 0 k).to)
              case measure => have := HF.out.2.1; omega
              case rel =>
                have hq := HOWN.out
                refine ⟨k + 1, (tk s 0 k).to, rfl, (by rw [HT.out, HA.out]; go_num), HF.out.1, (by have := HF.out.2.1; omega), rfl, ?_, hown1, ?_⟩
                · intro j hj
                  by_cases q : j < k
                  · exact HC.out j q
                  · have e : j = k := by omega
                    subst e; exact HF.out.2.2
                · exact (HBEL.out.alloc (by have := HBEL.out.size; omega) _).grown hgrow (by have := HBEL.out.size; simp; omega) (fun b hb => (hq.lt b hb).1)
            · by_cases hsg : sgn (byt s i) = true
              · have HF : Hid ((tk s 0 k).to ≤ s.size ∧ i < (tk s 0 k).to ∧ (tk s 0 k).c ≠ 0) := by unfold Hid; rw [HT.out, HA.out]; refine ⟨?_, ?_, ?_⟩ <;> dsimp only <;> omega
                have HK : Hid (rk (byt s i + 4) = (byt s i : Int) ∧ rs (byt s i + 4) = ⟨#[]⟩) := by
                  unfold Hid rk rs
                  rw [if_neg (by omega), if_neg (by omega), if_neg (by omega), if_neg (by omega), Nat.add_sub_cancel, if_pos hsg, if_neg (by omega), if_neg (by omega), if_neg (by omega)]; exact ⟨rfl, rfl⟩
                have hnn : byt s i < 65 ∨ 90 < byt s i := by omega
                clear hd hux hu hx hname
                rcases hnn with hnn | hnn
                all_goals
                  go_upto_region 19 with (first | (go_at_call 53; refine (rdigit_any (byt s i) _ _ (by omega) (by omega)).mono ?_; rintro e w' ⟨rfl, rfl⟩) | (go_at_call 56; refine (sign_any (byt s i) _ _ (by omega) (by omega)).mono ?_; rintro e w' ⟨rfl, rfl⟩))
                  refine wp_forget (fun W => Blk W wr.heap.size #[.int .i64 (rk (tk s 0 k).c), .int .i64 (tk s 0 k).at', .int .i64 (tk s 0 k).v, .string (rs (tk s 0 k).c)] 103 ∧ W.ownsRow w.heap.size 103 4 u5 k (toksL s 0 k) ∧ Below w.heap.size w W) ?_ ?_
                  · refine ⟨?_, hown.alloc _, hbel.alloc hbel.size _⟩
                    rw [HT.out, HA.out]; dsimp only
                    rw [HK.out.1, HK.out.2]
                    exact Blk.new wr _ _
                  rintro W ⟨b8, hownW, hbelW⟩
                  have k0 : W.cell? ⟨wr.heap.size, 0, none⟩ = some (.int .i64 (rk (tk s 0 k).c)) := b8.cell 0
                  have k1 : W.cell? ⟨wr.heap.size, 1, none⟩ = some (.int .i64 (tk s 0 k).at') := b8.cell 1
                  have k2 : W.cell? ⟨wr.heap.size, 2, none⟩ = some (.int .i64 (tk s 0 k).v) := b8.cell 2
                  have k3 : W.cell? ⟨wr.heap.size, 3, none⟩ = some (.string (rs (tk s 0 k).c)) := b8.cell 3
                  have HOWN := hideR hownW
                  have HBEL := hideR hbelW
                  clear b8 hownW hbelW hown hbel
                  go_wp2_with (at_builtin; refine wpList_append_lies _ (by rfl) (.tmp 86) (.tmp 88) 67 (by rfl) w.heap.size 103 i0 _ 4 40 Tryd.underlying67 hi hz0 hz1 hz2 (by rfl) (by decide) _ k (toksL s 0 k) (by rfl) (by exact HOWN.out.alloc _) ⟨W.heap.size, 0, none⟩ 1 1 (tokL (tk s 0 k)) (by rfl) (by rfl) (by exact World.news_of_block (Blk.new W _ _)) (tokL_one _) (by decide) (by unfold maxLen; omega) (by omega) (by have := HBEL.out.size; simp; omega) _ rfl ?_; intro g cap w1 hown1 hgrow hat hlt1)
                  go_roundg (s.size - (tk s 0 k).to)
                  case measure => have := HF.out.2.1; omega
                  case rel =>
                    have hq := HOWN.out
                    refine ⟨k + 1, (tk s 0 k).to, rfl, (by rw [HT.out, HA.out]; go_num), HF.out.1, (by have := HF.out.2.1; omega), rfl, ?_, hown1, ?_⟩
                    · intro j hj
                      by_cases q : j < k
                      · exact HC.out j q
                      · have e : j = k := by omega
                        subst e; exact HF.out.2.2
                    · exact (HBEL.out.alloc (by have := HBEL.out.size; omega) _).grown hgrow (by have := HBEL.out.size; simp; omega) (fun b hb => (hq.lt b hb).1)
                
              · have hsg' : sgn (byt s i) = false := by simpa using hsg
                have HF : Hid ((tk s 0 k).to ≤ s.size ∧ i < (tk s 0 k).to ∧ (tk s 0 k).c ≠ 0) := by unfold Hid; rw [HT.out, HA.out]; refine ⟨?_, ?_, ?_⟩ <;> dsimp only <;> omega
                have HK : Hid (rk (byt s i + 4) = 5 ∧ rs (byt s i + 4) = ⟨#[]⟩) := by
                  unfold Hid rk rs
                  rw [if_neg (by omega), if_neg (by omega), if_neg (by omega), if_neg (by omega), Nat.add_sub_cancel, if_neg hsg, if_neg (by omega), if_neg (by omega), if_neg (by omega)]; exact ⟨rfl, rfl⟩
                have hnn : byt s i < 65 ∨ 90 < byt s i := by omega
                clear hd hux hu hx hname hsg
                rcases hnn with hnn | hnn
                all_goals
                  go_upto_region 19 with (first | (go_at_call 53; refine (rdigit_any (byt s i) _ _ (by omega) (by omega)).mono ?_; rintro e w' ⟨rfl, rfl⟩) | (go_at_call 56; refine (sign_any (byt s i) _ _ (by omega) (by omega)).mono ?_; rintro e w' ⟨rfl, rfl⟩))
                  refine wp_forget (fun W => Blk W wr.heap.size #[.int .i64 (rk (tk s 0 k).c), .int .i64 (tk s 0 k).at', .int .i64 (tk s 0 k).v, .string (rs (tk s 0 k).c)] 103 ∧ W.ownsRow w.heap.size 103 4 u5 k (toksL s 0 k) ∧ Below w.heap.size w W) ?_ ?_
                  · refine ⟨?_, hown.alloc _, hbel.alloc hbel.size _⟩
                    rw [HT.out, HA.out]; dsimp only
                    rw [HK.out.1, HK.out.2]
                    exact Blk.new wr _ _
                  rintro W ⟨b8, hownW, hbelW⟩
                  have k0 : W.cell? ⟨wr.heap.size, 0, none⟩ = some (.int .i64 (rk (tk s 0 k).c)) := b8.cell 0
                  have k1 : W.cell? ⟨wr.heap.size, 1, none⟩ = some (.int .i64 (tk s 0 k).at') := b8.cell 1
                  have k2 : W.cell? ⟨wr.heap.size, 2, none⟩ = some (.int .i64 (tk s 0 k).v) := b8.cell 2
                  have k3 : W.cell? ⟨wr.heap.size, 3, none⟩ = some (.string (rs (tk s 0 k).c)) := b8.cell 3
                  have HOWN := hideR hownW
                  have HBEL := hideR hbelW
                  clear b8 hownW hbelW hown hbel
                  go_wp2_with (at_builtin; refine wpList_append_lies _ (by rfl) (.tmp 86) (.tmp 88) 67 (by rfl) w.heap.size 103 i0 _ 4 40 Tryd.underlying67 hi hz0 hz1 hz2 (by rfl) (by decide) _ k (toksL s 0 k) (by rfl) (by exact HOWN.out.alloc _) ⟨W.heap.size, 0, none⟩ 1 1 (tokL (tk s 0 k)) (by rfl) (by rfl) (by exact World.news_of_block (Blk.new W _ _)) (tokL_one _) (by decide) (by unfold maxLen; omega) (by omega) (by have := HBEL.out.size; simp; omega) _ rfl ?_; intro g cap w1 hown1 hgrow hat hlt1)
                  go_roundg (s.size - (tk s 0 k).to)
                  case measure => have := HF.out.2.1; omega
                  case rel =>
                    have hq := HOWN.out
                    refine ⟨k + 1, (tk s 0 k).to, rfl, (by rw [HT.out, HA.out]; go_num), HF.out.1, (by have := HF.out.2.1; omega), rfl, ?_, hown1, ?_⟩
                    · intro j hj
                      by_cases q : j < k
                      · exact HC.out j q
                      · have e : j = k := by omega
                        subst e; exact HF.out.2.2
                    · exact (HBEL.out.alloc (by have := HBEL.out.size; omega) _).grown hgrow (by have := HBEL.out.size; simp; omega) (fun b hb => (hq.lt b hb).1)
                
    · have hz := byt_ge hlt
      have ei : i = s.size := by omega
      have HT : Hid (tk s 0 k = ⟨0, i, i, 0⟩) := by
        unfold Hid tk tok; rw [← HS.out, skip_here (by omega)]; unfold tokAt; rw [if_pos hz]
      have HL : Hid (tokL (tk s 0 k) = [.int .i64 6, .int .i64 (s.size : Nat), .int .i64 0, .string ⟨#[]⟩]) := by
        unfold Hid; rw [HT.out, ei]; rfl
      have HOWN := hideR hown
      have HBEL := hideR hbel
      have HEI := hideR ei
      clear hown hbel ei
      go_wp2_with (at_builtin; refine wpList_append_lies _ (by rfl) (.tmp 91) (.tmp 95) 67 (by rfl) w.heap.size 103 i0 _ 4 40 Tryd.underlying67 hi hz0 hz1 hz2 (by rfl) (by decide) _ k (toksL s 0 k) (by rfl) (by exact HOWN.out.alloc _) ⟨wr.heap.size, 0, none⟩ 1 1 (tokL (tk s 0 k)) (by rfl) (by rfl) (by rw [HL.out]; exact World.news_of_block (Blk.new wr _ _)) (tokL_one _) (by decide) (by unfold maxLen; omega) (by omega) (by have := HBEL.out.size; simp; omega) _ rfl ?_; intro g cap w1 hown1 hgrow hat hlt1)
      go_ret
      have hb1 : Below w.heap.size w w1 := (HBEL.out.alloc HBEL.out.size _).grown hgrow (by have := HBEL.out.size; simp; omega) (fun b hb => (HOWN.out.lt b hb).1)
      refine ⟨k, g, cap, rfl, by omega, HC.out, ?_, hown1, ?_, hb1⟩
      · rw [HT.out]
      · exact (hown1.lt g rfl).1
end Go.Proofs.YtaajdcaciofmaaaDoor
/- THE DOCUMENT's ANSWER: the way in memory; wrong, next, passes, end. -/
namespace Go.Proofs.YtaajdcaciofmaaaDoor
open Go.RowKit

/-- The way: its tokens (n in block g), where it stands, what is wrong and where, how many are open. -/
def Wy (w : World) (b g n cap : Nat) (k : Nat) (e bad op : Int) : Prop := Blk w b #[.slice (some ⟨g, 0, none⟩) n cap, .int .i64 k, .int .i64 e, .int .i64 bad, .int .i64 op] 70
theorem Wy.cells {w : World} {b g n cap k : Nat} {e bad op : Int} (h : Wy w b g n cap k e bad op) : w.cell? ⟨b, 0, none⟩ = some (.slice (some ⟨g, 0, none⟩) n cap) ∧ w.cell? ⟨b, 1, none⟩ = some (.int .i64 k) ∧ w.cell? ⟨b, 2, none⟩ = some (.int .i64 e) ∧ w.cell? ⟨b, 3, none⟩ = some (.int .i64 bad) ∧ w.cell? ⟨b, 4, none⟩ = some (.int .i64 op) :=
  ⟨Blk.cell h 0, Blk.cell h 1, Blk.cell h 2, Blk.cell h 3, Blk.cell h 4⟩
theorem Wy.free {w : World} {b g n cap k : Nat} {e bad op : Int} (h : Wy w b g n cap k e bad op) : w.frozen? ⟨b, 0, none⟩ = false ∧ w.frozen? ⟨b, 1, none⟩ = false ∧ w.frozen? ⟨b, 2, none⟩ = false ∧ w.frozen? ⟨b, 3, none⟩ = false ∧ w.frozen? ⟨b, 4, none⟩ = false :=
  ⟨Blk.frozen h 0, Blk.frozen h 1, Blk.frozen h 2, Blk.frozen h 3, Blk.frozen h 4⟩

/-- The tokens in memory. -/
def Tk (w : World) (g n : Nat) (f : Nat → Tok) : Prop := g < w.heap.size ∧ ∀ k, k < n → ∀ i, i < 4 → w.cell? ⟨g, k * 4 + i, none⟩ = (tokL (f k))[i]?
theorem Tk.cells {w : World} {g n : Nat} {f : Nat → Tok} (h : Tk w g n f) {k : Nat} (hk : k < n) : w.cell? ⟨g, k * 4, none⟩ = some (.int .i64 (rk (f k).c)) ∧ w.cell? ⟨g, k * 4 + 1, none⟩ = some (.int .i64 (f k).at') ∧ w.cell? ⟨g, k * 4 + 2, none⟩ = some (.int .i64 (f k).v) ∧ w.cell? ⟨g, k * 4 + 3, none⟩ = some (.string (rs (f k).c)) :=
  ⟨h.2 k hk 0 (by omega), h.2 k hk 1 (by omega), h.2 k hk 2 (by omega), h.2 k hk 3 (by omega)⟩
theorem Tk.fr {bs : List Nat} {w w' : World} {g n : Nat} {f : Nat → Tok} (h : Tk w g n f) (hf : Fr bs w w') (hn : g ∉ bs) : Tk w' g n f :=
  ⟨Nat.lt_of_lt_of_le h.1 hf.size, fun k hk i hi => by rw [hf.cell _ h.1 hn]; exact h.2 k hk i hi⟩
theorem Tk.of_owns {w : World} {base g n cap : Nat} {s : ByteArray} {a : Nat} (h : w.ownsRow base 103 4 (.slice (some ⟨g, 0, none⟩) n cap) n (toksL s a n)) : Tk w g n (tk s a) := by
  have hg : (Value.slice (some ⟨g, 0, none⟩) n cap).ownBlock = some g := rfl
  refine ⟨(h.lt g hg).2, fun k hk i hi => ?_⟩
  have e := toksL_get s a n k i hk hi
  have hc := h.cells hg (k * 4 + i)
  rw [Addr.add_mid, Nat.zero_add] at hc
  cases q : (tokL (tk s a k))[i]? with
  | none => simp [tokL] at q; omega
  | some u => exact hc u (by rw [e]; exact q)

set_option maxHeartbeats 400000 in
theorem wrong_first (b g n cap k : Nat) (e0 at0 bad op : Int) (w : World) (h : Wy w b g n cap k 0 bad op) :
    Calls Tryd.prog 59 #[.pointer (some ⟨b, 0, none⟩), .int .i64 e0, .int .i64 at0] w fun e w' => e = .returned (.tuple #[]) ∧ Wy w' b g n cap k e0 at0 op ∧ Fr [b] w w' := by
  obtain ⟨c0, c1, c2, c3, c4⟩ := h.cells
  obtain ⟨f0, f1, f2, f3, f4⟩ := h.free
  have H := hideR h
  clear h
  go_enter Tryd.func59, Tryd.ntmps59
  go_wp2
  go_end0
  exact ⟨rfl, Blk.set (Blk.set H.out 2 _) 3 _, ((Fr.refl [b] w).setCell _ _ (by simp)).setCell _ _ (by simp)⟩
set_option maxHeartbeats 400000 in
theorem wrong_later (b g n cap k : Nat) (e0 at0 x bad op : Int) (w : World) (h : Wy w b g n cap k x bad op) (hx : x ≠ 0) :
    Calls Tryd.prog 59 #[.pointer (some ⟨b, 0, none⟩), .int .i64 e0, .int .i64 at0] w fun e w' => e = .returned (.tuple #[]) ∧ w' = w := by
  obtain ⟨c0, c1, c2, c3, c4⟩ := h.cells
  have q : (x == 0) = false := by rw [beq_eq_false_iff_ne]; exact hx
  clear hx h
  go_enter Tryd.func59, Tryd.ntmps59
  go_wp2
  go_end0
  exact ⟨rfl, rfl⟩

set_option maxRecDepth 100000 in
set_option maxHeartbeats 1000000 in
theorem next_any (b g n cap k : Nat) (f : Nat → Tok) (x bad op : Int) (w : World) (h : Wy w b g n cap k x bad op) (ht : Tk w g n f) (hk : k < n) (_hn : n ≤ 2000) :
    Calls Tryd.prog 70 #[.pointer (some ⟨b, 0, none⟩)] w fun e w' => e = .returned (.agg #[.int .i64 (rk (f k).c), .int .i64 (f k).at', .int .i64 (f k).v, .string (rs (f k).c)]) ∧ Below w.heap.size w w' := by
  have hb : b < w.heap.size := Blk.lt h
  have hg := ht.1
  have i0 : (0 : Int) ≤ (k : Int) := by omega
  have i1 : (k : Int) < (n : Int) := by omega
  have HW := hideR h
  have HT := hideR ht
  clear h ht
  go_enter Tryd.func70, Tryd.ntmps70
  go_wp2
  refine wp_forget (fun W => Wy W b g n cap k x bad op ∧ Tk W g n f ∧ Blk W w.heap.size #[.int .i64 0, .int .i64 0, .int .i64 0, .string ⟨#[]⟩] 103 ∧ Below w.heap.size w W) ⟨Blk.alloc HW.out _, HT.out.fr ((Fr.refl [] w).alloc _) (by simp), Blk.new w _ _, by go_grown⟩ ?_
  rintro W ⟨hw, ht, hr, hbel⟩
  obtain ⟨c0, c1, c2, c3, c4⟩ := hw.cells
  obtain ⟨d0, d1, d2, d3⟩ := ht.cells hk
  obtain ⟨r0, r1, r2, r3⟩ : W.cell? ⟨w.heap.size, 0, none⟩ = some (.int .i64 0) ∧ W.cell? ⟨w.heap.size, 1, none⟩ = some (.int .i64 0) ∧ W.cell? ⟨w.heap.size, 2, none⟩ = some (.int .i64 0) ∧ W.cell? ⟨w.heap.size, 3, none⟩ = some (.string ⟨#[]⟩) := ⟨hr.cell 0, hr.cell 1, hr.cell 2, hr.cell 3⟩
  have z0 := hr.frozen 0
  have z1 := hr.frozen 1
  have z2 := hr.frozen 2
  have z3 := hr.frozen 3
  have HR := hideR hr
  clear hw ht hr
  refine region_quiet_tail 10 (by kernel_rfl) (by kernel_rfl) ?_
  simp only [List.take_succ_cons, List.take_zero, List.drop_succ_cons, List.drop_zero]
  repeat (first | go_big_quiet_step ((fail)) | quiet_step ((fail)))
  refine wpQuiet_nil ?_
  rintro _ ⟨nq, rfl⟩
  go_wp2
  refine bodyPost_ret (results_cell_row Tryd.results70 _ _ w.heap.size 103 #[.int .i64 (rk (f k).c), .int .i64 (f k).at', .int .i64 (f k).v, .string (rs (f k).c)] (0, 0) _ (by rfl) (Blk.store4 (by exact HR.out) _ _ _ _) Tryd.underlying103 rfl (by kernel_rfl)) rfl ⟨rfl, ?_⟩
  exact Below.setCell (Below.setCell (Below.setCell (Below.setCell (below_drewN hbel nq) (Nat.le_refl _) _) (Nat.le_refl _) _) (Nat.le_refl _) _) (Nat.le_refl _) _
end Go.Proofs.YtaajdcaciofmaaaDoor
/- THE DOCUMENT's ANSWER: passes, end. -/
namespace Go.Proofs.YtaajdcaciofmaaaDoor
open Go.RowKit

theorem Fr.drewN {bs : List Nat} {a w : World} (h : Fr bs a w) (n : Nat) : Fr bs a (w.drewN n) := ⟨h.os, h.tape, h.output, h.size, h.block⟩

set_option maxRecDepth 100000 in
set_option maxHeartbeats 1000000 in
theorem passes_later (b g n cap k : Nat) (c x bad op : Int) (w : World) (h : Wy w b g n cap k x bad op) (hx : x ≠ 0) :
    Calls Tryd.prog 57 #[.pointer (some ⟨b, 0, none⟩), .int .u8 c] w fun e w' => e = .returned (.bool false) ∧ Wy w' b g n cap k x bad op ∧ Fr [b] w w' := by
  obtain ⟨c0, c1, c2, c3, c4⟩ := h.cells
  have q : (x != 0) = true := by rw [bne_iff_ne]; exact hx
  have H := hideR h
  clear hx h
  go_enter Tryd.func57, Tryd.ntmps57
  go_wp2
  go_quiet (fail)
  go_wp2
  go_ret
  exact ⟨rfl, H.out, (Fr.refl [b] w).drewN _⟩

set_option maxRecDepth 100000 in
set_option maxHeartbeats 1000000 in
theorem passes_no (b g n cap k : Nat) (f : Nat → Tok) (c bad op : Int) (w : World) (h : Wy w b g n cap k 0 bad op) (ht : Tk w g n f) (hk : k < n) (_hn : n ≤ 2000) (hc0 : 0 ≤ c) (hc1 : c ≤ 255) (hne : rk (f k).c ≠ c) :
    Calls Tryd.prog 57 #[.pointer (some ⟨b, 0, none⟩), .int .u8 c] w fun e w' => e = .returned (.bool false) ∧ Wy w' b g n cap k 0 bad op ∧ Fr [b] w w' := by
  obtain ⟨c0, c1, c2, c3, c4⟩ := h.cells
  obtain ⟨d0, d1, d2, d3⟩ := ht.cells hk
  have q : (rk (f k).c != c) = true := by rw [bne_iff_ne]; exact hne
  have i0 : (0 : Int) ≤ (k : Int) := by omega
  have i1 : (k : Int) < (n : Int) := by omega
  have H := hideR h
  clear hne h ht
  go_enter Tryd.func57, Tryd.ntmps57
  go_wp2
  go_quiet (fail)
  go_wp2
  go_ret
  exact ⟨rfl, H.out, (Fr.refl [b] w).drewN _⟩

set_option maxRecDepth 100000 in
set_option maxHeartbeats 1000000 in
theorem passes_yes (b g n cap k : Nat) (f : Nat → Tok) (c bad op : Int) (w : World) (h : Wy w b g n cap k 0 bad op) (ht : Tk w g n f) (hk : k < n) (_hn : n ≤ 2000) (hc0 : 0 ≤ c) (hc1 : c ≤ 255) (he : rk (f k).c = c) :
    Calls Tryd.prog 57 #[.pointer (some ⟨b, 0, none⟩), .int .u8 c] w fun e w' => e = .returned (.bool true) ∧ Wy w' b g n cap (k + 1) 0 bad op ∧ Fr [b] w w' := by
  obtain ⟨c0, c1, c2, c3, c4⟩ := h.cells
  obtain ⟨f0, f1, f2, f3, f4⟩ := h.free
  obtain ⟨d0, d1, d2, d3⟩ := ht.cells hk
  rw [he] at d0
  have i0 : (0 : Int) ≤ (k : Int) := by omega
  have i1 : (k : Int) < (n : Int) := by omega
  have H := hideR h
  clear he h ht
  go_enter Tryd.func57, Tryd.ntmps57
  go_wp2
  go_quiet (fail)
  go_wp2
  go_ret
  refine ⟨rfl, ?_, ((Fr.refl [b] w).drewN _).setCell _ _ (by simp)⟩
  have e : (((k + 1 : Nat) : Int)) = (k : Int) + 1 := by omega
  unfold Wy
  rw [e]
  exact Blk.set (by exact H.out) 1 _

set_option maxRecDepth 100000 in
set_option maxHeartbeats 1000000 in
theorem wend_ok (b g n cap k : Nat) (f : Nat → Tok) (x bad op : Int) (w : World) (h : Wy w b g n cap k x bad op) (ht : Tk w g n f) (hk : k < n) (_hn : n ≤ 2000) (he : rk (f k).c = 6) :
    Calls Tryd.prog 33 #[.pointer (some ⟨b, 0, none⟩)] w fun e w' => e = .returned (.tuple #[]) ∧ Wy w' b g n cap k x bad op ∧ Fr [b] w w' := by
  obtain ⟨c0, c1, c2, c3, c4⟩ := h.cells
  obtain ⟨d0, d1, d2, d3⟩ := ht.cells hk
  rw [he] at d0
  have i0 : (0 : Int) ≤ (k : Int) := by omega
  have i1 : (k : Int) < (n : Int) := by omega
  have H := hideR h
  clear he h ht
  go_enter Tryd.func33, Tryd.ntmps33
  go_wp2
  go_quiet (fail)
  go_wp2
  go_end0
  exact ⟨rfl, H.out, (Fr.refl [b] w).drewN _⟩

set_option maxRecDepth 100000 in
set_option maxHeartbeats 1000000 in
theorem wend_first (b g n cap k : Nat) (f : Nat → Tok) (bad op : Int) (w : World) (h : Wy w b g n cap k 0 bad op) (ht : Tk w g n f) (hk : k < n) (_hn : n ≤ 2000) (he : rk (f k).c ≠ 6) :
    Calls Tryd.prog 33 #[.pointer (some ⟨b, 0, none⟩)] w fun e w' => e = .returned (.tuple #[]) ∧ Wy w' b g n cap k 4 (f k).at' op ∧ Fr [b] w w' := by
  obtain ⟨c0, c1, c2, c3, c4⟩ := h.cells
  obtain ⟨d0, d1, d2, d3⟩ := ht.cells hk
  have q : (rk (f k).c != 6) = true := by rw [bne_iff_ne]; exact he
  have i0 : (0 : Int) ≤ (k : Int) := by omega
  have i1 : (k : Int) < (n : Int) := by omega
  have H := hideR h
  clear he h ht
  go_enter Tryd.func33, Tryd.ntmps33
  go_wp2
  go_quiet (fail)
  go_wp2
  refine region_quiet_tail 12 (by kernel_rfl) (by kernel_rfl) ?_
  simp only [List.take_succ_cons, List.take_zero, List.drop_succ_cons, List.drop_zero]
  repeat (first | go_big_quiet_step ((fail)) | quiet_step ((fail)))
  refine wpQuiet_nil ?_
  rintro _ ⟨nr, rfl⟩
  go_wp2_with fail
  refine (wrong_first b g n cap k _ _ bad op _ (by exact H.out)).mono ?_
  rintro e w1 ⟨rfl, h1, hf1⟩
  go_wp2
  go_end0
  exact ⟨rfl, h1, ((Fr.refl [b] w).drewN _).trans hf1 (by simp)⟩

set_option maxRecDepth 100000 in
set_option maxHeartbeats 1000000 in
theorem wend_later (b g n cap k : Nat) (f : Nat → Tok) (x bad op : Int) (w : World) (h : Wy w b g n cap k x bad op) (ht : Tk w g n f) (hk : k < n) (_hn : n ≤ 2000) (hx : x ≠ 0) :
    Calls Tryd.prog 33 #[.pointer (some ⟨b, 0, none⟩)] w fun e w' => e = .returned (.tuple #[]) ∧ Wy w' b g n cap k x bad op ∧ Fr [b] w w' := by
  by_cases he : rk (f k).c = 6
  · exact wend_ok b g n cap k f x bad op w h ht hk _hn he
  obtain ⟨c0, c1, c2, c3, c4⟩ := h.cells
  obtain ⟨d0, d1, d2, d3⟩ := ht.cells hk
  have q : (rk (f k).c != 6) = true := by rw [bne_iff_ne]; exact he
  have i0 : (0 : Int) ≤ (k : Int) := by omega
  have i1 : (k : Int) < (n : Int) := by omega
  have H := hideR h
  have HX := hideR hx
  clear he h ht hx
  go_enter Tryd.func33, Tryd.ntmps33
  go_wp2
  go_quiet (fail)
  go_wp2
  refine region_quiet_tail 12 (by kernel_rfl) (by kernel_rfl) ?_
  simp only [List.take_succ_cons, List.take_zero, List.drop_succ_cons, List.drop_zero]
  repeat (first | go_big_quiet_step ((fail)) | quiet_step ((fail)))
  refine wpQuiet_nil ?_
  rintro _ ⟨nr, rfl⟩
  go_wp2_with fail
  refine (wrong_later b g n cap k _ _ x bad op _ (by exact H.out) HX.out).mono ?_
  rintro e w1 ⟨rfl, rfl⟩
  go_wp2
  go_end0
  exact ⟨rfl, H.out, (Fr.refl [b] w).drewN _⟩
end Go.Proofs.YtaajdcaciofmaaaDoor
/- THE DOCUMENT's ANSWER: term. -/
namespace Go.Proofs.YtaajdcaciofmaaaDoor
open Go.RowKit

theorem rk_two {c : Nat} (h : c = 2 ∨ c = 3) : rk c = 2 := by rcases h with rfl | rfl <;> rfl
theorem rk_one {c : Nat} (h : c = 1) : rk c = 1 := by subst h; rfl
theorem sgn_big {c : Nat} (h : sgn c = true) : 38 ≤ c ∧ c ≤ 126 := by
  unfold sgn at h
  simp only [Bool.or_eq_true, beq_iff_eq] at h
  omega
theorem rk_not1 {c : Nat} (h : c ≠ 1) : rk c ≠ 1 := by
  unfold rk
  repeat' split
  all_goals first | omega | (rename_i q; have := sgn_big q; omega)
theorem rk_not2 {c : Nat} (h2 : c ≠ 2) (h3 : c ≠ 3) : rk c ≠ 2 := by
  unfold rk
  repeat' split
  all_goals first | omega | (rename_i q; have := sgn_big q; omega)
theorem rk_end {c : Nat} : rk c = 6 ↔ c = 0 := by
  unfold rk
  repeat' split
  all_goals first | omega | (rename_i q; have := sgn_big q; omega)

/-- What the reading of powers and the sum of a term end in. -/
def TermEnd (b g n cap c : Nat) (p : List Nat) (R : PwR) (a : Nat) (bad op : Int) (w w' : World) : Prop :=
  (R.e = 0 ∧ Wy w' b g n cap R.k 0 bad op ∧ Blk w' c (pv (plus p R.u R.x a)) 41 ∧ R.k < n ∧ Fr [b, c] w w') ∨ (R.e ≠ 0 ∧ (∃ k', k' < n ∧ Wy w' b g n cap k' R.e R.bad op) ∧ Blk w' c (pv p) 41 ∧ Fr [b, c] w w')
theorem Blk.cells4 {w : World} {n : Nat} {x0 x1 x2 x3 : Value} {t : TypeId} (h : Blk w n #[x0, x1, x2, x3] t) : w.cell? ⟨n, 0, none⟩ = some x0 ∧ w.cell? ⟨n, 1, none⟩ = some x1 ∧ w.cell? ⟨n, 2, none⟩ = some x2 ∧ w.cell? ⟨n, 3, none⟩ = some x3 := ⟨h.cell 0, h.cell 1, h.cell 2, h.cell 3⟩
theorem Blk.free4 {w : World} {n : Nat} {cs : Array Value} {t : TypeId} (h : Blk w n cs t) : w.frozen? ⟨n, 0, none⟩ = false ∧ w.frozen? ⟨n, 1, none⟩ = false ∧ w.frozen? ⟨n, 2, none⟩ = false ∧ w.frozen? ⟨n, 3, none⟩ = false := ⟨h.frozen 0, h.frozen 1, h.frozen 2, h.frozen 3⟩
theorem rs_two : rs 2 = ⟨#[117]⟩ := rfl
theorem rs_three : rs 3 = ⟨#[120]⟩ := rfl

set_option maxRecDepth 100000 in
set_option maxHeartbeats 8000000 in
theorem wterm_power (f : Nat → Tok) (N b g n cap c k : Nat) (p : List Nat) (sg : Nat) (bare : Bool) (bad op : Int) (w : World) (h : Wy w b g n cap k 0 bad op) (ht : Tk w g n f) (hp : Blk w c (pv p) 41) (hgp : Good p)
    (hk : k < n) (hn : n ≤ N + 1) (hN : N ≤ 1000) (hend : ∀ j, j < n → (f j).c ≠ 0 → j + 1 < n) (hv : ∀ j, (f j).v ≤ 99) (hsg : sg ≤ 6) (hbg : b ≠ g) (hbc : b ≠ c) (hgc : g ≠ c) (hc : (f k).c = 2 ∨ (f k).c = 3) :
    Calls Tryd.prog 58 #[.pointer (some ⟨b, 0, none⟩), .pointer (some ⟨c, 0, none⟩), .int .i64 sg, .bool bare] w fun e w' => e = .returned (.tuple #[]) ∧ TermEnd b g n cap c p (pw f bare (N - k) k 0 0) (sg * 1) bad op w w' := by
  have hb : b < w.heap.size := Blk.lt h
  have hcl : c < w.heap.size := Blk.lt hp
  have hg := ht.1
  have HW := hideR h
  have HT := hideR ht
  have HPP := hideR hp
  have hrk := rk_two hc
  generalize hR : pw f bare (N - k) k 0 0 = R
  have HP : Hid (pw f bare (N - k) k 0 0 = R) := hR
  have HA : Hid ((sg : Int) = ((sg * 1 : Nat) : Int)) := by unfold Hid; simp
  clear h ht hp hR hc
  go_enter Tryd.func58, Tryd.ntmps58
  go_wp2_with fail
  refine (next_any b g n cap k f 0 bad op _ HW.out HT.out hk (by omega)).mono ?_
  rintro e w1 ⟨rfl, hb1⟩
  rw [hrk]
  clear hrk
  have hz1 := hb1.size
  have hf1 : Fr [b, c] w w1 := Fr.of_below hb1
  have hw1 : Wy w1 b g n cap k 0 bad op := Blk.fr HW.out (Fr.of_below (bs := []) hb1) (by simp)
  have hp1 : Blk w1 c (pv p) 41 := HPP.out.fr (Fr.of_below (bs := []) hb1) (by simp)
  have nbd : ¬ b = w1.heap.size := by omega
  have ncd : ¬ c = w1.heap.size := by omega
  have ndb : ¬ w1.heap.size = b := by omega
  have HF1 := hideR hf1
  have HW1 := hideR hw1
  have HP1 := hideR hp1
  clear hf1 hw1 hp1 hb1
  go_wp2
  go_loopg [9, 10] (N - k) (fun m v9 v10 wr => ∃ (k' u x : Nat) (y0 y1 y2 : Int) (y3 : ByteArray), m = N - k' ∧ v9 = .int .i64 u ∧ v10 = .int .i64 x ∧ u ≤ 6 ∧ x ≤ 4 ∧ k' < n ∧ Wy wr b g n cap k' 0 bad op ∧ Blk wr c (pv p) 41 ∧ Blk wr w1.heap.size #[.int .i64 y0, .int .i64 y1, .int .i64 y2, .string y3] 103 ∧ Fr [b, c] w wr ∧ Hid (pw f bare (N - k') k' u x = R))
  case atStart => exact ⟨k, 0, 0, _, _, _, _, rfl, rfl, rfl, by omega, by omega, hk, Blk.alloc HW1.out _, Blk.alloc HP1.out _, Blk.new w1 _ _, HF1.out.alloc _, HP⟩
  case round =>
    obtain ⟨k', u, x, y0, y1, y2, y3, hm, rfl, rfl, hu, hx, hk', hw, hpb, ht8, hfw, HQ⟩ := hrel
    have hT : Tk wr g n f := HT.out.fr hfw (by simp; omega)
    obtain ⟨c0, c1, c2, c3, c4⟩ := hw.cells
    obtain ⟨f0, f1, f2, f3, f4⟩ := hw.free
    obtain ⟨t0, t1, t2, t3⟩ := ht8.cells4
    obtain ⟨z0, z1, z2, z3⟩ := ht8.free4
    obtain ⟨d0, d1, d2, d3⟩ := hT.cells hk'
    have hvk := hv k'
    have i0 : (0 : Int) ≤ (k' : Int) := by omega
    have i1 : (k' : Int) < (n : Int) := by omega
    have HWr := hideR hw
    have HPr := hideR hpb
    have HDr := hideR ht8
    clear hw hpb ht8 hT
    by_cases h2 : (f k').c = 2
    · have hlt : k' + 1 < n := hend k' hk' (by omega)
      rw [rk_two (Or.inl h2)] at d0
      rw [h2, rs_two] at d3
      have H2 := hideR h2
      clear h2
      by_cases hle : u + (f k').v ≤ 6
      · go_wp2
        go_quiet (fail)
        go_wp2
        refine region_quiet_tail 10 (by kernel_rfl) (by kernel_rfl) ?_
        simp only [List.take_succ_cons, List.take_zero, List.drop_succ_cons, List.drop_zero]
        repeat (first | go_big_quiet_step ((fail)) | quiet_step ((fail)))
        refine wpQuiet_nil ?_
        rintro _ ⟨nr, rfl⟩
        go_wp2
        go_roundg (N - (k' + 1))
        case measure => omega
        case rel =>
          refine ⟨k' + 1, u + (f k').v, x, 2, (f k').at', (f k').v, ⟨#[117]⟩, rfl, by go_num, by go_num, hle, hx, hlt, ?_, ?_, ?_, ?_, ?_⟩
          · have e : (((k' + 1 : Nat) : Int)) = (k' : Int) + 1 := by omega
            unfold Wy; rw [e]
            refine Blk.set (cs := #[.slice (some ⟨g, 0, none⟩) n cap, .int .i64 k', .int .i64 0, .int .i64 bad, .int .i64 op]) ?_ 1 _
            repeat (refine Blk.setOther ?_ _ _ nbd)
            exact HWr.out
          · exact Blk.setOther (Blk.setOther (Blk.setOther (Blk.setOther (Blk.setOther (by exact HPr.out) _ _ ncd) _ _ ncd) _ _ ncd) _ _ ncd) _ _ (Ne.symm hbc)
          · exact Blk.setOther (Blk.store4 (by exact HDr.out) _ _ _ _) _ _ (Ne.symm nbd)
          · exact Fr.setCell (Fr.setCell (Fr.setCell (Fr.setCell (Fr.setCell (hfw.drewN _) _ _ (by simp; omega)) _ _ (by simp; omega)) _ _ (by simp; omega)) _ _ (by simp; omega)) _ _ (by simp)
          · unfold Hid
            rw [← HQ.out, pw_u (by omega) H2.out hle]; congr 1
      · have HB : Hid (R = ⟨5, (f k').at', k', u, x⟩) := by unfold Hid; rw [← HQ.out, pw_u_bad (by omega) H2.out hle]
        go_wp2
        go_quiet (fail)
        go_wp2
        refine region_quiet_tail 10 (by kernel_rfl) (by kernel_rfl) ?_
        simp only [List.take_succ_cons, List.take_zero, List.drop_succ_cons, List.drop_zero]
        repeat (first | go_big_quiet_step ((fail)) | quiet_step ((fail)))
        refine wpQuiet_nil ?_
        rintro _ ⟨nr, rfl⟩
        go_wp2_with fail
        refine (wrong_first b g n cap k' _ _ bad op _ (by exact Blk.setOther (Blk.setOther (Blk.setOther (Blk.setOther (by exact HWr.out) _ _ nbd) _ _ nbd) _ _ nbd) _ _ nbd)).mono ?_
        rintro e w5 ⟨rfl, h5, hf5⟩
        go_wp2
        first | go_end0 | refine bodyPost_ret (results_none rfl _ _ _) rfl ?_
        refine ⟨rfl, Or.inr ⟨?_, ⟨k', hk', ?_⟩, ?_, ?_⟩⟩
        · rw [HB.out]; simp
        · rw [HB.out]; exact h5
        · exact Blk.fr (Blk.setOther (Blk.setOther (Blk.setOther (Blk.setOther (by exact HPr.out) _ _ ncd) _ _ ncd) _ _ ncd) _ _ ncd) hf5 (by simp; exact Ne.symm hbc)
        · exact (Fr.setCell (Fr.setCell (Fr.setCell (Fr.setCell (hfw.drewN _) _ _ (by simp; omega)) _ _ (by simp; omega)) _ _ (by simp; omega)) _ _ (by simp; omega)).trans hf5 (by simp)
    · by_cases h3 : (f k').c = 3
      · have hlt : k' + 1 < n := hend k' hk' (by omega)
        rw [rk_two (Or.inr h3)] at d0
        rw [h3, rs_three] at d3
        have H3 := hideR h3
        clear h3 h2
        cases bare
        · by_cases hle : x + (f k').v ≤ 4
          · go_wp2
            go_quiet (fail)
            go_wp2
            refine region_quiet_tail 10 (by kernel_rfl) (by kernel_rfl) ?_
            simp only [List.take_succ_cons, List.take_zero, List.drop_succ_cons, List.drop_zero]
            repeat (first | go_big_quiet_step ((fail)) | quiet_step ((fail)))
            refine wpQuiet_nil ?_
            rintro _ ⟨nr, rfl⟩
            go_wp2
            go_roundg (N - (k' + 1))
            case measure => omega
            case rel =>
              refine ⟨k' + 1, u, x + (f k').v, 2, (f k').at', (f k').v, ⟨#[120]⟩, rfl, by go_num, by go_num, hu, hle, hlt, ?_, ?_, ?_, ?_, ?_⟩
              · have e : (((k' + 1 : Nat) : Int)) = (k' : Int) + 1 := by omega
                unfold Wy; rw [e]
                refine Blk.set (cs := #[.slice (some ⟨g, 0, none⟩) n cap, .int .i64 k', .int .i64 0, .int .i64 bad, .int .i64 op]) ?_ 1 _
                repeat (refine Blk.setOther ?_ _ _ nbd)
                exact HWr.out
              · exact Blk.setOther (Blk.setOther (Blk.setOther (Blk.setOther (Blk.setOther (by exact HPr.out) _ _ ncd) _ _ ncd) _ _ ncd) _ _ ncd) _ _ (Ne.symm hbc)
              · exact Blk.setOther (Blk.store4 (by exact HDr.out) _ _ _ _) _ _ (Ne.symm nbd)
              · exact Fr.setCell (Fr.setCell (Fr.setCell (Fr.setCell (Fr.setCell (hfw.drewN _) _ _ (by simp; omega)) _ _ (by simp; omega)) _ _ (by simp; omega)) _ _ (by simp; omega)) _ _ (by simp)
              · unfold Hid
                rw [← HQ.out, pw_x (by omega) H3.out hle]; congr 1
          · have HB : Hid (R = ⟨5, (f k').at', k', u, x⟩) := by unfold Hid; rw [← HQ.out, pw_x_bad (by omega) H3.out hle]
            go_wp2
            go_quiet (fail)
            go_wp2
            refine region_quiet_tail 10 (by kernel_rfl) (by kernel_rfl) ?_
            simp only [List.take_succ_cons, List.take_zero, List.drop_succ_cons, List.drop_zero]
            repeat (first | go_big_quiet_step ((fail)) | quiet_step ((fail)))
            refine wpQuiet_nil ?_
            rintro _ ⟨nr, rfl⟩
            go_wp2_with fail
            refine (wrong_first b g n cap k' _ _ bad op _ (by exact Blk.setOther (Blk.setOther (Blk.setOther (Blk.setOther (by exact HWr.out) _ _ nbd) _ _ nbd) _ _ nbd) _ _ nbd)).mono ?_
            rintro e w5 ⟨rfl, h5, hf5⟩
            go_wp2
            first | go_end0 | refine bodyPost_ret (results_none rfl _ _ _) rfl ?_
            refine ⟨rfl, Or.inr ⟨?_, ⟨k', hk', ?_⟩, ?_, ?_⟩⟩
            · rw [HB.out]; simp
            · rw [HB.out]; exact h5
            · exact Blk.fr (Blk.setOther (Blk.setOther (Blk.setOther (Blk.setOther (by exact HPr.out) _ _ ncd) _ _ ncd) _ _ ncd) _ _ ncd) hf5 (by simp; exact Ne.symm hbc)
            · exact (Fr.setCell (Fr.setCell (Fr.setCell (Fr.setCell (hfw.drewN _) _ _ (by simp; omega)) _ _ (by simp; omega)) _ _ (by simp; omega)) _ _ (by simp; omega)).trans hf5 (by simp)
        · have HB : Hid (R = ⟨7, (f k').at', k', u, x⟩) := by unfold Hid; rw [← HQ.out, pw_x_bare (by omega) H3.out]
          go_wp2
          go_quiet (fail)
          go_wp2
          refine region_quiet_tail 10 (by kernel_rfl) (by kernel_rfl) ?_
          simp only [List.take_succ_cons, List.take_zero, List.drop_succ_cons, List.drop_zero]
          repeat (first | go_big_quiet_step ((fail)) | quiet_step ((fail)))
          refine wpQuiet_nil ?_
          rintro _ ⟨nr, rfl⟩
          go_wp2_with fail
          refine (wrong_first b g n cap k' _ _ bad op _ (by exact Blk.setOther (Blk.setOther (Blk.setOther (Blk.setOther (by exact HWr.out) _ _ nbd) _ _ nbd) _ _ nbd) _ _ nbd)).mono ?_
          rintro e w5 ⟨rfl, h5, hf5⟩
          go_wp2
          first | go_end0 | refine bodyPost_ret (results_none rfl _ _ _) rfl ?_
          refine ⟨rfl, Or.inr ⟨?_, ⟨k', hk', ?_⟩, ?_, ?_⟩⟩
          · rw [HB.out]; simp
          · rw [HB.out]; exact h5
          · exact Blk.fr (Blk.setOther (Blk.setOther (Blk.setOther (Blk.setOther (by exact HPr.out) _ _ ncd) _ _ ncd) _ _ ncd) _ _ ncd) hf5 (by simp; exact Ne.symm hbc)
          · exact (Fr.setCell (Fr.setCell (Fr.setCell (Fr.setCell (hfw.drewN _) _ _ (by simp; omega)) _ _ (by simp; omega)) _ _ (by simp; omega)) _ _ (by simp; omega)).trans hf5 (by simp)
      · have q2 : (rk (f k').c == 2) = false := by rw [beq_eq_false_iff_ne]; exact rk_not2 h2 h3
        have HB : Hid (R = ⟨0, 0, k', u, x⟩) := by unfold Hid; rw [← HQ.out, pw_end h2 h3]
        have hx0 : (0 : Int) ≤ (x : Int) := by omega
        have hx1 : (x : Int) < 5 := by omega
        have hu0 : (0 : Int) ≤ (u : Int) := by omega
        have hu1 : (u : Int) < 7 := by omega
        have hq : x * 7 + u < p.length := by rw [hgp.1]; omega
        have hcell := pv_get hq
        have hv7 := hgp.2 (x * 7 + u)
        have HV : Hid (plus p u x (sg * 1) = p.set (x * 7 + u) ((p.getD (x * 7 + u) 0 + (sg * 1)) % 7)) := by unfold Hid plus; rw [Nat.mul_comm 7 x]
        generalize p.getD (x * 7 + u) 0 = v at *
        have e3 : wr.cell? ⟨c, x * 7 + u, none⟩ = some (.int .i64 v) := by rw [HPr.out.cell]; exact hcell
        have e4 : wr.frozen? ⟨c, x * 7 + u, none⟩ = false := HPr.out.frozen _
        clear h2 h3 hcell
        go_wp2
        go_quiet (fail)
        go_wp2
        refine region_quiet_tail 16 (by kernel_rfl) (by kernel_rfl) ?_
        simp only [List.take_succ_cons, List.take_zero, List.drop_succ_cons, List.drop_zero]
        repeat (first | go_big_quiet_step ((fail)) | quiet_step ((fail)))
        refine wpQuiet_nil ?_
        rintro _ ⟨nr, rfl⟩
        go_wp2
        go_end0
        refine ⟨rfl, Or.inl ⟨?_, ?_, ?_, ?_, ?_⟩⟩
        · rw [HB.out]
        · rw [HB.out]; exact Blk.setOther (by exact HWr.out) _ _ hbc
        · rw [HB.out]; dsimp only; rw [HV.out]; exact Blk.putN (by exact HPr.out) _ _ _ (by have := HA.out; omega)
        · rw [HB.out]; exact hk'
        · exact Fr.setCell (hfw.drewN _) _ _ (by simp)
end Go.Proofs.YtaajdcaciofmaaaDoor
