import Derived.Test.YthlmgpllapccfaaGreatDoorPack13
/- A REGION THAT DRAWS ITS ORDER, TWO OF WHOSE OPERATIONS TAKE NEW BLOCKS, AT ANY TIME AMONG THE OTHERS: one walk in the text's order serves every order. -/
namespace Go.Proofs.YthlmgpllapccfaaGreatDoor
open Go
section
variable {P : Program} {ops : Array Oper} {md : Region.Mode} {D : World → Prop} {E1 E2 : Nat → World → Prop} {E3 : Nat → Nat → World → Prop} {F : (World → Prop) → Prop}

/-- One value, in every world of every class of a family. -/
def quietG (P : Program) (F : (World → Prop) → Prop) (o : Oper) (a : Act) (next : Act → Prop) : Prop :=
  ∃ v, (∀ C, F C → ∀ w, C w → o.quietAt P a C w v) ∧ next (a.put o.dst v)
def walkG (P : Program) (F : (World → Prop) → Prop) (Q : Act → Prop) : List Oper → Act → Prop
  | [], a => Q a
  | o :: rest, a => o.guard = none ∧ quietG P F o a (walkG P F Q rest)

def head2 (P : Program) (md : Region.Mode) (ops : Array Oper) (D : World → Prop) (E1 E2 : Nat → World → Prop) (E3 : Nat → Nat → World → Prop) (n m1 m2 : Nat) (d1 d2 : Option Tmp) (pt : Nat → Value) (L : Nat → Nat → Array Bool → Act → Prop) : Nat → Array Bool → Act → Prop
  | 0, _, _ => False
  | f + 1, listed, a => Region.ready md ops listed ≠ [] ∧ ∀ i ∈ Region.ready md ops listed, i < n ∧
      ((i = m1 ∧ ∀ b, headX P md ops (E1 b) (E3 b) n m2 d2 pt (L b) f (listed.setIfInBounds m1 true) (a.put d1 (pt b))) ∨
       (i = m2 ∧ ∀ b, headX P md ops (E2 b) (fun b1 => E3 b1 b) n m1 d1 pt (fun b1 => L b1 b) f (listed.setIfInBounds m2 true) (a.put d2 (pt b))) ∨
       (i ≠ m1 ∧ i ≠ m2 ∧ qOp P ops D i (head2 P md ops D E1 E2 E3 n m1 m2 d1 d2 pt L f (listed.setIfInBounds i true)) a))

theorem any_of_head2 {n m1 m2 g : Nat} {o1 o2 : Oper} {pt : Nat → Value} {L : Nat → Nat → Array Bool → Act → Prop} {Q : Exit → Act → World → Prop} (h1 : ops[m1]? = some o1) (h2 : ops[m2]? = some o2) (g1 : o1.guard = none) (g2 : o2.guard = none)
    (r1 : ∀ (a : Act) w, D w → ∃ b w', (execOp a.eval o1).run P w = .ok (.value (pt b)) w' ∧ E1 b w') (r2 : ∀ (a : Act) w, D w → ∃ b w', (execOp a.eval o2).run P w = .ok (.value (pt b)) w' ∧ E2 b w')
    (r12 : ∀ c (a : Act) w, E1 c w → ∃ b w', (execOp a.eval o2).run P w = .ok (.value (pt b)) w' ∧ E3 c b w') (r21 : ∀ c (a : Act) w, E2 c w → ∃ b w', (execOp a.eval o1).run P w = .ok (.value (pt b)) w' ∧ E3 b c w')
    (hL : ∀ b c listed a w, E3 b c w → L b c listed a → wpAny P md ops Q g listed a w) :
    ∀ (f : Nat) (listed : Array Bool) (a : Act) (w : World), D w → head2 P md ops D E1 E2 E3 n m1 m2 o1.dst o2.dst pt L f listed a → wpAny P md ops Q (f + g) listed a w := by
  intro f
  induction f with
  | zero => intro listed a w hw h; exact h.elim
  | succ f ih =>
    intro listed a w hw h
    rw [Nat.add_right_comm]
    refine ⟨fun e => absurd e h.1, fun i hi => ?_⟩
    rcases (h.2 i hi).2 with ⟨rfl, h3⟩ | ⟨rfl, h3⟩ | ⟨_, _, h3⟩
    · unfold wpOp
      simp only [h1]
      rw [if_pos (by unfold Region.wanted; rw [g1])]
      obtain ⟨b, w', hr, he⟩ := r1 a w hw
      refine .inl ?_
      unfold Oper.wp
      rw [hr]
      exact any_of_headX h2 g2 (r12 b) (fun c => hL b c) f _ _ _ he (h3 b)
    · unfold wpOp
      simp only [h2]
      rw [if_pos (by unfold Region.wanted; rw [g2])]
      obtain ⟨b, w', hr, he⟩ := r2 a w hw
      refine .inl ?_
      unfold Oper.wp
      rw [hr]
      exact any_of_headX h1 g1 (r21 b) (fun c => hL c b) f _ _ _ he (h3 b)
    · exact wpOp_of_qOp hw (fun a' w' hw' h' => ih _ a' w' hw' h') h3

theorem head2_first {n m1 m2 i : Nat} {oi o1 o2 : Oper} {v : Value} {pt : Nat → Value} {L : Nat → Nat → Array Bool → Act → Prop} (hi : ops[i]? = some oi) (h1 : ops[m1]? = some o1) (h2 : ops[m2]? = some o2) (hi1 : i ≠ m1) (hi2 : i ≠ m2)
    (hsel : ∀ (j : Nat) (o : Oper) cs b, ops[j]? = some o → o.op ≠ .select cs b) (hs : Region.sinkB md ops n = true) (hc : Region.chainB md ops n = true) (hn : n < ops.size) (hin : i < n) (hdone : ∀ b c listed a, L b c listed a → ∀ j ∈ Region.ready md ops listed, n ≤ j) :
    ∀ (f : Nat) (listed : Array Bool) (a : Act), HeadInv md ops n listed →
      (∀ j oj, ops[j]? = some oj → j ≠ i → listed.getD j true = false → (∀ e ∈ oj.after, Region.binds md e = true → e.on ≠ i) → oi.apart ops oj = true) →
      i ∈ Region.ready md ops listed → YieldsIn P ops D oi v a → (∀ b, YieldsIn P ops (E1 b) oi v a) → (∀ b, YieldsIn P ops (E2 b) oi v a) → (∀ b c, YieldsIn P ops (E3 b c) oi v a) →
      head2 P md ops D E1 E2 E3 n m1 m2 o1.dst o2.dst pt L f (listed.setIfInBounds i true) (a.put oi.dst v) → head2 P md ops D E1 E2 E3 n m1 m2 o1.dst o2.dst pt L (f + 1) listed a := by
  intro f
  induction f with
  | zero => intro listed a inv hfree hr hy hy1 hy2 hy3 H; exact H.elim
  | succ f ih =>
    intro listed a inv hfree hr hy hy1 hy2 hy3 H
    have hun := (mem_ready.1 hr).1
    have hsi : ∀ cs b, oi.op ≠ .select cs b := fun cs b => hsel i oi cs b hi
    refine ⟨List.ne_nil_of_mem hr, fun j hj => ?_⟩
    have hjn : j < n := Nat.lt_of_not_le fun h => tail_waits hs hc hn inv _ i rfl hin hun j h hj
    refine ⟨hjn, ?_⟩
    obtain ⟨hjun, oj, hoj, hall⟩ := mem_ready.1 hj
    by_cases hji : j = i
    · refine .inr (.inr ⟨by rw [hji]; exact hi1, by rw [hji]; exact hi2, ?_⟩)
      rw [hji]; exact hy.qOp hi H
    · have hno : ∀ e ∈ oj.after, Region.binds md e = true → e.on ≠ i := fun e he hb heq => by
        have := hall e he hb
        rw [heq, getD_both hun] at this
        exact Bool.false_ne_true this
      have hap := hfree j oj hoj hji hjun hno
      have hfree' : ∀ k ok, ops[k]? = some ok → k ≠ i → (listed.setIfInBounds j true).getD k true = false → (∀ e ∈ ok.after, Region.binds md e = true → e.on ≠ i) → oi.apart ops ok = true :=
        fun k ok hk hki hunk hnk => hfree k ok hk hki (by
          by_cases hjk : j = k
          · rw [← hjk]; exact hjun
          · rw [getD_set_ne true hjk] at hunk; exact hunk) hnk
      obtain ⟨p1, p2, p3⟩ := Oper.apart_spec hap
      have keep : ∀ {C : World → Prop} (u : Value), YieldsIn P ops C oi v a → YieldsIn P ops C oi v (a.put oj.dst u) := fun u h => h.of_same (execOp_put oi hsi a oj.dst u p3) (wanted_put oi a oj.dst u p3)
      rcases (H.2 j (ready_mono hj hji)).2 with ⟨e1, k1⟩ | ⟨e1, k1⟩ | ⟨e1, e2, k1⟩
      · refine .inl ⟨e1, fun b => ?_⟩
        have hojm : oj = o1 := Option.some.inj (hoj.symm.trans (by rw [e1]; exact h1))
        rw [← hojm, ← e1]
        refine headX_first hi h2 hi2 hsel hs hc hn hin (fun c => hdone b c) f (listed.setIfInBounds j true) (a.put oj.dst (pt b)) (inv.set hj hjn) hfree' (ready_mono hr (Ne.symm hji)) (keep _ (hy1 b)) (fun c => keep _ (hy3 b c)) ?_
        have k2 := k1 b
        rw [← hojm, ← e1] at k2
        rw [Array.setIfInBounds_comm _ _ hji, ← Act.put_comm a v (pt b) p2]
        exact k2
      · refine .inr (.inl ⟨e1, fun b => ?_⟩)
        have hojm : oj = o2 := Option.some.inj (hoj.symm.trans (by rw [e1]; exact h2))
        rw [← hojm, ← e1]
        refine headX_first hi h1 hi1 hsel hs hc hn hin (fun c => hdone c b) f (listed.setIfInBounds j true) (a.put oj.dst (pt b)) (inv.set hj hjn) hfree' (ready_mono hr (Ne.symm hji)) (keep _ (hy2 b)) (fun c => keep _ (hy3 c b)) ?_
        have k2 := k1 b
        rw [← hojm, ← e1] at k2
        rw [Array.setIfInBounds_comm _ _ hji, ← Act.put_comm a v (pt b) p2]
        exact k2
      · refine .inr (.inr ⟨e1, e2, ?_⟩)
        have hsj : ∀ cs b, oj.op ≠ .select cs b := fun cs b => hsel j oj cs b hoj
        have k2 := qOp_put hoj hap hsi hsj hy k1
        obtain ⟨u, hu, k3, k4⟩ := yieldsIn_of_qOp hoj k2
        refine hu.qOp hoj (ih (listed.setIfInBounds j true) _ (inv.set hj hjn) hfree' (ready_mono hr (Ne.symm hji)) k3 (fun b => keep u (hy1 b)) (fun b => keep u (hy2 b)) (fun b c => keep u (hy3 b c)) ?_)
        rw [Array.setIfInBounds_comm _ _ hji]; exact k4

theorem headX_last {n m g : Nat} {dm : Option Tmp} {pt : Nat → Value} {E : Nat → World → Prop} {Lq : Nat → Act → Prop} {listed : Array Bool} {a : Act} (hs : Region.sinkB md ops n = true) (hc : Region.chainB md ops n = true) (hn : n < ops.size) (hmn : m < n) (inv : HeadInv md ops n listed)
    (hr : m ∈ Region.ready md ops listed) (hsq : Region.seqB md ops g n (listed.setIfInBounds m true) = true) (h : ∀ b, Lq b (a.put dm (pt b))) : headX P md ops D E n m dm pt (fun b listed' a' => Region.seqB md ops g n listed' = true ∧ Lq b a') 1 listed a := by
  have hun := (mem_ready.1 hr).1
  refine ⟨List.ne_nil_of_mem hr, fun i hi => ?_⟩
  have hin : i < n := Nat.lt_of_not_le fun h' => tail_waits hs hc hn inv _ m rfl hmn hun i h' hi
  refine ⟨hin, ?_⟩
  by_cases hik : i = m
  · exact .inl ⟨hik, fun b => ⟨hsq, h b⟩⟩
  · have := seqB_ready hsq i (ready_mono hi hik)
    omega

theorem head2_lex {n m g : Nat} {o1 o2 : Oper} {pt : Nat → Value} {Lq : Nat → Nat → Act → Prop} (hsel : Region.noSelect ops = true) (hs : Region.sinkB md ops n = true) (hc : Region.chainB md ops n = true) (hn : n < ops.size) (hmn : m + 1 + 1 = n) (h1 : ops[m]? = some o1) (h2 : ops[m + 1]? = some o2)
    (fD : F D) (fE1 : ∀ b, F (E1 b)) (fE2 : ∀ b, F (E2 b)) (fE3 : ∀ b c, F (E3 b c)) :
    ∀ (l : List Oper) (k : Nat) (listed : Array Bool) (a : Act), (∀ j, j < l.length → l[j]? = ops[k + j]?) → k + l.length = m → HeadInv md ops n listed →
    Region.lexHead md ops g (l.length + 1 + 1) k listed = true → walkG P F (fun a' => ∀ b c, Lq b c ((a'.put o1.dst (pt b)).put o2.dst (pt c))) l a →
    head2 P md ops D E1 E2 E3 n m (m + 1) o1.dst o2.dst pt (fun b c listed' a' => Region.seqB md ops g n listed' = true ∧ Lq b c a') (l.length + 1 + 1) listed a := by
  intro l
  induction l with
  | nil =>
    intro k listed a _ hk inv hB h
    have e : k = m := by simpa using hk
    subst e
    simp only [List.length_nil, Region.lexHead, Bool.and_eq_true] at hB
    have hr : k ∈ Region.ready md ops listed := by simpa using hB.1.1
    have hr2 : k + 1 ∈ Region.ready md ops (listed.setIfInBounds k true) := by simpa using hB.2.1.1
    have hsq : Region.seqB md ops g n ((listed.setIfInBounds k true).setIfInBounds (k + 1) true) = true := by rw [← hmn]; exact hB.2.2
    have hun := (mem_ready.1 hr).1
    refine ⟨List.ne_nil_of_mem hr, fun i hi => ?_⟩
    have hin : i < n := Nat.lt_of_not_le fun h' => tail_waits hs hc hn inv _ k rfl (by omega) hun i h' hi
    refine ⟨hin, ?_⟩
    by_cases hik : i = k
    · exact .inl ⟨hik, fun b => headX_last hs hc hn (by omega) (inv.set hr (by omega)) hr2 hsq (fun c => h b c)⟩
    · by_cases hik2 : i = k + 1
      · refine .inr (.inl ⟨hik2, fun b => ?_⟩)
        rw [hik2] at hi
        obtain ⟨hiun, oi, hoi, hall⟩ := mem_ready.1 hi
        have eoi : oi = o2 := Option.some.inj (hoi.symm.trans h2)
        have hap := Region.free_spec h1 hB.1.2 (k + 1) oi hoi (by omega) hiun (fun e he hb heq => by
          have := hall e he hb
          rw [heq, getD_both hun] at this
          exact Bool.false_ne_true this)
        rw [eoi] at hap
        obtain ⟨_, p2, _⟩ := Oper.apart_spec hap
        refine headX_last hs hc hn (by omega) (inv.set hi (by omega)) (ready_mono hr (by omega)) ?_ (fun c => ?_)
        · rw [Array.setIfInBounds_comm _ _ (by omega)]; exact hsq
        · rw [← Act.put_comm a (pt c) (pt b) p2]; exact h c b
      · have := seqB_ready hsq i (ready_mono (ready_mono hi hik) hik2)
        omega
  | cons o l ih =>
    intro k listed a hl hk inv hB h
    have h0 : ops[k]? = some o := by simpa using (hl 0 (by simp)).symm
    rw [List.length_cons, Region.lexHead] at hB
    simp only [Bool.and_eq_true] at hB
    simp only [List.length_cons] at hk
    have hr : k ∈ Region.ready md ops listed := by simpa using hB.1.1
    obtain ⟨hgd, v, hD, hK⟩ := h
    have hw : Region.wanted o (yielded ops a.tmps) = true := by unfold Region.wanted; rw [hgd]
    refine head2_first h0 h1 h2 (by omega) (by omega) (Region.noSelect_spec hsel) hs hc hn (by omega) (fun b c listed' a' hL => seqB_ready hL.1) (l.length + 1 + 1) listed a inv (Region.free_spec h0 hB.1.2) hr (.inl ⟨hw, hD _ fD⟩) (fun b => .inl ⟨hw, hD _ (fE1 b)⟩) (fun b => .inl ⟨hw, hD _ (fE2 b)⟩) (fun b c => .inl ⟨hw, hD _ (fE3 b c)⟩) ?_
    refine ih (k + 1) _ _ (fun j hj => ?_) (by omega) (inv.set hr (by omega)) hB.2 hK
    have := hl (j + 1) (by simp; omega)
    rw [show k + 1 + j = k + (j + 1) by omega, ← this]; simp

/-- THE LAW. -/
theorem region_alloc2_tail {id : Nat} {Q : Exit → Act → World → Prop} {a : Act} {w : World} {l : List Oper} (D : World → Prop) (E1 E2 : Nat → World → Prop) (E3 : Nat → Nat → World → Prop) (F : (World → Prop) → Prop) (pt : Nat → Value) (m : Nat) (o1 o2 : Oper) (hD : D w.drew)
    (hm : P.follows .mixedOrders = true) (hB : Region.lexTailB .any l.toArray (m + 1 + 1) = true) (h1 : l.toArray[m]? = some o1) (h2 : l.toArray[m + 1]? = some o2) (g1 : o1.guard = none) (g2 : o2.guard = none)
    (fD : F D) (fE1 : ∀ b, F (E1 b)) (fE2 : ∀ b, F (E2 b)) (fE3 : ∀ b c, F (E3 b c))
    (r1 : ∀ (a : Act) w, D w → ∃ b w', (execOp a.eval o1).run P w = .ok (.value (pt b)) w' ∧ E1 b w') (r2 : ∀ (a : Act) w, D w → ∃ b w', (execOp a.eval o2).run P w = .ok (.value (pt b)) w' ∧ E2 b w')
    (r12 : ∀ c (a : Act) w, E1 c w → ∃ b w', (execOp a.eval o2).run P w = .ok (.value (pt b)) w' ∧ E3 c b w') (r21 : ∀ c (a : Act) w, E2 c w → ∃ b w', (execOp a.eval o1).run P w = .ok (.value (pt b)) w' ∧ E3 b c w')
    (h : walkG P F (fun a' => ∀ b c w', E3 b c w' → wpList P l.toArray Q (l.drop (m + 1 + 1)) ((a'.put o1.dst (pt b)).put o2.dst (pt c)) w') (l.take m) a) : (Code.region id l.toArray true).wp P Q a w := by
  simp only [Region.lexTailB, Bool.and_eq_true, decide_eq_true_eq] at hB
  obtain ⟨⟨⟨⟨hsel, hn⟩, hs⟩, hc⟩, hlex⟩ := hB
  have htl : (l.take m).length = m := by simp only [List.size_toArray] at hn; simp; omega
  have hdl : (l.drop (m + 1 + 1)).length = l.toArray.size - (m + 1 + 1) := by simp
  have H := head2_lex (md := .any) (pt := pt) (Lq := fun b c a' => ∀ w', E3 b c w' → wpList P l.toArray Q (l.drop (m + 1 + 1)) a' w') (g := l.toArray.size - (m + 1 + 1)) hsel hs hc hn rfl h1 h2 fD fE1 fE2 fE3 (l.take m) 0 (Array.replicate l.toArray.size false) a (fun j hj => by
      rw [htl] at hj
      simp [hj]) (by omega)
    ⟨by simp, fun j oj _ hl => by rw [getD_replicate_false] at hl; exact absurd hl Bool.false_ne_true, fun t _ ht => getD_in (by simpa using ht) (getD_replicate_false _ _)⟩
    (by rw [htl]; exact hlex) h
  refine wp_region_any hm ?_
  have K := any_of_head2 (Q := Q) (g := l.toArray.size - (m + 1 + 1)) h1 h2 g1 g2 r1 r2 r12 r21 (fun b c listed a' w' hw' hL => by
    have := wpAny_of_seq (md := .any) (Q' := Q) (l.drop (m + 1 + 1)) (m + 1 + 1) listed a' w' (fun j => by simp [List.getElem?_drop]) (by rw [hdl]; exact hL.1) (hL.2 w' hw')
    rwa [hdl] at this) _ _ _ { w with drawn := w.drawn + 1 } hD H
  rw [htl, show m + 1 + 1 + (l.toArray.size - (m + 1 + 1)) = l.toArray.size by omega] at K
  exact K
end
end Go.Proofs.YthlmgpllapccfaaGreatDoor
/- A REGION THAT TAKES A BLOCK AMONG ITS CALLS: the classes of worlds that keep all old blocks. -/
namespace Go.Proofs.YthlmgpllapccfaaGreatDoor
open Go.RowKit
variable {P : Program} {V : World} {cs : Array Value} {t : TypeId} {Q : Act → Prop} {a : Act} {o : Oper} {rest : List Oper}

def DF (V : World) (w : World) : Prop := Fr [] V w
def EF (V : World) (cs : Array Value) (t : TypeId) (b : Nat) (w : World) : Prop := V.heap.size ≤ b ∧ Blk w b cs t ∧ Fr [] V w
theorem quietAt_mono {C C' : World → Prop} {w : World} {v : Value} (h : ∀ w', C w' → C' w') (hq : o.quietAt P a C w v) : o.quietAt P a C' w v := by
  unfold Oper.quietAt at *
  generalize (execOp a.eval o).run P w = r at *
  cases r with
  | ok n w' =>
    cases n <;> simp only [Oper.quietUpon] at hq ⊢
    case value u => exact hq
    case skip => exact hq
    case enter f args => exact ⟨hq.1, hq.2.mono fun e w'' hh => ⟨hh.1, h _ hh.2⟩⟩
  | halt x w' => simp only [Oper.quietUpon] at hq
theorem walkF_step (hgd : o.guard = none) (v : Value) (hq : ∀ w, Fr [] V w → o.quietAt P a (fun w'' => Fr [] w w'') w v) (h : walkF P (DF V) (EF V cs t) Q rest (a.put o.dst v)) : walkF P (DF V) (EF V cs t) Q (o :: rest) a :=
  ⟨hgd, v, fun w hw => quietAt_mono (fun w'' hh => Fr.trans hw hh (by simp)) (hq w hw), fun _ w hw => quietAt_mono (fun w'' hh => ⟨hw.1, hw.2.1.fr hh (by simp), hw.2.2.trans hh (by simp)⟩) (hq w hw.2.2), h⟩
theorem walkF_val (hgd : o.guard = none) (v : Value) (hr : ∀ w, Fr [] V w → (execOp a.eval o).run P w = .ok (.value v) w) (h : walkF P (DF V) (EF V cs t) Q rest (a.put o.dst v)) : walkF P (DF V) (EF V cs t) Q (o :: rest) a :=
  walkF_step hgd v (fun w hw => by
    unfold Oper.quietAt
    rw [hr w hw]
    exact ⟨rfl, rfl⟩) h
theorem walkF_calls (hgd : o.guard = none) (f : FuncId) (vs : Array Value) (v : Value) (hr : ∀ w, (execOp a.eval o).run P w = .ok (.enter f vs) w)
    (hc : ∀ w, Fr [] V w → Calls P f vs w (fun e w' => e = .returned v ∧ Fr [] w w')) (h : walkF P (DF V) (EF V cs t) Q rest (a.put o.dst v)) : walkF P (DF V) (EF V cs t) Q (o :: rest) a :=
  walkF_step hgd v (fun w hw => by
    unfold Oper.quietAt
    rw [hr w]
    exact ⟨rfl, hc w hw⟩) h
theorem walkF_ld (hgd : o.guard = none) (ty : TypeId) (x : Operand) (ho : o.op = .load ty x) (b : Nat) (hx : a.eval x = .pointer (some ⟨b, 0, none⟩)) (xs : Array Value) (d : TypeDesc) (hC : ∀ w, Fr [] V w → w.heap[b]? = some (.cells xs ty (0, 0)))
    (hu : P.underlying ty = some d) (hd : d.isRow = true) (hi : (P.info? ty).map (·.size) = some xs.size) (h : walkF P (DF V) (EF V cs t) Q rest (a.put o.dst (.agg xs))) : walkF P (DF V) (EF V cs t) Q (o :: rest) a :=
  walkF_step hgd (.agg xs) (fun w hw => by
    have hl := run_loadAt_mid (P := P) w b 0 ty xs.toList d (fun j v hv => by rw [Nat.zero_add, cell_of_row w b j xs ty (0, 0) (hC w hw)]; simpa using hv) hu hd (by rw [Array.length_toList]; exact hi)
    unfold Oper.quietAt execOp
    simp only [ho, hx, Sem.run_bind, hl, Result.andThen_ok, Sem.run_pure, Array.toArray_toList]
    exact ⟨rfl, rfl⟩) h
theorem walkF_nil (h : Q a) : walkF P (DF V) (EF V cs t) Q [] a := h
end Go.Proofs.YthlmgpllapccfaaGreatDoor
/- A REGION THAT TAKES TWO BLOCKS AMONG ITS CALLS: the classes of worlds that keep all old blocks. -/
namespace Go.Proofs.YthlmgpllapccfaaGreatDoor
open Go.RowKit
variable {P : Program} {V : World} {Q : Act → Prop} {a : Act} {o : Oper} {rest : List Oper}

/-- The classes of worlds that come behind V, and stay so. -/
def Fam (V : World) (C : World → Prop) : Prop := (∀ w, C w → Fr [] V w) ∧ ∀ w w', C w → Fr [] w w' → C w'
theorem walkG_step (hgd : o.guard = none) (v : Value) (hq : ∀ w, Fr [] V w → o.quietAt P a (fun w'' => Fr [] w w'') w v) (h : walkG P (Fam V) Q rest (a.put o.dst v)) : walkG P (Fam V) Q (o :: rest) a :=
  ⟨hgd, v, fun _ hF w hw => quietAt_mono (fun w'' hh => hF.2 w w'' hw hh) (hq w (hF.1 w hw)), h⟩
theorem walkG_val (hgd : o.guard = none) (v : Value) (hr : ∀ w, Fr [] V w → (execOp a.eval o).run P w = .ok (.value v) w) (h : walkG P (Fam V) Q rest (a.put o.dst v)) : walkG P (Fam V) Q (o :: rest) a :=
  walkG_step hgd v (fun w hw => by
    unfold Oper.quietAt
    rw [hr w hw]
    exact ⟨rfl, rfl⟩) h
theorem walkG_calls (hgd : o.guard = none) (f : FuncId) (vs : Array Value) (v : Value) (hr : ∀ w, (execOp a.eval o).run P w = .ok (.enter f vs) w)
    (hc : ∀ w, Fr [] V w → Calls P f vs w (fun e w' => e = .returned v ∧ Fr [] w w')) (h : walkG P (Fam V) Q rest (a.put o.dst v)) : walkG P (Fam V) Q (o :: rest) a :=
  walkG_step hgd v (fun w hw => by
    unfold Oper.quietAt
    rw [hr w]
    exact ⟨rfl, hc w hw⟩) h
theorem walkG_nil (h : Q a) : walkG P (Fam V) Q [] a := h
def E3F (V : World) (cs ds : Array Value) (t u : TypeId) (b c : Nat) (w : World) : Prop := V.heap.size ≤ b ∧ V.heap.size ≤ c ∧ b ≠ c ∧ Blk w b cs t ∧ Blk w c ds u ∧ Fr [] V w
theorem fam_D (V : World) : Fam V (DF V) := ⟨fun _ h => h, fun _ _ h hh => Fr.trans h hh (by simp)⟩
theorem fam_E (V : World) (cs : Array Value) (t : TypeId) (b : Nat) : Fam V (EF V cs t b) := ⟨fun _ h => h.2.2, fun _ _ h hh => ⟨h.1, h.2.1.fr hh (by simp), h.2.2.trans hh (by simp)⟩⟩
theorem fam_E3 (V : World) (cs ds : Array Value) (t u : TypeId) (b c : Nat) : Fam V (E3F V cs ds t u b c) := ⟨fun _ h => h.2.2.2.2.2, fun _ _ h hh => ⟨h.1, h.2.1, h.2.2.1, h.2.2.2.1.fr hh (by simp), h.2.2.2.2.1.fr hh (by simp), h.2.2.2.2.2.trans hh (by simp)⟩⟩
/-- THE LAW, at blocks of cells. -/
theorem region_two_blocks {id : Nat} {Q : Exit → Act → World → Prop} {a : Act} {w : World} {l : List Oper} (cs : Array Value) (t : TypeId) (m : Nat) (o1 o2 : Oper)
    (hm : P.follows .mixedOrders = true) (hB : Region.lexTailB .any l.toArray (m + 1 + 1) = true) (h1 : l.toArray[m]? = some o1) (h2 : l.toArray[m + 1]? = some o2) (g1 : o1.guard = none) (g2 : o2.guard = none)
    (r1 : ∀ (a : Act) w, (execOp a.eval o1).run P w = .ok (.value (.pointer (some ⟨w.heap.size, 0, none⟩))) (w.alloc (.cells cs t)))
    (r2 : ∀ (a : Act) w, (execOp a.eval o2).run P w = .ok (.value (.pointer (some ⟨w.heap.size, 0, none⟩))) (w.alloc (.cells cs t)))
    (h : walkG P (Fam w) (fun a' => ∀ b c w', E3F w cs cs t t b c w' → wpList P l.toArray Q (l.drop (m + 1 + 1)) ((a'.put o1.dst (.pointer (some ⟨b, 0, none⟩))).put o2.dst (.pointer (some ⟨c, 0, none⟩))) w') (l.take m) a) : (Code.region id l.toArray true).wp P Q a w :=
  region_alloc2_tail (DF w) (EF w cs t) (EF w cs t) (E3F w cs cs t t) (Fam w) (fun b => .pointer (some ⟨b, 0, none⟩)) m o1 o2 (Fr.drew (Fr.refl [] w)) hm hB h1 h2 g1 g2 (fam_D w) (fam_E w cs t) (fam_E w cs t) (fam_E3 w cs cs t t)
    (fun a v hv => ⟨_, _, r1 a v, Fr.size hv, Blk.new _ _ _, Fr.alloc hv _⟩) (fun a v hv => ⟨_, _, r2 a v, Fr.size hv, Blk.new _ _ _, Fr.alloc hv _⟩)
    (fun c a v hv => ⟨_, _, r2 a v, hv.1, hv.2.2.size, by have := hv.2.1.lt; omega, hv.2.1.alloc _, Blk.new _ _ _, hv.2.2.alloc _⟩)
    (fun c a v hv => ⟨_, _, r1 a v, hv.2.2.size, hv.1, by have := hv.2.1.lt; omega, Blk.new _ _ _, hv.2.1.alloc _, hv.2.2.alloc _⟩) h
end Go.Proofs.YthlmgpllapccfaaGreatDoor
/- THE PROGRAM's PACKAGE set: what a tree comes to. -/
namespace Go.Proofs.YthlmgpllapccfaaGreatDoor
open Go.RowKit

/-- No power of x. -/
def NoX (p : List Nat) : Prop := ∀ j, 7 ≤ j → p.getD j 0 = 0
theorem pw_nox (f : Nat → Tok) : ∀ (m k u : Nat), (pw f true m k u 0).x = 0 := by
  intro m
  induction m with
  | zero => intro k u; rfl
  | succ m ih =>
    intro k u
    simp only [pw]
    split
    · split
      · exact ih _ _
      · rfl
    · split
      · rfl
      · rfl
theorem tm_nox (f : Nat → Tok) (N k : Nat) : (tm f true N k).x = 0 := by
  unfold tm
  split
  · exact pw_nox f _ _ _
  · split
    · exact pw_nox f _ _ _
    · rfl
theorem plus_nox {p : List Nat} {u a : Nat} (h : NoX p) (hu : u ≤ 6) : NoX (plus p u 0 a) := by
  intro j hj
  unfold plus
  rw [List.getD_eq_getElem?_getD, List.getElem?_set_ne (by omega), ← List.getD_eq_getElem?_getD]
  exact h j hj
theorem pl_nox (f : Nat → Tok) (N : Nat) : ∀ (m k sg : Nat) (p : List Nat), NoX p → NoX (pl f true N m k sg p).p := by
  intro m
  induction m with
  | zero => intro k sg p h; exact h
  | succ m ih =>
    intro k sg p h
    have h2 : NoX (plus p (tm f true N k).u (tm f true N k).x (sg * (tm f true N k).n)) := by rw [tm_nox]; exact plus_nox h (tm_facts f true N k).1
    simp only [pl]
    split
    · split
      · exact ih _ _ _ h2
      · split
        · exact ih _ _ _ h2
        · exact h2
    · exact h
theorem zeros_nox : NoX zeros := fun j _ => by
  unfold zeros
  rw [List.getD_eq_getElem?_getD, List.getElem?_replicate]
  split <;> rfl
theorem poly_nox (f : Nat → Tok) (N k : Nat) : NoX (poly f true N k).p := by
  unfold poly
  split
  · exact pl_nox f N _ _ _ _ zeros_nox
  · exact pl_nox f N _ _ _ _ zeros_nox
theorem pows_nil {g : Nat → Nat} (h : ∀ j, g j = 0) (a : Nat) : ∀ n, pows g a n = 0 := by
  intro n
  have e : g = fun _ => 0 := funext h
  rw [e]
  induction n with
  | zero => rfl
  | succ n ih => simp [pows, ih]
theorem nox_zero {p : List Nat} (h : NoX p) (a : Nat) : decide (upL (lnF a p) = zeros) = zrs p a := by
  unfold zrs
  rw [decide_eq_decide]
  constructor
  · intro e
    have := congrArg (fun l => l.getD (0 * 7) 0) e
    rw [upL_at _ (by omega)] at this
    exact this
  · intro e
    have e2 : upL (lnF a p) = upL zv := upL_congr (fun i hi => by
      cases i with
      | zero => exact e
      | succ i =>
        unfold lnF
        rw [if_pos hi]
        exact pows_nil (fun j => h _ (by omega)) a 7)
    rw [e2]; rfl

/-- What a tree means. -/
inductive Tree : Value → (Nat → Bool) → Prop
  | set (b : Nat → Bool) : Tree (.iface 155 (.agg (bv b))) b
  | zeros (p : List Nat) (h : Good p) (hx : NoX p) : Tree (.iface 217 (.agg (pv p))) (zrs p)
  | not {v : Value} {b : Nat → Bool} (h : Tree v b) : Tree (.iface 215 (.agg #[v])) (fun i => !b i)
  | both {v u : Value} {b c : Nat → Bool} (h : Tree v b) (g : Tree u c) : Tree (.iface 211 (.agg #[v, u])) (fun i => b i && c i)
  | without {v u : Value} {b c : Nat → Bool} (h : Tree v b) (g : Tree u c) : Tree (.iface 212 (.agg #[v, u])) (fun i => b i && !c i)
  | either {v u : Value} {b c : Nat → Bool} (h : Tree v b) (g : Tree u c) : Tree (.iface 191 (.agg #[v, u])) (fun i => b i || c i)

set_option maxRecDepth 100000 in
theorem Of2_any (b : Nat → Bool) (v p : Nat) (w : World) (hv : v < 7) (hp : Blk w p (bv b) 155) : Calls Tryz.prog 179 #[.int .i64 v, .pointer (some ⟨p, 0, none⟩)] w fun e w' => e = .returned (.bool (!b v)) ∧ Below w.heap.size w w' := by
  have c : w.cell? ⟨p, v, none⟩ = some (.bool (b v)) := by rw [hp.cell]; exact bv_get b hv
  have k0 : (0 : Int) ≤ (v : Int) := by omega
  have k1 : (v : Int) < 7 := by omega
  go_enter Tryz.func179, Tryz.ntmps179
  go_wp2
  go_ret
  exact ⟨rfl, Below.refl _ _⟩
set_option maxRecDepth 100000 in
theorem Of3_any (b d : Nat → Bool) (v p q : Nat) (w : World) (hv : v < 7) (hp : Blk w p (bv b) 155) (hq : Blk w q (bv d) 155) : Calls Tryz.prog 180 #[.int .i64 v, .pointer (some ⟨p, 0, none⟩), .pointer (some ⟨q, 0, none⟩)] w fun e w' => e = .returned (.bool (b v && d v)) ∧ Below w.heap.size w w' := by
  have c : w.cell? ⟨p, v, none⟩ = some (.bool (b v)) := by rw [hp.cell]; exact bv_get b hv
  have c' : w.cell? ⟨q, v, none⟩ = some (.bool (d v)) := by rw [hq.cell]; exact bv_get d hv
  have k0 : (0 : Int) ≤ (v : Int) := by omega
  have k1 : (v : Int) < 7 := by omega
  cases hb : b v <;> (rw [hb] at c) <;> (go_enter Tryz.func180, Tryz.ntmps180) <;> go_wp2 <;> go_ret <;> exact ⟨rfl, Below.refl _ _⟩
set_option maxRecDepth 100000 in
theorem Of4_any (b d : Nat → Bool) (v p q : Nat) (w : World) (hv : v < 7) (hp : Blk w p (bv b) 155) (hq : Blk w q (bv d) 155) : Calls Tryz.prog 181 #[.int .i64 v, .pointer (some ⟨p, 0, none⟩), .pointer (some ⟨q, 0, none⟩)] w fun e w' => e = .returned (.bool (b v && !d v)) ∧ Below w.heap.size w w' := by
  have c : w.cell? ⟨p, v, none⟩ = some (.bool (b v)) := by rw [hp.cell]; exact bv_get b hv
  have c' : w.cell? ⟨q, v, none⟩ = some (.bool (d v)) := by rw [hq.cell]; exact bv_get d hv
  have k0 : (0 : Int) ≤ (v : Int) := by omega
  have k1 : (v : Int) < 7 := by omega
  cases hb : b v <;> (rw [hb] at c) <;> (go_enter Tryz.func181, Tryz.ntmps181) <;> go_wp2 <;> go_ret <;> exact ⟨rfl, Below.refl _ _⟩
set_option maxRecDepth 100000 in
theorem Of5_any (b d : Nat → Bool) (v p q : Nat) (w : World) (hv : v < 7) (hp : Blk w p (bv b) 155) (hq : Blk w q (bv d) 155) : Calls Tryz.prog 182 #[.int .i64 v, .pointer (some ⟨p, 0, none⟩), .pointer (some ⟨q, 0, none⟩)] w fun e w' => e = .returned (.bool (b v || d v)) ∧ Below w.heap.size w w' := by
  have c : w.cell? ⟨p, v, none⟩ = some (.bool (b v)) := by rw [hp.cell]; exact bv_get b hv
  have c' : w.cell? ⟨q, v, none⟩ = some (.bool (d v)) := by rw [hq.cell]; exact bv_get d hv
  have k0 : (0 : Int) ≤ (v : Int) := by omega
  have k1 : (v : Int) < 7 := by omega
  cases hb : b v <;> (rw [hb] at c) <;> (go_enter Tryz.func182, Tryz.ntmps182) <;> go_wp2 <;> go_ret <;> exact ⟨rfl, Below.refl _ _⟩
set_option maxRecDepth 100000 in
set_option maxHeartbeats 800000 in
theorem Of1_any (p : List Nat) (hp : Good p) (hx : NoX p) (v q : Nat) (w : World) (hv : v < 7) (hq : Blk w q (pv p) 217) : Calls Tryz.prog 178 #[.int .i64 v, .pointer (some ⟨q, 0, none⟩)] w fun e w' => e = .returned (.bool (zrs p v)) ∧ Below w.heap.size w w' := by
  have HAT := hidV (fun w' => At_any p v v w' hp (by omega) hv)
  have hz := fun w' => poly_eq_zero (upL (lnF v p)) w' (lnF_good v p)
  rw [nox_zero hx v] at hz
  have HRG : Hid (∀ j x, (pv p).toList[j]? = some x → w.cell? ⟨q, 0 + j, none⟩ = some x) := fun j x hjx => by rw [Nat.zero_add, hq.cell]; simpa using hjx
  generalize zrs p v = Z at *
  go_enter Tryz.func178, Tryz.ntmps178
  go_wp2_with (first | (refine wpList_load_pp (by rfl) _ (by rfl) q 0 (by rfl) p hp (by exact HRG.out) ?_) | (go_at_call 47; refine (HAT.out _).mono ?_; rintro e w3 ⟨rfl, hb3⟩; have HB3 := hidV hb3; clear hb3))
  go_ret
  exact ⟨rfl, HB3.out⟩
theorem Tree.form {v : Value} {b : Nat → Bool} (h : Tree v b) : ∃ T x, v = .iface T x := by
  cases h <;> exact ⟨_, _, rfl⟩
theorem bv_lit (b : Nat → Bool) : bv b = #[.bool (b 0), .bool (b 1), .bool (b 2), .bool (b 3), .bool (b 4), .bool (b 5), .bool (b 6)] := rfl
theorem set_there {w : World} {b : Nat} {c d : Nat → Bool} (h : Blk w b (bv c) 155) : w.there b 0 (bv d).size := Blk.there h (Nat.le_refl _)
set_option maxRecDepth 100000 in
set_option maxHeartbeats 2000000 in
theorem setOf_set (b : Nat → Bool) (w : World) : Calls Tryz.prog 177 #[.iface 155 (.agg (bv b))] w fun e w' => e = .returned (.agg (bv b)) ∧ Below w.heap.size w w' := by
  have tSet : ∀ (v : Value) (w : World), (Instr.typeAssert (.iface 155 v) 151 155 true).run Tryz.prog w = .ok (.tuple #[v, .bool true]) w := fun _ _ => by kernel_rfl
  have HSZ := hidV (size_bv b)
  rw [bv_lit b] at *
  go_enter Tryz.func177, Tryz.ntmps177
  go_wp2
  refine bodyPost_ret (results_cell_row Tryz.results177 _ _ w.heap.size 155 (bv b) (0, 0) _ (by rfl) (by exact Blk.alloc (Blk.new w _ _) _) Tryz.underlying155 rfl HSZ.out) rfl ⟨rfl, by go_grown⟩
set_option maxRecDepth 100000 in
set_option maxHeartbeats 2000000 in
theorem setOf_zeros (p : List Nat) (h : Good p) (hx : NoX p) (w : World) : Calls Tryz.prog 177 #[.iface 217 (.agg (pv p))] w fun e w' => e = .returned (.agg (bv (zrs p))) ∧ Below w.heap.size w w' := by
  have hmf : ∀ (fn : Fn) (first cap : Array Value) (w : World), (Instr.makeFunc fn first cap).run Tryz.prog w = .ok (.func fn first cap) w := fun _ _ _ _ => rfl
  have tSet : ∀ (v : Value) (w : World), (Instr.typeAssert (.iface 217 v) 151 155 true).run Tryz.prog w = .ok (.tuple #[.agg #[.bool false, .bool false, .bool false, .bool false, .bool false, .bool false, .bool false], .bool false]) w := fun _ _ => by kernel_rfl
  have tZeros : ∀ (v : Value) (w : World), (Instr.typeAssert (.iface 217 v) 151 217 true).run Tryz.prog w = .ok (.tuple #[v, .bool true]) w := fun _ _ => by kernel_rfl
  have HCF : Hid (∀ (args : Array Value) (w : World), (callFunc 178 args).run Tryz.prog w = .ok (.enter 178 args) w) := fun _ _ => by kernel_rfl
  have HSP : Hid ((Tryz.prog.info? 217).map (·.size) = some (pv p).size) := by unfold Hid; rw [pv_size, h.1]; kernel_rfl
  have HOP : Hid ((pv p).all (·.oneCell') = true) := pv_one p
  have HPS : Hid ((pv p).size = 35) := by unfold Hid; rw [pv_size, h.1]
  have HTZ : Hid (((w.alloc (.cells #[.bool false, .bool false, .bool false, .bool false, .bool false, .bool false, .bool false] 155)).alloc (.cells #[.int .i64 0, .int .i64 0, .int .i64 0, .int .i64 0, .int .i64 0, .int .i64 0, .int .i64 0, .int .i64 0, .int .i64 0, .int .i64 0, .int .i64 0, .int .i64 0, .int .i64 0, .int .i64 0, .int .i64 0, .int .i64 0, .int .i64 0, .int .i64 0, .int .i64 0, .int .i64 0, .int .i64 0, .int .i64 0, .int .i64 0, .int .i64 0, .int .i64 0, .int .i64 0, .int .i64 0, .int .i64 0, .int .i64 0, .int .i64 0, .int .i64 0, .int .i64 0, .int .i64 0, .int .i64 0, .int .i64 0] 217)).there (w.heap.size + 1) 0 (pv p).size) := Blk.there (Blk.newAt _ _ _ (by simp)) (by rw [HPS.out]; exact Nat.le_refl _)
  have HW : Hid (Blk (((w.alloc (.cells #[.bool false, .bool false, .bool false, .bool false, .bool false, .bool false, .bool false] 155)).alloc (.cells #[.int .i64 0, .int .i64 0, .int .i64 0, .int .i64 0, .int .i64 0, .int .i64 0, .int .i64 0, .int .i64 0, .int .i64 0, .int .i64 0, .int .i64 0, .int .i64 0, .int .i64 0, .int .i64 0, .int .i64 0, .int .i64 0, .int .i64 0, .int .i64 0, .int .i64 0, .int .i64 0, .int .i64 0, .int .i64 0, .int .i64 0, .int .i64 0, .int .i64 0, .int .i64 0, .int .i64 0, .int .i64 0, .int .i64 0, .int .i64 0, .int .i64 0, .int .i64 0, .int .i64 0, .int .i64 0, .int .i64 0] 217)).setCells (w.heap.size + 1) 0 (pv p).toList) (w.heap.size + 1) (pv p) 217 ∧ Blk (((w.alloc (.cells #[.bool false, .bool false, .bool false, .bool false, .bool false, .bool false, .bool false] 155)).alloc (.cells #[.int .i64 0, .int .i64 0, .int .i64 0, .int .i64 0, .int .i64 0, .int .i64 0, .int .i64 0, .int .i64 0, .int .i64 0, .int .i64 0, .int .i64 0, .int .i64 0, .int .i64 0, .int .i64 0, .int .i64 0, .int .i64 0, .int .i64 0, .int .i64 0, .int .i64 0, .int .i64 0, .int .i64 0, .int .i64 0, .int .i64 0, .int .i64 0, .int .i64 0, .int .i64 0, .int .i64 0, .int .i64 0, .int .i64 0, .int .i64 0, .int .i64 0, .int .i64 0, .int .i64 0, .int .i64 0, .int .i64 0] 217)).setCells (w.heap.size + 1) 0 (pv p).toList) w.heap.size (bv fun _ => false) 155 ∧ Fr [] w (((w.alloc (.cells #[.bool false, .bool false, .bool false, .bool false, .bool false, .bool false, .bool false] 155)).alloc (.cells #[.int .i64 0, .int .i64 0, .int .i64 0, .int .i64 0, .int .i64 0, .int .i64 0, .int .i64 0, .int .i64 0, .int .i64 0, .int .i64 0, .int .i64 0, .int .i64 0, .int .i64 0, .int .i64 0, .int .i64 0, .int .i64 0, .int .i64 0, .int .i64 0, .int .i64 0, .int .i64 0, .int .i64 0, .int .i64 0, .int .i64 0, .int .i64 0, .int .i64 0, .int .i64 0, .int .i64 0, .int .i64 0, .int .i64 0, .int .i64 0, .int .i64 0, .int .i64 0, .int .i64 0, .int .i64 0, .int .i64 0] 217)).setCells (w.heap.size + 1) 0 (pv p).toList)) :=
    ⟨Blk.setAll (Blk.newAt _ _ _ (by simp)) _ (by rw [HPS.out]; rfl), (Blk.alloc (Blk.new w _ _) _).fr (Fr.setCells (Fr.refl [w.heap.size + 1] _) _ _ _ (Or.inl (by simp))) (by simp), Fr.setCells (((Fr.refl [] w).alloc _).alloc _) _ _ _ (Or.inr (by omega))⟩
  go_enter Tryz.func177, Tryz.ntmps177
  go_wp2_with (first | (refine wpList_store_mid (by rfl) 217 _ _ (by rfl) (w.heap.size + 1) 0 (pv p) (by rfl) (by rfl) HTZ.out HSP.out HOP.out ?_))
  generalize ((w.alloc (.cells #[.bool false, .bool false, .bool false, .bool false, .bool false, .bool false, .bool false] 155)).alloc (.cells #[.int .i64 0, .int .i64 0, .int .i64 0, .int .i64 0, .int .i64 0, .int .i64 0, .int .i64 0, .int .i64 0, .int .i64 0, .int .i64 0, .int .i64 0, .int .i64 0, .int .i64 0, .int .i64 0, .int .i64 0, .int .i64 0, .int .i64 0, .int .i64 0, .int .i64 0, .int .i64 0, .int .i64 0, .int .i64 0, .int .i64 0, .int .i64 0, .int .i64 0, .int .i64 0, .int .i64 0, .int .i64 0, .int .i64 0, .int .i64 0, .int .i64 0, .int .i64 0, .int .i64 0, .int .i64 0, .int .i64 0] 217)).setCells (w.heap.size + 1) 0 (pv p).toList = W at *
  refine (Where_any 178 #[.pointer (some ⟨w.heap.size + 1, 0, none⟩)] (zrs p) W HCF.out (fun v w' hv hb => Of1_any p h hx v (w.heap.size + 1) w' hv (HW.out.1.fr (Fr.of_below (bs := []) hb) (by simp)))).mono ?_
  have hbl := HW.out.2.2.below (Nat.le_refl _) (by simp)
  rintro e w9 ⟨rfl, b9⟩
  have HR9 : Hid (Blk w9 w.heap.size (bv fun _ => false) 155 ∧ Below w.heap.size w w9) := ⟨HW.out.2.1.fr (Fr.of_below (bs := []) b9) (by simp), hbl.trans (b9.mono hbl.size)⟩
  clear b9
  have HTH := hidV (set_there (d := (zrs p)) HR9.out.1)
  have HSZ := hidV (size_bv (zrs p))
  have HON := hidV (bv_one (zrs p))
  have HYS : Hid ((bv (zrs p)).size = (bv fun _ => false).size) := rfl
  obtain ⟨y, HY⟩ : ∃ y, Hid (bv (zrs p) = y) := ⟨_, hidV rfl⟩
  rw [HY.out] at HTH HSZ HON HYS ⊢
  go_wp2_with (first | (refine wpList_store_mid (by rfl) 155 _ _ (by rfl) w.heap.size 0 y (by rfl) (by rfl) HTH.out HSZ.out HON.out ?_))
  refine bodyPost_ret (results_cell_row Tryz.results177 _ _ w.heap.size 155 y (0, 0) _ (by rfl) (Blk.setAll HR9.out.1 _ HYS.out) Tryz.underlying155 rfl HSZ.out) rfl ⟨by rw [HY.out], Below.setCells HR9.out.2 _ _ _ (Nat.le_refl _)⟩
set_option maxRecDepth 100000 in
set_option maxHeartbeats 2000000 in
theorem setOf_not {v : Value} {b : Nat → Bool} (h : Tree v b) (ih : ∀ w, Calls Tryz.prog 177 #[v] w fun e w' => e = .returned (.agg (bv b)) ∧ Below w.heap.size w w') (w : World) : Calls Tryz.prog 177 #[.iface 215 (.agg #[v])] w fun e w' => e = .returned (.agg (bv (fun i => !b i))) ∧ Below w.heap.size w w' := by
  have hmf : ∀ (fn : Fn) (first cap : Array Value) (w : World), (Instr.makeFunc fn first cap).run Tryz.prog w = .ok (.func fn first cap) w := fun _ _ _ _ => rfl
  have tSet : ∀ (v : Value) (w : World), (Instr.typeAssert (.iface 215 v) 151 155 true).run Tryz.prog w = .ok (.tuple #[.agg #[.bool false, .bool false, .bool false, .bool false, .bool false, .bool false, .bool false], .bool false]) w := fun _ _ => by kernel_rfl
  have tZeros : ∀ (v : Value) (w : World), (Instr.typeAssert (.iface 215 v) 151 217 true).run Tryz.prog w = .ok (.tuple #[.agg #[.int .i64 0, .int .i64 0, .int .i64 0, .int .i64 0, .int .i64 0, .int .i64 0, .int .i64 0, .int .i64 0, .int .i64 0, .int .i64 0, .int .i64 0, .int .i64 0, .int .i64 0, .int .i64 0, .int .i64 0, .int .i64 0, .int .i64 0, .int .i64 0, .int .i64 0, .int .i64 0, .int .i64 0, .int .i64 0, .int .i64 0, .int .i64 0, .int .i64 0, .int .i64 0, .int .i64 0, .int .i64 0, .int .i64 0, .int .i64 0, .int .i64 0, .int .i64 0, .int .i64 0, .int .i64 0, .int .i64 0], .bool false]) w := fun _ _ => by kernel_rfl
  have tNot : ∀ (v : Value) (w : World), (Instr.typeAssert (.iface 215 v) 151 215 true).run Tryz.prog w = .ok (.tuple #[v, .bool true]) w := fun _ _ => by kernel_rfl
  obtain ⟨T, x, hvx⟩ := h.form
  subst hvx
  have HIH : Hid (∀ w, Calls Tryz.prog 177 #[.iface T x] w fun e w' => e = .returned (.agg #[.bool (b 0), .bool (b 1), .bool (b 2), .bool (b 3), .bool (b 4), .bool (b 5), .bool (b 6)]) ∧ Below w.heap.size w w') := ih
  clear ih h
  go_enter Tryz.func177, Tryz.ntmps177
  go_wp2_with fail
  refine (HIH.out _).mono ?_
  rintro e w1 ⟨rfl, b1⟩
  have HB1 : Hid (Blk w1 w.heap.size (bv fun _ => false) 155 ∧ Fr [] w w1) := ⟨(Blk.alloc (Blk.new w _ _) _).fr (Fr.of_below (bs := []) b1) (by simp), (((Fr.refl [] w).alloc _).alloc _).trans (Fr.of_below (bs := []) b1) (by simp)⟩
  clear b1
  have HCF : Hid (∀ (args : Array Value) (w : World), (callFunc 179 args).run Tryz.prog w = .ok (.enter 179 args) w) := fun _ _ => by kernel_rfl
  go_wp2_with fail
  have HW : Hid (Blk (w1.alloc (.cells #[.bool (b 0), .bool (b 1), .bool (b 2), .bool (b 3), .bool (b 4), .bool (b 5), .bool (b 6)] 155)) w1.heap.size (bv b) 155 ∧ Blk (w1.alloc (.cells #[.bool (b 0), .bool (b 1), .bool (b 2), .bool (b 3), .bool (b 4), .bool (b 5), .bool (b 6)] 155)) w.heap.size (bv fun _ => false) 155 ∧ Fr [] w (w1.alloc (.cells #[.bool (b 0), .bool (b 1), .bool (b 2), .bool (b 3), .bool (b 4), .bool (b 5), .bool (b 6)] 155))) := ⟨Blk.new w1 _ _, Blk.alloc HB1.out.1 _, HB1.out.2.alloc _⟩
  generalize w1.alloc (.cells #[.bool (b 0), .bool (b 1), .bool (b 2), .bool (b 3), .bool (b 4), .bool (b 5), .bool (b 6)] 155) = W at *
  refine (Where_any 179 #[.pointer (some ⟨w1.heap.size, 0, none⟩)] (fun i => !b i) W HCF.out (fun v w' hv hb => Of2_any b v w1.heap.size w' hv (HW.out.1.fr (Fr.of_below (bs := []) hb) (by simp)))).mono ?_
  have hbl := HW.out.2.2.below (Nat.le_refl _) (by simp)
  rintro e w9 ⟨rfl, b9⟩
  have HR9 : Hid (Blk w9 w.heap.size (bv fun _ => false) 155 ∧ Below w.heap.size w w9) := ⟨HW.out.2.1.fr (Fr.of_below (bs := []) b9) (by simp), hbl.trans (b9.mono hbl.size)⟩
  clear b9
  have HTH := hidV (set_there (d := (fun i => !b i)) HR9.out.1)
  have HSZ := hidV (size_bv (fun i => !b i))
  have HON := hidV (bv_one (fun i => !b i))
  have HYS : Hid ((bv (fun i => !b i)).size = (bv fun _ => false).size) := rfl
  obtain ⟨y, HY⟩ : ∃ y, Hid (bv (fun i => !b i) = y) := ⟨_, hidV rfl⟩
  rw [HY.out] at HTH HSZ HON HYS ⊢
  go_wp2_with (first | (refine wpList_store_mid (by rfl) 155 _ _ (by rfl) w.heap.size 0 y (by rfl) (by rfl) HTH.out HSZ.out HON.out ?_))
  refine bodyPost_ret (results_cell_row Tryz.results177 _ _ w.heap.size 155 y (0, 0) _ (by rfl) (Blk.setAll HR9.out.1 _ HYS.out) Tryz.underlying155 rfl HSZ.out) rfl ⟨by rw [HY.out], Below.setCells HR9.out.2 _ _ _ (Nat.le_refl _)⟩
end Go.Proofs.YthlmgpllapccfaaGreatDoor
/- THE READER: sets: the zeros of a polynomial in u. -/
namespace Go.Proofs.YthlmgpllapccfaaGreatDoor
open Go.RowKit
variable {M : Value} {D : Int}

theorem pk_9 {c : Nat} : pk c = 9 ↔ c = 128 := by
  unfold pk
  constructor
  · intro h
    repeat' split at h
    all_goals omega
  · intro h; subst h; rfl
theorem pk_10 {c : Nat} : pk c = 10 ↔ c = 42 := by
  unfold pk
  constructor
  · intro h
    repeat' split at h
    all_goals omega
  · intro h; subst h; rfl
theorem pk_11 {c : Nat} : pk c = 11 ↔ c = 130 := by
  unfold pk
  constructor
  · intro h
    repeat' split at h
    all_goals omega
  · intro h; subst h; rfl
theorem pk_12 {c : Nat} : pk c = 12 ↔ c = 44 := by
  unfold pk
  constructor
  · intro h
    repeat' split at h
    all_goals omega
  · intro h; subst h; rfl
theorem pk_13 {c : Nat} : pk c = 13 ↔ c = 45 := by
  unfold pk
  constructor
  · intro h
    repeat' split at h
    all_goals omega
  · intro h; subst h; rfl
theorem pk_14 {c : Nat} : pk c = 14 ↔ c = 95 := by
  unfold pk
  constructor
  · intro h
    repeat' split at h
    all_goals omega
  · intro h; subst h; rfl
theorem pk_15 {c : Nat} : pk c = 15 ↔ c = 97 := by
  unfold pk
  constructor
  · intro h
    repeat' split at h
    all_goals omega
  · intro h; subst h; rfl
theorem pk_6 {c : Nat} : pk c = 6 ↔ c = 49 := by
  unfold pk
  constructor
  · intro h
    repeat' split at h
    all_goals omega
  · intro h; subst h; rfl
theorem list_forget {P : Program} {ops : Array Oper} {Q : Exit → Act → World → Prop} {l : List Oper} {a : Act} {w : World} (I : World → Prop) (hI : I w) (h : ∀ W, I W → wpList P ops Q l a W) : wpList P ops Q l a w := h w hI
/-- What the reading of a set ends in. -/
def RS (w : World) (b : Nat) (s : ByteArray) (M : Value) (D : Int) (f : Nat → Tok) (R : StR) (e : Ending) (w' : World) : Prop :=
  (R.e = 0 ∧ ∃ v, e = .returned v ∧ Tree v R.b ∧ Rd w' b s M D false (f R.k) ∧ Fr [b] w w') ∨ (R.e ≠ 0 ∧ e = .panicked (faulty R.e R.bad) ∧ Fr [b] w w')

set_option maxRecDepth 100000 in
set_option maxHeartbeats 1000000 in
theorem rdZeros_any (s : ByteArray) (f : Nat → Tok) (k b : Nat) (w : World) (hs : s.size ≤ 1000) (ha : Str s f) (hc : (f k).c = 95) (hr : Rd w b s M D false (f k)) :
    Calls Tryz.prog 114 #[.pointer (some ⟨b, 0, none⟩)] w (RS w b s M D f (StR.wants f 97 (zrR (poly f true s.size (k + 1))))) := by
  have HR := hidV hr
  have HA := hidV ha
  have hk : k < s.size := ha.lt (by omega)
  have HPK : Hid (pk (f k).c = 14) := pk_14.2 hc
  have HNX := hidV (poly_nox f s.size (k + 1))
  have HPO := hidV (fun w' hr' => polynomial_any (M := M) (D := D) (O := true) s f (k + 1) b w' hs HA.out (by omega) hr')
  clear hr ha
  generalize poly f true s.size (k + 1) = R at *
  go_enter Tryz.func114, Tryz.ntmps114
  go_wp2_with fail
  refine (expect_ok s f k b 14 _ (by omega) HA.out HR.out HPK.out).mono ?_
  rintro e w1 ⟨rfl, hr1, hf1⟩
  have c7 := hr1.more.2.2
  have z7 : w1.frozen? ⟨b, 7, none⟩ = false := Blk.frozen hr1 7
  have HI1 : Hid (Rd (w1.setCell ⟨b, 7, none⟩ (.bool true)) b s M D true (f (k + 1)) ∧ Fr [b] w (w1.setCell ⟨b, 7, none⟩ (.bool true))) := ⟨Blk.set hr1 7 _, hf1.setCell _ _ (Or.inl (by simp))⟩
  clear hr1 hf1
  go_wp2_with fail
  refine (HPO.out _ HI1.out.1).mono ?_
  rintro e w2 (⟨he, rfl, hg, hr2, hf2⟩ | ⟨he, rfl, hf2⟩)
  · obtain ⟨q, HQ⟩ : ∃ q, Hid (R.p = q) := ⟨_, hidV rfl⟩
    rw [HQ.out] at hg HNX ⊢
    have HI2 : Hid (Rd w2 b s M D true (f R.k) ∧ Fr [b] w w2) := ⟨hr2, HI1.out.2.trans hf2 (by simp)⟩
    clear hr2 hf2 HI1 c7 z7
    go_wp2_with (first | (refine wpList_store_mid (by rfl) 76 _ _ (by rfl) w2.heap.size 0 (pv q) (by rfl) (by rfl) (by exact Blk.there (Blk.new w2 _ _) (by rw [pv_size, hg.1]; decide)) (size_poly hg) (pv_one _) ?_; refine list_forget (fun W => Rd W b s M D true (f R.k) ∧ Fr [b] w W ∧ Blk W w2.heap.size (pv q) 76) ⟨by exact Blk.fr HI2.out.1 (Fr.setCells ((Fr.refl [] w2).alloc _) _ _ _ (Or.inr (Nat.le_refl _))) (by simp), by exact Fr.setCells (HI2.out.2.alloc _) _ _ _ (Or.inr HI2.out.2.size), by exact Blk.setAll (Blk.new w2 _ _) _ (by rw [pv_size, hg.1]; rfl)⟩ ?_; rintro W gW; have HW := hidV gW; have d7 := gW.1.more.2.2; have y7 : W.frozen? ⟨b, 7, none⟩ = false := Blk.frozen gW.1 7; clear gW))
    have HI3 : Hid (Rd (W.setCell ⟨b, 7, none⟩ (.bool false)) b s M D false (f R.k) ∧ Fr [b] w (W.setCell ⟨b, 7, none⟩ (.bool false)) ∧ Blk (W.setCell ⟨b, 7, none⟩ (.bool false)) w2.heap.size (pv q) 76) := ⟨Blk.set HW.out.1 7 _, HW.out.2.1.setCell _ _ (Or.inl (by simp)), HW.out.2.2.setOther _ _ (by have := Blk.lt HI2.out.1; simp; omega)⟩
    generalize W.setCell ⟨b, 7, none⟩ (.bool false) = W3 at *
    clear d7 y7 HW W
    by_cases h9 : (f R.k).c = 97
    · have HPK2 : Hid (pk (f R.k).c = 15) := pk_15.2 h9
      refine (expect_ok s f R.k b 15 _ (by omega) HA.out HI3.out.1 HPK2.out).mono ?_
      rintro e w4 ⟨rfl, hr4, hf4⟩
      have HI4 : Hid (Rd w4 b s M D false (f (R.k + 1)) ∧ Fr [b] w w4 ∧ Blk w4 w2.heap.size (pv q) 76) := ⟨hr4, HI3.out.2.1.trans hf4 (by simp), HI3.out.2.2.fr hf4 (by have := Blk.lt HI2.out.1; simp; omega)⟩
      clear hr4 hf4 HI3
      have hfold := build35 hg.1
      have hCs : (pv q).size = 35 := by rw [pv_size, hg.1]
      go_wp2_with (first | (refine wpList_load_row (by rfl) 76 _ (by rfl) w2.heap.size (by rfl) 76 (pv q) (0, 0) _ HI4.out.2.2 Tryz.underlying76 (by rfl) (size_poly hg) ?_))
      have e0 : StR.wants f 97 (zrR R) = ⟨0, 0, R.k + 1, zrs q⟩ := by unfold StR.wants; rw [if_pos (show (zrR R).e = 0 from he), if_pos (show (f (zrR R).k).c = 97 from h9), ← HQ.out]; rfl
      rw [e0]
      go_ret
      exact Or.inl ⟨rfl, _, rfl, Tree.zeros q hg HNX.out, HI4.out.1, HI4.out.2.1⟩
    · have HPK2 : Hid (pk (f R.k).c ≠ 15) := fun q => h9 (pk_15.1 q)
      refine (expect_not s (f R.k) b 15 _ HI3.out.1 HPK2.out).mono ?_
      rintro e w4 ⟨rfl, hf4⟩
      go_wp2
      refine ⟨rfl, Or.inr ?_⟩
      have e0 : StR.wants f 97 (zrR R) = ⟨4, (f R.k).at', R.k, zrs R.p⟩ := by unfold StR.wants; rw [if_pos (show (zrR R).e = 0 from he), if_neg (show ¬ (f (zrR R).k).c = 97 from h9)]; rfl
      rw [e0]
      exact ⟨by simp, rfl, HI3.out.2.1.trans hf4 (by simp)⟩
  · go_wp2
    refine ⟨rfl, Or.inr ?_⟩
    have e0 : StR.wants f 97 (zrR R) = zrR R := by unfold StR.wants; rw [if_neg (show ¬ (zrR R).e = 0 from he)]
    rw [e0]
    exact ⟨he, rfl, HI1.out.2.trans hf2 (by simp)⟩
end Go.Proofs.YthlmgpllapccfaaGreatDoor
/- THE READER: sets: parts, sets. -/
namespace Go.Proofs.YthlmgpllapccfaaGreatDoor
open Go.RowKit
variable {M : Value} {D : Int}

set_option maxRecDepth 100000 in
set_option maxHeartbeats 2000000 in
theorem rdPart_any (s : ByteArray) (f : Nat → Tok) (b : Nat) (N : World → Prop) (pc : Nat → StR) (hs : s.size ≤ 1000) (ha : Str s f) (hNf : ∀ w w', N w → Fr [b] w w' → N w') (hgr : Grow pc)
    (hpc : ∀ k w, Rd w b s M D false (f k) → N w → Calls Tryz.prog 109 #[.pointer (some ⟨b, 0, none⟩)] w (RS w b s M D f (pc k))) (k : Nat) (w : World) (hr : Rd w b s M D false (f k)) (hN : N w) :
    Calls Tryz.prog 97 #[.pointer (some ⟨b, 0, none⟩)] w (RS w b s M D f (prG f pc s.size k)) := by
  have HR := hidV hr
  have HA := hidV ha
  have HN := hidV hN
  have HP := hidV hpc
  have HNF := hidV hNf
  clear hr ha hN hpc hNf
  obtain ⟨T, HT⟩ : ∃ T, Hid (prG f pc s.size k = T) := ⟨_, hidV rfl⟩
  rw [HT.out]
  go_enter Tryz.func97, Tryz.ntmps97
  go_wp2_with fail
  refine (HP.out k _ HR.out HN.out).mono ?_
  rintro e w1 (⟨he, v, rfl, htr, hr1, hf1⟩ | ⟨he, rfl, hf1⟩)
  · have HT0 : Hid (T = prF f pc (s.size + 1) (pc k).k (pc k).b) := by unfold Hid; rw [← HT.out, prG, if_pos he]
    have HI1 : Hid (Rd w1 b s M D false (f (pc k).k) ∧ Fr [b] w w1 ∧ N w1) := ⟨hr1, hf1, HNF.out _ _ HN.out hf1⟩
    clear hr1 hf1 HT
    go_wp2
    go_loopg [3] (s.size + 1 - (pc k).k) (fun gm v3 wr => ∃ kc m : Nat, ∃ c : Nat → Bool, gm = s.size + 1 - kc ∧ Hid (Tree v3 c) ∧ Hid (T = prF f pc m kc c) ∧ s.size < kc + m ∧ Hid (Rd wr b s M D false (f kc) ∧ Fr [b] w wr ∧ N wr))
    case atStart => exact ⟨(pc k).k, s.size + 1, (pc k).b, rfl, htr, HT0, by omega, HI1⟩
    case round =>
      obtain ⟨kc, m, c, hgm, HTR, HTT, hkm, HD⟩ := hrel
      clear HT0 HI1 htr
      have c1 := HD.out.1.cells.2.1
      obtain ⟨TT, xx, hvx⟩ := HTR.out.form
      subst hvx
      by_cases h1 : (f kc).c = 42
      · have hpk : pk (f kc).c = 10 := pk_10.2 h1
        rw [hpk] at c1
        have hlt : kc < s.size := HA.out.lt (by omega)
        go_wp2_with fail
        refine (take_any s f kc b _ (by omega) HA.out HD.out.1).mono ?_
        rintro e w2 ⟨rfl, hr2, hf2⟩
        have HI2 : Hid (Rd w2 b s M D false (f (kc + 1)) ∧ Fr [b] w w2 ∧ N w2) := ⟨hr2, HD.out.2.1.trans hf2 (by simp), HNF.out _ _ HD.out.2.2 hf2⟩
        clear hr2 hf2 c1
        go_wp2_with fail
        refine (HP.out (kc + 1) _ HI2.out.1 HI2.out.2.2).mono ?_
        rintro e w3 (⟨he2, v2, rfl, htr2, hr3, hf3⟩ | ⟨he2, rfl, hf3⟩)
        · have hgk := hgr (kc + 1) he2
          have HI3 : Hid (Rd w3 b s M D false (f (pc (kc + 1)).k) ∧ Fr [b] w w3 ∧ N w3) := ⟨hr3, HI2.out.2.1.trans hf3 (by simp), HNF.out _ _ HI2.out.2.2 hf3⟩
          have HT3 : Hid (T = prF f pc (m - 1) (pc (kc + 1)).k (fun v => c v && (pc (kc + 1)).b v)) := by unfold Hid; rw [HTT.out, prF_and (by omega) h1 he2]
          obtain ⟨T2, x2, hv2⟩ := htr2.form
          subst hv2
          have HTR2 := hidV htr2
          clear hr3 hf3 htr2
          go_wp2
          go_roundg (s.size + 1 - (pc (kc + 1)).k)
          case measure => omega
          case rel => exact ⟨_, m - 1, _, rfl, Tree.both HTR.out HTR2.out, HT3, by omega, HI3⟩
        · go_wp2
          have e0 : T = pc (kc + 1) := by rw [HTT.out, prF_bad (by omega) (Or.inl h1) he2]
          rw [e0]
          exact ⟨rfl, Or.inr ⟨he2, rfl, HI2.out.2.1.trans hf3 (by simp)⟩⟩
      · by_cases h2 : (f kc).c = 49
        · have hpk : pk (f kc).c = 6 := pk_6.2 h2
          rw [hpk] at c1
          have hlt : kc < s.size := HA.out.lt (by omega)
          go_wp2_with fail
          refine (take_any s f kc b _ (by omega) HA.out HD.out.1).mono ?_
          rintro e w2 ⟨rfl, hr2, hf2⟩
          have HI2 : Hid (Rd w2 b s M D false (f (kc + 1)) ∧ Fr [b] w w2 ∧ N w2) := ⟨hr2, HD.out.2.1.trans hf2 (by simp), HNF.out _ _ HD.out.2.2 hf2⟩
          clear hr2 hf2 c1
          go_wp2_with fail
          refine (HP.out (kc + 1) _ HI2.out.1 HI2.out.2.2).mono ?_
          rintro e w3 (⟨he2, v2, rfl, htr2, hr3, hf3⟩ | ⟨he2, rfl, hf3⟩)
          · have hgk := hgr (kc + 1) he2
            have HI3 : Hid (Rd w3 b s M D false (f (pc (kc + 1)).k) ∧ Fr [b] w w3 ∧ N w3) := ⟨hr3, HI2.out.2.1.trans hf3 (by simp), HNF.out _ _ HI2.out.2.2 hf3⟩
            have HT3 : Hid (T = prF f pc (m - 1) (pc (kc + 1)).k (fun v => c v && !(pc (kc + 1)).b v)) := by unfold Hid; rw [HTT.out, prF_not (by omega) h2 he2]
            obtain ⟨T2, x2, hv2⟩ := htr2.form
            subst hv2
            have HTR2 := hidV htr2
            clear hr3 hf3 htr2
            go_wp2
            go_roundg (s.size + 1 - (pc (kc + 1)).k)
            case measure => omega
            case rel => exact ⟨_, m - 1, _, rfl, Tree.without HTR.out HTR2.out, HT3, by omega, HI3⟩
          · go_wp2
            have e0 : T = pc (kc + 1) := by rw [HTT.out, prF_bad (by omega) (Or.inr h2) he2]
            rw [e0]
            exact ⟨rfl, Or.inr ⟨he2, rfl, HI2.out.2.1.trans hf3 (by simp)⟩⟩
        · have n1 : ¬ pk (f kc).c = 10 := fun q => h1 (pk_10.1 q)
          have n2 : ¬ pk (f kc).c = 6 := fun q => h2 (pk_6.1 q)
          have HT3 : Hid (T = ⟨0, 0, kc, c⟩) := by unfold Hid; rw [HTT.out, prF_end h1 h2]
          generalize pk (f kc).c = K at c1 n1 n2
          go_wp2
          go_ret
          rw [HT3.out]
          exact Or.inl ⟨rfl, _, rfl, HTR.out, HD.out.1, HD.out.2.1⟩
  · go_wp2
    have e0 : T = pc k := by rw [← HT.out, prG, if_neg he]
    rw [e0]
    exact ⟨rfl, Or.inr ⟨he, rfl, hf1⟩⟩
set_option maxRecDepth 100000 in
set_option maxHeartbeats 2000000 in
theorem rdSet_any (s : ByteArray) (f : Nat → Tok) (b : Nat) (N : World → Prop) (pt : Nat → StR) (hs : s.size ≤ 1000) (ha : Str s f) (hNf : ∀ w w', N w → Fr [b] w w' → N w') (hgr : Grow pt)
    (hpt : ∀ k w, Rd w b s M D false (f k) → N w → Calls Tryz.prog 97 #[.pointer (some ⟨b, 0, none⟩)] w (RS w b s M D f (pt k))) (k : Nat) (w : World) (hr : Rd w b s M D false (f k)) (hN : N w) :
    Calls Tryz.prog 76 #[.pointer (some ⟨b, 0, none⟩)] w (RS w b s M D f (seG f pt s.size k)) := by
  have HR := hidV hr
  have HA := hidV ha
  have HN := hidV hN
  have HP := hidV hpt
  have HNF := hidV hNf
  clear hr ha hN hpt hNf
  obtain ⟨T, HT⟩ : ∃ T, Hid (seG f pt s.size k = T) := ⟨_, hidV rfl⟩
  rw [HT.out]
  go_enter Tryz.func76, Tryz.ntmps76
  go_wp2_with fail
  refine (HP.out k _ HR.out HN.out).mono ?_
  rintro e w1 (⟨he, v, rfl, htr, hr1, hf1⟩ | ⟨he, rfl, hf1⟩)
  · have HT0 : Hid (T = seF f pt (s.size + 1) (pt k).k (pt k).b) := by unfold Hid; rw [← HT.out, seG, if_pos he]
    have HI1 : Hid (Rd w1 b s M D false (f (pt k).k) ∧ Fr [b] w w1 ∧ N w1) := ⟨hr1, hf1, HNF.out _ _ HN.out hf1⟩
    clear hr1 hf1 HT
    go_wp2
    go_loopg [3] (s.size + 1 - (pt k).k) (fun gm v3 wr => ∃ kc m : Nat, ∃ c : Nat → Bool, gm = s.size + 1 - kc ∧ Hid (Tree v3 c) ∧ Hid (T = seF f pt m kc c) ∧ s.size < kc + m ∧ Hid (Rd wr b s M D false (f kc) ∧ Fr [b] w wr ∧ N wr))
    case atStart => exact ⟨(pt k).k, s.size + 1, (pt k).b, rfl, htr, HT0, by omega, HI1⟩
    case round =>
      obtain ⟨kc, m, c, hgm, HTR, HTT, hkm, HD⟩ := hrel
      clear HT0 HI1 htr
      have c1 := HD.out.1.cells.2.1
      obtain ⟨TT, xx, hvx⟩ := HTR.out.form
      subst hvx
      by_cases h1 : (f kc).c = 128
      · have hpk : pk (f kc).c = 9 := pk_9.2 h1
        rw [hpk] at c1
        have hlt : kc < s.size := HA.out.lt (by omega)
        go_wp2_with fail
        refine (take_any s f kc b _ (by omega) HA.out HD.out.1).mono ?_
        rintro e w2 ⟨rfl, hr2, hf2⟩
        have HI2 : Hid (Rd w2 b s M D false (f (kc + 1)) ∧ Fr [b] w w2 ∧ N w2) := ⟨hr2, HD.out.2.1.trans hf2 (by simp), HNF.out _ _ HD.out.2.2 hf2⟩
        clear hr2 hf2 c1
        go_wp2_with fail
        refine (HP.out (kc + 1) _ HI2.out.1 HI2.out.2.2).mono ?_
        rintro e w3 (⟨he2, v2, rfl, htr2, hr3, hf3⟩ | ⟨he2, rfl, hf3⟩)
        · have hgk := hgr (kc + 1) he2
          have HI3 : Hid (Rd w3 b s M D false (f (pt (kc + 1)).k) ∧ Fr [b] w w3 ∧ N w3) := ⟨hr3, HI2.out.2.1.trans hf3 (by simp), HNF.out _ _ HI2.out.2.2 hf3⟩
          have HT3 : Hid (T = seF f pt (m - 1) (pt (kc + 1)).k (fun v => c v || (pt (kc + 1)).b v)) := by unfold Hid; rw [HTT.out, seF_or (by omega) h1 he2]
          obtain ⟨T2, x2, hv2⟩ := htr2.form
          subst hv2
          have HTR2 := hidV htr2
          clear hr3 hf3 htr2
          go_wp2
          go_roundg (s.size + 1 - (pt (kc + 1)).k)
          case measure => omega
          case rel => exact ⟨_, m - 1, _, rfl, Tree.either HTR.out HTR2.out, HT3, by omega, HI3⟩
        · go_wp2
          have e0 : T = pt (kc + 1) := by rw [HTT.out, seF_bad (by omega) h1 he2]
          rw [e0]
          exact ⟨rfl, Or.inr ⟨he2, rfl, HI2.out.2.1.trans hf3 (by simp)⟩⟩
      · have n1 : ¬ pk (f kc).c = 9 := fun q => h1 (pk_9.1 q)
        have HT3 : Hid (T = ⟨0, 0, kc, c⟩) := by unfold Hid; rw [HTT.out, seF_end h1]
        generalize pk (f kc).c = K at c1 n1
        go_wp2
        go_ret
        rw [HT3.out]
        exact Or.inl ⟨rfl, _, rfl, HTR.out, HD.out.1, HD.out.2.1⟩
  · go_wp2
    have e0 : T = pt k := by rw [← HT.out, seG, if_neg he]
    rw [e0]
    exact ⟨rfl, Or.inr ⟨he, rfl, hf1⟩⟩
end Go.Proofs.YthlmgpllapccfaaGreatDoor
/- THE READER: sets: pieces. -/
namespace Go.Proofs.YthlmgpllapccfaaGreatDoor
open Go.RowKit
variable {M : Value} {D : Int}

set_option maxRecDepth 100000 in
set_option maxHeartbeats 1000000 in
theorem complement_any (s : ByteArray) (f : Nat → Tok) (b : Nat) (R : StR) (w : World) (hpc : Calls Tryz.prog 109 #[.pointer (some ⟨b, 0, none⟩)] w (RS w b s M D f R)) :
    Calls Tryz.prog 112 #[.pointer (some ⟨b, 0, none⟩)] w (RS w b s M D f (StR.neg R)) := by
  go_enter Tryz.func112, Tryz.ntmps112
  go_wp2_with fail
  refine hpc.mono ?_
  rintro e w1 (⟨he, v, rfl, htr, hr1, hf1⟩ | ⟨he, rfl, hf1⟩)
  · obtain ⟨T2, x2, hv2⟩ := htr.form
    subst hv2
    have HI := hidV (And.intro htr (And.intro hr1 hf1))
    clear htr hr1 hf1
    go_wp2
    go_ret
    exact Or.inl ⟨he, _, rfl, Tree.not HI.out.1, HI.out.2.1, HI.out.2.2⟩
  · go_wp2
    exact ⟨rfl, Or.inr ⟨he, rfl, hf1⟩⟩
set_option maxRecDepth 100000 in
set_option maxHeartbeats 1000000 in
theorem enclosed_any (s : ByteArray) (f : Nat → Tok) (b : Nat) (R : StR) (w : World) (hs : s.size ≤ 1000) (ha : Str s f) (hpc : Calls Tryz.prog 76 #[.pointer (some ⟨b, 0, none⟩)] w (RS w b s M D f R)) :
    Calls Tryz.prog 113 #[.pointer (some ⟨b, 0, none⟩)] w (RS w b s M D f (StR.wants f 45 R)) := by
  have HA := hidV ha
  clear ha
  go_enter Tryz.func113, Tryz.ntmps113
  go_wp2_with fail
  refine hpc.mono ?_
  rintro e w1 (⟨he, v, rfl, htr, hr1, hf1⟩ | ⟨he, rfl, hf1⟩)
  · have HI := hidV (And.intro htr (And.intro hr1 hf1))
    clear htr hr1 hf1
    by_cases h9 : (f R.k).c = 45
    · have HPK2 : Hid (pk (f R.k).c = 13) := pk_13.2 h9
      go_wp2_with fail
      refine (expect_ok s f R.k b 13 _ (by omega) HA.out HI.out.2.1 HPK2.out).mono ?_
      rintro e w4 ⟨rfl, hr4, hf4⟩
      have HI4 := hidV (And.intro hr4 (HI.out.2.2.trans hf4 (by simp)))
      clear hr4 hf4
      have e0 : StR.wants f 45 R = ⟨0, 0, R.k + 1, R.b⟩ := by unfold StR.wants; rw [if_pos he, if_pos h9]
      go_wp2
      go_ret
      rw [e0]
      exact Or.inl ⟨rfl, _, rfl, HI.out.1, HI4.out.1, HI4.out.2⟩
    · have HPK2 : Hid (pk (f R.k).c ≠ 13) := fun q => h9 (pk_13.1 q)
      go_wp2_with fail
      refine (expect_not s (f R.k) b 13 _ HI.out.2.1 HPK2.out).mono ?_
      rintro e w4 ⟨rfl, hf4⟩
      go_wp2
      refine ⟨rfl, Or.inr ?_⟩
      have e0 : StR.wants f 45 R = ⟨4, (f R.k).at', R.k, R.b⟩ := by unfold StR.wants; rw [if_pos he, if_neg h9]
      rw [e0]
      exact ⟨by simp, rfl, HI.out.2.2.trans hf4 (by simp)⟩
  · go_wp2
    have e0 : StR.wants f 45 R = R := by unfold StR.wants; rw [if_neg he]
    rw [e0]
    exact ⟨rfl, Or.inr ⟨he, rfl, hf1⟩⟩
set_option maxRecDepth 100000 in
set_option maxHeartbeats 1000000 in
theorem inside_any (fn : Nat) (hcf : ∀ (args : Array Value) (w : World), (callFunc fn args).run Tryz.prog w = .ok (.enter fn args) w) (s : ByteArray) (f : Nat → Tok) (b k : Nat) (R : StR) (w : World) (hs : s.size ≤ 1000) (ha : Str s f) (h0 : 0 ≤ D) (h6 : D < 6) (hr : Rd w b s M D false (f k))
    (hcall : ∀ w', Rd w' b s M (D + 1) false (f (k + 1)) → Fr [b] w w' → Calls Tryz.prog fn #[.pointer (some ⟨b, 0, none⟩)] w' (RS w' b s M (D + 1) f R)) :
    Calls Tryz.prog 111 #[.pointer (some ⟨b, 0, none⟩), .func (.func fn) #[.pointer (some ⟨b, 0, none⟩)] #[]] w (RS w b s M D f R) := by
  have HA := hidV ha
  have HR := hidV hr
  have HC := hidV hcall
  have c6 := hr.more.2.1
  have n6 : ¬ D = 6 := by omega
  clear ha hr hcall
  go_enter Tryz.func111, Tryz.ntmps111
  go_wp2_with fail
  refine (take_any s f k b _ (by omega) HA.out HR.out).mono ?_
  rintro e w1 ⟨rfl, hr1, hf1⟩
  have d6 := hr1.more.2.1
  have z6 : w1.frozen? ⟨b, 6, none⟩ = false := Blk.frozen hr1 6
  have HI1 : Hid (Rd (w1.setCell ⟨b, 6, none⟩ (.int .i64 (D + 1))) b s M (D + 1) false (f (k + 1)) ∧ Fr [b] w (w1.setCell ⟨b, 6, none⟩ (.int .i64 (D + 1)))) := ⟨Blk.set hr1 6 _, hf1.setCell _ _ (Or.inl (by simp))⟩
  clear hr1 hf1 c6
  go_wp2_with fail
  refine (HC.out _ HI1.out.1 HI1.out.2).mono ?_
  rintro e w2 (⟨he, v, rfl, htr, hr2, hf2⟩ | ⟨he, rfl, hf2⟩)
  · have e6 := hr2.more.2.1
    have y6 : w2.frozen? ⟨b, 6, none⟩ = false := Blk.frozen hr2 6
    have HI2 : Hid (Rd (w2.setCell ⟨b, 6, none⟩ (.int .i64 D)) b s M D false (f R.k) ∧ Fr [b] w (w2.setCell ⟨b, 6, none⟩ (.int .i64 D))) := ⟨Blk.set hr2 6 _, (HI1.out.2.trans hf2 (by simp)).setCell _ _ (Or.inl (by simp))⟩
    have HTR := hidV htr
    clear hr2 hf2 d6 z6 htr HI1
    go_wp2
    go_ret
    exact Or.inl ⟨he, _, rfl, HTR.out, HI2.out.1, HI2.out.2⟩
  · go_wp2
    exact ⟨rfl, Or.inr ⟨he, rfl, HI1.out.2.trans hf2 (by simp)⟩⟩
set_option maxRecDepth 100000 in
set_option maxHeartbeats 1000000 in
theorem inside_deep (fv : Value) (s : ByteArray) (t : Tok) (b : Nat) (w : World) (hr : Rd w b s M 6 false t) :
    Calls Tryz.prog 111 #[.pointer (some ⟨b, 0, none⟩), fv] w fun e w' => e = .panicked (faulty 8 t.at') ∧ Fr [b] w w' := by
  have c6 := hr.more.2.1
  have c3 := hr.cells.2.2.1
  clear hr
  go_enter Tryz.func111, Tryz.ntmps111
  go_wp2_with fail
  refine (fail_any _ _ _).mono ?_
  rintro e w2 ⟨rfl, rfl⟩
  go_wp2
  exact ⟨rfl, rfl, Fr.refl _ _⟩
/-- What a piece's reading wants: a name, or what is read of the names. -/
def PcOK (s : ByteArray) (f : Nat → Tok) (b bm : Nat) (Ms : List Nat) (st : Nat → Mng) (d : Nat) : Prop :=
  ∀ k w, Rd w b s (.map (some bm)) ((6 - d : Nat) : Int) false (f k) → Nm w Ms bm st → Calls Tryz.prog 109 #[.pointer (some ⟨b, 0, none⟩)] w (RS w b s (.map (some bm)) ((6 - d : Nat) : Int) f (pcR f s.size st d k))
set_option maxRecDepth 100000 in
set_option maxHeartbeats 1000000 in
theorem rdPiece_zeros (s : ByteArray) (f : Nat → Tok) (b k : Nat) (w : World) (hs : s.size ≤ 1000) (ha : Str s f) (hc : (f k).c = 95) (hr : Rd w b s M D false (f k)) :
    Calls Tryz.prog 109 #[.pointer (some ⟨b, 0, none⟩)] w (RS w b s M D f (StR.wants f 97 (zrR (poly f true s.size (k + 1))))) := by
  have HZ := hidV (rdZeros_any (M := M) (D := D) s f k b w hs ha hc hr)
  have c1 := hr.cells.2.1
  rw [pk_14.2 hc] at c1
  clear ha hr
  generalize StR.wants f 97 (zrR (poly f true s.size (k + 1))) = R at *
  go_enter Tryz.func109, Tryz.ntmps109
  go_wp2_with fail
  refine HZ.out.mono ?_
  rintro e w1 (⟨he, v, rfl, htr, hr1, hf1⟩ | ⟨he, rfl, hf1⟩)
  · have HI := hidV (And.intro htr (And.intro hr1 hf1))
    clear htr hr1 hf1
    go_wp2
    go_ret
    exact Or.inl ⟨he, _, rfl, HI.out.1, HI.out.2.1, HI.out.2.2⟩
  · go_wp2
    exact ⟨rfl, Or.inr ⟨he, rfl, hf1⟩⟩
set_option maxRecDepth 100000 in
set_option maxHeartbeats 1000000 in
theorem rdPiece_name (s : ByteArray) (f : Nat → Tok) (b k bm : Nat) (Ms : List Nat) (st : Nat → Mng) (w : World) (hs : s.size ≤ 1000) (ha : Str s f) (hn : Nam s f) (h1 : (f k).c ≠ 130) (h2 : (f k).c ≠ 44) (h3 : (f k).c ≠ 95) (hr : Rd w b s (.map (some bm)) D false (f k)) (hm : Nm w Ms bm st) (hbm : b ≠ bm) (hbM : b ∈ Ms) :
    Calls Tryz.prog 109 #[.pointer (some ⟨b, 0, none⟩)] w (RS w b s (.map (some bm)) D f (nmR f st k)) := by
  have HZ := hidV (namedSet_any (D := D) (O := false) s f k b bm Ms st (fun a => decide ((st a).kd = 2)) w hs ha hn hr hm hbm hbM (fun _ => rfl))
  have c1 := hr.cells.2.1
  have n1 : ¬ pk (f k).c = 11 := fun q => h1 (pk_11.1 q)
  have n2 : ¬ pk (f k).c = 12 := fun q => h2 (pk_12.1 q)
  have n3 : ¬ pk (f k).c = 14 := fun q => h3 (pk_14.1 q)
  generalize pk (f k).c = K at c1 n1 n2 n3
  have HNM : Hid ((nmS f (fun a => decide ((st a).kd = 2)) ⟨k, 0, 0⟩).e = (nmR f st k).e ∧ (nmS f (fun a => decide ((st a).kd = 2)) ⟨k, 0, 0⟩).bad = (nmR f st k).bad ∧ (nmS f (fun a => decide ((st a).kd = 2)) ⟨k, 0, 0⟩).k = (nmR f st k).k ∧ ((nmR f st k).e = 0 → (nmR f st k).b = (st ((f k).c - 69)).bit)) := by
    unfold Hid nmS nmR
    rw [if_neg (by simp)]
    by_cases q1 : isN (f k) = true
    · rw [if_pos q1, if_pos q1]
      by_cases q2 : (st ((f k).c - 69)).kd = 2
      · rw [if_pos (by simpa using q2), if_pos q2]; exact ⟨rfl, rfl, rfl, fun _ => rfl⟩
      · rw [if_neg (by simpa using q2), if_neg q2]; exact ⟨rfl, rfl, rfl, fun q => by simp at q⟩
    · rw [if_neg q1, if_neg q1]; exact ⟨rfl, rfl, rfl, fun q => by simp at q⟩
  clear ha hr hm
  generalize nmS f (fun a => decide ((st a).kd = 2)) ⟨k, 0, 0⟩ = S at *
  generalize nmR f st k = R at *
  go_enter Tryz.func109, Tryz.ntmps109
  go_wp2_with fail
  refine HZ.out.mono ?_
  rintro e w1 (⟨he, v, rfl, htr, hr1, hf1⟩ | ⟨he, rfl, hf1⟩)
  · have HI := hidV (And.intro htr (And.intro hr1 hf1))
    clear htr hr1 hf1
    go_wp2
    go_ret
    rw [HNM.out.1] at he
    refine Or.inl ⟨he, _, rfl, ?_, by rw [← HNM.out.2.2.1]; exact HI.out.2.1, HI.out.2.2⟩
    have hv := HI.out.1
    rw [HNM.out.2.2.2 he]
    cases hst : st ((f k).c - 69) with
    | non => rw [hst] at hv; simp [NV] at hv
    | sys ps => rw [hst] at hv; obtain ⟨_, _, hv, _⟩ := hv; simp at hv
    | set c =>
      rw [hst] at hv
      have hv2 : some (Value.iface 155 v) = some (.iface 155 (.agg (bv c))) := hv
      injection hv2 with hv3
      rw [hv3]
      exact Tree.set c
  · go_wp2
    rw [HNM.out.1] at he
    exact ⟨rfl, Or.inr ⟨he, by rw [HNM.out.1, HNM.out.2.1], hf1⟩⟩
set_option maxRecDepth 100000 in
set_option maxHeartbeats 1000000 in
theorem rdPiece_tilde (s : ByteArray) (f : Nat → Tok) (b k : Nat) (R : StR) (w : World) (hc : (f k).c = 130) (hr : Rd w b s M D false (f k)) (hin : Calls Tryz.prog 111 #[.pointer (some ⟨b, 0, none⟩), .func (.func 112) #[.pointer (some ⟨b, 0, none⟩)] #[]] w (RS w b s M D f R)) :
    Calls Tryz.prog 109 #[.pointer (some ⟨b, 0, none⟩)] w (RS w b s M D f R) := by
  have c1 := hr.cells.2.1
  rw [pk_11.2 hc] at c1
  clear hr
  go_enter Tryz.func109, Tryz.ntmps109
  go_wp2_with fail
  refine hin.mono ?_
  rintro e w1 (⟨he, v, rfl, htr, hr1, hf1⟩ | ⟨he, rfl, hf1⟩)
  · have HI := hidV (And.intro htr (And.intro hr1 hf1))
    clear htr hr1 hf1
    go_wp2
    go_ret
    exact Or.inl ⟨he, _, rfl, HI.out.1, HI.out.2.1, HI.out.2.2⟩
  · go_wp2
    exact ⟨rfl, Or.inr ⟨he, rfl, hf1⟩⟩
set_option maxRecDepth 100000 in
set_option maxHeartbeats 1000000 in
theorem rdPiece_open (s : ByteArray) (f : Nat → Tok) (b k : Nat) (R : StR) (w : World) (hc : (f k).c = 44) (hr : Rd w b s M D false (f k)) (hin : Calls Tryz.prog 111 #[.pointer (some ⟨b, 0, none⟩), .func (.func 113) #[.pointer (some ⟨b, 0, none⟩)] #[]] w (RS w b s M D f R)) :
    Calls Tryz.prog 109 #[.pointer (some ⟨b, 0, none⟩)] w (RS w b s M D f R) := by
  have c1 := hr.cells.2.1
  rw [pk_12.2 hc] at c1
  clear hr
  go_enter Tryz.func109, Tryz.ntmps109
  go_wp2_with fail
  refine hin.mono ?_
  rintro e w1 (⟨he, v, rfl, htr, hr1, hf1⟩ | ⟨he, rfl, hf1⟩)
  · have HI := hidV (And.intro htr (And.intro hr1 hf1))
    clear htr hr1 hf1
    go_wp2
    go_ret
    exact Or.inl ⟨he, _, rfl, HI.out.1, HI.out.2.1, HI.out.2.2⟩
  · go_wp2
    exact ⟨rfl, Or.inr ⟨he, rfl, hf1⟩⟩
/-- THE PIECES. -/
theorem rdPiece_any (s : ByteArray) (f : Nat → Tok) (b bm : Nat) (Ms : List Nat) (st : Nat → Mng) (hs : s.size ≤ 1000) (ha : Str s f) (hn : Nam s f) (hbm : b ≠ bm) (hbM : b ∈ Ms) : ∀ d, d ≤ 6 → PcOK s f b bm Ms st d := by
  have hNf : ∀ w w', Nm w Ms bm st → Fr [b] w w' → Nm w' Ms bm st := fun w w' h hf => h.fr hf (by simp; exact fun q => hbm q.symm) (by simp [hbM])
  intro d
  induction d with
  | zero =>
    intro _ k w hr hm
    have deep : (f k).c = 130 ∨ (f k).c = 44 → ∀ fv, Calls Tryz.prog 111 #[.pointer (some ⟨b, 0, none⟩), fv] w (RS w b s (.map (some bm)) ((6 - 0 : Nat) : Int) f (pcR f s.size st 0 k)) := fun h fv => (inside_deep fv s (f k) b w hr).mono (by
      rintro e w1 ⟨rfl, hf⟩
      rw [pcR_deep h]
      exact Or.inr ⟨by simp, rfl, hf⟩)
    by_cases h1 : (f k).c = 130
    · exact rdPiece_tilde s f b k _ w h1 hr (deep (Or.inl h1) _)
    · by_cases h2 : (f k).c = 44
      · exact rdPiece_open s f b k _ w h2 hr (deep (Or.inr h2) _)
      · by_cases h3 : (f k).c = 95
        · rw [pcR_zeros h3]; exact rdPiece_zeros s f b k w hs ha h3 hr
        · rw [pcR_name h1 h2 h3]; exact rdPiece_name s f b k bm Ms st w hs ha hn h1 h2 h3 hr hm hbm hbM
  | succ d ih =>
    intro hd k w hr hm
    have ih' := ih (by omega)
    have eD : ((6 - (d + 1) : Nat) : Int) + 1 = ((6 - d : Nat) : Int) := by omega
    by_cases h1 : (f k).c = 130
    · rw [pcR_tilde h1]
      refine rdPiece_tilde s f b k _ w h1 hr (inside_any 112 (fun _ _ => by kernel_rfl) s f b k _ w hs ha (by omega) (by omega) hr (fun w' hr' hf' => ?_))
      rw [eD] at hr' ⊢
      exact complement_any s f b _ w' (ih' (k + 1) w' hr' (hNf _ _ hm hf'))
    · by_cases h2 : (f k).c = 44
      · rw [pcR_open h2]
        refine rdPiece_open s f b k _ w h2 hr (inside_any 113 (fun _ _ => by kernel_rfl) s f b k _ w hs ha (by omega) (by omega) hr (fun w' hr' hf' => ?_))
        rw [eD] at hr' ⊢
        refine enclosed_any s f b _ w' hs ha ?_
        exact rdSet_any s f b (fun w => Nm w Ms bm st) (ptR f s.size st d) hs ha hNf (ptR_grow f s.size st d) (fun k w hr hm => rdPart_any s f b (fun w => Nm w Ms bm st) (pcR f s.size st d) hs ha hNf (pcR_grow f s.size st d) ih' k w hr hm) (k + 1) w' hr' (hNf _ _ hm hf')
      · by_cases h3 : (f k).c = 95
        · rw [pcR_zeros h3]; exact rdPiece_zeros s f b k w hs ha h3 hr
        · rw [pcR_name h1 h2 h3]; exact rdPiece_name s f b k bm Ms st w hs ha hn h1 h2 h3 hr hm hbm hbM
/-- A SET. -/
theorem rdSet_all (s : ByteArray) (f : Nat → Tok) (b bm k : Nat) (Ms : List Nat) (st : Nat → Mng) (w : World) (hs : s.size ≤ 1000) (ha : Str s f) (hn : Nam s f) (hbm : b ≠ bm) (hbM : b ∈ Ms) (hr : Rd w b s (.map (some bm)) 0 false (f k)) (hm : Nm w Ms bm st) :
    Calls Tryz.prog 76 #[.pointer (some ⟨b, 0, none⟩)] w (RS w b s (.map (some bm)) 0 f (stR f s.size st 6 k)) := by
  have hNf : ∀ w w', Nm w Ms bm st → Fr [b] w w' → Nm w' Ms bm st := fun w w' h hf => h.fr hf (by simp; exact fun q => hbm q.symm) (by simp [hbM])
  exact rdSet_any s f b (fun w => Nm w Ms bm st) (ptR f s.size st 6) hs ha hNf (ptR_grow f s.size st 6) (fun k w hr hm => rdPart_any s f b (fun w => Nm w Ms bm st) (pcR f s.size st 6) hs ha hNf (pcR_grow f s.size st 6) (rdPiece_any s f b bm Ms st hs ha hn hbm hbM 6 (Nat.le_refl _)) k w hr hm) k w hr hm
end Go.Proofs.YthlmgpllapccfaaGreatDoor
/- PLAIN: what any line comes to, those of sets too. -/
namespace Go.Proofs.YthlmgpllapccfaaGreatDoor

def okSt (st : Nat → Mng) : Nat → Bool := fun a => decide ((st a).kd = 2)
def stS (f : Nat → Tok) (N : Nat) (st : Nat → Mng) (s : WS) : WS := if s.e ≠ 0 then s else ⟨(stR f N st 6 s.k).k, (stR f N st 6 s.k).e, (stR f N st 6 s.k).bad⟩
def setS (st : Nat → Mng) (f : Nat → Tok) (N : Nat) : WS := enS f (stS f N st (wtS f 65 (nmS f (ok0 st) ws1)))
def showS (st : Nat → Mng) (f : Nat → Tok) : WS := enS f (nmS f (okSt st) ws1)
def hasS (st : Nat → Mng) (f : Nat → Tok) : WS := enS f (ctS f (nmS f (okSt st) ws1))
def subS (st : Nat → Mng) (f : Nat → Tok) : WS := enS f (nmS f (okSt st) (nmS f (okSt st) ws1))
def yesno (b : Bool) : List UInt8 := if b = true then [121, 101, 115] else [110, 111]
def nm2 (f : Nat → Tok) : Nat := (f 2).c - 69
/-- All of the first set in the second. -/
def withB (a b : Nat → Bool) : Bool := (List.range 7).all fun v => !a v || b v
/-- What a line comes to. -/
def lnA (st : Nat → Mng) (s : ByteArray) : LnR :=
  if 90 < s.size then ⟨2, 0, [], st⟩ else if sml s (w0 s) = false then ⟨3, w0 s, [], st⟩
  else if wd s = [115, 101, 116] then ans (setS st (lf s) s.size) [] (upd st (nm1 (lf s)) (.set (stR (lf s) s.size st 6 3).b)) st
  else if wd s = [115, 104, 111, 119] then ans (showS st (lf s)) (lsd (st (nm1 (lf s))).bit 7) st st
  else if wd s = [104, 97, 115] then ans (hasS st (lf s)) (yesno ((st (nm1 (lf s))).bit ((lf s 2).v % 7))) st st
  else if wd s = [115, 117, 98] then ans (subS st (lf s)) (yesno (withB (st (nm1 (lf s))).bit (st (nm2 (lf s))).bit)) st st
  else lnR st s
end Go.Proofs.YthlmgpllapccfaaGreatDoor
/- A REGION THAT DRAWS ITS ORDER, ONE OF WHOSE CALLS PANICS: the operations that may come ahead of it yield the same in every world of a class. -/
namespace Go.Proofs.YthlmgpllapccfaaGreatDoor
open Go
section
variable {P : Program} {ops : Array Oper} {md : Region.Mode} {C : World → Prop}

/-- In every world of the class the operation is a call that panics. -/
def Pan (P : Program) (C : World → Prop) (R : List PanicEntry → World → Prop) (o : Oper) (a : Act) : Prop :=
  ∀ w, C w → ∃ f args, (execOp a.eval o).run P w = .ok (.enter f args) w ∧ Calls P f args w (fun e w' => ∃ ch, e = .panicked ch ∧ R ch w')
/-- f operations more may come up ahead of m. -/
def headP (P : Program) (md : Region.Mode) (ops : Array Oper) (C : World → Prop) (R : List PanicEntry → World → Prop) (m : Nat) (om : Oper) : Nat → Array Bool → Act → Prop
  | 0, _, _ => False
  | f + 1, listed, a => Region.ready md ops listed ≠ [] ∧ ∀ i ∈ Region.ready md ops listed, (i = m ∧ Pan P C R om a) ∨ (i ≠ m ∧ qOp P ops C i (headP P md ops C R m om f (listed.setIfInBounds i true)) a)

theorem any_of_headP {m : Nat} {om : Oper} {R : List PanicEntry → World → Prop} {Q : Exit → Act → World → Prop} {d : List Deferred} (hom : ops[m]? = some om) (hgd : om.guard = none) (hQ : ∀ (a : Act) ch w, a.defers = d → R ch w → Q (.panic ch) a w) :
    ∀ (f g : Nat) (listed : Array Bool) (a : Act) (w : World), a.defers = d → C w → headP P md ops C R m om f listed a → wpAny P md ops Q (f + g) listed a w := by
  intro f
  induction f with
  | zero => intro g listed a w _ hw h; exact h.elim
  | succ f ih =>
    intro g listed a w hd hw h
    rw [Nat.add_right_comm]
    refine ⟨fun e => absurd e h.1, fun i hi => ?_⟩
    rcases h.2 i hi with ⟨rfl, h2⟩ | ⟨_, h2⟩
    · unfold wpOp
      simp only [hom]
      rw [if_pos (by unfold Region.wanted; rw [hgd])]
      obtain ⟨fn, args, hr, hc⟩ := h2 w hw
      refine .inl ?_
      unfold Oper.wp
      rw [hr]
      exact hc.mono fun e w' hh => by
        obtain ⟨ch, he, hR⟩ := hh
        subst he
        exact hQ a ch w' hd hR
    · obtain ⟨_, oi, hoi, _⟩ := mem_ready.1 hi
      obtain ⟨v, hy, hK⟩ := yieldsIn_of_qOp hoi h2
      have hd' : (a.put oi.dst v).defers = d := by
        cases oi.dst <;> exact hd
      exact wpOp_of_qOp (K := fun a' => headP P md ops C R m om f (listed.setIfInBounds i true) a' ∧ a'.defers = d) hw (fun a' w' hw' h' => ih g _ a' w' h'.2 hw' h'.1) (hy.qOp hoi ⟨hK, hd'⟩)

theorem headP_first {m i : Nat} {oi om : Oper} {v : Value} {R : List PanicEntry → World → Prop} (hi : ops[i]? = some oi) (hom : ops[m]? = some om) (him : i ≠ m) (hsel : ∀ (j : Nat) (o : Oper) cs b, ops[j]? = some o → o.op ≠ .select cs b) :
    ∀ (f : Nat) (listed : Array Bool) (a : Act),
      (∀ j oj, ops[j]? = some oj → j ≠ i → listed.getD j true = false → (∀ e ∈ oj.after, Region.binds md e = true → e.on ≠ i) → oi.apart ops oj = true) →
      i ∈ Region.ready md ops listed → YieldsIn P ops C oi v a →
      headP P md ops C R m om f (listed.setIfInBounds i true) (a.put oi.dst v) → headP P md ops C R m om (f + 1) listed a := by
  intro f
  induction f with
  | zero => intro listed a hfree hr hy H; exact H.elim
  | succ f ih =>
    intro listed a hfree hr hy H
    have hun := (mem_ready.1 hr).1
    refine ⟨List.ne_nil_of_mem hr, fun j hj => ?_⟩
    obtain ⟨hjun, oj, hoj, hall⟩ := mem_ready.1 hj
    by_cases hji : j = i
    · exact .inr ⟨by rw [hji]; exact him, by rw [hji]; exact hy.qOp hi H⟩
    · have hno : ∀ e ∈ oj.after, Region.binds md e = true → e.on ≠ i := fun e he hb heq => by
        have := hall e he hb
        rw [heq, getD_both hun] at this
        exact Bool.false_ne_true this
      have hap := hfree j oj hoj hji hjun hno
      have hfree' : ∀ k ok, ops[k]? = some ok → k ≠ i → (listed.setIfInBounds j true).getD k true = false → (∀ e ∈ ok.after, Region.binds md e = true → e.on ≠ i) → oi.apart ops ok = true :=
        fun k ok hk hki hunk hnk => hfree k ok hk hki (by
          by_cases hjk : j = k
          · rw [← hjk]; exact hjun
          · rw [getD_set_ne true hjk] at hunk; exact hunk) hnk
      obtain ⟨p1, p2, p3⟩ := Oper.apart_spec hap
      rcases H.2 j (ready_mono hj hji) with ⟨e1, k1⟩ | ⟨e1, k1⟩
      · refine .inl ⟨e1, fun w hw => ?_⟩
        have hojm : oj = om := Option.some.inj (hoj.symm.trans (by rw [e1]; exact hom))
        obtain ⟨fn, args, hrun, hc⟩ := k1 w hw
        rw [← hojm, execOp_put oj (fun cs b => hsel j oj cs b hoj) a oi.dst v p1] at hrun
        exact ⟨fn, args, by rw [← hojm]; exact hrun, hc⟩
      · refine .inr ⟨e1, ?_⟩
        have hsi : ∀ cs b, oi.op ≠ .select cs b := fun cs b => hsel i oi cs b hi
        have hsj : ∀ cs b, oj.op ≠ .select cs b := fun cs b => hsel j oj cs b hoj
        have k2 := qOp_put hoj hap hsi hsj hy k1
        obtain ⟨u, hu, k3, k4⟩ := yieldsIn_of_qOp hoj k2
        refine hu.qOp hoj (ih (listed.setIfInBounds j true) _ hfree' (ready_mono hr (Ne.symm hji)) k3 ?_)
        rw [Array.setIfInBounds_comm _ _ hji]; exact k4

/-- The first m come up in the text's order, each free; then m alone. -/
def panB (md : Region.Mode) (ops : Array Oper) : Nat → Nat → Array Bool → Bool
  | 0, k, listed => decide (Region.ready md ops listed = [k])
  | f + 1, k, listed => (Region.ready md ops listed).contains k && Region.free md ops listed k && panB md ops f (k + 1) (listed.setIfInBounds k true)
theorem headP_lex {m : Nat} {om : Oper} {R : List PanicEntry → World → Prop} (hsel : Region.noSelect ops = true) (hom : ops[m]? = some om) :
    ∀ (l : List Oper) (k : Nat) (listed : Array Bool) (a : Act), (∀ j, j < l.length → l[j]? = ops[k + j]?) → k + l.length = m → panB md ops l.length k listed = true → wpQuiet P ops C (Pan P C R om) l a →
    headP P md ops C R m om (l.length + 1) listed a := by
  intro l
  induction l with
  | nil =>
    intro k listed a _ hk hB h
    have e : k = m := by simpa using hk
    subst e
    have hr : Region.ready md ops listed = [k] := by simpa [panB] using hB
    refine ⟨by rw [hr]; simp, fun i hi => ?_⟩
    rw [hr] at hi
    exact .inl ⟨by simpa using hi, h⟩
  | cons o l ih =>
    intro k listed a hl hk hB h
    have h0 : ops[k]? = some o := by simpa using (hl 0 (by simp)).symm
    rw [List.length_cons, panB] at hB
    simp only [Bool.and_eq_true] at hB
    simp only [List.length_cons] at hk
    have hr : k ∈ Region.ready md ops listed := by simpa using hB.1.1
    have hq : qOp P ops C k (wpQuiet P ops C (Pan P C R om) l) a := by unfold qOp; simp only [h0]; exact h
    obtain ⟨v, hy, hK⟩ := yieldsIn_of_qOp h0 hq
    refine headP_first h0 hom (by omega) (Region.noSelect_spec hsel) (l.length + 1) listed a (Region.free_spec h0 hB.1.2) hr hy ?_
    refine ih (k + 1) _ _ (fun j hj => ?_) (by omega) hB.2 hK
    have := hl (j + 1) (by simp; omega)
    rw [show k + 1 + j = k + (j + 1) by omega, ← this]; simp
/-- THE LAW. -/
theorem region_panics {id : Nat} {Q : Exit → Act → World → Prop} {a : Act} {w : World} {l : List Oper} (C : World → Prop) (R : List PanicEntry → World → Prop) (m : Nat) (om : Oper) (hC : C w.drew) (hm : P.follows .mixedOrders = true)
    (hB : (Region.noSelect l.toArray && panB .any l.toArray m 0 (Array.replicate l.toArray.size false)) = true) (hom : l.toArray[m]? = some om) (hgd : om.guard = none) (hQ : ∀ (a' : Act) ch w, a'.defers = a.defers → R ch w → Q (.panic ch) a' w)
    (h : wpQuiet P l.toArray C (Pan P C R om) (l.take m) a) : (Code.region id l.toArray true).wp P Q a w := by
  simp only [Bool.and_eq_true] at hB
  have hn : m < l.length := by
    have := (Array.getElem?_eq_some_iff.1 hom).1
    simpa using this
  have htl : (l.take m).length = m := by simp; omega
  have H := headP_lex (md := .any) hB.1 hom (l.take m) 0 (Array.replicate l.toArray.size false) a (fun j hj => by
      rw [htl] at hj
      simp [hj]) (by omega) (by rw [htl]; exact hB.2) h
  refine wp_region_any hm ?_
  have K := any_of_headP (Q := Q) hom hgd hQ (m + 1) (l.toArray.size - (m + 1)) (Array.replicate l.toArray.size false) a { w with drawn := w.drawn + 1 } rfl hC (by rw [htl] at H; exact H)
  rw [show m + 1 + (l.toArray.size - (m + 1)) = l.toArray.size by simp; omega] at K
  exact K
end
end Go.Proofs.YthlmgpllapccfaaGreatDoor
