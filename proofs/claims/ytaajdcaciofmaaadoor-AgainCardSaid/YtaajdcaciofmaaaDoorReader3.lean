/- THE READER: term. -/
import Derived.Test.YtaajdcaciofmaaaDoorReader2
import Derived.Test.YtaajdcaciofmaaaDoorParse
import Derived.Deep.LoopGhost
namespace Go.Proofs.YtaajdcaciofmaaaDoor
open Go.RowKit

theorem pk_ne1 {c : Nat} (h : c ≠ 1) : (pk c == 1) = false := by
  rw [beq_eq_false_iff_ne]; unfold pk
  repeat' split
  all_goals omega
theorem pk_ne2 {c : Nat} (h : c ≠ 2) : (pk c == 2) = false := by
  rw [beq_eq_false_iff_ne]; unfold pk
  repeat' split
  all_goals omega
theorem pk_ne3 {c : Nat} (h : c ≠ 3) : (pk c == 3) = false := by
  rw [beq_eq_false_iff_ne]; unfold pk
  repeat' split
  all_goals omega
def faulty (n at' : Int) : List PanicEntry := [{ v := .iface 55 (.agg #[.int .i64 n, .int .i64 at']), recovered := false }]

theorem power_uOk (s : ByteArray) (a k b : Nat) (u x : Nat) (N : Int) (w : World) (hs : s.size ≤ 1000) (ha : a ≤ s.size) (hr : Rd w b s (tk s a k)) (hc : (tk s a k).c = 2) (hu : u ≤ 6) (hx : x ≤ 4) (h : u + (tk s a k).v ≤ 6) :
    Calls Tryd.prog 66 #[.pointer (some ⟨b, 0, none⟩), .agg #[.int .i64 N, .int .i64 u, .int .i64 x]] w fun e w' =>
      e = .returned (.agg #[.int .i64 N, .int .i64 ((u + (tk s a k).v : Nat) : Int), .int .i64 x]) ∧ Rd w' b s (tk s a (k + 1)) ∧ Fr [b] w w' :=
  (power_u s a k b u x N w hs ha hr hc hu hx).mono (by rintro e w1 (g | g); exact g.2; exact absurd h g.1)
theorem power_uBad (s : ByteArray) (a k b : Nat) (u x : Nat) (N : Int) (w : World) (hs : s.size ≤ 1000) (ha : a ≤ s.size) (hr : Rd w b s (tk s a k)) (hc : (tk s a k).c = 2) (hu : u ≤ 6) (hx : x ≤ 4) (h : ¬ u + (tk s a k).v ≤ 6) :
    Calls Tryd.prog 66 #[.pointer (some ⟨b, 0, none⟩), .agg #[.int .i64 N, .int .i64 u, .int .i64 x]] w fun e w' =>
      e = .panicked (faulty 5 (tk s a k).at') ∧ Fr [b] w w' :=
  (power_u s a k b u x N w hs ha hr hc hu hx).mono (by rintro e w1 (g | g); exact absurd g.1 h; exact g.2)
theorem power_xOk (s : ByteArray) (a k b : Nat) (u x : Nat) (N : Int) (w : World) (hs : s.size ≤ 1000) (ha : a ≤ s.size) (hr : Rd w b s (tk s a k)) (hc : (tk s a k).c = 3) (hu : u ≤ 6) (hx : x ≤ 4) (h : x + (tk s a k).v ≤ 4) :
    Calls Tryd.prog 66 #[.pointer (some ⟨b, 0, none⟩), .agg #[.int .i64 N, .int .i64 u, .int .i64 x]] w fun e w' =>
      e = .returned (.agg #[.int .i64 N, .int .i64 u, .int .i64 ((x + (tk s a k).v : Nat) : Int)]) ∧ Rd w' b s (tk s a (k + 1)) ∧ Fr [b] w w' :=
  (power_x s a k b u x N w hs ha hr hc hu hx).mono (by rintro e w1 (g | g); exact g.2; exact absurd h g.1)
theorem power_xBad (s : ByteArray) (a k b : Nat) (u x : Nat) (N : Int) (w : World) (hs : s.size ≤ 1000) (ha : a ≤ s.size) (hr : Rd w b s (tk s a k)) (hc : (tk s a k).c = 3) (hu : u ≤ 6) (hx : x ≤ 4) (h : ¬ x + (tk s a k).v ≤ 4) :
    Calls Tryd.prog 66 #[.pointer (some ⟨b, 0, none⟩), .agg #[.int .i64 N, .int .i64 u, .int .i64 x]] w fun e w' =>
      e = .panicked (faulty 5 (tk s a k).at') ∧ Fr [b] w w' :=
  (power_x s a k b u x N w hs ha hr hc hu hx).mono (by rintro e w1 (g | g); exact absurd g.1 h; exact g.2)

theorem field_tok (x0 x1 x2 x3 : Int) (w : World) : (Instr.field 88 (.agg #[.int .i64 x0, .int .i64 x1, .int .i64 x2, .int .i64 x3]) 3).run Tryd.prog w = .ok (.int .i64 x3) w := by kernel_rfl
/-- What a term's reading ends in. -/
def TermPost (s : ByteArray) (a b : Nat) (n : Nat) (R : PwR) (w : World) (e : Ending) (w' : World) : Prop :=
  (R.e = 0 ∧ e = .returned (.agg #[.int .i64 n, .int .i64 R.u, .int .i64 R.x]) ∧ Rd w' b s (tk s a R.k) ∧ Fr [b] w w') ∨ (R.e ≠ 0 ∧ e = .panicked (faulty R.e R.bad) ∧ Fr [b] w w')

set_option maxRecDepth 100000 in
set_option maxHeartbeats 2000000 in
theorem term_number (s : ByteArray) (a k b : Nat) (w : World) (hs : s.size ≤ 1000) (ha : a ≤ s.size) (hr : Rd w b s (tk s a k)) (hc : (tk s a k).c = 1) :
    Calls Tryd.prog 43 #[.pointer (some ⟨b, 0, none⟩)] w (TermPost s a b (tk s a k).v (pw (tk s a) false (s.size - (k + 1)) (k + 1) 0 0) w) := by
  obtain ⟨c0, c1, c2, c3, c4⟩ := hr.cells
  obtain ⟨f0, f1, f2, f3, f4⟩ := hr.free
  have hb : b < w.heap.size := Blk.lt hr
  have hf := tk_facts ha k
  have n0 : ¬ b = w.heap.size := by omega
  have n1 : ¬ b = w.heap.size + 1 := by omega
  have m0 : ¬ w.heap.size = b := by omega
  have m1 : ¬ w.heap.size + 1 = b := by omega
  have HR : Hid (Rd w b s (tk s a k)) := hr
  have hpk : pk (tk s a k).c = 1 := by rw [hc]; rfl
  rw [hpk] at c1
  generalize hR : pw (tk s a) false (s.size - (k + 1)) (k + 1) 0 0 = R
  have HP : Hid (pw (tk s a) false (s.size - (k + 1)) (k + 1) 0 0 = R) := hR
  have hfl := field_tok
  clear hr hpk hc hR
  go_enter Tryd.func43, Tryd.ntmps43
  go_wp2_with fail
  refine (take_any s a k b _ (by omega) (by omega) (by exact Blk.alloc (Blk.alloc HR.out _) _)).mono ?_
  rintro e w1 ⟨rfl, hr1, hfr⟩
  have ht : Blk w1 (w.heap.size + 1) #[.int .i64 1, .int .i64 0, .int .i64 0] 64 := Blk.fr (by exact Blk.newAt _ _ _ (by simp)) hfr (by simp [m1])
  have hq : Blk w1 w.heap.size #[.int .i64 0, .int .i64 0, .int .i64 0] 64 := Blk.fr (by exact Blk.alloc (Blk.new w _ _) _) hfr (by simp [m0])
  have hf1 : Fr [b] w w1 := ((((Fr.refl [b] w).alloc _).alloc _)).trans hfr (by simp)
  obtain ⟨p0, p1, p2⟩ := ht.cells3
  obtain ⟨g0, g1, g2⟩ := ht.free3
  go_wp2
  clear c0 c1 c2 c3 c4 f0 f1 f2 f3 f4 p0 p1 p2 g0 g1 g2 hfl
  go_loopg [] (s.size - (k + 1)) (fun m wr => ∃ k' u x : Nat, m = s.size - k' ∧ u ≤ 6 ∧ x ≤ 4 ∧ Rd wr b s (tk s a k') ∧ Blk wr (w.heap.size + 1) #[.int .i64 ((tk s a k).v : Nat), .int .i64 u, .int .i64 x] 64 ∧ Blk wr w.heap.size #[.int .i64 0, .int .i64 0, .int .i64 0] 64 ∧ Fr [b] w wr ∧ Hid (pw (tk s a) false (s.size - k') k' u x = R))
  case atStart => exact ⟨k + 1, 0, 0, rfl, by omega, by omega, hr1.setOther _ _ n1, ht.set 0 _, hq.setOther _ _ (by simp), hf1.setCell _ _ (by simp), HP⟩
  case round =>
    obtain ⟨k', u, x, hm, hu, hx, hrd, htm, hrs, hfw, HQ⟩ := hrel
    have HRD : Hid (Rd wr b s (tk s a k')) := hrd
    obtain ⟨d0, d1, d2, d3, d4⟩ := hrd.cells
    obtain ⟨i0, i1, i2⟩ := htm.cells3
    have hf' := tk_facts ha k'
    clear hrd
    by_cases h2 : (tk s a k').c = 2
    · have hp2 : pk (tk s a k').c = 2 := by rw [h2]; rfl
      rw [hp2] at d1
      have hlt : k' < s.size := tk_lt ha (by omega)
      have H2 : Hid ((tk s a k').c = 2) := h2
      clear h2 hp2
      by_cases hle : u + (tk s a k').v ≤ 6
      · go_wp2_with fail
        refine (power_uOk s a k' b u x _ _ (by omega) ha HRD.out H2.out hu hx hle).mono ?_
        rintro e w2 ⟨rfl, hr2, hfr2⟩
        have ht2 := htm.fr hfr2 (by simp [m1])
        have hq2 := hrs.fr hfr2 (by simp [m0])
        obtain ⟨j0, j1, j2⟩ := ht2.cells3
        obtain ⟨l0, l1, l2⟩ := ht2.free3
        go_wp2
        go_roundg (s.size - (k' + 1))
        case measure => omega
        case rel =>
          refine ⟨k' + 1, u + (tk s a k').v, x, rfl, hle, hx, ((hr2.setOther _ _ n1).setOther _ _ n1).setOther _ _ n1, Blk.store3 ht2 _ _ _, ((hq2.setOther _ _ (by simp)).setOther _ _ (by simp)).setOther _ _ (by simp), ?_, ?_⟩
          · repeat (refine Fr.setCell ?_ _ _ (by simp))
            exact hfw.trans hfr2 (by simp)
          · unfold Hid
            rw [← HQ.out, pw_u (by omega) H2.out hle]; congr 1
      · have HB : Hid (R = ⟨5, (tk s a k').at', k', u, x⟩) := by unfold Hid; rw [← HQ.out, pw_u_bad (by omega) H2.out hle]
        go_wp2_with fail
        refine (power_uBad s a k' b u x _ _ (by omega) ha HRD.out H2.out hu hx hle).mono ?_
        rintro e w2 ⟨rfl, hfr2⟩
        go_wp2
        refine ⟨rfl, Or.inr ⟨?_, ?_, hfw.trans hfr2 (by simp)⟩⟩
        · rw [HB.out]; simp
        · rw [HB.out]; rfl
    · by_cases h3 : (tk s a k').c = 3
      · have hp3 : pk (tk s a k').c = 3 := by rw [h3]; rfl
        rw [hp3] at d1
        have hlt : k' < s.size := tk_lt ha (by omega)
        have H3 : Hid ((tk s a k').c = 3) := h3
        clear h3 hp3 h2
        by_cases hle : x + (tk s a k').v ≤ 4
        · go_wp2_with fail
          refine (power_xOk s a k' b u x _ _ (by omega) ha HRD.out H3.out hu hx hle).mono ?_
          rintro e w2 ⟨rfl, hr2, hfr2⟩
          have ht2 := htm.fr hfr2 (by simp [m1])
          have hq2 := hrs.fr hfr2 (by simp [m0])
          obtain ⟨j0, j1, j2⟩ := ht2.cells3
          obtain ⟨l0, l1, l2⟩ := ht2.free3
          go_wp2
          go_roundg (s.size - (k' + 1))
          case measure => omega
          case rel =>
            refine ⟨k' + 1, u, x + (tk s a k').v, rfl, hu, hle, ((hr2.setOther _ _ n1).setOther _ _ n1).setOther _ _ n1, Blk.store3 ht2 _ _ _, ((hq2.setOther _ _ (by simp)).setOther _ _ (by simp)).setOther _ _ (by simp), ?_, ?_⟩
            · repeat (refine Fr.setCell ?_ _ _ (by simp))
              exact hfw.trans hfr2 (by simp)
            · unfold Hid
              rw [← HQ.out, pw_x (by omega) H3.out hle]; congr 1
        · have HB : Hid (R = ⟨5, (tk s a k').at', k', u, x⟩) := by unfold Hid; rw [← HQ.out, pw_x_bad (by omega) H3.out hle]
          go_wp2_with fail
          refine (power_xBad s a k' b u x _ _ (by omega) ha HRD.out H3.out hu hx hle).mono ?_
          rintro e w2 ⟨rfl, hfr2⟩
          go_wp2
          refine ⟨rfl, Or.inr ⟨?_, ?_, hfw.trans hfr2 (by simp)⟩⟩
          · rw [HB.out]; simp
          · rw [HB.out]; rfl
      · have q2 := pk_ne2 h2
        have q3 := pk_ne3 h3
        have HB : Hid (R = ⟨0, 0, k', u, x⟩) := by unfold Hid; rw [← HQ.out, pw_end h2 h3]
        obtain ⟨o0, o1, o2⟩ := hrs.cells3
        obtain ⟨l0, l1, l2⟩ := hrs.free3
        clear h2 h3
        go_wp2
        refine bodyPost_ret (results_cell_row Tryd.results43 _ _ w.heap.size 64 _ (0, 0) _ (by rfl) (Blk.store3 hrs _ _ _) Tryd.underlying64 rfl (by kernel_rfl)) rfl (Or.inl ⟨?_, ?_, ?_, ?_⟩)
        · rw [HB.out]
        · first | (rw [HB.out]; done) | (rw [HB.out]; rfl)
        · rw [HB.out]; exact (((show Rd wr b s (tk s a k') from HRD.out).setOther _ _ n0).setOther _ _ n0).setOther _ _ n0
        · repeat (refine Fr.setCell ?_ _ _ (by simp))
          exact hfw

set_option maxRecDepth 100000 in
set_option maxHeartbeats 2000000 in
theorem term_power (s : ByteArray) (a k b : Nat) (w : World) (hs : s.size ≤ 1000) (ha : a ≤ s.size) (hr : Rd w b s (tk s a k)) (hc : (tk s a k).c = 2 ∨ (tk s a k).c = 3) :
    Calls Tryd.prog 43 #[.pointer (some ⟨b, 0, none⟩)] w (TermPost s a b 1 (pw (tk s a) false (s.size - k) k 0 0) w) := by
  obtain ⟨c0, c1, c2, c3, c4⟩ := hr.cells
  obtain ⟨f0, f1, f2, f3, f4⟩ := hr.free
  have hb : b < w.heap.size := Blk.lt hr
  have hf := tk_facts ha k
  have n0 : ¬ b = w.heap.size := by omega
  have n1 : ¬ b = w.heap.size + 1 := by omega
  have m0 : ¬ w.heap.size = b := by omega
  have m1 : ¬ w.heap.size + 1 = b := by omega
  have HR : Hid (Rd w b s (tk s a k)) := hr
  have hpk : pk (tk s a k).c = 2 ∨ pk (tk s a k).c = 3 := by rcases hc with h | h <;> rw [h] <;> simp [pk]
  generalize hR : pw (tk s a) false (s.size - k) k 0 0 = R
  have HP : Hid (pw (tk s a) false (s.size - k) k 0 0 = R) := hR
  clear hr hc hR
  rcases hpk with hpk | hpk
  all_goals
    rw [hpk] at c1
    clear hpk
    go_enter Tryd.func43, Tryd.ntmps43
    go_wp2
    clear c0 c1 c2 c3 c4 f0 f1 f2 f3 f4
    go_loopg [] (s.size - k) (fun m wr => ∃ k' u x : Nat, m = s.size - k' ∧ u ≤ 6 ∧ x ≤ 4 ∧ Rd wr b s (tk s a k') ∧ Blk wr (w.heap.size + 1) #[.int .i64 1, .int .i64 u, .int .i64 x] 64 ∧ Blk wr w.heap.size #[.int .i64 0, .int .i64 0, .int .i64 0] 64 ∧ Fr [b] w wr ∧ Hid (pw (tk s a) false (s.size - k') k' u x = R))
    case atStart => exact ⟨k, 0, 0, rfl, by omega, by omega, Blk.alloc (Blk.alloc HR.out _) _, Blk.newAt _ _ _ (by simp), Blk.alloc (Blk.new w _ _) _, ((Fr.refl [b] w).alloc _).alloc _, HP⟩
    case round =>
      obtain ⟨k', u, x, hm, hu, hx, hrd, htm, hrs, hfw, HQ⟩ := hrel
      have HRD : Hid (Rd wr b s (tk s a k')) := hrd
      obtain ⟨d0, d1, d2, d3, d4⟩ := hrd.cells
      obtain ⟨i0, i1, i2⟩ := htm.cells3
      have hf' := tk_facts ha k'
      clear hrd
      by_cases h2 : (tk s a k').c = 2
      · have hp2 : pk (tk s a k').c = 2 := by rw [h2]; rfl
        rw [hp2] at d1
        have hlt : k' < s.size := tk_lt ha (by omega)
        have H2 : Hid ((tk s a k').c = 2) := h2
        clear h2 hp2
        by_cases hle : u + (tk s a k').v ≤ 6
        · go_wp2_with fail
          refine (power_uOk s a k' b u x _ _ (by omega) ha HRD.out H2.out hu hx hle).mono ?_
          rintro e w2 ⟨rfl, hr2, hfr2⟩
          have ht2 := htm.fr hfr2 (by simp [m1])
          have hq2 := hrs.fr hfr2 (by simp [m0])
          obtain ⟨j0, j1, j2⟩ := ht2.cells3
          obtain ⟨l0, l1, l2⟩ := ht2.free3
          go_wp2
          go_roundg (s.size - (k' + 1))
          case measure => omega
          case rel =>
            refine ⟨k' + 1, u + (tk s a k').v, x, rfl, hle, hx, ((hr2.setOther _ _ n1).setOther _ _ n1).setOther _ _ n1, Blk.store3 ht2 _ _ _, ((hq2.setOther _ _ (by simp)).setOther _ _ (by simp)).setOther _ _ (by simp), ?_, ?_⟩
            · repeat (refine Fr.setCell ?_ _ _ (by simp))
              exact hfw.trans hfr2 (by simp)
            · unfold Hid
              rw [← HQ.out, pw_u (by omega) H2.out hle]; congr 1
        · have HB : Hid (R = ⟨5, (tk s a k').at', k', u, x⟩) := by unfold Hid; rw [← HQ.out, pw_u_bad (by omega) H2.out hle]
          go_wp2_with fail
          refine (power_uBad s a k' b u x _ _ (by omega) ha HRD.out H2.out hu hx hle).mono ?_
          rintro e w2 ⟨rfl, hfr2⟩
          go_wp2
          refine ⟨rfl, Or.inr ⟨?_, ?_, hfw.trans hfr2 (by simp)⟩⟩
          · rw [HB.out]; simp
          · rw [HB.out]; rfl
      · by_cases h3 : (tk s a k').c = 3
        · have hp3 : pk (tk s a k').c = 3 := by rw [h3]; rfl
          rw [hp3] at d1
          have hlt : k' < s.size := tk_lt ha (by omega)
          have H3 : Hid ((tk s a k').c = 3) := h3
          clear h3 hp3 h2
          by_cases hle : x + (tk s a k').v ≤ 4
          · go_wp2_with fail
            refine (power_xOk s a k' b u x _ _ (by omega) ha HRD.out H3.out hu hx hle).mono ?_
            rintro e w2 ⟨rfl, hr2, hfr2⟩
            have ht2 := htm.fr hfr2 (by simp [m1])
            have hq2 := hrs.fr hfr2 (by simp [m0])
            obtain ⟨j0, j1, j2⟩ := ht2.cells3
            obtain ⟨l0, l1, l2⟩ := ht2.free3
            go_wp2
            go_roundg (s.size - (k' + 1))
            case measure => omega
            case rel =>
              refine ⟨k' + 1, u, x + (tk s a k').v, rfl, hu, hle, ((hr2.setOther _ _ n1).setOther _ _ n1).setOther _ _ n1, Blk.store3 ht2 _ _ _, ((hq2.setOther _ _ (by simp)).setOther _ _ (by simp)).setOther _ _ (by simp), ?_, ?_⟩
              · repeat (refine Fr.setCell ?_ _ _ (by simp))
                exact hfw.trans hfr2 (by simp)
              · unfold Hid
                rw [← HQ.out, pw_x (by omega) H3.out hle]; congr 1
          · have HB : Hid (R = ⟨5, (tk s a k').at', k', u, x⟩) := by unfold Hid; rw [← HQ.out, pw_x_bad (by omega) H3.out hle]
            go_wp2_with fail
            refine (power_xBad s a k' b u x _ _ (by omega) ha HRD.out H3.out hu hx hle).mono ?_
            rintro e w2 ⟨rfl, hfr2⟩
            go_wp2
            refine ⟨rfl, Or.inr ⟨?_, ?_, hfw.trans hfr2 (by simp)⟩⟩
            · rw [HB.out]; simp
            · rw [HB.out]; rfl
        · have q2 := pk_ne2 h2
          have q3 := pk_ne3 h3
          have HB : Hid (R = ⟨0, 0, k', u, x⟩) := by unfold Hid; rw [← HQ.out, pw_end h2 h3]
          obtain ⟨o0, o1, o2⟩ := hrs.cells3
          obtain ⟨l0, l1, l2⟩ := hrs.free3
          clear h2 h3
          go_wp2
          refine bodyPost_ret (results_cell_row Tryd.results43 _ _ w.heap.size 64 _ (0, 0) _ (by rfl) (Blk.store3 hrs _ _ _) Tryd.underlying64 rfl (by kernel_rfl)) rfl (Or.inl ⟨?_, ?_, ?_, ?_⟩)
          · rw [HB.out]
          · first | (rw [HB.out]; done) | (rw [HB.out]; rfl)
          · rw [HB.out]; exact (((show Rd wr b s (tk s a k') from HRD.out).setOther _ _ n0).setOther _ _ n0).setOther _ _ n0
          · repeat (refine Fr.setCell ?_ _ _ (by simp))
            exact hfw

set_option maxRecDepth 100000 in
set_option maxHeartbeats 1000000 in
theorem term_bad (s : ByteArray) (a k b : Nat) (w : World) (hr : Rd w b s (tk s a k)) (hc : (tk s a k).c ≠ 1 ∧ (tk s a k).c ≠ 2 ∧ (tk s a k).c ≠ 3) :
    Calls Tryd.prog 43 #[.pointer (some ⟨b, 0, none⟩)] w fun e w' => e = .panicked (faulty 4 (tk s a k).at') ∧ Fr [b] w w' := by
  obtain ⟨c0, c1, c2, c3, c4⟩ := hr.cells
  have HR : Hid (Rd w b s (tk s a k)) := hr
  obtain ⟨h1, h2, h3⟩ := hc
  have hb : b < w.heap.size := Blk.lt hr
  have q1 := pk_ne1 h1
  have q2 := pk_ne2 h2
  have q3 := pk_ne3 h3
  clear hr h1 h2 h3
  go_enter Tryd.func43, Tryd.ntmps43
  go_wp2_with fail
  refine (fail_any s (tk s a k) b _ _ (by exact Blk.alloc (Blk.alloc HR.out _) _)).mono ?_
  rintro e w1 ⟨rfl, rfl⟩
  go_wp2
  exact ⟨rfl, rfl, ((Fr.refl [b] w).alloc _).alloc _⟩
end Go.Proofs.YtaajdcaciofmaaaDoor
