import Derived.Test.YthlmgpllapccfaaDoorPack3
import Derived.Deep.LoopGhost
import Derived.LaidEql
import Derived.Stop.Asserts
import Derived.RowKitTokens
import Derived.Laws.Rows
import Derived.Deep.MidRow
import Derived.Defers
import Derived.Recover
import Derived.Deep.Cut
/- THE READER: term. -/
namespace Go.Proofs.YthlmgpllapccfaaDoor
open Go.RowKit
variable {M : Value} {D : Int} {O : Bool}

theorem pk_ne1 {c : Nat} (h : c ≠ 1) : (pk c == 1) = false := by
  rw [beq_eq_false_iff_ne]; unfold pk
  repeat' split
  all_goals omega
theorem pk_ne2 {c : Nat} (h : c ≠ 2) : (pk c == 2) = false := by
  rw [beq_eq_false_iff_ne]; unfold pk
  repeat' split
  all_goals omega
theorem pk_ne3 {c : Nat} (h : c ≠ 3) : (pk c == 3) = false := by
  rw [beq_eq_false_iff_ne]; unfold pk
  repeat' split
  all_goals omega
theorem power_uOk (s : ByteArray) (f : Nat → Tok) (k b : Nat) (u x : Nat) (N : Int) (w : World) (hs : s.size ≤ 1000) (ha : Str s f) (hr : Rd w b s M D O (f k)) (hc : (f k).c = 2) (hu : u ≤ 6) (hx : x ≤ 4) (h : u + (f k).v ≤ 6) :
    Calls Tryd.prog 62 #[.pointer (some ⟨b, 0, none⟩), .agg #[.int .i64 N, .int .i64 u, .int .i64 x]] w fun e w' =>
      e = .returned (.agg #[.int .i64 N, .int .i64 ((u + (f k).v : Nat) : Int), .int .i64 x]) ∧ Rd w' b s M D O (f (k + 1)) ∧ Fr [b] w w' :=
  (power_u s f k b u x N w hs ha hr hc hu hx).mono (by rintro e w1 (g | g); exact g.2; exact absurd h g.1)
theorem power_uBad (s : ByteArray) (f : Nat → Tok) (k b : Nat) (u x : Nat) (N : Int) (w : World) (hs : s.size ≤ 1000) (ha : Str s f) (hr : Rd w b s M D O (f k)) (hc : (f k).c = 2) (hu : u ≤ 6) (hx : x ≤ 4) (h : ¬ u + (f k).v ≤ 6) :
    Calls Tryd.prog 62 #[.pointer (some ⟨b, 0, none⟩), .agg #[.int .i64 N, .int .i64 u, .int .i64 x]] w fun e w' =>
      e = .panicked (faulty 5 (f k).at') ∧ Fr [b] w w' :=
  (power_u s f k b u x N w hs ha hr hc hu hx).mono (by rintro e w1 (g | g); exact absurd g.1 h; exact g.2)
theorem power_xOk (s : ByteArray) (f : Nat → Tok) (k b : Nat) (u x : Nat) (N : Int) (w : World) (hs : s.size ≤ 1000) (ha : Str s f) (hr : Rd w b s M D false (f k)) (hc : (f k).c = 3) (hu : u ≤ 6) (hx : x ≤ 4) (h : x + (f k).v ≤ 4) :
    Calls Tryd.prog 62 #[.pointer (some ⟨b, 0, none⟩), .agg #[.int .i64 N, .int .i64 u, .int .i64 x]] w fun e w' =>
      e = .returned (.agg #[.int .i64 N, .int .i64 u, .int .i64 ((x + (f k).v : Nat) : Int)]) ∧ Rd w' b s M D false (f (k + 1)) ∧ Fr [b] w w' :=
  (power_x0 s f k b u x N w hs ha hr hc hu hx).mono (by rintro e w1 (g | g); exact g.2; exact absurd h g.1)
theorem power_xBad (s : ByteArray) (f : Nat → Tok) (k b : Nat) (u x : Nat) (N : Int) (w : World) (hs : s.size ≤ 1000) (ha : Str s f) (hr : Rd w b s M D false (f k)) (hc : (f k).c = 3) (hu : u ≤ 6) (hx : x ≤ 4) (h : ¬ x + (f k).v ≤ 4) :
    Calls Tryd.prog 62 #[.pointer (some ⟨b, 0, none⟩), .agg #[.int .i64 N, .int .i64 u, .int .i64 x]] w fun e w' =>
      e = .panicked (faulty 5 (f k).at') ∧ Fr [b] w w' :=
  (power_x0 s f k b u x N w hs ha hr hc hu hx).mono (by rintro e w1 (g | g); exact absurd g.1 h; exact g.2)

theorem field_tok (x0 x1 x2 x3 : Int) (w : World) : (Instr.field 57 (.agg #[.int .i64 x0, .int .i64 x1, .int .i64 x2, .int .i64 x3]) 3).run Tryd.prog w = .ok (.int .i64 x3) w := by kernel_rfl
/-- What a term's reading ends in. -/
def TermPost (s : ByteArray) (f : Nat → Tok) (M : Value) (D : Int) (O : Bool) (b : Nat) (n : Nat) (R : PwR) (w : World) (e : Ending) (w' : World) : Prop :=
  (R.e = 0 ∧ e = .returned (.agg #[.int .i64 n, .int .i64 R.u, .int .i64 R.x]) ∧ Rd w' b s M D O (f R.k) ∧ Fr [b] w w') ∨ (R.e ≠ 0 ∧ e = .panicked (faulty R.e R.bad) ∧ Fr [b] w w')

set_option maxRecDepth 100000 in
set_option maxHeartbeats 2000000 in
theorem term_number (s : ByteArray) (f : Nat → Tok) (k b : Nat) (w : World) (hs : s.size ≤ 1000) (ha : Str s f) (hr : Rd w b s M D O (f k)) (hc : (f k).c = 1) :
    Calls Tryd.prog 40 #[.pointer (some ⟨b, 0, none⟩)] w (TermPost s f M D O b (f k).v (pw f O (s.size - (k + 1)) (k + 1) 0 0) w) := by
  obtain ⟨c0, c1, c2, c3, c4⟩ := hr.cells
  obtain ⟨f0, f1, f2, f3, f4⟩ := hr.free
  have hb : b < w.heap.size := Blk.lt hr
  have hf := ha.facts k
  have n0 : ¬ b = w.heap.size := by omega
  have n1 : ¬ b = w.heap.size + 1 := by omega
  have m0 : ¬ w.heap.size = b := by omega
  have m1 : ¬ w.heap.size + 1 = b := by omega
  have HR : Hid (Rd w b s M D O (f k)) := hr
  have hpk : pk (f k).c = 1 := by rw [hc]; rfl
  rw [hpk] at c1
  have HPK := hidV hpk
  generalize hR : pw f O (s.size - (k + 1)) (k + 1) 0 0 = R
  have HP : Hid (pw f O (s.size - (k + 1)) (k + 1) 0 0 = R) := hR
  have hfl := field_tok
  clear hr hpk hc hR
  go_enter Tryd.func40, Tryd.ntmps40
  go_wp2_with fail
  refine (expect_ok s f k b 1 _ (by omega) ha (by exact Blk.alloc (Blk.alloc HR.out _) _) HPK.out).mono ?_
  rintro e w1 ⟨rfl, hr1, hfr⟩
  have ht : Blk w1 (w.heap.size + 1) #[.int .i64 1, .int .i64 0, .int .i64 0] 65 := Blk.fr (by exact Blk.newAt _ _ _ (by simp)) hfr (by simp [m1])
  have hq : Blk w1 w.heap.size #[.int .i64 0, .int .i64 0, .int .i64 0] 65 := Blk.fr (by exact Blk.alloc (Blk.new w _ _) _) hfr (by simp [m0])
  have hf1 : Fr [b] w w1 := ((((Fr.refl [b] w).alloc _).alloc _)).trans hfr (by simp)
  obtain ⟨p0, p1, p2⟩ := ht.cells3
  obtain ⟨g0, g1, g2⟩ := ht.free3
  go_wp2
  clear c0 c1 c2 c3 c4 f0 f1 f2 f3 f4 p0 p1 p2 g0 g1 g2 hfl
  go_loopg [] (s.size - (k + 1)) (fun m wr => ∃ k' u x : Nat, m = s.size - k' ∧ u ≤ 6 ∧ x ≤ 4 ∧ Rd wr b s M D O (f k') ∧ Blk wr (w.heap.size + 1) #[.int .i64 ((f k).v : Nat), .int .i64 u, .int .i64 x] 65 ∧ Blk wr w.heap.size #[.int .i64 0, .int .i64 0, .int .i64 0] 65 ∧ Fr [b] w wr ∧ Hid (pw f O (s.size - k') k' u x = R))
  case atStart => exact ⟨k + 1, 0, 0, rfl, by omega, by omega, hr1.setOther _ _ n1, ht.set 0 _, hq.setOther _ _ (by simp), hf1.setCell _ _ (by simp), HP⟩
  case round =>
    obtain ⟨k', u, x, hm, hu, hx, hrd, htm, hrs, hfw, HQ⟩ := hrel
    have HRD : Hid (Rd wr b s M D O (f k')) := hrd
    obtain ⟨d0, d1, d2, d3, d4⟩ := hrd.cells
    obtain ⟨i0, i1, i2⟩ := htm.cells3
    have hf' := ha.facts k'
    clear hrd
    by_cases h2 : (f k').c = 2
    · have hp2 : pk (f k').c = 2 := by rw [h2]; rfl
      rw [hp2] at d1
      have hlt : k' < s.size := ha.lt (by omega)
      have H2 : Hid ((f k').c = 2) := h2
      clear h2 hp2
      by_cases hle : u + (f k').v ≤ 6
      · go_wp2_with fail
        refine (power_uOk s f k' b u x _ _ (by omega) ha HRD.out H2.out hu hx hle).mono ?_
        rintro e w2 ⟨rfl, hr2, hfr2⟩
        have ht2 := htm.fr hfr2 (by simp [m1])
        have hq2 := hrs.fr hfr2 (by simp [m0])
        obtain ⟨j0, j1, j2⟩ := ht2.cells3
        obtain ⟨l0, l1, l2⟩ := ht2.free3
        go_wp2
        go_roundg (s.size - (k' + 1))
        case measure => omega
        case rel =>
          refine ⟨k' + 1, u + (f k').v, x, rfl, hle, hx, ((hr2.setOther _ _ n1).setOther _ _ n1).setOther _ _ n1, Blk.store3 ht2 _ _ _, ((hq2.setOther _ _ (by simp)).setOther _ _ (by simp)).setOther _ _ (by simp), ?_, ?_⟩
          · repeat (refine Fr.setCell ?_ _ _ (by simp))
            exact hfw.trans hfr2 (by simp)
          · unfold Hid
            rw [← HQ.out, pw_u (by omega) H2.out hle]; congr 1
      · have HB : Hid (R = ⟨5, (f k').at', k', u, x⟩) := by unfold Hid; rw [← HQ.out, pw_u_bad (by omega) H2.out hle]
        go_wp2_with fail
        refine (power_uBad s f k' b u x _ _ (by omega) ha HRD.out H2.out hu hx hle).mono ?_
        rintro e w2 ⟨rfl, hfr2⟩
        go_wp2
        refine ⟨rfl, Or.inr ⟨?_, ?_, hfw.trans hfr2 (by simp)⟩⟩
        · rw [HB.out]; simp
        · rw [HB.out]; rfl
    · by_cases h3 : (f k').c = 3
      · have hp3 : pk (f k').c = 3 := by rw [h3]; rfl
        rw [hp3] at d1
        have hlt : k' < s.size := ha.lt (by omega)
        have H3 : Hid ((f k').c = 3) := h3
        clear h3 hp3 h2
        rcases Bool.eq_false_or_eq_true O with hO | hO
        · subst hO
          have HB : Hid (R = ⟨7, (f k').at', k', u, x⟩) := by unfold Hid; rw [← HQ.out, pw_x_bare (by omega) H3.out]
          go_wp2_with fail
          refine (power_x1 s f k' b u x _ _ (by omega) ha HRD.out H3.out).mono ?_
          rintro e w2 ⟨rfl, hfr2⟩
          go_wp2
          refine ⟨rfl, Or.inr ⟨?_, ?_, hfw.trans hfr2 (by simp)⟩⟩
          · rw [HB.out]; simp
          · rw [HB.out]; rfl
        · subst hO
          by_cases hle : x + (f k').v ≤ 4
          · go_wp2_with fail
            refine (power_xOk s f k' b u x _ _ (by omega) ha HRD.out H3.out hu hx hle).mono ?_
            rintro e w2 ⟨rfl, hr2, hfr2⟩
            have ht2 := htm.fr hfr2 (by simp [m1])
            have hq2 := hrs.fr hfr2 (by simp [m0])
            obtain ⟨j0, j1, j2⟩ := ht2.cells3
            obtain ⟨l0, l1, l2⟩ := ht2.free3
            go_wp2
            go_roundg (s.size - (k' + 1))
            case measure => omega
            case rel =>
              refine ⟨k' + 1, u, x + (f k').v, rfl, hu, hle, ((hr2.setOther _ _ n1).setOther _ _ n1).setOther _ _ n1, Blk.store3 ht2 _ _ _, ((hq2.setOther _ _ (by simp)).setOther _ _ (by simp)).setOther _ _ (by simp), ?_, ?_⟩
              · repeat (refine Fr.setCell ?_ _ _ (by simp))
                exact hfw.trans hfr2 (by simp)
              · unfold Hid
                rw [← HQ.out, pw_x (by omega) H3.out hle]; congr 1
          · have HB : Hid (R = ⟨5, (f k').at', k', u, x⟩) := by unfold Hid; rw [← HQ.out, pw_x_bad (by omega) H3.out hle]
            go_wp2_with fail
            refine (power_xBad s f k' b u x _ _ (by omega) ha HRD.out H3.out hu hx hle).mono ?_
            rintro e w2 ⟨rfl, hfr2⟩
            go_wp2
            refine ⟨rfl, Or.inr ⟨?_, ?_, hfw.trans hfr2 (by simp)⟩⟩
            · rw [HB.out]; simp
            · rw [HB.out]; rfl
      · have q2 := pk_ne2 h2
        have q3 := pk_ne3 h3
        have HB : Hid (R = ⟨0, 0, k', u, x⟩) := by unfold Hid; rw [← HQ.out, pw_end h2 h3]
        obtain ⟨o0, o1, o2⟩ := hrs.cells3
        obtain ⟨l0, l1, l2⟩ := hrs.free3
        clear h2 h3
        go_wp2
        refine bodyPost_ret (results_cell_row Tryd.results40 _ _ w.heap.size 65 _ (0, 0) _ (by rfl) (Blk.store3 hrs _ _ _) Tryd.underlying65 rfl (by kernel_rfl)) rfl (Or.inl ⟨?_, ?_, ?_, ?_⟩)
        · rw [HB.out]
        · first | (rw [HB.out]; done) | (rw [HB.out]; rfl)
        · rw [HB.out]; exact (((show Rd wr b s M D O (f k') from HRD.out).setOther _ _ n0).setOther _ _ n0).setOther _ _ n0
        · repeat (refine Fr.setCell ?_ _ _ (by simp))
          exact hfw

set_option maxRecDepth 100000 in
set_option maxHeartbeats 2000000 in
theorem term_power (s : ByteArray) (f : Nat → Tok) (k b : Nat) (w : World) (hs : s.size ≤ 1000) (ha : Str s f) (hr : Rd w b s M D O (f k)) (hc : (f k).c = 2 ∨ (f k).c = 3) :
    Calls Tryd.prog 40 #[.pointer (some ⟨b, 0, none⟩)] w (TermPost s f M D O b 1 (pw f O (s.size - k) k 0 0) w) := by
  obtain ⟨c0, c1, c2, c3, c4⟩ := hr.cells
  obtain ⟨f0, f1, f2, f3, f4⟩ := hr.free
  have hb : b < w.heap.size := Blk.lt hr
  have hf := ha.facts k
  have n0 : ¬ b = w.heap.size := by omega
  have n1 : ¬ b = w.heap.size + 1 := by omega
  have m0 : ¬ w.heap.size = b := by omega
  have m1 : ¬ w.heap.size + 1 = b := by omega
  have HR : Hid (Rd w b s M D O (f k)) := hr
  have hpk : pk (f k).c = 2 ∨ pk (f k).c = 3 := by rcases hc with h | h <;> rw [h] <;> simp [pk]
  generalize hR : pw f O (s.size - k) k 0 0 = R
  have HP : Hid (pw f O (s.size - k) k 0 0 = R) := hR
  clear hr hc hR
  rcases hpk with hpk | hpk
  all_goals
    rw [hpk] at c1
    clear hpk
    go_enter Tryd.func40, Tryd.ntmps40
    go_wp2
    clear c0 c1 c2 c3 c4 f0 f1 f2 f3 f4
    go_loopg [] (s.size - k) (fun m wr => ∃ k' u x : Nat, m = s.size - k' ∧ u ≤ 6 ∧ x ≤ 4 ∧ Rd wr b s M D O (f k') ∧ Blk wr (w.heap.size + 1) #[.int .i64 1, .int .i64 u, .int .i64 x] 65 ∧ Blk wr w.heap.size #[.int .i64 0, .int .i64 0, .int .i64 0] 65 ∧ Fr [b] w wr ∧ Hid (pw f O (s.size - k') k' u x = R))
    case atStart => exact ⟨k, 0, 0, rfl, by omega, by omega, Blk.alloc (Blk.alloc HR.out _) _, Blk.newAt _ _ _ (by simp), Blk.alloc (Blk.new w _ _) _, ((Fr.refl [b] w).alloc _).alloc _, HP⟩
    case round =>
      obtain ⟨k', u, x, hm, hu, hx, hrd, htm, hrs, hfw, HQ⟩ := hrel
      have HRD : Hid (Rd wr b s M D O (f k')) := hrd
      obtain ⟨d0, d1, d2, d3, d4⟩ := hrd.cells
      obtain ⟨i0, i1, i2⟩ := htm.cells3
      have hf' := ha.facts k'
      clear hrd
      by_cases h2 : (f k').c = 2
      · have hp2 : pk (f k').c = 2 := by rw [h2]; rfl
        rw [hp2] at d1
        have hlt : k' < s.size := ha.lt (by omega)
        have H2 : Hid ((f k').c = 2) := h2
        clear h2 hp2
        by_cases hle : u + (f k').v ≤ 6
        · go_wp2_with fail
          refine (power_uOk s f k' b u x _ _ (by omega) ha HRD.out H2.out hu hx hle).mono ?_
          rintro e w2 ⟨rfl, hr2, hfr2⟩
          have ht2 := htm.fr hfr2 (by simp [m1])
          have hq2 := hrs.fr hfr2 (by simp [m0])
          obtain ⟨j0, j1, j2⟩ := ht2.cells3
          obtain ⟨l0, l1, l2⟩ := ht2.free3
          go_wp2
          go_roundg (s.size - (k' + 1))
          case measure => omega
          case rel =>
            refine ⟨k' + 1, u + (f k').v, x, rfl, hle, hx, ((hr2.setOther _ _ n1).setOther _ _ n1).setOther _ _ n1, Blk.store3 ht2 _ _ _, ((hq2.setOther _ _ (by simp)).setOther _ _ (by simp)).setOther _ _ (by simp), ?_, ?_⟩
            · repeat (refine Fr.setCell ?_ _ _ (by simp))
              exact hfw.trans hfr2 (by simp)
            · unfold Hid
              rw [← HQ.out, pw_u (by omega) H2.out hle]; congr 1
        · have HB : Hid (R = ⟨5, (f k').at', k', u, x⟩) := by unfold Hid; rw [← HQ.out, pw_u_bad (by omega) H2.out hle]
          go_wp2_with fail
          refine (power_uBad s f k' b u x _ _ (by omega) ha HRD.out H2.out hu hx hle).mono ?_
          rintro e w2 ⟨rfl, hfr2⟩
          go_wp2
          refine ⟨rfl, Or.inr ⟨?_, ?_, hfw.trans hfr2 (by simp)⟩⟩
          · rw [HB.out]; simp
          · rw [HB.out]; rfl
      · by_cases h3 : (f k').c = 3
        · have hp3 : pk (f k').c = 3 := by rw [h3]; rfl
          rw [hp3] at d1
          have hlt : k' < s.size := ha.lt (by omega)
          have H3 : Hid ((f k').c = 3) := h3
          clear h3 hp3 h2
          rcases Bool.eq_false_or_eq_true O with hO | hO
          · subst hO
            have HB : Hid (R = ⟨7, (f k').at', k', u, x⟩) := by unfold Hid; rw [← HQ.out, pw_x_bare (by omega) H3.out]
            go_wp2_with fail
            refine (power_x1 s f k' b u x _ _ (by omega) ha HRD.out H3.out).mono ?_
            rintro e w2 ⟨rfl, hfr2⟩
            go_wp2
            refine ⟨rfl, Or.inr ⟨?_, ?_, hfw.trans hfr2 (by simp)⟩⟩
            · rw [HB.out]; simp
            · rw [HB.out]; rfl
          · subst hO
            by_cases hle : x + (f k').v ≤ 4
            · go_wp2_with fail
              refine (power_xOk s f k' b u x _ _ (by omega) ha HRD.out H3.out hu hx hle).mono ?_
              rintro e w2 ⟨rfl, hr2, hfr2⟩
              have ht2 := htm.fr hfr2 (by simp [m1])
              have hq2 := hrs.fr hfr2 (by simp [m0])
              obtain ⟨j0, j1, j2⟩ := ht2.cells3
              obtain ⟨l0, l1, l2⟩ := ht2.free3
              go_wp2
              go_roundg (s.size - (k' + 1))
              case measure => omega
              case rel =>
                refine ⟨k' + 1, u, x + (f k').v, rfl, hu, hle, ((hr2.setOther _ _ n1).setOther _ _ n1).setOther _ _ n1, Blk.store3 ht2 _ _ _, ((hq2.setOther _ _ (by simp)).setOther _ _ (by simp)).setOther _ _ (by simp), ?_, ?_⟩
                · repeat (refine Fr.setCell ?_ _ _ (by simp))
                  exact hfw.trans hfr2 (by simp)
                · unfold Hid
                  rw [← HQ.out, pw_x (by omega) H3.out hle]; congr 1
            · have HB : Hid (R = ⟨5, (f k').at', k', u, x⟩) := by unfold Hid; rw [← HQ.out, pw_x_bad (by omega) H3.out hle]
              go_wp2_with fail
              refine (power_xBad s f k' b u x _ _ (by omega) ha HRD.out H3.out hu hx hle).mono ?_
              rintro e w2 ⟨rfl, hfr2⟩
              go_wp2
              refine ⟨rfl, Or.inr ⟨?_, ?_, hfw.trans hfr2 (by simp)⟩⟩
              · rw [HB.out]; simp
              · rw [HB.out]; rfl
        · have q2 := pk_ne2 h2
          have q3 := pk_ne3 h3
          have HB : Hid (R = ⟨0, 0, k', u, x⟩) := by unfold Hid; rw [← HQ.out, pw_end h2 h3]
          obtain ⟨o0, o1, o2⟩ := hrs.cells3
          obtain ⟨l0, l1, l2⟩ := hrs.free3
          clear h2 h3
          go_wp2
          refine bodyPost_ret (results_cell_row Tryd.results40 _ _ w.heap.size 65 _ (0, 0) _ (by rfl) (Blk.store3 hrs _ _ _) Tryd.underlying65 rfl (by kernel_rfl)) rfl (Or.inl ⟨?_, ?_, ?_, ?_⟩)
          · rw [HB.out]
          · first | (rw [HB.out]; done) | (rw [HB.out]; rfl)
          · rw [HB.out]; exact (((show Rd wr b s M D O (f k') from HRD.out).setOther _ _ n0).setOther _ _ n0).setOther _ _ n0
          · repeat (refine Fr.setCell ?_ _ _ (by simp))
            exact hfw

set_option maxRecDepth 100000 in
set_option maxHeartbeats 1000000 in
theorem term_bad (s : ByteArray) (f : Nat → Tok) (k b : Nat) (w : World) (hr : Rd w b s M D O (f k)) (hc : (f k).c ≠ 1 ∧ (f k).c ≠ 2 ∧ (f k).c ≠ 3) :
    Calls Tryd.prog 40 #[.pointer (some ⟨b, 0, none⟩)] w fun e w' => e = .panicked (faulty 4 (f k).at') ∧ Fr [b] w w' := by
  obtain ⟨c0, c1, c2, c3, c4⟩ := hr.cells
  have HR : Hid (Rd w b s M D O (f k)) := hr
  obtain ⟨h1, h2, h3⟩ := hc
  have hb : b < w.heap.size := Blk.lt hr
  have HN1 : Hid (pk (f k).c ≠ 1) := by have := pk_ne1 h1; rw [beq_eq_false_iff_ne] at this; exact this
  have q2 := pk_ne2 h2
  have q3 := pk_ne3 h3
  clear hr h1 h2 h3
  go_enter Tryd.func40, Tryd.ntmps40
  go_wp2_with fail
  refine (expect_not s (f k) b 1 _ (by exact Blk.alloc (Blk.alloc HR.out _) _) HN1.out).mono ?_
  rintro e w1 ⟨rfl, hfr⟩
  go_wp2
  exact ⟨rfl, rfl, (((Fr.refl [b] w).alloc _).alloc _).trans hfr (by simp)⟩
end Go.Proofs.YthlmgpllapccfaaDoor
/- THE READER: term whole; polynomial. -/
namespace Go.Proofs.YthlmgpllapccfaaDoor
open Go.RowKit
variable {M : Value} {D : Int} {O : Bool}

theorem term_ok (s : ByteArray) (f : Nat → Tok) (k b : Nat) (w : World) (hs : s.size ≤ 1000) (ha : Str s f) (hr : Rd w b s M D O (f k)) (h : (tm f O s.size k).e = 0) :
    Calls Tryd.prog 40 #[.pointer (some ⟨b, 0, none⟩)] w fun e w' => e = .returned (.agg #[.int .i64 (tm f O s.size k).n, .int .i64 (tm f O s.size k).u, .int .i64 (tm f O s.size k).x]) ∧ Rd w' b s M D O (f (tm f O s.size k).k) ∧ Fr [b] w w' := by
  unfold tm at *
  by_cases h1 : (f k).c = 1
  · rw [if_pos h1] at *
    refine (term_number s f k b w hs ha hr h1).mono ?_
    rintro e w1 (g | g)
    · exact g.2
    · exact absurd h g.1
  · rw [if_neg h1] at *
    by_cases h2 : (f k).c = 2 ∨ (f k).c = 3
    · rw [if_pos h2] at *
      refine (term_power s f k b w hs ha hr h2).mono ?_
      rintro e w1 (g | g)
      · exact g.2
      · exact absurd h g.1
    · rw [if_neg h2] at h
      exact absurd h (by simp)
theorem term_not (s : ByteArray) (f : Nat → Tok) (k b : Nat) (w : World) (hs : s.size ≤ 1000) (ha : Str s f) (hr : Rd w b s M D O (f k)) (h : (tm f O s.size k).e ≠ 0) :
    Calls Tryd.prog 40 #[.pointer (some ⟨b, 0, none⟩)] w fun e w' => e = .panicked (faulty (tm f O s.size k).e (tm f O s.size k).bad) ∧ Fr [b] w w' := by
  unfold tm at *
  by_cases h1 : (f k).c = 1
  · rw [if_pos h1] at *
    refine (term_number s f k b w hs ha hr h1).mono ?_
    rintro e w1 (g | g)
    · exact absurd g.1 h
    · exact g.2
  · rw [if_neg h1] at *
    by_cases h2 : (f k).c = 2 ∨ (f k).c = 3
    · rw [if_pos h2] at *
      refine (term_power s f k b w hs ha hr h2).mono ?_
      rintro e w1 (g | g)
      · exact absurd g.1 h
      · exact g.2
    · rw [if_neg h2] at *
      exact term_bad s f k b w hr (by omega)

theorem pk_is4 {c : Nat} (h : c = 47) : pk c = 5 := by subst h; rfl
theorem pk_is5 {c : Nat} (h : c = 49) : pk c = 6 := by subst h; rfl
theorem pk_ne4 {c : Nat} (h : c ≠ 47) : (pk c != 5) = true := by
  rw [bne_iff_ne]; unfold pk
  repeat' split
  all_goals omega
theorem pk_ne5 {c : Nat} (h : c ≠ 49) : (pk c != 6) = true := by
  rw [bne_iff_ne]; unfold pk
  repeat' split
  all_goals omega
theorem pk_no5 {c : Nat} (h : c ≠ 49) : (pk c == 6) = false := by
  rw [beq_eq_false_iff_ne]; unfold pk
  repeat' split
  all_goals omega

/-- What the reading of a polynomial ends in. -/
def PolyPost (s : ByteArray) (f : Nat → Tok) (M : Value) (D : Int) (O : Bool) (b : Nat) (R : PlR) (w : World) (e : Ending) (w' : World) : Prop :=
  (R.e = 0 ∧ e = .returned (.agg (pv R.p)) ∧ Good R.p ∧ Rd w' b s M D O (f R.k) ∧ Fr [b] w w') ∨ (R.e ≠ 0 ∧ e = .panicked (faulty R.e R.bad) ∧ Fr [b] w w')
end Go.Proofs.YthlmgpllapccfaaDoor
/- THE READER: polynomial. -/
namespace Go.Proofs.YthlmgpllapccfaaDoor
open Go.RowKit
variable {M : Value} {D : Int} {O : Bool}

theorem hide' {p : Prop} (h : p) : Hid p := h
theorem field_tok0 (x0 x1 x2 x3 : Int) (w : World) : (Instr.field 57 (.agg #[.int .i64 x0, .int .i64 x1, .int .i64 x2, .int .i64 x3]) 0).run Tryd.prog w = .ok (.int .i64 x0) w := by kernel_rfl

theorem Plus_to (p p' : List Nat) (u x a : Nat) (N : Int) (w : World) (hp : Good p) (hu : u ≤ 6) (hx : x ≤ 4) (hN : N % 7 = ((a % 7 : Nat) : Int)) (h : plus p u x a = p') :
    Calls Tryd.prog 41 #[.agg (pv p), .agg #[.int .i64 N, .int .i64 u, .int .i64 x]] w fun e w' => e = .returned (.agg (pv p')) ∧ Below w.heap.size w w' := by
  rw [← h]; exact Plus_any p u x a N w hp hu hx hN

set_option maxRecDepth 100000 in
set_option maxHeartbeats 4000000 in
theorem polynomial_plain (s : ByteArray) (f : Nat → Tok) (k b : Nat) (w : World) (hs : s.size ≤ 1000) (ha : Str s f) (hk : k ≤ s.size) (hr : Rd w b s M D O (f k)) (hc : (f k).c ≠ 49) :
    Calls Tryd.prog 25 #[.pointer (some ⟨b, 0, none⟩)] w (PolyPost s f M D O b (pl f O s.size (s.size + 1) k 1 zeros) w) := by
  obtain ⟨c0, c1, c2, c3, c4⟩ := hr.cells
  have hb : b < w.heap.size := Blk.lt hr
  have n0 : ¬ b = w.heap.size := by omega
  have n1 : ¬ b = w.heap.size + 1 := by omega
  have m0 : ¬ w.heap.size = b := by omega
  have m1 : ¬ w.heap.size + 1 = b := by omega
  have HR : Hid (Rd w b s M D O (f k)) := hr
  have q5 := pk_no5 hc
  generalize hR : pl f O s.size (s.size + 1) k 1 zeros = R
  have HP : Hid (pl f O s.size (s.size + 1) k 1 zeros = R) := hR
  clear hr hc hR
  go_enter Tryd.func25, Tryd.ntmps25
  go_wp2
  clear c0 c1 c2 c3 c4 q5
  go_loopg [4] (s.size + 1) (fun m v wr => ∃ (k' : Nat) (neg : Bool) (p : List Nat), s.size + 1 ≤ m + k' ∧ v = .bool neg ∧ k' ≤ s.size ∧ Good p ∧ Rd wr b s M D O (f k') ∧ Blk wr (w.heap.size + 1) (pv p) 37 ∧ Blk wr w.heap.size (pv zeros) 37 ∧ Fr [b] w wr ∧ Hid (pl f O s.size m k' (sgOf neg) p = R))
  case atStart => exact ⟨k, false, zeros, by omega, rfl, hk, zeros_good, Blk.alloc (Blk.alloc HR.out _) _, Blk.newAt _ _ _ (by simp), Blk.alloc (Blk.new w _ _) _, ((Fr.refl [b] w).alloc _).alloc _, HP⟩
  case round =>
    obtain ⟨k', neg, p, hgk, rfl, hk', hp, hrd, hsum, hres, hfw, HQ⟩ := hrel
    have HRD : Hid (Rd wr b s M D O (f k')) := hrd
    have HSUM : Hid (Blk wr (w.heap.size + 1) (pv p) 37) := hsum
    have HRES : Hid (Blk wr w.heap.size (pv zeros) 37) := hres
    have hbr : b < wr.heap.size := Blk.lt hrd
    have hz0 : w.heap.size + 1 < wr.heap.size := Blk.lt hsum
    clear hrd hsum hres
    by_cases hte : (tm f O s.size k').e = 0
    · have hT := tm_facts f O s.size k'
      have hTn := tm_num (f := f) O s.size k' (fun j => (ha.facts j).2.2)
      have HTE : Hid ((tm f O s.size k').e = 0) := hte
      go_wp2_with fail
      refine (term_ok s f k' b _ (by omega) ha HRD.out hte).mono ?_
      rintro e w1 ⟨rfl, hr1, hfr1⟩
      clear hte
      generalize hTT : tm f O s.size k' = T at *
      have HTT : Hid (tm f O s.size k' = T) := hTT
      clear hTT
      have hs1 : Blk w1 (w.heap.size + 1) (pv p) 37 := HSUM.out.fr hfr1 (by simp [m1])
      have hq1 : Blk w1 w.heap.size (pv zeros) 37 := HRES.out.fr hfr1 (by simp [m0])
      have hf1 : Fr [b] w w1 := hfw.trans hfr1 (by simp)
      obtain ⟨p', HP'⟩ : ∃ p', Hid (plus p T.u T.x (sgOf neg * T.n) = p') := ⟨_, rfl⟩
      have hg : Good p' := by rw [← HP'.out]; exact plus_good hp _ _ _
      have HS1 : Hid (Blk w1 (w.heap.size + 1) (pv p) 37) := hs1
      have HQ1 : Hid (Blk w1 w.heap.size (pv zeros) 37) := hq1
      have HR1 : Hid (Rd w1 b s M D O (f T.k)) := hr1
      have hz1 : w.heap.size + 1 < w1.heap.size := Blk.lt hs1
      have hb1 : b < w1.heap.size := Blk.lt hr1
      clear hs1 hq1 hr1
      have hfl := field_tok0
      have hN : (if neg then -(T.n : Int) else (T.n : Int)) % 7 = ((sgOf neg * T.n % 7 : Nat) : Int) := by cases neg <;> simp [sgOf] <;> omega
      cases neg
      all_goals
        simp only [Bool.false_eq_true, if_false, if_true] at hN
        have HN := hide' hN
        clear hN
        go_wp2_with (refine wpList_load_row (by rfl) 37 _ (by rfl) (w.heap.size + 1) (by rfl) 37 (pv p) (0, 0) _ (by exact Blk.alloc HS1.out _) Tryd.underlying37 (by rfl) (size_poly hp) ?_)
        refine (Plus_to p p' T.u T.x _ _ _ hp hT.1 hT.2.1 HN.out HP'.out).mono ?_
        rintro e w3 ⟨rfl, hbel⟩
        have hs3 : Blk w3 (w.heap.size + 1) (pv p) 37 := Blk.fr (by exact Blk.alloc HS1.out _) (Fr.of_below (bs := []) hbel) (by simp)
        have hq3 : Blk w3 w.heap.size (pv zeros) 37 := Blk.fr (by exact Blk.alloc HQ1.out _) (Fr.of_below (bs := []) hbel) (by simp)
        have hr3 : Rd w3 b s M D O (f T.k) := Blk.fr (by exact Blk.alloc HR1.out _) (Fr.of_below (bs := []) hbel) (by simp)
        have hf4 : Fr [b] w (w3.setCells (w.heap.size + 1) 0 (pv p').toList) := Fr.setCells ((hf1.alloc _).trans (Fr.of_below (bs := []) hbel) (by simp)) _ _ _ (by simp)
        have hr4 : Rd (w3.setCells (w.heap.size + 1) 0 (pv p').toList) b s M D O (f T.k) := Blk.setCellsOther hr3 _ _ _ n1
        have hs4 : Blk (w3.setCells (w.heap.size + 1) 0 (pv p').toList) (w.heap.size + 1) (pv p') 37 := Blk.setAll hs3 _ (by rw [pv_size, pv_size, hg.1, hp.1])
        have hq4 : Blk (w3.setCells (w.heap.size + 1) 0 (pv p').toList) w.heap.size (pv zeros) 37 := Blk.setCellsOther hq3 _ _ _ (by omega)
        have hth : w3.there (w.heap.size + 1) 0 (pv p').size := Blk.there hs3 (by rw [pv_size, pv_size, hg.1, hp.1]; exact Nat.le_refl _)
        have HTH := hide' hth
        have HR4 := hide' hr4
        have HS4 := hide' hs4
        have HQ4 := hide' hq4
        have HF4 := hide' hf4
        obtain ⟨d0, d1, d2, d3, d4⟩ := hr4.cells
        clear hs3 hq3 hr3 hr4 hs4 hq4 hth hf4
        by_cases h4 : (f T.k).c = 47
        · have hpk := pk_is4 h4
          rw [hpk] at d1
          have hlt : T.k < s.size := ha.lt (by omega)
          have HN' : Hid (pl f O s.size (gk - 1) (T.k + 1) 1 p' = R) := by
            have q := HQ.out
            rw [pl_plus (by omega) (by rw [HTT.out]; exact HTE.out) (by rw [HTT.out]; exact h4), HTT.out, HP'.out] at q
            exact q
          clear h4
          go_wp2_with (refine wpList_store_mid (by rfl) 37 _ _ (by rfl) (w.heap.size + 1) 0 (pv p') (by rfl) (by rfl) HTH.out (size_poly hg) (pv_one _) ?_)
          refine (take_any s f T.k b _ (by omega) ha HR4.out).mono ?_
          rintro e w5 ⟨rfl, hr5, hfr5⟩
          go_wp2
          go_roundg (gk - 1)
          case measure => omega
          case rel => exact ⟨T.k + 1, false, p', by omega, by simp, by omega, hg, hr5, HS4.out.fr hfr5 (by simp [m1]), HQ4.out.fr hfr5 (by simp [m0]), HF4.out.trans hfr5 (by simp), HN'⟩
        · by_cases h5 : (f T.k).c = 49
          · have hpk := pk_is5 h5
            rw [hpk] at d1
            have hlt : T.k < s.size := ha.lt (by omega)
            have HN' : Hid (pl f O s.size (gk - 1) (T.k + 1) 6 p' = R) := by
              have q := HQ.out
              rw [pl_minus (by omega) (by rw [HTT.out]; exact HTE.out) (by rw [HTT.out]; exact h5), HTT.out, HP'.out] at q
              exact q
            clear h4 h5
            go_wp2_with (refine wpList_store_mid (by rfl) 37 _ _ (by rfl) (w.heap.size + 1) 0 (pv p') (by rfl) (by rfl) HTH.out (size_poly hg) (pv_one _) ?_)
            refine (take_any s f T.k b _ (by omega) ha HR4.out).mono ?_
            rintro e w5 ⟨rfl, hr5, hfr5⟩
            go_wp2
            go_roundg (gk - 1)
            case measure => omega
            case rel => exact ⟨T.k + 1, true, p', by omega, by simp, by omega, hg, hr5, HS4.out.fr hfr5 (by simp [m1]), HQ4.out.fr hfr5 (by simp [m0]), HF4.out.trans hfr5 (by simp), HN'⟩
          · have HB : Hid (R = ⟨0, 0, T.k, p'⟩) := by
              unfold Hid
              rw [← HQ.out, pl_done (by omega) (by rw [HTT.out]; exact HTE.out) (by rw [HTT.out]; exact h4) (by rw [HTT.out]; exact h5), HTT.out, HP'.out]
            have q4 := pk_ne4 h4
            have q5 := pk_ne5 h5
            clear h4 h5
            go_wp2_with (first | (refine wpList_store_mid (by rfl) 37 _ (.tmp 24) (by rfl) (w.heap.size + 1) 0 (pv p') (by rfl) (by rfl) HTH.out (size_poly hg) (pv_one _) ?_) | (refine wpList_load_row (by rfl) 37 _ (by rfl) (w.heap.size + 1) (by rfl) 37 (pv p') (0, 0) _ HS4.out Tryd.underlying37 (by rfl) (size_poly hg) ?_) | (refine wpList_store_mid (by rfl) 37 _ (.tmp 39) (by rfl) w.heap.size 0 (pv p') (by rfl) (by rfl) (Blk.there HQ4.out (by rw [pv_size, pv_size, hg.1]; exact Nat.le_refl _)) (size_poly hg) (pv_one _) ?_))
            refine bodyPost_ret (results_cell_row Tryd.results25 _ _ w.heap.size 37 (pv p') (0, 0) _ (by rfl) (Blk.setAll HQ4.out _ (by rw [pv_size, pv_size, hg.1]; rfl)) Tryd.underlying37 rfl (size_poly hg)) rfl (Or.inl ⟨?_, ?_, ?_, ?_, ?_⟩)
            · rw [HB.out]
            · rw [HB.out]
            · rw [HB.out]; exact hg
            · rw [HB.out]; exact Blk.setCellsOther HR4.out _ _ _ n0
            · exact Fr.setCells HF4.out _ _ _ (by simp)
    · have HB : Hid (R.e ≠ 0 ∧ R.e = (tm f O s.size k').e ∧ R.bad = (tm f O s.size k').bad) := by
        unfold Hid
        rw [← HQ.out, pl_bad (by omega) hte]; exact ⟨hte, rfl, rfl⟩
      go_wp2_with fail
      refine (term_not s f k' b _ (by omega) ha HRD.out hte).mono ?_
      rintro e w1 ⟨rfl, hfr1⟩
      go_wp2
      obtain ⟨g1, g2, g3⟩ := HB.out
      refine ⟨rfl, Or.inr ⟨g1, ?_, hfw.trans hfr1 (by simp)⟩⟩
      rw [g2, g3]

set_option maxRecDepth 100000 in
set_option maxHeartbeats 4000000 in
theorem polynomial_minus (s : ByteArray) (f : Nat → Tok) (k b : Nat) (w : World) (hs : s.size ≤ 1000) (ha : Str s f) (hr : Rd w b s M D O (f k)) (hc : (f k).c = 49) :
    Calls Tryd.prog 25 #[.pointer (some ⟨b, 0, none⟩)] w (PolyPost s f M D O b (pl f O s.size (s.size + 1) (k + 1) 6 zeros) w) := by
  obtain ⟨c0, c1, c2, c3, c4⟩ := hr.cells
  have hb : b < w.heap.size := Blk.lt hr
  have n0 : ¬ b = w.heap.size := by omega
  have n1 : ¬ b = w.heap.size + 1 := by omega
  have m0 : ¬ w.heap.size = b := by omega
  have m1 : ¬ w.heap.size + 1 = b := by omega
  have HR : Hid (Rd w b s M D O (f k)) := hr
  have q5 := pk_is5 hc
  rw [q5] at c1
  have hk : k < s.size := ha.lt (by omega)
  generalize hR : pl f O s.size (s.size + 1) (k + 1) 6 zeros = R
  have HP : Hid (pl f O s.size (s.size + 1) (k + 1) 6 zeros = R) := hR
  clear hr hc hR q5
  go_enter Tryd.func25, Tryd.ntmps25
  go_wp2_with fail
  refine (take_any s f k b _ (by omega) ha (by exact Blk.alloc (Blk.alloc HR.out _) _)).mono ?_
  rintro e w2 ⟨rfl, hr2, hfr2⟩
  have hs2 : Blk w2 (w.heap.size + 1) (pv zeros) 37 := Blk.fr (by exact Blk.newAt _ _ _ (by simp)) hfr2 (by simp [m1])
  have hq2 : Blk w2 w.heap.size (pv zeros) 37 := Blk.fr (by exact Blk.alloc (Blk.new w _ _) _) hfr2 (by simp [m0])
  have hf2 : Fr [b] w w2 := (((Fr.refl [b] w).alloc _).alloc _).trans hfr2 (by simp)
  go_wp2
  clear c0 c1 c2 c3 c4
  go_loopg [4] (s.size + 1) (fun m v wr => ∃ (k' : Nat) (neg : Bool) (p : List Nat), s.size + 1 ≤ m + k' ∧ v = .bool neg ∧ k' ≤ s.size ∧ Good p ∧ Rd wr b s M D O (f k') ∧ Blk wr (w.heap.size + 1) (pv p) 37 ∧ Blk wr w.heap.size (pv zeros) 37 ∧ Fr [b] w wr ∧ Hid (pl f O s.size m k' (sgOf neg) p = R))
  case atStart => exact ⟨k + 1, true, zeros, by omega, rfl, by omega, zeros_good, hr2, hs2, hq2, hf2, HP⟩
  case round =>
    obtain ⟨k', neg, p, hgk, rfl, hk', hp, hrd, hsum, hres, hfw, HQ⟩ := hrel
    have HRD : Hid (Rd wr b s M D O (f k')) := hrd
    have HSUM : Hid (Blk wr (w.heap.size + 1) (pv p) 37) := hsum
    have HRES : Hid (Blk wr w.heap.size (pv zeros) 37) := hres
    have hbr : b < wr.heap.size := Blk.lt hrd
    have hz0 : w.heap.size + 1 < wr.heap.size := Blk.lt hsum
    clear hrd hsum hres
    by_cases hte : (tm f O s.size k').e = 0
    · have hT := tm_facts f O s.size k'
      have hTn := tm_num (f := f) O s.size k' (fun j => (ha.facts j).2.2)
      have HTE : Hid ((tm f O s.size k').e = 0) := hte
      go_wp2_with fail
      refine (term_ok s f k' b _ (by omega) ha HRD.out hte).mono ?_
      rintro e w1 ⟨rfl, hr1, hfr1⟩
      clear hte
      generalize hTT : tm f O s.size k' = T at *
      have HTT : Hid (tm f O s.size k' = T) := hTT
      clear hTT
      have hs1 : Blk w1 (w.heap.size + 1) (pv p) 37 := HSUM.out.fr hfr1 (by simp [m1])
      have hq1 : Blk w1 w.heap.size (pv zeros) 37 := HRES.out.fr hfr1 (by simp [m0])
      have hf1 : Fr [b] w w1 := hfw.trans hfr1 (by simp)
      obtain ⟨p', HP'⟩ : ∃ p', Hid (plus p T.u T.x (sgOf neg * T.n) = p') := ⟨_, rfl⟩
      have hg : Good p' := by rw [← HP'.out]; exact plus_good hp _ _ _
      have HS1 : Hid (Blk w1 (w.heap.size + 1) (pv p) 37) := hs1
      have HQ1 : Hid (Blk w1 w.heap.size (pv zeros) 37) := hq1
      have HR1 : Hid (Rd w1 b s M D O (f T.k)) := hr1
      have hz1 : w.heap.size + 1 < w1.heap.size := Blk.lt hs1
      have hb1 : b < w1.heap.size := Blk.lt hr1
      clear hs1 hq1 hr1
      have hfl := field_tok0
      have hN : (if neg then -(T.n : Int) else (T.n : Int)) % 7 = ((sgOf neg * T.n % 7 : Nat) : Int) := by cases neg <;> simp [sgOf] <;> omega
      cases neg
      all_goals
        simp only [Bool.false_eq_true, if_false, if_true] at hN
        have HN := hide' hN
        clear hN
        go_wp2_with (refine wpList_load_row (by rfl) 37 _ (by rfl) (w.heap.size + 1) (by rfl) 37 (pv p) (0, 0) _ (by exact Blk.alloc HS1.out _) Tryd.underlying37 (by rfl) (size_poly hp) ?_)
        refine (Plus_to p p' T.u T.x _ _ _ hp hT.1 hT.2.1 HN.out HP'.out).mono ?_
        rintro e w3 ⟨rfl, hbel⟩
        have hs3 : Blk w3 (w.heap.size + 1) (pv p) 37 := Blk.fr (by exact Blk.alloc HS1.out _) (Fr.of_below (bs := []) hbel) (by simp)
        have hq3 : Blk w3 w.heap.size (pv zeros) 37 := Blk.fr (by exact Blk.alloc HQ1.out _) (Fr.of_below (bs := []) hbel) (by simp)
        have hr3 : Rd w3 b s M D O (f T.k) := Blk.fr (by exact Blk.alloc HR1.out _) (Fr.of_below (bs := []) hbel) (by simp)
        have hf4 : Fr [b] w (w3.setCells (w.heap.size + 1) 0 (pv p').toList) := Fr.setCells ((hf1.alloc _).trans (Fr.of_below (bs := []) hbel) (by simp)) _ _ _ (by simp)
        have hr4 : Rd (w3.setCells (w.heap.size + 1) 0 (pv p').toList) b s M D O (f T.k) := Blk.setCellsOther hr3 _ _ _ n1
        have hs4 : Blk (w3.setCells (w.heap.size + 1) 0 (pv p').toList) (w.heap.size + 1) (pv p') 37 := Blk.setAll hs3 _ (by rw [pv_size, pv_size, hg.1, hp.1])
        have hq4 : Blk (w3.setCells (w.heap.size + 1) 0 (pv p').toList) w.heap.size (pv zeros) 37 := Blk.setCellsOther hq3 _ _ _ (by omega)
        have hth : w3.there (w.heap.size + 1) 0 (pv p').size := Blk.there hs3 (by rw [pv_size, pv_size, hg.1, hp.1]; exact Nat.le_refl _)
        have HTH := hide' hth
        have HR4 := hide' hr4
        have HS4 := hide' hs4
        have HQ4 := hide' hq4
        have HF4 := hide' hf4
        obtain ⟨d0, d1, d2, d3, d4⟩ := hr4.cells
        clear hs3 hq3 hr3 hr4 hs4 hq4 hth hf4
        by_cases h4 : (f T.k).c = 47
        · have hpk := pk_is4 h4
          rw [hpk] at d1
          have hlt : T.k < s.size := ha.lt (by omega)
          have HN' : Hid (pl f O s.size (gk - 1) (T.k + 1) 1 p' = R) := by
            have q := HQ.out
            rw [pl_plus (by omega) (by rw [HTT.out]; exact HTE.out) (by rw [HTT.out]; exact h4), HTT.out, HP'.out] at q
            exact q
          clear h4
          go_wp2_with (refine wpList_store_mid (by rfl) 37 _ _ (by rfl) (w.heap.size + 1) 0 (pv p') (by rfl) (by rfl) HTH.out (size_poly hg) (pv_one _) ?_)
          refine (take_any s f T.k b _ (by omega) ha HR4.out).mono ?_
          rintro e w5 ⟨rfl, hr5, hfr5⟩
          go_wp2
          go_roundg (gk - 1)
          case measure => omega
          case rel => exact ⟨T.k + 1, false, p', by omega, by simp, by omega, hg, hr5, HS4.out.fr hfr5 (by simp [m1]), HQ4.out.fr hfr5 (by simp [m0]), HF4.out.trans hfr5 (by simp), HN'⟩
        · by_cases h5 : (f T.k).c = 49
          · have hpk := pk_is5 h5
            rw [hpk] at d1
            have hlt : T.k < s.size := ha.lt (by omega)
            have HN' : Hid (pl f O s.size (gk - 1) (T.k + 1) 6 p' = R) := by
              have q := HQ.out
              rw [pl_minus (by omega) (by rw [HTT.out]; exact HTE.out) (by rw [HTT.out]; exact h5), HTT.out, HP'.out] at q
              exact q
            clear h4 h5
            go_wp2_with (refine wpList_store_mid (by rfl) 37 _ _ (by rfl) (w.heap.size + 1) 0 (pv p') (by rfl) (by rfl) HTH.out (size_poly hg) (pv_one _) ?_)
            refine (take_any s f T.k b _ (by omega) ha HR4.out).mono ?_
            rintro e w5 ⟨rfl, hr5, hfr5⟩
            go_wp2
            go_roundg (gk - 1)
            case measure => omega
            case rel => exact ⟨T.k + 1, true, p', by omega, by simp, by omega, hg, hr5, HS4.out.fr hfr5 (by simp [m1]), HQ4.out.fr hfr5 (by simp [m0]), HF4.out.trans hfr5 (by simp), HN'⟩
          · have HB : Hid (R = ⟨0, 0, T.k, p'⟩) := by
              unfold Hid
              rw [← HQ.out, pl_done (by omega) (by rw [HTT.out]; exact HTE.out) (by rw [HTT.out]; exact h4) (by rw [HTT.out]; exact h5), HTT.out, HP'.out]
            have q4 := pk_ne4 h4
            have q5 := pk_ne5 h5
            clear h4 h5
            go_wp2_with (first | (refine wpList_store_mid (by rfl) 37 _ (.tmp 24) (by rfl) (w.heap.size + 1) 0 (pv p') (by rfl) (by rfl) HTH.out (size_poly hg) (pv_one _) ?_) | (refine wpList_load_row (by rfl) 37 _ (by rfl) (w.heap.size + 1) (by rfl) 37 (pv p') (0, 0) _ HS4.out Tryd.underlying37 (by rfl) (size_poly hg) ?_) | (refine wpList_store_mid (by rfl) 37 _ (.tmp 39) (by rfl) w.heap.size 0 (pv p') (by rfl) (by rfl) (Blk.there HQ4.out (by rw [pv_size, pv_size, hg.1]; exact Nat.le_refl _)) (size_poly hg) (pv_one _) ?_))
            refine bodyPost_ret (results_cell_row Tryd.results25 _ _ w.heap.size 37 (pv p') (0, 0) _ (by rfl) (Blk.setAll HQ4.out _ (by rw [pv_size, pv_size, hg.1]; rfl)) Tryd.underlying37 rfl (size_poly hg)) rfl (Or.inl ⟨?_, ?_, ?_, ?_, ?_⟩)
            · rw [HB.out]
            · rw [HB.out]
            · rw [HB.out]; exact hg
            · rw [HB.out]; exact Blk.setCellsOther HR4.out _ _ _ n0
            · exact Fr.setCells HF4.out _ _ _ (by simp)
    · have HB : Hid (R.e ≠ 0 ∧ R.e = (tm f O s.size k').e ∧ R.bad = (tm f O s.size k').bad) := by
        unfold Hid
        rw [← HQ.out, pl_bad (by omega) hte]; exact ⟨hte, rfl, rfl⟩
      go_wp2_with fail
      refine (term_not s f k' b _ (by omega) ha HRD.out hte).mono ?_
      rintro e w1 ⟨rfl, hfr1⟩
      go_wp2
      obtain ⟨g1, g2, g3⟩ := HB.out
      refine ⟨rfl, Or.inr ⟨g1, ?_, hfw.trans hfr1 (by simp)⟩⟩
      rw [g2, g3]

theorem polynomial_any (s : ByteArray) (f : Nat → Tok) (k b : Nat) (w : World) (hs : s.size ≤ 1000) (ha : Str s f) (hk : k ≤ s.size) (hr : Rd w b s M D O (f k)) :
    Calls Tryd.prog 25 #[.pointer (some ⟨b, 0, none⟩)] w (PolyPost s f M D O b (poly f O s.size k) w) := by
  unfold poly
  by_cases hc : (f k).c = 49
  · rw [if_pos hc]; exact polynomial_minus s f k b w hs ha hr hc
  · rw [if_neg hc]; exact polynomial_plain s f k b w hs ha hk hr hc
end Go.Proofs.YthlmgpllapccfaaDoor
/- errors.As AT A fault AND A *fault, after the library's worked example Toyas. -/
namespace Go.Proofs.YthlmgpllapccfaaDoor
open Go.RowKit Go.Extern.Stop Go.Stop Go.Extern

theorem as_valueOf (t : Addr) (w : World) : (ReflectliteValue.unpack (.iface 82 (.pointer (some t)))).run Tryd.prog w
    = .ok (.agg #[.pointer (some ⟨5, 82, none⟩), .pointer (some ⟨w.heap.size, 0, none⟩), .int .u64 150]) (w.alloc (.cells #[.pointer (some t)] 82)) := by kernel_rfl
theorem as_type (a : Addr) (w : World) : (ReflectliteValue.methodAny (ReflectliteValue.valueError "reflectlite.Value.Type" 0) (fun t _ _ _ => ReflectliteType.toType t) #[.agg #[.pointer (some ⟨5, 82, none⟩), .pointer (some a), .int .u64 150]]).run Tryd.prog w
    = .ok (.iface 118 (.agg #[.pointer (some ⟨5, 82, none⟩)])) w := by kernel_rfl
theorem as_kindP (w : World) : ((ReflectliteType.abiMethod fun t => (fun a : Nat => Value.int IntKind.u8 (a : Int)) <$> Rtype.kind t) #[.pointer (some ⟨5, 82, none⟩)]).run Tryd.prog w = .ok (.int .u8 22) w := by kernel_rfl
theorem as_kindE (w : World) : ((ReflectliteType.abiMethod fun t => (fun a : Nat => Value.int IntKind.u8 (a : Int)) <$> Rtype.kind t) #[.pointer (some ⟨5, 80, none⟩)]).run Tryd.prog w = .ok (.int .u8 25) w := by kernel_rfl
theorem as_rlm (z : Sem Value) (f : TypeId → Addr → Nat → Nat → Sem Value) (v : Value) :
    ReflectliteValue.method z f #[v] = (do match ← ReflectliteValue.parts v with | none => z | some (t, a, fl) => f t a fl (fl % 32)) := rfl
theorem as_partsP (a : Addr) (w : World) : (ReflectliteValue.parts (.agg #[.pointer (some ⟨5, 82, none⟩), .pointer (some a), .int .u64 150])).run Tryd.prog w = .ok (some (82, a, 150)) w := by kernel_rfl
theorem as_isNil (a p : Addr) (W : World) (ha : W.cell? a = some (.pointer (some p))) :
    (ReflectliteValue.method (ReflectliteValue.valueError "reflectlite.Value.IsNil" 0) ReflectliteValue.isNil #[.agg #[.pointer (some ⟨5, 82, none⟩), .pointer (some a), .int .u64 150]]).run Tryd.prog W = .ok (.bool false) W := by
  rw [as_rlm]
  simp only [Sem.run_bind, as_partsP, Result.andThen]
  simp [ReflectliteValue.isNil, loadVar, isAgg, underlying, Tryd.underlying82, ha, Result.andThen]
theorem as_elem (w : World) : (ReflectliteType.method ReflectliteType.elem #[.agg #[.pointer (some ⟨5, 82, none⟩)]]).run Tryd.prog w = .ok (.iface 118 (.agg #[.pointer (some ⟨5, 80, none⟩)])) w := by kernel_rfl
theorem as_implements (w : World) : (ReflectliteType.relation "Implements" ReflectliteType.implements_ #[.agg #[.pointer (some ⟨5, 80, none⟩)], .iface 118 (.agg #[.pointer (some ⟨5, 77, none⟩)])]).run Tryd.prog w = .ok (.bool true) w := by kernel_rfl
theorem as_typeOf (v : Value) (w : World) : (ReflectliteType.typeOf #[.iface 80 v]).run Tryd.prog w = .ok (.iface 118 (.agg #[.pointer (some ⟨5, 80, none⟩)])) w := by kernel_rfl
theorem as_assignable (w : World) : (ReflectliteType.relation "AssignableTo" ReflectliteType.assignableTo #[.agg #[.pointer (some ⟨5, 80, none⟩)], .iface 118 (.agg #[.pointer (some ⟨5, 80, none⟩)])]).run Tryd.prog w = .ok (.bool true) w := by kernel_rfl
theorem as_valueOfE (x y : Int) (w : World) : (ReflectliteValue.unpack (.iface 80 (.agg #[.int .i64 x, .int .i64 y]))).run Tryd.prog w
    = .ok (.agg #[.pointer (some ⟨5, 80, none⟩), .pointer (some ⟨w.heap.size, 0, none⟩), .int .u64 153]) (w.alloc (.cells #[.int .i64 x, .int .i64 y] 80)) := by kernel_rfl
theorem as_elemOf (w : World) : (Rtype.elem? 82).run Tryd.prog w = .ok (some 80) w := by kernel_rfl
theorem as_mk (p : Addr) (w : World) : (ReflectliteValue.mk 80 p ReflectliteValue.flagAddr).run Tryd.prog w = .ok (.agg #[.pointer (some ⟨5, 80, none⟩), .pointer (some p), .int .u64 409]) w := by kernel_rfl
theorem as_elemV (a p : Addr) (W : World) (ha : W.cell? a = some (.pointer (some p))) :
    (ReflectliteValue.method (ReflectliteValue.valueError "reflectlite.Value.Elem" 0) ReflectliteValue.elem #[.agg #[.pointer (some ⟨5, 82, none⟩), .pointer (some a), .int .u64 150]]).run Tryd.prog W
      = .ok (.agg #[.pointer (some ⟨5, 80, none⟩), .pointer (some p), .int .u64 409]) W := by
  rw [as_rlm]
  simp only [Sem.run_bind, as_partsP, Result.andThen]
  simp [ReflectliteValue.elem, loadVar, isAgg, underlying, Tryd.underlying82, ha, Result.andThen, as_elemOf, as_mk]
theorem as_rls (v x : Value) : ReflectliteValue.set #[v, x] = (do
    let (some (dst, a, fl), some (src, b, _)) := (← ReflectliteValue.parts v, ← ReflectliteValue.parts x)
      | unsupported (.noEntry "extern/(internal/reflectlite.Value).Set.zeroValue")
    if fl / ReflectliteValue.flagAddr % 2 == 0 then unsupported (.noEntry "extern/(internal/reflectlite.Value).Set.unaddressable")
    let val ← loadVar src b
    if ← Rtype.directlyAssignable dst src then storeVar dst a val
    else if ← Rtype.implements dst src then
      if (← Rtype.kind src) == 20 then
        match val with
        | .nilIface => unsupported (.noEntry "extern/reflectlite: a nil value of one interface type handed on as a value of another")
        | _ => storeVar dst a val
      else storeVar dst a (.iface src val)
    else panicString ("reflectlite.Set: value of type " ++ (← Rtype.spelt src) ++ " is not assignable to type " ++ (← Rtype.spelt dst))
    pure (.tuple #[])) := rfl
theorem as_partsA (a : Addr) (w : World) : (ReflectliteValue.parts (.agg #[.pointer (some ⟨5, 80, none⟩), .pointer (some a), .int .u64 409])).run Tryd.prog w = .ok (some (80, a, 409)) w := by kernel_rfl
theorem as_partsE (a : Addr) (w : World) : (ReflectliteValue.parts (.agg #[.pointer (some ⟨5, 80, none⟩), .pointer (some a), .int .u64 153])).run Tryd.prog w = .ok (some (80, a, 153)) w := by kernel_rfl
theorem as_direct (w : World) : (Rtype.directlyAssignable 80 80).run Tryd.prog w = .ok true w := by kernel_rfl
theorem as_set (t b : Nat) (x y x0 y0 : Int) (W : World) (hb : Blk W b #[.int .i64 x, .int .i64 y] 80) (ht : Blk W t #[.int .i64 x0, .int .i64 y0] 80) :
    (ReflectliteValue.set #[.agg #[.pointer (some ⟨5, 80, none⟩), .pointer (some ⟨t, 0, none⟩), .int .u64 409], .agg #[.pointer (some ⟨5, 80, none⟩), .pointer (some ⟨b, 0, none⟩), .int .u64 153]]).run Tryd.prog W
      = .ok (.tuple #[]) ((W.setCell ⟨t, 0, none⟩ (.int .i64 x)).setCell ⟨t, 1, none⟩ (.int .i64 y)) := by
  have hl := run_loadVar_row (P := Tryd.prog) W b 80 80 #[.int .i64 x, .int .i64 y] (0, 0) _ hb Tryd.underlying80 rfl (by kernel_rfl)
  have hth : W.there t 0 2 := fun j hj => by
    rw [Nat.zero_add, Blk.cell ht, Blk.frozen ht]
    match j, hj with
    | 0, _ => exact ⟨rfl, rfl⟩
    | 1, _ => exact ⟨rfl, rfl⟩
  have hs := run_storeVar_mid (P := Tryd.prog) W t 0 80 #[.int .i64 x, .int .i64 y] hth (by kernel_rfl) (by kernel_rfl)
  rw [as_rls]
  simp only [Sem.run_bind, as_partsA, as_partsE, Result.andThen]
  simp [ReflectliteValue.flagAddr, hl, as_direct, Result.andThen, hs, World.setCells]
end Go.Proofs.YthlmgpllapccfaaDoor
/- errors.As AT A fault AND A *fault: the walk. -/
namespace Go.Proofs.YthlmgpllapccfaaDoor
open Go.RowKit Go.Extern.Stop Go.Stop Go.Extern

set_option maxRecDepth 100000 in
set_option maxHeartbeats 4000000 in
theorem as_hit (x y x0 y0 : Int) (t : Nat) (w : World) (hg : w.cell? ⟨0, 0, none⟩ = some (.iface 118 (.agg #[.pointer (some ⟨5, 77, none⟩)]))) (ht : Blk w t #[.int .i64 x0, .int .i64 y0] 80) :
    Calls Tryd.prog 36 #[.iface 80 (.agg #[.int .i64 x, .int .i64 y]), .iface 82 (.pointer (some ⟨t, 0, none⟩))] w fun ev w' => ev = .returned (.bool true) ∧ Blk w' t #[.int .i64 x, .int .i64 y] 80 ∧ Fr [t] w w' := by
  have h6 := @run_callFunc_extern Tryd.prog 56 _ (fun args => ReflectliteValue.unpack (args.getD 0 (.tuple #[]))) Tryd.func56 (by kernel_rfl) (by kernel_rfl) (by kernel_rfl) (by kernel_rfl)
  have h7 := @run_callFunc_extern Tryd.prog 57 _ (ReflectliteValue.methodAny (ReflectliteValue.valueError "reflectlite.Value.Type" 0) (fun t _ _ _ => ReflectliteType.toType t)) Tryd.func57 (by kernel_rfl) (by kernel_rfl) (by kernel_rfl) (by kernel_rfl)
  have h8 := @run_callFunc_extern Tryd.prog 58 _ (ReflectliteValue.method (ReflectliteValue.valueError "reflectlite.Value.IsNil" 0) ReflectliteValue.isNil) Tryd.func58 (by kernel_rfl) (by kernel_rfl) (by kernel_rfl) (by kernel_rfl)
  have h27 := @run_callFunc_extern Tryd.prog 103 _ (ReflectliteType.abiMethod fun t => do pure (.int .u8 (← Rtype.kind t))) Tryd.func103 (by kernel_rfl) (by kernel_rfl) (by kernel_rfl) (by kernel_rfl)
  have h37 := @run_callFunc_extern Tryd.prog 115 _ (ReflectliteType.method ReflectliteType.elem) Tryd.func115 (by kernel_rfl) (by kernel_rfl) (by kernel_rfl) (by kernel_rfl)
  have h38 := @run_callFunc_extern Tryd.prog 116 _ (ReflectliteType.relation "Implements" ReflectliteType.implements_) Tryd.func116 (by kernel_rfl) (by kernel_rfl) (by kernel_rfl) (by kernel_rfl)
  have h10 := @run_callFunc_extern Tryd.prog 67 _ ReflectliteType.typeOf Tryd.func67 (by kernel_rfl) (by kernel_rfl) (by kernel_rfl) (by kernel_rfl)
  have h35 := @run_callFunc_extern Tryd.prog 113 _ (ReflectliteType.relation "AssignableTo" ReflectliteType.assignableTo) Tryd.func113 (by kernel_rfl) (by kernel_rfl) (by kernel_rfl) (by kernel_rfl)
  have h11 := @run_callFunc_extern Tryd.prog 68 _ (ReflectliteValue.method (ReflectliteValue.valueError "reflectlite.Value.Elem" 0) ReflectliteValue.elem) Tryd.func68 (by kernel_rfl) (by kernel_rfl) (by kernel_rfl) (by kernel_rfl)
  have h12 := @run_callFunc_extern Tryd.prog 69 _ ReflectliteValue.set Tryd.func69 (by kernel_rfl) (by kernel_rfl) (by kernel_rfl) (by kernel_rfl)
  have tO := as_typeOf
  have a25 := as_assignable
  have v25 := as_valueOfE
  have f6 := as_valueOf
  have f7 := as_type
  have k27 := as_kindP
  have k25 := as_kindE
  have e27 := as_elem
  have i25 := as_implements
  have htl : t < w.heap.size := Blk.lt ht
  have hlt : 0 < w.heap.size := by omega
  have b0 : Blk (w.alloc (.cells #[.pointer (some ⟨t, 0, none⟩)] 82)) w.heap.size #[.pointer (some ⟨t, 0, none⟩)] 82 := Blk.new w _ _
  have c2 : ((w.alloc (.cells #[.pointer (some ⟨t, 0, none⟩)] 82)).alloc (.cells #[.pointer (some ⟨5, 82, none⟩), .pointer (some ⟨w.heap.size, 0, none⟩), .int .u64 150] 104)).cell? ⟨w.heap.size, 0, none⟩ = some (.pointer (some ⟨t, 0, none⟩)) := (Blk.alloc b0 _).cell 0
  have c3 : (((w.alloc (.cells #[.pointer (some ⟨t, 0, none⟩)] 82)).alloc (.cells #[.pointer (some ⟨5, 82, none⟩), .pointer (some ⟨w.heap.size, 0, none⟩), .int .u64 150] 104)).alloc (.cells #[.pointer (some ⟨5, 82, none⟩), .pointer (some ⟨w.heap.size, 0, none⟩), .int .u64 150] 104)).cell? ⟨w.heap.size, 0, none⟩ = some (.pointer (some ⟨t, 0, none⟩)) := (Blk.alloc (Blk.alloc b0 _) _).cell 0
  have n8 := as_isNil ⟨w.heap.size, 0, none⟩ ⟨t, 0, none⟩ _ c2
  have el := as_elemV ⟨w.heap.size, 0, none⟩ ⟨t, 0, none⟩ _ c3
  have hg2 : ((w.alloc (.cells #[.pointer (some ⟨t, 0, none⟩)] 82)).alloc (.cells #[.pointer (some ⟨5, 82, none⟩), .pointer (some ⟨w.heap.size, 0, none⟩), .int .u64 150] 104)).cell? ⟨0, 0, none⟩ = some (.iface 118 (.agg #[.pointer (some ⟨5, 77, none⟩)])) := by
    rw [World.cell?_alloc_lt _ _ ⟨0, 0, none⟩ (by simp), World.cell?_alloc_lt _ _ ⟨0, 0, none⟩ hlt]; exact hg
  have st := as_set t (w.heap.size + 1 + 1 + 1) x y x0 y0 ((((w.alloc (.cells #[.pointer (some ⟨t, 0, none⟩)] 82)).alloc (.cells #[.pointer (some ⟨5, 82, none⟩), .pointer (some ⟨w.heap.size, 0, none⟩), .int .u64 150] 104)).alloc (.cells #[.pointer (some ⟨5, 82, none⟩), .pointer (some ⟨w.heap.size, 0, none⟩), .int .u64 150] 104)).alloc (.cells #[.int .i64 x, .int .i64 y] 80)) (Blk.newAt _ _ _ (by simp)) (Blk.alloc (Blk.alloc (Blk.alloc (Blk.alloc ht _) _) _) _)
  have HT := ht
  have HH : Hid (Blk w t #[.int .i64 x0, .int .i64 y0] 80) := ht
  clear ht HT b0 c2 c3 hg
  go_enter Tryd.func36, Tryd.ntmps36
  go_wp2
  refine wp_loop_rounds 1 ?_
  rw [rounds_succ]
  go_wp2
  go_ret
  refine ⟨rfl, ?_, ?_⟩
  · exact Blk.set (Blk.set (Blk.alloc (Blk.alloc (Blk.alloc (Blk.alloc HH.out _) _) _) _) 0 _) 1 _
  · exact Fr.setCell (Fr.setCell (((((Fr.refl [t] w).alloc _).alloc _).alloc _).alloc _) _ _ (by simp)) _ _ (by simp)
end Go.Proofs.YthlmgpllapccfaaDoor
/- THE READER: begin; the whole text's end. -/
namespace Go.Proofs.YthlmgpllapccfaaDoor
open Go.RowKit
variable {M : Value} {D : Int} {O : Bool}

set_option maxHeartbeats 1000000 in
theorem begin_long (s : ByteArray) (b : Nat) (t : Tok) (w : World) (hr : Rd w b s M D O t) (h : 90 < s.size) (hm : s.size ≤ 140737488351232) :
    Calls Tryd.prog 37 #[.pointer (some ⟨b, 0, none⟩)] w fun e w' => e = .panicked (faulty 2 0) ∧ w' = w := by
  have h' : ((s.size : Nat) : Int) > 90 := by omega
  obtain ⟨c0, c1, c2, c3, c4⟩ := hr.cells
  have hb : b < w.heap.size := Blk.lt hr
  clear hr
  go_enter Tryd.func37, Tryd.ntmps37
  go_wp2_with (go_at_call 60; refine (fail_any _ _ _).mono ?_; rintro e w2 ⟨rfl, rfl⟩)
  exact ⟨rfl, rfl, rfl⟩

set_option maxHeartbeats 1000000 in
theorem begin_short (s : ByteArray) (b : Nat) (t : Tok) (w : World) (hr : Rd w b s M D O t) (h : ¬ 90 < s.size) :
    Calls Tryd.prog 37 #[.pointer (some ⟨b, 0, none⟩)] w fun e w' => e = .returned (.tuple #[]) ∧ Rd w' b s M D O (tok s 0) ∧ Fr [b] w w' := by
  have h' : ¬ ((s.size : Nat) : Int) > 90 := by omega
  obtain ⟨c0, c1, c2, c3, c4⟩ := hr.cells
  obtain ⟨f0, f1, f2, f3, f4⟩ := hr.free
  have hb : b < w.heap.size := Blk.lt hr
  have HR := hidV hr
  clear hr
  go_enter Tryd.func37, Tryd.ntmps37
  go_wp2_with (go_at_call 61; refine (tokenAt_any s 0 _ _ (by omega) (by omega) (by omega)).mono ?_; rintro e w1 ⟨rfl, hbel⟩; have HR1 : Hid (Rd w1 b s M D O t) := Blk.fr HR.out (Fr.of_below (bs := []) hbel) (by simp); obtain ⟨d0, d1, d2, d3, d4⟩ := Rd.cells HR1.out; obtain ⟨g0, g1, g2, g3, g4⟩ := Rd.free HR1.out)
  go_end0
  refine ⟨rfl, Rd.store HR1.out (tok s 0), ?_⟩
  repeat (refine Fr.setCell ?_ _ _ (by simp))
  exact Fr.of_below hbel
end Go.Proofs.YthlmgpllapccfaaDoor
/- THE READER: the deferred function. -/
namespace Go.Proofs.YthlmgpllapccfaaDoor
open Go.RowKit

theorem wp_named {P : Program} {c : Code} {Q : Exit → Act → World → Prop} {a : Act} {w : World} (a' : Act) (h : a = a') (k : ∀ Q' : Exit → Act → World → Prop, Q' = Q → Code.wp P c Q' a' w) : Code.wp P c Q a w := h ▸ k Q rfl

set_option maxRecDepth 100000 in
set_option maxHeartbeats 1000000 in
theorem catch_panicking (p q r : Nat) (x y : Int) (p0 : List Nat) (q0 r0 : Int) (w : World) (hp : Blk w p (pv p0) 37) (hp0 : Good p0) (hq : Blk w q #[.int .i64 q0] 22) (hr : Blk w r #[.int .i64 r0] 3) (hpq : p ≠ q) (hpr : p ≠ r) (hqr : q ≠ r)
    (hg : w.cell? ⟨0, 0, none⟩ = some (.iface 118 (.agg #[.pointer (some ⟨5, 77, none⟩)]))) :
    CallsD Tryd.prog 35 #[.pointer (some ⟨p, 0, none⟩), .pointer (some ⟨q, 0, none⟩), .pointer (some ⟨r, 0, none⟩)] (.panicking (faulty x y)) w fun e u' w' =>
      e = .returned (.tuple #[]) ∧ u' = .panicking [{ v := .iface 80 (.agg #[.int .i64 x, .int .i64 y]), recovered := true }] ∧ Blk w' p (pv zeros) 37 ∧ Blk w' q #[.int .i64 x] 22 ∧ Blk w' r #[.int .i64 y] 3 ∧ Fr [p, q, r] w w' := by
  have ta : ∀ (v : Value) (w : World), (Instr.typeAssert (.iface 80 v) 20 77 true).run Tryd.prog w = .ok (.tuple #[.iface 80 v, .bool true]) w := fun _ _ => by kernel_rfl
  refine callsD_of_wpS Tryd.func35 rfl fun c₀ cs hu => ?_
  apply wpS_seq
  apply wpS_region
  simp [wpOpsS, go_sem, recoverD, hu, Tryd.ntmps35, Exit.thenS, faulty]
  refine wpS_of_wp ?_
  refine wp_named ⟨#[Value.pointer (some ⟨p, 0, none⟩), Value.pointer (some ⟨q, 0, none⟩), Value.pointer (some ⟨r, 0, none⟩), Value.iface 80 (Value.agg #[Value.int IntKind.i64 x, Value.int IntKind.i64 y]), undef, undef, undef, undef, Value.iface 80 (Value.agg #[Value.int IntKind.i64 x, Value.int IntKind.i64 y]), undef, undef, undef, undef, undef, undef, undef, undef, undef, undef, undef, undef, undef, undef, undef, undef, undef], []⟩ (by kernel_rfl) ?_
  intro Q' hQ
  have HQ := hidV hQ
  clear hQ
  have hb0 : 0 < w.heap.size := by have := Blk.lt hp; omega
  have hpl := Blk.lt hp
  have hql := Blk.lt hq
  have hrl := Blk.lt hr
  have HP := hidV hp
  have HQQ := hidV hq
  have HRR := hidV hr
  clear hp hq hr hu
  go_wp2_with fail
  refine (as_hit x y 0 0 w.heap.size _ (by rw [World.cell?_alloc_lt _ _ ⟨0, 0, none⟩ hb0]; exact hg) (Blk.new w _ _)).mono ?_
  rintro e w1 ⟨rfl, ht1, hf1⟩
  have hp1 : Blk w1 p (pv p0) 37 := Blk.fr (Blk.alloc HP.out _) hf1 (by simp; omega)
  have hq1 : Blk w1 q #[.int .i64 q0] 22 := Blk.fr (Blk.alloc HQQ.out _) hf1 (by simp; omega)
  have hr1 : Blk w1 r #[.int .i64 r0] 3 := Blk.fr (Blk.alloc HRR.out _) hf1 (by simp; omega)
  have hfw : Fr [p, q, r] w w1 := ((Fr.refl [p, q, r] w).alloc _).trans hf1 (by simp)
  have HH1 : Hid (Blk w1 p (pv p0) 37 ∧ Blk w1 q #[.int .i64 q0] 22 ∧ Blk w1 r #[.int .i64 r0] 3 ∧ Blk w1 w.heap.size #[.int .i64 x, .int .i64 y] 80 ∧ Fr [p, q, r] w w1) := ⟨hp1, hq1, hr1, ht1, hfw⟩
  clear hp1 hq1 hr1 hfw ht1 hf1
  obtain ⟨z, HZ⟩ : ∃ z, Hid (z = pv zeros) := ⟨_, rfl⟩
  go_upto_region 7 with fail
  refine wp_forget (fun V => Blk V p (pv p0) 37 ∧ Blk V q #[.int .i64 q0] 22 ∧ Blk V r #[.int .i64 r0] 3 ∧ Blk V w.heap.size #[.int .i64 x, .int .i64 y] 80 ∧ Blk V w1.heap.size z 37 ∧ Fr [p, q, r] w V) ?_ ?_
  · obtain ⟨i1, i2, i3, i4, i5⟩ := HH1.out
    refine ⟨i1.alloc _, i2.alloc _, i3.alloc _, i4.alloc _, ?_, i5.alloc _⟩
    rw [HZ.out]; exact Blk.new w1 _ _
  rintro V ⟨hp1, hq1, hr1, ht1, hz1, hfw⟩
  generalize w1.heap.size = nb at *
  clear HH1
  have t0 : V.cell? ⟨w.heap.size, 0, none⟩ = some (.int .i64 x) := ht1.cell 0
  have t1 : V.cell? ⟨w.heap.size, 1, none⟩ = some (.int .i64 y) := ht1.cell 1
  have hzs : z.size = 35 := by rw [HZ.out]; rfl
  have hq2 : Blk (V.setCells p 0 z.toList) q #[.int .i64 q0] 22 := Blk.setCellsOther hq1 _ _ _ (Ne.symm hpq)
  have hr2 : Blk (V.setCells p 0 z.toList) r #[.int .i64 r0] 3 := Blk.setCellsOther hr1 _ _ _ (Ne.symm hpr)
  have hp2 : Blk (V.setCells p 0 z.toList) p z 37 := Blk.setAll hp1 _ (by rw [hzs, pv_size, hp0.1])
  have u0 : (V.setCells p 0 z.toList).cell? ⟨q, 0, none⟩ = some (.int .i64 q0) := hq2.cell 0
  have u1 : (V.setCells p 0 z.toList).cell? ⟨r, 0, none⟩ = some (.int .i64 r0) := hr2.cell 0
  have u2 := hq2.frozen 0
  have u3 := hr2.frozen 0
  have HTH := hidV (Blk.there hp1 (show z.size ≤ (pv p0).size by rw [hzs, pv_size, hp0.1]; exact Nat.le_refl _))
  have H1 := hidV hp2
  have H2 := hidV hq2
  have H3 := hidV hr2
  have HZ1 := hidV hz1
  have nqr : ¬ q = r := hqr
  have HFW := hidV hfw
  clear hp1 hq1 hr1 hq2 hr2 hp2 ht1 hz1 hfw
  have hsz : (Tryd.prog.info? 37).map (·.size) = some z.size := by rw [HZ.out]; exact size_poly zeros_good
  have hon : z.all (·.oneCell') = true := by rw [HZ.out]; exact pv_one _
  go_wp2_with (first | (refine wpList_load_row (by rfl) 37 _ (by rfl) nb (by rfl) 37 z (0, 0) _ HZ1.out Tryd.underlying37 (by rfl) hsz ?_) | (refine wpList_store_mid (by rfl) 37 _ _ (by rfl) p 0 z (by rfl) (by rfl) HTH.out hsz hon ?_))
  rw [HQ.out]
  have P1 : Blk (((V.setCells p 0 z.toList).setCell ⟨q, 0, none⟩ (.int .i64 x)).setCell ⟨r, 0, none⟩ (.int .i64 y)) p (pv zeros) 37 := by
    rw [← HZ.out]; exact (H1.out.setOther _ _ hpq).setOther _ _ hpr
  have P2 : Blk (((V.setCells p 0 z.toList).setCell ⟨q, 0, none⟩ (.int .i64 x)).setCell ⟨r, 0, none⟩ (.int .i64 y)) q #[.int .i64 x] 22 := (H2.out.set 0 _).setOther _ _ hqr
  have P3 : Blk (((V.setCells p 0 z.toList).setCell ⟨q, 0, none⟩ (.int .i64 x)).setCell ⟨r, 0, none⟩ (.int .i64 y)) r #[.int .i64 y] 3 := (H3.out.setOther _ _ (Ne.symm hqr)).set 0 _
  have P4 : Fr [p, q, r] w (((V.setCells p 0 z.toList).setCell ⟨q, 0, none⟩ (.int .i64 x)).setCell ⟨r, 0, none⟩ (.int .i64 y)) := ((HFW.out.setCells _ _ _ (by simp)).setCell _ _ (by simp)).setCell _ _ (by simp)
  generalize (((V.setCells p 0 z.toList).setCell ⟨q, 0, none⟩ (.int .i64 x)).setCell ⟨r, 0, none⟩ (.int .i64 y)) = W at *
  simp [bodyPostS, results, Tryd.results35]
  exact ⟨P1, P2, P3, P4⟩
end Go.Proofs.YthlmgpllapccfaaDoor
/- THE READER: Polynomial. -/
namespace Go.Proofs.YthlmgpllapccfaaDoor
open Go.RowKit

set_option maxRecDepth 100000 in
set_option maxHeartbeats 1000000 in
theorem catch_idle (p q r : Nat) (w : World) :
    CallsD Tryd.prog 35 #[.pointer (some ⟨p, 0, none⟩), .pointer (some ⟨q, 0, none⟩), .pointer (some ⟨r, 0, none⟩)] .returning w fun e u' w' =>
      e = .returned (.tuple #[]) ∧ u' = .returning ∧ w' = w := by
  refine callsD_of_wpS Tryd.func35 rfl fun c₀ cs hu => ?_
  apply wpS_seq
  apply wpS_region
  simp [wpOpsS, go_sem, recoverD, hu, Tryd.ntmps35, Exit.thenS]
  refine wpS_of_wp ?_
  refine wp_named ⟨#[Value.pointer (some ⟨p, 0, none⟩), Value.pointer (some ⟨q, 0, none⟩), Value.pointer (some ⟨r, 0, none⟩), .nilIface, undef, undef, undef, undef, .nilIface, undef, undef, undef, undef, undef, undef, undef, undef, undef, undef, undef, undef, undef, undef, undef, undef, undef], []⟩ (by kernel_rfl) ?_
  intro Q' hQ
  have HQ := hidV hQ
  clear hQ
  have he : ∀ w : World, (binOp .eql 20 .nilIface .nilIface).run Tryd.prog w = .ok (.bool true) w := fun _ => by kernel_rfl
  go_wp2
  rw [HQ.out]
  cases c₀
  simp_all [bodyPostS, results, Tryd.results35]

theorem results_poly (tmps : Array Value) (w : World) (g1 g2 g3 : Nat) (p : List Nat) (e b : Int) (h1 : tmps.getD 4 undef = .pointer (some ⟨g1, 0, none⟩)) (h2 : tmps.getD 5 undef = .pointer (some ⟨g2, 0, none⟩)) (h3 : tmps.getD 6 undef = .pointer (some ⟨g3, 0, none⟩))
    (hp : Good p) (b1 : Blk w g1 (pv p) 37) (b2 : Blk w g2 #[.int .i64 e] 22) (b3 : Blk w g3 #[.int .i64 b] 3) :
    (results Tryd.f24 tmps).run Tryd.prog w = .ok (.tuple #[.agg (pv p), .int .i64 e, .int .i64 b]) w := by
  have l1 := run_loadVar_row (P := Tryd.prog) w g1 37 37 (pv p) (0, 0) _ b1 Tryd.underlying37 rfl (size_poly hp)
  have e2 : w.cell? ⟨g2, 0, none⟩ = some (.int .i64 e) := b2.cell 0
  have e3 : w.cell? ⟨g3, 0, none⟩ = some (.int .i64 b) := b3.cell 0
  have l2 : (loadVar 22 ⟨g2, 0, none⟩).run Tryd.prog w = .ok (.int .i64 e) w := by simp [loadVar, isAgg, underlying, Tryd.underlying22, e2]
  have l3 : (loadVar 3 ⟨g3, 0, none⟩).run Tryd.prog w = .ok (.int .i64 b) w := by simp [loadVar, isAgg, underlying, Tryd.underlying3, e3]
  have h1' : tmps[4]?.getD undef = .pointer (some ⟨g1, 0, none⟩) := by simpa using h1
  have h2' : tmps[5]?.getD undef = .pointer (some ⟨g2, 0, none⟩) := by simpa using h2
  have h3' : tmps[6]?.getD undef = .pointer (some ⟨g3, 0, none⟩) := by simpa using h3
  simp [results, Tryd.results24, h1', h2', h3', asAddr, l1, l2, l3]

/-- The blocks of the results, while nothing has been read. -/
def Three (w0 w : World) (p : List Nat) (e b : Int) : Prop := Blk w w0.heap.size (pv p) 37 ∧ Blk w (w0.heap.size + 1) #[.int .i64 e] 22 ∧ Blk w (w0.heap.size + 1 + 1) #[.int .i64 b] 3
theorem Three.fr {bs : List Nat} {w0 w w' : World} {p : List Nat} {e b : Int} (h : Three w0 w p e b) (f : Fr bs w w') (hb : ∀ x ∈ bs, x ≠ w0.heap.size ∧ x ≠ w0.heap.size + 1 ∧ x ≠ w0.heap.size + 1 + 1) : Three w0 w' p e b :=
  ⟨h.1.fr f (fun q => (hb _ q).1 rfl), h.2.1.fr f (fun q => (hb _ q).2.1 rfl), h.2.2.fr f (fun q => (hb _ q).2.2 rfl)⟩

/-- The cell that errors.errorType holds. -/
def ErrT (w : World) : Prop := w.cell? ⟨0, 0, none⟩ = some (.iface 118 (.agg #[.pointer (some ⟨5, 77, none⟩)]))
theorem ErrT.lt {w : World} (h : ErrT w) : 0 < w.heap.size := by
  rcases Nat.eq_zero_or_pos w.heap.size with h0 | g
  · unfold ErrT at h; simp [World.cell?, h0] at h
  · exact g
theorem ErrT.fr {bs : List Nat} {w w' : World} (h : ErrT w) (f : Fr bs w w') (hb : 0 ∉ bs) : ErrT w' := by
  unfold ErrT at *
  rw [f.cell 0 (ErrT.lt h) hb]; exact h

/-- Where the reading ended in a panic, the deferred function has caught it. -/
theorem caught (b : Nat) (w W : World) (tmps : Array Value) (p0 : List Nat) (x y : Int) (R : Ending → World → Prop) (h1 : tmps.getD 4 undef = .pointer (some ⟨w.heap.size, 0, none⟩)) (h2 : tmps.getD 5 undef = .pointer (some ⟨w.heap.size + 1, 0, none⟩)) (h3 : tmps.getD 6 undef = .pointer (some ⟨w.heap.size + 1 + 1, 0, none⟩))
    (ht : Three w W p0 0 0) (hp0 : Good p0) (hg : ErrT W) (hw : Fr [b] w W)
    (hR : ∀ W', Fr [b] w W' → R (.returned (.tuple #[.agg (pv zeros), .int .i64 x, .int .i64 y])) W') :
    Leaves Tryd.prog Tryd.f24 tmps R [{ target := .fn (.func 35) #[.pointer (some ⟨w.heap.size, 0, none⟩), .pointer (some ⟨w.heap.size + 1, 0, none⟩), .pointer (some ⟨w.heap.size + 1 + 1, 0, none⟩)], args := #[] }] (.panicking (faulty x y)) W := by
  refine leaves_cons (f := 35) (args := #[.pointer (some ⟨w.heap.size, 0, none⟩), .pointer (some ⟨w.heap.size + 1, 0, none⟩), .pointer (some ⟨w.heap.size + 1 + 1, 0, none⟩)]) (by simp) (by simp [go_sem]) ?_
  refine (catch_panicking w.heap.size (w.heap.size + 1) (w.heap.size + 1 + 1) x y p0 0 0 W ht.1 hp0 ht.2.1 ht.2.2 (by omega) (by omega) (by omega) hg).mono ?_
  rintro e u' W' ⟨rfl, rfl, b1, b2, b3, hf⟩
  refine ⟨_, results_poly tmps W' _ _ _ zeros x y h1 h2 h3 zeros_good b1 b2 b3, hR W' ?_⟩
  exact hw.trans hf (by simp; omega)
theorem idle (w W : World) (tmps : Array Value) (p : List Nat) (R : Ending → World → Prop) (h1 : tmps.getD 4 undef = .pointer (some ⟨w.heap.size, 0, none⟩)) (h2 : tmps.getD 5 undef = .pointer (some ⟨w.heap.size + 1, 0, none⟩)) (h3 : tmps.getD 6 undef = .pointer (some ⟨w.heap.size + 1 + 1, 0, none⟩))
    (ht : Three w W p 0 0) (hp : Good p) (hR : R (.returned (.tuple #[.agg (pv p), .int .i64 0, .int .i64 0])) W) :
    Leaves Tryd.prog Tryd.f24 tmps R [{ target := .fn (.func 35) #[.pointer (some ⟨w.heap.size, 0, none⟩), .pointer (some ⟨w.heap.size + 1, 0, none⟩), .pointer (some ⟨w.heap.size + 1 + 1, 0, none⟩)], args := #[] }] .returning W := by
  refine leaves_cons (f := 35) (args := #[.pointer (some ⟨w.heap.size, 0, none⟩), .pointer (some ⟨w.heap.size + 1, 0, none⟩), .pointer (some ⟨w.heap.size + 1 + 1, 0, none⟩)]) (by simp) (by simp [go_sem]) ?_
  refine (catch_idle w.heap.size (w.heap.size + 1) (w.heap.size + 1 + 1) W).mono ?_
  rintro e u' W' ⟨rfl, rfl, rfl⟩
  exact ⟨_, results_poly tmps _ _ _ _ p 0 0 h1 h2 h3 hp ht.1 ht.2.1 ht.2.2, hR⟩

theorem three0 (w : World) : Three w (((w.alloc (.cells #[.int .i64 0, .int .i64 0, .int .i64 0, .int .i64 0, .int .i64 0, .int .i64 0, .int .i64 0, .int .i64 0, .int .i64 0, .int .i64 0, .int .i64 0, .int .i64 0, .int .i64 0, .int .i64 0, .int .i64 0, .int .i64 0, .int .i64 0, .int .i64 0, .int .i64 0, .int .i64 0, .int .i64 0, .int .i64 0, .int .i64 0, .int .i64 0, .int .i64 0, .int .i64 0, .int .i64 0, .int .i64 0, .int .i64 0, .int .i64 0, .int .i64 0, .int .i64 0, .int .i64 0, .int .i64 0, .int .i64 0] 37)).alloc (.cells #[.int .i64 0] 22)).alloc (.cells #[.int .i64 0] 3)) zeros 0 0 :=
  ⟨Blk.alloc (Blk.alloc (Blk.new w _ _) _) _, Blk.alloc (Blk.newAt _ _ _ (by simp)) _, Blk.newAt _ _ _ (by simp)⟩

variable {M : Value} {D : Int}
set_option maxRecDepth 100000 in
set_option maxHeartbeats 1000000 in
theorem readPoly_long (s : ByteArray) (b : Nat) (t : Tok) (w : World) (hr : Rd w b s M D false t) (hg : ErrT w) (hb0 : 0 < b) (hl : 90 < s.size) (hm : s.size ≤ 140737488351232) :
    Calls Tryd.prog 24 #[.pointer (some ⟨b, 0, none⟩), .func (.func 25) #[] #[]] w fun e w' => e = .returned (.tuple #[.agg (pv zeros), .int .i64 2, .int .i64 0]) ∧ Fr [b] w w' := by
  have hmf : ∀ (fn : Fn) (first cap : Array Value) (w : World), (Instr.makeFunc fn first cap).run Tryd.prog w = .ok (.func fn first cap) w := fun _ _ _ _ => rfl
  have HG := hidV hg
  have HR := hidV hr
  have HB0 := hidV hb0
  clear hg hr hb0
  go_enter_defers Tryd.func24, Tryd.ntmps24
  go_wp2_with fail
  refine (begin_long s b t _ (by exact Blk.alloc (Blk.alloc (Blk.alloc HR.out _) _) _) hl hm).mono ?_
  rintro e w1 ⟨rfl, rfl⟩
  go_wp2
  exact caught b w _ _ zeros 2 0 _ rfl rfl rfl (three0 w) zeros_good (HG.out.fr (bs := []) ((((Fr.refl [] w).alloc _).alloc _).alloc _) (by simp)) ((((Fr.refl [b] w).alloc _).alloc _).alloc _) (fun W' h => ⟨rfl, h⟩)

theorem polynomial_ok (s : ByteArray) (b : Nat) (w : World) (hs : s.size ≤ 1000) (hr : Rd w b s M D false (tk s 0 0)) (h : (poly (tk s 0) false s.size 0).e = 0) :
    Calls Tryd.prog 25 #[.pointer (some ⟨b, 0, none⟩)] w fun e w' => e = .returned (.agg (pv (poly (tk s 0) false s.size 0).p)) ∧ Good (poly (tk s 0) false s.size 0).p ∧ Rd w' b s M D false (tk s 0 (poly (tk s 0) false s.size 0).k) ∧ Fr [b] w w' :=
  (polynomial_any s (tk s 0) 0 b w hs (Str.tk (Nat.zero_le _)) (Nat.zero_le _) hr).mono (by rintro e w1 (g | g); exact g.2; exact absurd h g.1)
theorem polynomial_not (s : ByteArray) (b : Nat) (w : World) (hs : s.size ≤ 1000) (hr : Rd w b s M D false (tk s 0 0)) (h : (poly (tk s 0) false s.size 0).e ≠ 0) :
    Calls Tryd.prog 25 #[.pointer (some ⟨b, 0, none⟩)] w fun e w' => e = .panicked (faulty (poly (tk s 0) false s.size 0).e (poly (tk s 0) false s.size 0).bad) ∧ Fr [b] w w' :=
  (polynomial_any s (tk s 0) 0 b w hs (Str.tk (Nat.zero_le _)) (Nat.zero_le _) hr).mono (by rintro e w1 (g | g); exact absurd g.1 h; exact g.2)
theorem pk_not0 {c : Nat} (h : c ≠ 0) : pk c ≠ 0 := by
  unfold pk
  repeat' split
  all_goals omega

set_option maxRecDepth 100000 in
set_option maxHeartbeats 2000000 in
theorem readPoly_short (s : ByteArray) (b : Nat) (t : Tok) (w : World) (hr : Rd w b s M D false t) (hg : ErrT w) (hb0 : 0 < b) (hl : ¬ 90 < s.size) :
    Calls Tryd.prog 24 #[.pointer (some ⟨b, 0, none⟩), .func (.func 25) #[] #[]] w fun e w' => e = .returned (.tuple #[.agg (pv (rd s).p), .int .i64 (rd s).e, .int .i64 (rd s).bad]) ∧ Good (rd s).p ∧ Fr [b] w w' := by
  have hmf : ∀ (fn : Fn) (first cap : Array Value) (w : World), (Instr.makeFunc fn first cap).run Tryd.prog w = .ok (.func fn first cap) w := fun _ _ _ _ => rfl
  have HG := hidV hg
  have HR := hidV hr
  have hbw : b < w.heap.size := Blk.lt hr
  have h3 := hidV (three0 w)
  have HZB : Hid (0 ∉ [b]) := by unfold Hid; simp; omega
  generalize hrr : rd s = RR
  have HRR := hidV hrr
  clear hg hrr hr hb0
  go_enter_defers Tryd.func24, Tryd.ntmps24
  go_wp2_with fail
  refine (begin_short s b t _ (by exact Blk.alloc (Blk.alloc (Blk.alloc HR.out _) _) _) hl).mono ?_
  rintro e w1 ⟨rfl, hr1, hfb⟩
  have hf1 : Fr [b] w w1 := ((((Fr.refl [b] w).alloc _).alloc _).alloc _).trans hfb (by simp)
  have h31 : Three w w1 zeros 0 0 := h3.out.fr hfb (by simp; omega)
  have HF1 := hidV hf1
  have H31 := hidV h31
  have HR1 : Hid (Rd w1 b s M D false (tk s 0 0)) := hr1
  clear hf1 h31 hr1 hfb
  by_cases he : (poly (tk s 0) false s.size 0).e = 0
  · go_wp2_with fail
    refine (polynomial_ok s b _ (by omega) HR1.out he).mono ?_
    rintro e w2 ⟨rfl, hgp, hr2, hf2⟩
    have HF2 : Hid (Fr [b] w w2) := HF1.out.trans hf2 (by simp)
    have H32 : Three w w2 zeros 0 0 := H31.out.fr hf2 (by simp; omega)
    have hs2 : w2.there w.heap.size 0 (pv (poly (tk s 0) false s.size 0).p).size := Blk.there H32.1 (by rw [pv_size, pv_size, hgp.1]; exact Nat.le_refl _)
    have H33 : Hid (Three w (w2.setCells w.heap.size 0 (pv (poly (tk s 0) false s.size 0).p).toList) (poly (tk s 0) false s.size 0).p 0 0) := ⟨Blk.setAll H32.1 _ (by rw [pv_size, pv_size, hgp.1]; rfl), Blk.setCellsOther H32.2.1 _ _ _ (by omega), Blk.setCellsOther H32.2.2 _ _ _ (by omega)⟩
    have HR3 : Hid (Rd (w2.setCells w.heap.size 0 (pv (poly (tk s 0) false s.size 0).p).toList) b s M D false (tk s 0 (poly (tk s 0) false s.size 0).k)) := Blk.setCellsOther hr2 _ _ _ (by omega)
    have HF3 : Hid (Fr [b] w (w2.setCells w.heap.size 0 (pv (poly (tk s 0) false s.size 0).p).toList)) := HF2.out.setCells _ _ _ (by simp)
    have HS := hidV hs2
    clear hs2 H32 hr2
    by_cases hc : (tk s 0 (poly (tk s 0) false s.size 0).k).c = 0
    · have HE : Hid (RR = ⟨0, 0, (poly (tk s 0) false s.size 0).p⟩) := by unfold Hid; rw [← HRR.out]; unfold rd; rw [if_neg hl, if_pos he, if_pos hc]
      have HPK : Hid (pk (tk s 0 (poly (tk s 0) false s.size 0).k).c = 0) := by unfold Hid; rw [hc]; rfl
      generalize poly (tk s 0) false s.size 0 = PP at *
      go_wp2_with (refine wpList_store_mid (by rfl) 37 _ (.tmp 12) (by rfl) w.heap.size 0 (pv PP.p) (by rfl) (by rfl) HS.out (size_poly hgp) (pv_one _) ?_)
      refine (expect_ok s (tk s 0) PP.k b 0 _ (by omega) (Str.tk (Nat.zero_le _)) HR3.out HPK.out).mono ?_
      rintro e W ⟨rfl, hrW, hfW⟩
      have H34 : Hid (Three w W PP.p 0 0) := H33.out.fr hfW (by simp; omega)
      have HF4 : Hid (Fr [b] w W) := HF3.out.trans hfW (by simp)
      clear HS HR3 H33 HF3 hrW hfW
      have HS : Hid (W.there w.heap.size 0 (pv PP.p).size) := Blk.there H34.out.1 (Nat.le_refl _)
      have b1 : Blk (W.setCells w.heap.size 0 (pv PP.p).toList) w.heap.size (pv PP.p) 37 := Blk.setAll H34.out.1 _ rfl
      have b2 : Blk (W.setCells w.heap.size 0 (pv PP.p).toList) (w.heap.size + 1) #[.int .i64 0] 22 := Blk.setCellsOther H34.out.2.1 _ _ _ (by omega)
      have b3 : Blk (W.setCells w.heap.size 0 (pv PP.p).toList) (w.heap.size + 1 + 1) #[.int .i64 0] 3 := Blk.setCellsOther H34.out.2.2 _ _ _ (by omega)
      have e0 : (W.setCells w.heap.size 0 (pv PP.p).toList).cell? ⟨w.heap.size + 1, 0, none⟩ = some (.int .i64 0) := b2.cell 0
      have e1 : (W.setCells w.heap.size 0 (pv PP.p).toList).cell? ⟨w.heap.size + 1 + 1, 0, none⟩ = some (.int .i64 0) := b3.cell 0
      have e2 := b2.frozen 0
      have e3 := b3.frozen 0
      have B1 := hidV b1
      have B2 := hidV b2
      have B3 := hidV b3
      clear b1 b2 b3
      go_wp2_with (first | (refine wpList_load_row (by rfl) 37 _ (by rfl) w.heap.size (by rfl) 37 (pv PP.p) (0, 0) _ H34.out.1 Tryd.underlying37 (by rfl) (size_poly hgp) ?_) | (refine wpList_store_mid (by rfl) 37 _ (.tmp 15) (by rfl) w.heap.size 0 (pv PP.p) (by rfl) (by rfl) HS.out (size_poly hgp) (pv_one _) ?_))
      refine idle w _ _ PP.p _ rfl rfl rfl ⟨(B1.out.setOther _ _ (by simp)).setOther _ _ (by simp; omega), (B2.out.set 0 _).setOther _ _ (by simp), (B3.out.setOther _ _ (by simp)).set 0 _⟩ hgp ⟨?_, ?_, ?_⟩
      · rw [HE.out]; rfl
      · rw [HE.out]; exact hgp
      · exact ((HF4.out.setCells _ _ _ (by simp)).setCell _ _ (by simp)).setCell _ _ (by simp; omega)
    · have HE : Hid (RR = ⟨4, (tk s 0 (poly (tk s 0) false s.size 0).k).at', zeros⟩) := by unfold Hid; rw [← HRR.out]; unfold rd; rw [if_neg hl, if_pos he, if_neg hc]
      have HPK := hidV (pk_not0 hc)
      generalize poly (tk s 0) false s.size 0 = PP at *
      go_wp2_with (refine wpList_store_mid (by rfl) 37 _ (.tmp 12) (by rfl) w.heap.size 0 (pv PP.p) (by rfl) (by rfl) HS.out (size_poly hgp) (pv_one _) ?_)
      refine (expect_not s _ b 0 _ HR3.out HPK.out).mono ?_
      rintro e W ⟨rfl, hfW⟩
      have H34 : Hid (Three w W PP.p 0 0) := H33.out.fr hfW (by simp; omega)
      have HF4 : Hid (Fr [b] w W) := HF3.out.trans hfW (by simp)
      go_wp2
      refine caught b w _ _ PP.p _ _ _ rfl rfl rfl H34.out hgp (HG.out.fr HF4.out HZB.out) HF4.out (fun W' h => ⟨?_, ?_, h⟩)
      · rw [HE.out]; rfl
      · rw [HE.out]; exact zeros_good
  · have HE : Hid (RR = ⟨(poly (tk s 0) false s.size 0).e, (poly (tk s 0) false s.size 0).bad, zeros⟩) := by unfold Hid; rw [← HRR.out]; unfold rd; rw [if_neg hl, if_neg he]
    go_wp2_with fail
    refine (polynomial_not s b _ (by omega) HR1.out he).mono ?_
    rintro e w2 ⟨rfl, hf2⟩
    have HF2 : Hid (Fr [b] w w2) := HF1.out.trans hf2 (by simp)
    have H32 : Hid (Three w w2 zeros 0 0) := H31.out.fr hf2 (by simp; omega)
    generalize poly (tk s 0) false s.size 0 = PP at *
    go_wp2
    refine caught b w _ _ zeros _ _ _ rfl rfl rfl H32.out zeros_good (HG.out.fr HF2.out HZB.out) HF2.out (fun W' h => ⟨?_, ?_, h⟩)
    · rw [HE.out]
    · rw [HE.out]; exact zeros_good

set_option maxHeartbeats 1000000 in
/-- The program reads a text as 'rd' does. -/
theorem Polynomial_any (s : ByteArray) (w : World) (hg : ErrT w) (hm : s.size ≤ 140737488351232) :
    Calls Tryd.prog 15 #[.string s] w fun e w' => e = .returned (.tuple #[.agg (pv (rd s).p), .int .i64 (rd s).e, .int .i64 (rd s).bad]) ∧ Good (rd s).p ∧ Below w.heap.size w w' := by
  have hmf : ∀ (fn : Fn) (first cap : Array Value) (w : World), (Instr.makeFunc fn first cap).run Tryd.prog w = .ok (.func fn first cap) w := fun _ _ _ _ => rfl
  have HG := hidV hg
  have HL : Hid (0 < w.heap.size) := hg.lt
  have HRP : Hid (∀ (b : Nat) (t : Tok) (w : World), Rd w b s (.map none) 0 false t → ErrT w → 0 < b → Calls Tryd.prog 24 #[.pointer (some ⟨b, 0, none⟩), .func (.func 25) #[] #[]] w fun e w' => e = .returned (.tuple #[.agg (pv (rd s).p), .int .i64 (rd s).e, .int .i64 (rd s).bad]) ∧ Good (rd s).p ∧ Fr [b] w w') := by
    intro b t w hr hg hb
    by_cases hl : 90 < s.size
    · refine (readPoly_long s b t w hr hg hb hl hm).mono ?_
      rintro e w' ⟨rfl, h⟩
      have : rd s = ⟨2, 0, zeros⟩ := by unfold rd; rw [if_pos hl]
      rw [this]
      exact ⟨rfl, zeros_good, h⟩
    · exact readPoly_short s b t w hr hg hb hl
  clear hg
  go_enter Tryd.func15, Tryd.ntmps15
  go_wp2_with fail
  refine (HRP.out (w.heap.size + 1) ⟨0, 0, 0, 0⟩ _ (by exact Blk.newAt _ _ _ (by simp)) (HG.out.fr (bs := []) (((Fr.refl [] w).alloc _).alloc _) (by simp)) (by omega)).mono ?_
  rintro e w1 ⟨rfl, hgp, hfr⟩
  have hq : Blk w1 w.heap.size (pv zeros) 37 := Blk.fr (by exact Blk.alloc (Blk.new w _ _) _) hfr (by simp)
  have HF : Hid (Below w.heap.size w w1) := ((((Fr.refl [] w).alloc _).alloc _).trans hfr (by simp)).below (Nat.le_refl _) (by simp)
  have HTH := hidV (Blk.there hq (show (pv (rd s).p).size ≤ (pv zeros).size by rw [pv_size, pv_size, hgp.1]; exact Nat.le_refl _))
  have HB : Hid (Blk (w1.setCells w.heap.size 0 (pv (rd s).p).toList) w.heap.size (pv (rd s).p) 37) := Blk.setAll hq _ (by rw [pv_size, pv_size, hgp.1]; rfl)
  clear hq hfr HRP
  generalize hRR : rd s = R at *
  have HRR := hidV hRR
  clear hRR
  go_wp2_with (refine wpList_store_mid (by rfl) 37 _ _ (by rfl) w.heap.size 0 (pv R.p) (by rfl) (by rfl) HTH.out (size_poly hgp) (pv_one _) ?_)
  have l1 := run_loadVar_row (P := Tryd.prog) _ w.heap.size 37 37 (pv R.p) (0, 0) _ HB.out Tryd.underlying37 rfl (size_poly hgp)
  refine bodyPost_ret (v := .tuple #[.agg (pv R.p), .int .i64 R.e, .int .i64 R.bad]) (by simp [results, Tryd.results15, asAddr, l1]) rfl (by rw [HRR.out]; exact ⟨rfl, hgp, Below.setCells HF.out _ _ _ (Nat.le_refl _)⟩)
end Go.Proofs.YthlmgpllapccfaaDoor
