/- THE DOCUMENT's ANSWER: term, with a number. -/
import Derived.Test.YtaajdcaciofmaaaDoorWay3
namespace Go.Proofs.YtaajdcaciofmaaaDoor
open Go.RowKit

set_option maxRecDepth 100000 in
set_option maxHeartbeats 8000000 in
theorem wterm_number (f : Nat → Tok) (N b g n cap c k : Nat) (p : List Nat) (sg : Nat) (bare : Bool) (bad op : Int) (w : World) (h : Wy w b g n cap k 0 bad op) (ht : Tk w g n f) (hp : Blk w c (pv p) 41) (hgp : Good p)
    (hk : k < n) (hn : n ≤ N + 1) (hN : N ≤ 1000) (hend : ∀ j, j < n → (f j).c ≠ 0 → j + 1 < n) (hv : ∀ j, (f j).v ≤ 99) (hsg : sg ≤ 6) (hbg : b ≠ g) (hbc : b ≠ c) (hgc : g ≠ c) (hc : (f k).c = 1) :
    Calls Tryd.prog 58 #[.pointer (some ⟨b, 0, none⟩), .pointer (some ⟨c, 0, none⟩), .int .i64 sg, .bool bare] w fun e w' => e = .returned (.tuple #[]) ∧ TermEnd b g n cap c p (pw f bare (N - (k + 1)) (k + 1) 0 0) (sg * (f k).v) bad op w w' := by
  have hb : b < w.heap.size := Blk.lt h
  have hcl : c < w.heap.size := Blk.lt hp
  have hg := ht.1
  have HW := hideR h
  have HT := hideR ht
  have HPP := hideR hp
  have hrk := rk_one hc
  have hlt0 : k + 1 < n := hend k hk (by omega)
  have hvv := hv k
  have hm1 : (sg : Int) * ((f k).v : Int) ≤ 594 := by
    have h := Nat.mul_le_mul hsg hvv
    have : ((sg * (f k).v : Nat) : Int) ≤ ((6 * 99 : Nat) : Int) := by exact_mod_cast h
    rw [Int.natCast_mul] at this; omega
  have hm0 : 0 ≤ (sg : Int) * ((f k).v : Int) := by
    have : (0 : Int) ≤ ((sg * (f k).v : Nat) : Int) := by omega
    rw [Int.natCast_mul] at this; omega
  generalize hR : pw f bare (N - (k + 1)) (k + 1) 0 0 = R
  have HP : Hid (pw f bare (N - (k + 1)) (k + 1) 0 0 = R) := hR
  have HA : Hid ((sg : Int) * ((f k).v : Int) = ((sg * (f k).v : Nat) : Int)) := by unfold Hid; simp
  clear h ht hp hR hc
  go_enter Tryd.func58, Tryd.ntmps58
  go_wp2_with fail
  refine (next_any b g n cap k f 0 bad op _ HW.out HT.out hk (by omega)).mono ?_
  rintro e w1 ⟨rfl, hb1⟩
  rw [hrk]
  clear hrk
  have hz1 := hb1.size
  have hf1 : Fr [b, c] w w1 := Fr.of_below hb1
  have hw1 : Wy w1 b g n cap k 0 bad op := Blk.fr HW.out (Fr.of_below (bs := []) hb1) (by simp)
  have hp1 : Blk w1 c (pv p) 41 := HPP.out.fr (Fr.of_below (bs := []) hb1) (by simp)
  have nbd : ¬ b = w1.heap.size := by omega
  have ncd : ¬ c = w1.heap.size := by omega
  have ndb : ¬ w1.heap.size = b := by omega
  have HF1 := hideR hf1
  have HW1 := hideR hw1
  have HP1 := hideR hp1
  clear hf1 hw1 hp1 hb1
  obtain ⟨a0, a1, a2, a3, a4⟩ := Wy.cells HW1.out
  obtain ⟨g0, g1, g2, g3, g4⟩ := Wy.free HW1.out
  have hb1 : b < w1.heap.size := by omega
  have x1 : (w1.alloc (.cells #[.int .i64 1, .int .i64 (f k).at', .int .i64 (f k).v, .string (rs (f k).c)] 103)).cell? ⟨b, 1, none⟩ = some (.int .i64 k) := (Blk.alloc HW1.out _).cell 1
  have x2 : (w1.alloc (.cells #[.int .i64 1, .int .i64 (f k).at', .int .i64 (f k).v, .string (rs (f k).c)] 103)).frozen? ⟨b, 1, none⟩ = false := (Blk.alloc HW1.out _).frozen 1
  go_wp2
  clear a0 a1 a2 a3 a4 g0 g1 g2 g3 g4 x1 x2
  go_loopg [9, 10] (N - (k + 1)) (fun m v9 v10 wr => ∃ (k' u x : Nat) (y0 y1 y2 : Int) (y3 : ByteArray), m = N - k' ∧ v9 = .int .i64 u ∧ v10 = .int .i64 x ∧ u ≤ 6 ∧ x ≤ 4 ∧ k' < n ∧ Wy wr b g n cap k' 0 bad op ∧ Blk wr c (pv p) 41 ∧ Blk wr w1.heap.size #[.int .i64 y0, .int .i64 y1, .int .i64 y2, .string y3] 103 ∧ Fr [b, c] w wr ∧ Hid (pw f bare (N - k') k' u x = R))
  case atStart =>
    refine ⟨k + 1, 0, 0, _, _, _, _, rfl, rfl, rfl, by omega, by omega, hlt0, ?_, Blk.alloc (HP1.out.setOther _ _ (Ne.symm hbc)) _, Blk.newAt _ _ _ (by simp), (HF1.out.setCell _ _ (by simp)).alloc _, HP⟩
    have e : (((k + 1 : Nat) : Int)) = (k : Int) + 1 := by omega
    unfold Wy; rw [e]
    exact Blk.alloc (Blk.set HW1.out 1 _) _
  case round =>
    obtain ⟨k', u, x, y0, y1, y2, y3, hm, rfl, rfl, hu, hx, hk', hw, hpb, ht8, hfw, HQ⟩ := hrel
    have hT : Tk wr g n f := HT.out.fr hfw (by simp; omega)
    obtain ⟨c0, c1, c2, c3, c4⟩ := hw.cells
    obtain ⟨f0, f1, f2, f3, f4⟩ := hw.free
    obtain ⟨t0, t1, t2, t3⟩ := ht8.cells4
    obtain ⟨z0, z1, z2, z3⟩ := ht8.free4
    obtain ⟨d0, d1, d2, d3⟩ := hT.cells hk'
    have hvk := hv k'
    have i0 : (0 : Int) ≤ (k' : Int) := by omega
    have i1 : (k' : Int) < (n : Int) := by omega
    have HWr := hideR hw
    have HPr := hideR hpb
    have HDr := hideR ht8
    clear hw hpb ht8 hT
    by_cases h2 : (f k').c = 2
    · have hlt : k' + 1 < n := hend k' hk' (by omega)
      rw [rk_two (Or.inl h2)] at d0
      rw [h2, rs_two] at d3
      have H2 := hideR h2
      clear h2
      by_cases hle : u + (f k').v ≤ 6
      · go_wp2
        go_quiet (fail)
        go_wp2
        refine region_quiet_tail 10 (by kernel_rfl) (by kernel_rfl) ?_
        simp only [List.take_succ_cons, List.take_zero, List.drop_succ_cons, List.drop_zero]
        repeat (first | go_big_quiet_step ((fail)) | quiet_step ((fail)))
        refine wpQuiet_nil ?_
        rintro _ ⟨nr, rfl⟩
        go_wp2
        go_roundg (N - (k' + 1))
        case measure => omega
        case rel =>
          refine ⟨k' + 1, u + (f k').v, x, 2, (f k').at', (f k').v, ⟨#[117]⟩, rfl, by go_num, by go_num, hle, hx, hlt, ?_, ?_, ?_, ?_, ?_⟩
          · have e : (((k' + 1 : Nat) : Int)) = (k' : Int) + 1 := by omega
            unfold Wy; rw [e]
            refine Blk.set (cs := #[.slice (some ⟨g, 0, none⟩) n cap, .int .i64 k', .int .i64 0, .int .i64 bad, .int .i64 op]) ?_ 1 _
            repeat (refine Blk.setOther ?_ _ _ nbd)
            exact HWr.out
          · exact Blk.setOther (Blk.setOther (Blk.setOther (Blk.setOther (Blk.setOther (by exact HPr.out) _ _ ncd) _ _ ncd) _ _ ncd) _ _ ncd) _ _ (Ne.symm hbc)
          · exact Blk.setOther (Blk.store4 (by exact HDr.out) _ _ _ _) _ _ (Ne.symm nbd)
          · exact Fr.setCell (Fr.setCell (Fr.setCell (Fr.setCell (Fr.setCell (hfw.drewN _) _ _ (by simp; omega)) _ _ (by simp; omega)) _ _ (by simp; omega)) _ _ (by simp; omega)) _ _ (by simp)
          · unfold Hid
            rw [← HQ.out, pw_u (by omega) H2.out hle]; congr 1
      · have HB : Hid (R = ⟨5, (f k').at', k', u, x⟩) := by unfold Hid; rw [← HQ.out, pw_u_bad (by omega) H2.out hle]
        go_wp2
        go_quiet (fail)
        go_wp2
        refine region_quiet_tail 10 (by kernel_rfl) (by kernel_rfl) ?_
        simp only [List.take_succ_cons, List.take_zero, List.drop_succ_cons, List.drop_zero]
        repeat (first | go_big_quiet_step ((fail)) | quiet_step ((fail)))
        refine wpQuiet_nil ?_
        rintro _ ⟨nr, rfl⟩
        go_wp2_with fail
        refine (wrong_first b g n cap k' _ _ bad op _ (by exact Blk.setOther (Blk.setOther (Blk.setOther (Blk.setOther (by exact HWr.out) _ _ nbd) _ _ nbd) _ _ nbd) _ _ nbd)).mono ?_
        rintro e w5 ⟨rfl, h5, hf5⟩
        go_wp2
        first | go_end0 | refine bodyPost_ret (results_none rfl _ _ _) rfl ?_
        refine ⟨rfl, Or.inr ⟨?_, ⟨k', hk', ?_⟩, ?_, ?_⟩⟩
        · rw [HB.out]; simp
        · rw [HB.out]; exact h5
        · exact Blk.fr (Blk.setOther (Blk.setOther (Blk.setOther (Blk.setOther (by exact HPr.out) _ _ ncd) _ _ ncd) _ _ ncd) _ _ ncd) hf5 (by simp; exact Ne.symm hbc)
        · exact (Fr.setCell (Fr.setCell (Fr.setCell (Fr.setCell (hfw.drewN _) _ _ (by simp; omega)) _ _ (by simp; omega)) _ _ (by simp; omega)) _ _ (by simp; omega)).trans hf5 (by simp)
    · by_cases h3 : (f k').c = 3
      · have hlt : k' + 1 < n := hend k' hk' (by omega)
        rw [rk_two (Or.inr h3)] at d0
        rw [h3, rs_three] at d3
        have H3 := hideR h3
        clear h3 h2
        cases bare
        · by_cases hle : x + (f k').v ≤ 4
          · go_wp2
            go_quiet (fail)
            go_wp2
            refine region_quiet_tail 10 (by kernel_rfl) (by kernel_rfl) ?_
            simp only [List.take_succ_cons, List.take_zero, List.drop_succ_cons, List.drop_zero]
            repeat (first | go_big_quiet_step ((fail)) | quiet_step ((fail)))
            refine wpQuiet_nil ?_
            rintro _ ⟨nr, rfl⟩
            go_wp2
            go_roundg (N - (k' + 1))
            case measure => omega
            case rel =>
              refine ⟨k' + 1, u, x + (f k').v, 2, (f k').at', (f k').v, ⟨#[120]⟩, rfl, by go_num, by go_num, hu, hle, hlt, ?_, ?_, ?_, ?_, ?_⟩
              · have e : (((k' + 1 : Nat) : Int)) = (k' : Int) + 1 := by omega
                unfold Wy; rw [e]
                refine Blk.set (cs := #[.slice (some ⟨g, 0, none⟩) n cap, .int .i64 k', .int .i64 0, .int .i64 bad, .int .i64 op]) ?_ 1 _
                repeat (refine Blk.setOther ?_ _ _ nbd)
                exact HWr.out
              · exact Blk.setOther (Blk.setOther (Blk.setOther (Blk.setOther (Blk.setOther (by exact HPr.out) _ _ ncd) _ _ ncd) _ _ ncd) _ _ ncd) _ _ (Ne.symm hbc)
              · exact Blk.setOther (Blk.store4 (by exact HDr.out) _ _ _ _) _ _ (Ne.symm nbd)
              · exact Fr.setCell (Fr.setCell (Fr.setCell (Fr.setCell (Fr.setCell (hfw.drewN _) _ _ (by simp; omega)) _ _ (by simp; omega)) _ _ (by simp; omega)) _ _ (by simp; omega)) _ _ (by simp)
              · unfold Hid
                rw [← HQ.out, pw_x (by omega) H3.out hle]; congr 1
          · have HB : Hid (R = ⟨5, (f k').at', k', u, x⟩) := by unfold Hid; rw [← HQ.out, pw_x_bad (by omega) H3.out hle]
            go_wp2
            go_quiet (fail)
            go_wp2
            refine region_quiet_tail 10 (by kernel_rfl) (by kernel_rfl) ?_
            simp only [List.take_succ_cons, List.take_zero, List.drop_succ_cons, List.drop_zero]
            repeat (first | go_big_quiet_step ((fail)) | quiet_step ((fail)))
            refine wpQuiet_nil ?_
            rintro _ ⟨nr, rfl⟩
            go_wp2_with fail
            refine (wrong_first b g n cap k' _ _ bad op _ (by exact Blk.setOther (Blk.setOther (Blk.setOther (Blk.setOther (by exact HWr.out) _ _ nbd) _ _ nbd) _ _ nbd) _ _ nbd)).mono ?_
            rintro e w5 ⟨rfl, h5, hf5⟩
            go_wp2
            first | go_end0 | refine bodyPost_ret (results_none rfl _ _ _) rfl ?_
            refine ⟨rfl, Or.inr ⟨?_, ⟨k', hk', ?_⟩, ?_, ?_⟩⟩
            · rw [HB.out]; simp
            · rw [HB.out]; exact h5
            · exact Blk.fr (Blk.setOther (Blk.setOther (Blk.setOther (Blk.setOther (by exact HPr.out) _ _ ncd) _ _ ncd) _ _ ncd) _ _ ncd) hf5 (by simp; exact Ne.symm hbc)
            · exact (Fr.setCell (Fr.setCell (Fr.setCell (Fr.setCell (hfw.drewN _) _ _ (by simp; omega)) _ _ (by simp; omega)) _ _ (by simp; omega)) _ _ (by simp; omega)).trans hf5 (by simp)
        · have HB : Hid (R = ⟨7, (f k').at', k', u, x⟩) := by unfold Hid; rw [← HQ.out, pw_x_bare (by omega) H3.out]
          go_wp2
          go_quiet (fail)
          go_wp2
          refine region_quiet_tail 10 (by kernel_rfl) (by kernel_rfl) ?_
          simp only [List.take_succ_cons, List.take_zero, List.drop_succ_cons, List.drop_zero]
          repeat (first | go_big_quiet_step ((fail)) | quiet_step ((fail)))
          refine wpQuiet_nil ?_
          rintro _ ⟨nr, rfl⟩
          go_wp2_with fail
          refine (wrong_first b g n cap k' _ _ bad op _ (by exact Blk.setOther (Blk.setOther (Blk.setOther (Blk.setOther (by exact HWr.out) _ _ nbd) _ _ nbd) _ _ nbd) _ _ nbd)).mono ?_
          rintro e w5 ⟨rfl, h5, hf5⟩
          go_wp2
          first | go_end0 | refine bodyPost_ret (results_none rfl _ _ _) rfl ?_
          refine ⟨rfl, Or.inr ⟨?_, ⟨k', hk', ?_⟩, ?_, ?_⟩⟩
          · rw [HB.out]; simp
          · rw [HB.out]; exact h5
          · exact Blk.fr (Blk.setOther (Blk.setOther (Blk.setOther (Blk.setOther (by exact HPr.out) _ _ ncd) _ _ ncd) _ _ ncd) _ _ ncd) hf5 (by simp; exact Ne.symm hbc)
          · exact (Fr.setCell (Fr.setCell (Fr.setCell (Fr.setCell (hfw.drewN _) _ _ (by simp; omega)) _ _ (by simp; omega)) _ _ (by simp; omega)) _ _ (by simp; omega)).trans hf5 (by simp)
      · have q2 : (rk (f k').c == 2) = false := by rw [beq_eq_false_iff_ne]; exact rk_not2 h2 h3
        have HB : Hid (R = ⟨0, 0, k', u, x⟩) := by unfold Hid; rw [← HQ.out, pw_end h2 h3]
        have hx0 : (0 : Int) ≤ (x : Int) := by omega
        have hx1 : (x : Int) < 5 := by omega
        have hu0 : (0 : Int) ≤ (u : Int) := by omega
        have hu1 : (u : Int) < 7 := by omega
        have hq : x * 7 + u < p.length := by rw [hgp.1]; omega
        have hcell := pv_get hq
        have hv7 := hgp.2 (x * 7 + u)
        have HV : Hid (plus p u x (sg * (f k).v) = p.set (x * 7 + u) ((p.getD (x * 7 + u) 0 + (sg * (f k).v)) % 7)) := by unfold Hid plus; rw [Nat.mul_comm 7 x]
        generalize p.getD (x * 7 + u) 0 = v at *
        have e3 : wr.cell? ⟨c, x * 7 + u, none⟩ = some (.int .i64 v) := by rw [HPr.out.cell]; exact hcell
        have e4 : wr.frozen? ⟨c, x * 7 + u, none⟩ = false := HPr.out.frozen _
        clear h2 h3 hcell
        go_wp2
        go_quiet (fail)
        go_wp2
        refine region_quiet_tail 16 (by kernel_rfl) (by kernel_rfl) ?_
        simp only [List.take_succ_cons, List.take_zero, List.drop_succ_cons, List.drop_zero]
        repeat (first | go_big_quiet_step ((fail)) | quiet_step ((fail)))
        refine wpQuiet_nil ?_
        rintro _ ⟨nr, rfl⟩
        go_wp2
        go_end0
        refine ⟨rfl, Or.inl ⟨?_, ?_, ?_, ?_, ?_⟩⟩
        · rw [HB.out]
        · rw [HB.out]; exact Blk.setOther (by exact HWr.out) _ _ hbc
        · rw [HB.out]; dsimp only; rw [HV.out]; exact Blk.putN (by exact HPr.out) _ _ _ (by have := HA.out; omega)
        · rw [HB.out]; exact hk'
        · exact Fr.setCell (hfw.drewN _) _ _ (by simp)
end Go.Proofs.YtaajdcaciofmaaaDoor
