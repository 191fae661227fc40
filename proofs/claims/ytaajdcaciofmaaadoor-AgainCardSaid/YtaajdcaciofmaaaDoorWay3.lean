/- THE DOCUMENT's ANSWER: term. -/
import Derived.Test.YtaajdcaciofmaaaDoorWay2
import Derived.Test.YtaajdcaciofmaaaDoorParse
namespace Go.Proofs.YtaajdcaciofmaaaDoor
open Go.RowKit

theorem rk_two {c : Nat} (h : c = 2 ∨ c = 3) : rk c = 2 := by rcases h with rfl | rfl <;> rfl
theorem rk_one {c : Nat} (h : c = 1) : rk c = 1 := by subst h; rfl
theorem sgn_big {c : Nat} (h : sgn c = true) : 38 ≤ c ∧ c ≤ 126 := by
  unfold sgn at h
  simp only [Bool.or_eq_true, beq_iff_eq] at h
  omega
theorem rk_not1 {c : Nat} (h : c ≠ 1) : rk c ≠ 1 := by
  unfold rk
  repeat' split
  all_goals first | omega | (rename_i q; have := sgn_big q; omega)
theorem rk_not2 {c : Nat} (h2 : c ≠ 2) (h3 : c ≠ 3) : rk c ≠ 2 := by
  unfold rk
  repeat' split
  all_goals first | omega | (rename_i q; have := sgn_big q; omega)
theorem rk_end {c : Nat} : rk c = 6 ↔ c = 0 := by
  unfold rk
  repeat' split
  all_goals first | omega | (rename_i q; have := sgn_big q; omega)

/-- What the reading of powers and the sum of a term end in. -/
def TermEnd (b g n cap c : Nat) (p : List Nat) (R : PwR) (a : Nat) (bad op : Int) (w w' : World) : Prop :=
  (R.e = 0 ∧ Wy w' b g n cap R.k 0 bad op ∧ Blk w' c (pv (plus p R.u R.x a)) 41 ∧ R.k < n ∧ Fr [b, c] w w') ∨ (R.e ≠ 0 ∧ (∃ k', k' < n ∧ Wy w' b g n cap k' R.e R.bad op) ∧ Blk w' c (pv p) 41 ∧ Fr [b, c] w w')
theorem Blk.cells4 {w : World} {n : Nat} {x0 x1 x2 x3 : Value} {t : TypeId} (h : Blk w n #[x0, x1, x2, x3] t) : w.cell? ⟨n, 0, none⟩ = some x0 ∧ w.cell? ⟨n, 1, none⟩ = some x1 ∧ w.cell? ⟨n, 2, none⟩ = some x2 ∧ w.cell? ⟨n, 3, none⟩ = some x3 := ⟨h.cell 0, h.cell 1, h.cell 2, h.cell 3⟩
theorem Blk.free4 {w : World} {n : Nat} {cs : Array Value} {t : TypeId} (h : Blk w n cs t) : w.frozen? ⟨n, 0, none⟩ = false ∧ w.frozen? ⟨n, 1, none⟩ = false ∧ w.frozen? ⟨n, 2, none⟩ = false ∧ w.frozen? ⟨n, 3, none⟩ = false := ⟨h.frozen 0, h.frozen 1, h.frozen 2, h.frozen 3⟩
theorem rs_two : rs 2 = ⟨#[117]⟩ := rfl
theorem rs_three : rs 3 = ⟨#[120]⟩ := rfl

set_option maxRecDepth 100000 in
set_option maxHeartbeats 8000000 in
theorem wterm_power (f : Nat → Tok) (N b g n cap c k : Nat) (p : List Nat) (sg : Nat) (bare : Bool) (bad op : Int) (w : World) (h : Wy w b g n cap k 0 bad op) (ht : Tk w g n f) (hp : Blk w c (pv p) 41) (hgp : Good p)
    (hk : k < n) (hn : n ≤ N + 1) (hN : N ≤ 1000) (hend : ∀ j, j < n → (f j).c ≠ 0 → j + 1 < n) (hv : ∀ j, (f j).v ≤ 99) (hsg : sg ≤ 6) (hbg : b ≠ g) (hbc : b ≠ c) (hgc : g ≠ c) (hc : (f k).c = 2 ∨ (f k).c = 3) :
    Calls Tryd.prog 58 #[.pointer (some ⟨b, 0, none⟩), .pointer (some ⟨c, 0, none⟩), .int .i64 sg, .bool bare] w fun e w' => e = .returned (.tuple #[]) ∧ TermEnd b g n cap c p (pw f bare (N - k) k 0 0) (sg * 1) bad op w w' := by
  have hb : b < w.heap.size := Blk.lt h
  have hcl : c < w.heap.size := Blk.lt hp
  have hg := ht.1
  have HW := hideR h
  have HT := hideR ht
  have HPP := hideR hp
  have hrk := rk_two hc
  generalize hR : pw f bare (N - k) k 0 0 = R
  have HP : Hid (pw f bare (N - k) k 0 0 = R) := hR
  have HA : Hid ((sg : Int) = ((sg * 1 : Nat) : Int)) := by unfold Hid; simp
  clear h ht hp hR hc
  go_enter Tryd.func58, Tryd.ntmps58
  go_wp2_with fail
  refine (next_any b g n cap k f 0 bad op _ HW.out HT.out hk (by omega)).mono ?_
  rintro e w1 ⟨rfl, hb1⟩
  rw [hrk]
  clear hrk
  have hz1 := hb1.size
  have hf1 : Fr [b, c] w w1 := Fr.of_below hb1
  have hw1 : Wy w1 b g n cap k 0 bad op := Blk.fr HW.out (Fr.of_below (bs := []) hb1) (by simp)
  have hp1 : Blk w1 c (pv p) 41 := HPP.out.fr (Fr.of_below (bs := []) hb1) (by simp)
  have nbd : ¬ b = w1.heap.size := by omega
  have ncd : ¬ c = w1.heap.size := by omega
  have ndb : ¬ w1.heap.size = b := by omega
  have HF1 := hideR hf1
  have HW1 := hideR hw1
  have HP1 := hideR hp1
  clear hf1 hw1 hp1 hb1
  go_wp2
  go_loopg [9, 10] (N - k) (fun m v9 v10 wr => ∃ (k' u x : Nat) (y0 y1 y2 : Int) (y3 : ByteArray), m = N - k' ∧ v9 = .int .i64 u ∧ v10 = .int .i64 x ∧ u ≤ 6 ∧ x ≤ 4 ∧ k' < n ∧ Wy wr b g n cap k' 0 bad op ∧ Blk wr c (pv p) 41 ∧ Blk wr w1.heap.size #[.int .i64 y0, .int .i64 y1, .int .i64 y2, .string y3] 103 ∧ Fr [b, c] w wr ∧ Hid (pw f bare (N - k') k' u x = R))
  case atStart => exact ⟨k, 0, 0, _, _, _, _, rfl, rfl, rfl, by omega, by omega, hk, Blk.alloc HW1.out _, Blk.alloc HP1.out _, Blk.new w1 _ _, HF1.out.alloc _, HP⟩
  case round =>
    obtain ⟨k', u, x, y0, y1, y2, y3, hm, rfl, rfl, hu, hx, hk', hw, hpb, ht8, hfw, HQ⟩ := hrel
    have hT : Tk wr g n f := HT.out.fr hfw (by simp; omega)
    obtain ⟨c0, c1, c2, c3, c4⟩ := hw.cells
    obtain ⟨f0, f1, f2, f3, f4⟩ := hw.free
    obtain ⟨t0, t1, t2, t3⟩ := ht8.cells4
    obtain ⟨z0, z1, z2, z3⟩ := ht8.free4
    obtain ⟨d0, d1, d2, d3⟩ := hT.cells hk'
    have hvk := hv k'
    have i0 : (0 : Int) ≤ (k' : Int) := by omega
    have i1 : (k' : Int) < (n : Int) := by omega
    have HWr := hideR hw
    have HPr := hideR hpb
    have HDr := hideR ht8
    clear hw hpb ht8 hT
    by_cases h2 : (f k').c = 2
    · have hlt : k' + 1 < n := hend k' hk' (by omega)
      rw [rk_two (Or.inl h2)] at d0
      rw [h2, rs_two] at d3
      have H2 := hideR h2
      clear h2
      by_cases hle : u + (f k').v ≤ 6
      · go_wp2
        go_quiet (fail)
        go_wp2
        refine region_quiet_tail 10 (by kernel_rfl) (by kernel_rfl) ?_
        simp only [List.take_succ_cons, List.take_zero, List.drop_succ_cons, List.drop_zero]
        repeat (first | go_big_quiet_step ((fail)) | quiet_step ((fail)))
        refine wpQuiet_nil ?_
        rintro _ ⟨nr, rfl⟩
        go_wp2
        go_roundg (N - (k' + 1))
        case measure => omega
        case rel =>
          refine ⟨k' + 1, u + (f k').v, x, 2, (f k').at', (f k').v, ⟨#[117]⟩, rfl, by go_num, by go_num, hle, hx, hlt, ?_, ?_, ?_, ?_, ?_⟩
          · have e : (((k' + 1 : Nat) : Int)) = (k' : Int) + 1 := by omega
            unfold Wy; rw [e]
            refine Blk.set (cs := #[.slice (some ⟨g, 0, none⟩) n cap, .int .i64 k', .int .i64 0, .int .i64 bad, .int .i64 op]) ?_ 1 _
            repeat (refine Blk.setOther ?_ _ _ nbd)
            exact HWr.out
          · exact Blk.setOther (Blk.setOther (Blk.setOther (Blk.setOther (Blk.setOther (by exact HPr.out) _ _ ncd) _ _ ncd) _ _ ncd) _ _ ncd) _ _ (Ne.symm hbc)
          · exact Blk.setOther (Blk.store4 (by exact HDr.out) _ _ _ _) _ _ (Ne.symm nbd)
          · exact Fr.setCell (Fr.setCell (Fr.setCell (Fr.setCell (Fr.setCell (hfw.drewN _) _ _ (by simp; omega)) _ _ (by simp; omega)) _ _ (by simp; omega)) _ _ (by simp; omega)) _ _ (by simp)
          · unfold Hid
            rw [← HQ.out, pw_u (by omega) H2.out hle]; congr 1
      · have HB : Hid (R = ⟨5, (f k').at', k', u, x⟩) := by unfold Hid; rw [← HQ.out, pw_u_bad (by omega) H2.out hle]
        go_wp2
        go_quiet (fail)
        go_wp2
        refine region_quiet_tail 10 (by kernel_rfl) (by kernel_rfl) ?_
        simp only [List.take_succ_cons, List.take_zero, List.drop_succ_cons, List.drop_zero]
        repeat (first | go_big_quiet_step ((fail)) | quiet_step ((fail)))
        refine wpQuiet_nil ?_
        rintro _ ⟨nr, rfl⟩
        go_wp2_with fail
        refine (wrong_first b g n cap k' _ _ bad op _ (by exact Blk.setOther (Blk.setOther (Blk.setOther (Blk.setOther (by exact HWr.out) _ _ nbd) _ _ nbd) _ _ nbd) _ _ nbd)).mono ?_
        rintro e w5 ⟨rfl, h5, hf5⟩
        go_wp2
        first | go_end0 | refine bodyPost_ret (results_none rfl _ _ _) rfl ?_
        refine ⟨rfl, Or.inr ⟨?_, ⟨k', hk', ?_⟩, ?_, ?_⟩⟩
        · rw [HB.out]; simp
        · rw [HB.out]; exact h5
        · exact Blk.fr (Blk.setOther (Blk.setOther (Blk.setOther (Blk.setOther (by exact HPr.out) _ _ ncd) _ _ ncd) _ _ ncd) _ _ ncd) hf5 (by simp; exact Ne.symm hbc)
        · exact (Fr.setCell (Fr.setCell (Fr.setCell (Fr.setCell (hfw.drewN _) _ _ (by simp; omega)) _ _ (by simp; omega)) _ _ (by simp; omega)) _ _ (by simp; omega)).trans hf5 (by simp)
    · by_cases h3 : (f k').c = 3
      · have hlt : k' + 1 < n := hend k' hk' (by omega)
        rw [rk_two (Or.inr h3)] at d0
        rw [h3, rs_three] at d3
        have H3 := hideR h3
        clear h3 h2
        cases bare
        · by_cases hle : x + (f k').v ≤ 4
          · go_wp2
            go_quiet (fail)
            go_wp2
            refine region_quiet_tail 10 (by kernel_rfl) (by kernel_rfl) ?_
            simp only [List.take_succ_cons, List.take_zero, List.drop_succ_cons, List.drop_zero]
            repeat (first | go_big_quiet_step ((fail)) | quiet_step ((fail)))
            refine wpQuiet_nil ?_
            rintro _ ⟨nr, rfl⟩
            go_wp2
            go_roundg (N - (k' + 1))
            case measure => omega
            case rel =>
              refine ⟨k' + 1, u, x + (f k').v, 2, (f k').at', (f k').v, ⟨#[120]⟩, rfl, by go_num, by go_num, hu, hle, hlt, ?_, ?_, ?_, ?_, ?_⟩
              · have e : (((k' + 1 : Nat) : Int)) = (k' : Int) + 1 := by omega
                unfold Wy; rw [e]
                refine Blk.set (cs := #[.slice (some ⟨g, 0, none⟩) n cap, .int .i64 k', .int .i64 0, .int .i64 bad, .int .i64 op]) ?_ 1 _
                repeat (refine Blk.setOther ?_ _ _ nbd)
                exact HWr.out
              · exact Blk.setOther (Blk.setOther (Blk.setOther (Blk.setOther (Blk.setOther (by exact HPr.out) _ _ ncd) _ _ ncd) _ _ ncd) _ _ ncd) _ _ (Ne.symm hbc)
              · exact Blk.setOther (Blk.store4 (by exact HDr.out) _ _ _ _) _ _ (Ne.symm nbd)
              · exact Fr.setCell (Fr.setCell (Fr.setCell (Fr.setCell (Fr.setCell (hfw.drewN _) _ _ (by simp; omega)) _ _ (by simp; omega)) _ _ (by simp; omega)) _ _ (by simp; omega)) _ _ (by simp)
              · unfold Hid
                rw [← HQ.out, pw_x (by omega) H3.out hle]; congr 1
          · have HB : Hid (R = ⟨5, (f k').at', k', u, x⟩) := by unfold Hid; rw [← HQ.out, pw_x_bad (by omega) H3.out hle]
            go_wp2
            go_quiet (fail)
            go_wp2
            refine region_quiet_tail 10 (by kernel_rfl) (by kernel_rfl) ?_
            simp only [List.take_succ_cons, List.take_zero, List.drop_succ_cons, List.drop_zero]
            repeat (first | go_big_quiet_step ((fail)) | quiet_step ((fail)))
            refine wpQuiet_nil ?_
            rintro _ ⟨nr, rfl⟩
            go_wp2_with fail
            refine (wrong_first b g n cap k' _ _ bad op _ (by exact Blk.setOther (Blk.setOther (Blk.setOther (Blk.setOther (by exact HWr.out) _ _ nbd) _ _ nbd) _ _ nbd) _ _ nbd)).mono ?_
            rintro e w5 ⟨rfl, h5, hf5⟩
            go_wp2
            first | go_end0 | refine bodyPost_ret (results_none rfl _ _ _) rfl ?_
            refine ⟨rfl, Or.inr ⟨?_, ⟨k', hk', ?_⟩, ?_, ?_⟩⟩
            · rw [HB.out]; simp
            · rw [HB.out]; exact h5
            · exact Blk.fr (Blk.setOther (Blk.setOther (Blk.setOther (Blk.setOther (by exact HPr.out) _ _ ncd) _ _ ncd) _ _ ncd) _ _ ncd) hf5 (by simp; exact Ne.symm hbc)
            · exact (Fr.setCell (Fr.setCell (Fr.setCell (Fr.setCell (hfw.drewN _) _ _ (by simp; omega)) _ _ (by simp; omega)) _ _ (by simp; omega)) _ _ (by simp; omega)).trans hf5 (by simp)
        · have HB : Hid (R = ⟨7, (f k').at', k', u, x⟩) := by unfold Hid; rw [← HQ.out, pw_x_bare (by omega) H3.out]
          go_wp2
          go_quiet (fail)
          go_wp2
          refine region_quiet_tail 10 (by kernel_rfl) (by kernel_rfl) ?_
          simp only [List.take_succ_cons, List.take_zero, List.drop_succ_cons, List.drop_zero]
          repeat (first | go_big_quiet_step ((fail)) | quiet_step ((fail)))
          refine wpQuiet_nil ?_
          rintro _ ⟨nr, rfl⟩
          go_wp2_with fail
          refine (wrong_first b g n cap k' _ _ bad op _ (by exact Blk.setOther (Blk.setOther (Blk.setOther (Blk.setOther (by exact HWr.out) _ _ nbd) _ _ nbd) _ _ nbd) _ _ nbd)).mono ?_
          rintro e w5 ⟨rfl, h5, hf5⟩
          go_wp2
          first | go_end0 | refine bodyPost_ret (results_none rfl _ _ _) rfl ?_
          refine ⟨rfl, Or.inr ⟨?_, ⟨k', hk', ?_⟩, ?_, ?_⟩⟩
          · rw [HB.out]; simp
          · rw [HB.out]; exact h5
          · exact Blk.fr (Blk.setOther (Blk.setOther (Blk.setOther (Blk.setOther (by exact HPr.out) _ _ ncd) _ _ ncd) _ _ ncd) _ _ ncd) hf5 (by simp; exact Ne.symm hbc)
          · exact (Fr.setCell (Fr.setCell (Fr.setCell (Fr.setCell (hfw.drewN _) _ _ (by simp; omega)) _ _ (by simp; omega)) _ _ (by simp; omega)) _ _ (by simp; omega)).trans hf5 (by simp)
      · have q2 : (rk (f k').c == 2) = false := by rw [beq_eq_false_iff_ne]; exact rk_not2 h2 h3
        have HB : Hid (R = ⟨0, 0, k', u, x⟩) := by unfold Hid; rw [← HQ.out, pw_end h2 h3]
        have hx0 : (0 : Int) ≤ (x : Int) := by omega
        have hx1 : (x : Int) < 5 := by omega
        have hu0 : (0 : Int) ≤ (u : Int) := by omega
        have hu1 : (u : Int) < 7 := by omega
        have hq : x * 7 + u < p.length := by rw [hgp.1]; omega
        have hcell := pv_get hq
        have hv7 := hgp.2 (x * 7 + u)
        have HV : Hid (plus p u x (sg * 1) = p.set (x * 7 + u) ((p.getD (x * 7 + u) 0 + (sg * 1)) % 7)) := by unfold Hid plus; rw [Nat.mul_comm 7 x]
        generalize p.getD (x * 7 + u) 0 = v at *
        have e3 : wr.cell? ⟨c, x * 7 + u, none⟩ = some (.int .i64 v) := by rw [HPr.out.cell]; exact hcell
        have e4 : wr.frozen? ⟨c, x * 7 + u, none⟩ = false := HPr.out.frozen _
        clear h2 h3 hcell
        go_wp2
        go_quiet (fail)
        go_wp2
        refine region_quiet_tail 16 (by kernel_rfl) (by kernel_rfl) ?_
        simp only [List.take_succ_cons, List.take_zero, List.drop_succ_cons, List.drop_zero]
        repeat (first | go_big_quiet_step ((fail)) | quiet_step ((fail)))
        refine wpQuiet_nil ?_
        rintro _ ⟨nr, rfl⟩
        go_wp2
        go_end0
        refine ⟨rfl, Or.inl ⟨?_, ?_, ?_, ?_, ?_⟩⟩
        · rw [HB.out]
        · rw [HB.out]; exact Blk.setOther (by exact HWr.out) _ _ hbc
        · rw [HB.out]; dsimp only; rw [HV.out]; exact Blk.putN (by exact HPr.out) _ _ _ (by have := HA.out; omega)
        · rw [HB.out]; exact hk'
        · exact Fr.setCell (hfw.drewN _) _ _ (by simp)
end Go.Proofs.YtaajdcaciofmaaaDoor
