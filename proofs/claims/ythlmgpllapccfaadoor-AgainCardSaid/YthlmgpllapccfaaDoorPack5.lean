import Derived.Test.YthlmgpllapccfaaDoorPack4
/- THE DOCUMENT's ANSWER: term. -/
namespace Go.Proofs.YthlmgpllapccfaaDoor
open Go.RowKit

theorem rk_two {c : Nat} (h : c = 2 ∨ c = 3) : rk c = 2 := by rcases h with rfl | rfl <;> rfl
theorem rk_one {c : Nat} (h : c = 1) : rk c = 1 := by subst h; rfl
theorem sgn_big {c : Nat} (h : sgn c = true) : 38 ≤ c ∧ c ≤ 126 := by
  unfold sgn at h
  simp only [Bool.or_eq_true, beq_iff_eq] at h
  omega
theorem rk_not1 {c : Nat} (h : c ≠ 1) : rk c ≠ 1 := by
  unfold rk
  repeat' split
  all_goals first | omega | (rename_i q; have := sgn_big q; omega)
theorem rk_not2 {c : Nat} (h2 : c ≠ 2) (h3 : c ≠ 3) : rk c ≠ 2 := by
  unfold rk
  repeat' split
  all_goals first | omega | (rename_i q; have := sgn_big q; omega)
theorem rk_end {c : Nat} : rk c = 6 ↔ c = 0 := by
  unfold rk
  repeat' split
  all_goals first | omega | (rename_i q; have := sgn_big q; omega)

/-- What the reading of powers and the sum of a term end in. -/
def TermEnd (b g n cap c : Nat) (p : List Nat) (R : PwR) (a : Nat) (bad op : Int) (w w' : World) : Prop :=
  (R.e = 0 ∧ Wy w' b g n cap R.k 0 bad op ∧ Blk w' c (pv (plus p R.u R.x a)) 41 ∧ R.k < n ∧ Fr [b, c] w w') ∨ (R.e ≠ 0 ∧ (∃ k', k' < n ∧ Wy w' b g n cap k' R.e R.bad op) ∧ Blk w' c (pv p) 41 ∧ Fr [b, c] w w')
theorem Blk.cells4 {w : World} {n : Nat} {x0 x1 x2 x3 : Value} {t : TypeId} (h : Blk w n #[x0, x1, x2, x3] t) : w.cell? ⟨n, 0, none⟩ = some x0 ∧ w.cell? ⟨n, 1, none⟩ = some x1 ∧ w.cell? ⟨n, 2, none⟩ = some x2 ∧ w.cell? ⟨n, 3, none⟩ = some x3 := ⟨h.cell 0, h.cell 1, h.cell 2, h.cell 3⟩
theorem Blk.free4 {w : World} {n : Nat} {cs : Array Value} {t : TypeId} (h : Blk w n cs t) : w.frozen? ⟨n, 0, none⟩ = false ∧ w.frozen? ⟨n, 1, none⟩ = false ∧ w.frozen? ⟨n, 2, none⟩ = false ∧ w.frozen? ⟨n, 3, none⟩ = false := ⟨h.frozen 0, h.frozen 1, h.frozen 2, h.frozen 3⟩
theorem rs_two : rs 2 = ⟨#[117]⟩ := rfl
theorem rs_three : rs 3 = ⟨#[120]⟩ := rfl

set_option maxRecDepth 100000 in
set_option maxHeartbeats 8000000 in
theorem wterm_power (f : Nat → Tok) (N b g n cap c k : Nat) (p : List Nat) (sg : Nat) (bare : Bool) (bad op : Int) (w : World) (h : Wy w b g n cap k 0 bad op) (ht : Tk w g n f) (hp : Blk w c (pv p) 41) (hgp : Good p)
    (hk : k < n) (hn : n ≤ N + 1) (hN : N ≤ 1000) (hend : ∀ j, j < n → (f j).c ≠ 0 → j + 1 < n) (hv : ∀ j, (f j).v ≤ 99) (hsg : sg ≤ 6) (hbg : b ≠ g) (hbc : b ≠ c) (hgc : g ≠ c) (hc : (f k).c = 2 ∨ (f k).c = 3) :
    Calls Tryd.prog 54 #[.pointer (some ⟨b, 0, none⟩), .pointer (some ⟨c, 0, none⟩), .int .i64 sg, .bool bare] w fun e w' => e = .returned (.tuple #[]) ∧ TermEnd b g n cap c p (pw f bare (N - k) k 0 0) (sg * 1) bad op w w' := by
  have hb : b < w.heap.size := Blk.lt h
  have hcl : c < w.heap.size := Blk.lt hp
  have hg := ht.1
  have HW := hideR h
  have HT := hideR ht
  have HPP := hideR hp
  have hrk := rk_two hc
  generalize hR : pw f bare (N - k) k 0 0 = R
  have HP : Hid (pw f bare (N - k) k 0 0 = R) := hR
  have HA : Hid ((sg : Int) = ((sg * 1 : Nat) : Int)) := by unfold Hid; simp
  clear h ht hp hR hc
  go_enter Tryd.func54, Tryd.ntmps54
  go_wp2_with fail
  refine (next_any b g n cap k f 0 bad op _ HW.out HT.out hk (by omega)).mono ?_
  rintro e w1 ⟨rfl, hb1⟩
  rw [hrk]
  clear hrk
  have hz1 := hb1.size
  have hf1 : Fr [b, c] w w1 := Fr.of_below hb1
  have hw1 : Wy w1 b g n cap k 0 bad op := Blk.fr HW.out (Fr.of_below (bs := []) hb1) (by simp)
  have hp1 : Blk w1 c (pv p) 41 := HPP.out.fr (Fr.of_below (bs := []) hb1) (by simp)
  have nbd : ¬ b = w1.heap.size := by omega
  have ncd : ¬ c = w1.heap.size := by omega
  have ndb : ¬ w1.heap.size = b := by omega
  have HF1 := hideR hf1
  have HW1 := hideR hw1
  have HP1 := hideR hp1
  clear hf1 hw1 hp1 hb1
  go_wp2
  go_loopg [9, 10] (N - k) (fun m v9 v10 wr => ∃ (k' u x : Nat) (y0 y1 y2 : Int) (y3 : ByteArray), m = N - k' ∧ v9 = .int .i64 u ∧ v10 = .int .i64 x ∧ u ≤ 6 ∧ x ≤ 4 ∧ k' < n ∧ Wy wr b g n cap k' 0 bad op ∧ Blk wr c (pv p) 41 ∧ Blk wr w1.heap.size #[.int .i64 y0, .int .i64 y1, .int .i64 y2, .string y3] 94 ∧ Fr [b, c] w wr ∧ Hid (pw f bare (N - k') k' u x = R))
  case atStart => exact ⟨k, 0, 0, _, _, _, _, rfl, rfl, rfl, by omega, by omega, hk, Blk.alloc HW1.out _, Blk.alloc HP1.out _, Blk.new w1 _ _, HF1.out.alloc _, HP⟩
  case round =>
    obtain ⟨k', u, x, y0, y1, y2, y3, hm, rfl, rfl, hu, hx, hk', hw, hpb, ht8, hfw, HQ⟩ := hrel
    have hT : Tk wr g n f := HT.out.fr hfw (by simp; omega)
    obtain ⟨c0, c1, c2, c3, c4⟩ := hw.cells
    obtain ⟨f0, f1, f2, f3, f4⟩ := hw.free
    obtain ⟨t0, t1, t2, t3⟩ := ht8.cells4
    obtain ⟨z0, z1, z2, z3⟩ := ht8.free4
    obtain ⟨d0, d1, d2, d3⟩ := hT.cells hk'
    have hvk := hv k'
    have i0 : (0 : Int) ≤ (k' : Int) := by omega
    have i1 : (k' : Int) < (n : Int) := by omega
    have HWr := hideR hw
    have HPr := hideR hpb
    have HDr := hideR ht8
    clear hw hpb ht8 hT
    by_cases h2 : (f k').c = 2
    · have hlt : k' + 1 < n := hend k' hk' (by omega)
      rw [rk_two (Or.inl h2)] at d0
      rw [h2, rs_two] at d3
      have H2 := hideR h2
      clear h2
      by_cases hle : u + (f k').v ≤ 6
      · go_wp2
        go_quiet (fail)
        go_wp2
        refine region_quiet_tail 10 (by kernel_rfl) (by kernel_rfl) ?_
        simp only [List.take_succ_cons, List.take_zero, List.drop_succ_cons, List.drop_zero]
        repeat (first | go_big_quiet_step ((fail)) | quiet_step ((fail)))
        refine wpQuiet_nil ?_
        rintro _ ⟨nr, rfl⟩
        go_wp2
        go_roundg (N - (k' + 1))
        case measure => omega
        case rel =>
          refine ⟨k' + 1, u + (f k').v, x, 2, (f k').at', (f k').v, ⟨#[117]⟩, rfl, by go_num, by go_num, hle, hx, hlt, ?_, ?_, ?_, ?_, ?_⟩
          · have e : (((k' + 1 : Nat) : Int)) = (k' : Int) + 1 := by omega
            unfold Wy; rw [e]
            refine Blk.set (cs := #[.slice (some ⟨g, 0, none⟩) n cap, .int .i64 k', .int .i64 0, .int .i64 bad, .int .i64 op]) ?_ 1 _
            repeat (refine Blk.setOther ?_ _ _ nbd)
            exact HWr.out
          · exact Blk.setOther (Blk.setOther (Blk.setOther (Blk.setOther (Blk.setOther (by exact HPr.out) _ _ ncd) _ _ ncd) _ _ ncd) _ _ ncd) _ _ (Ne.symm hbc)
          · exact Blk.setOther (Blk.store4 (by exact HDr.out) _ _ _ _) _ _ (Ne.symm nbd)
          · exact Fr.setCell (Fr.setCell (Fr.setCell (Fr.setCell (Fr.setCell (hfw.drewN _) _ _ (by simp; omega)) _ _ (by simp; omega)) _ _ (by simp; omega)) _ _ (by simp; omega)) _ _ (by simp)
          · unfold Hid
            rw [← HQ.out, pw_u (by omega) H2.out hle]; congr 1
      · have HB : Hid (R = ⟨5, (f k').at', k', u, x⟩) := by unfold Hid; rw [← HQ.out, pw_u_bad (by omega) H2.out hle]
        go_wp2
        go_quiet (fail)
        go_wp2
        refine region_quiet_tail 10 (by kernel_rfl) (by kernel_rfl) ?_
        simp only [List.take_succ_cons, List.take_zero, List.drop_succ_cons, List.drop_zero]
        repeat (first | go_big_quiet_step ((fail)) | quiet_step ((fail)))
        refine wpQuiet_nil ?_
        rintro _ ⟨nr, rfl⟩
        go_wp2_with fail
        refine (wrong_first b g n cap k' _ _ bad op _ (by exact Blk.setOther (Blk.setOther (Blk.setOther (Blk.setOther (by exact HWr.out) _ _ nbd) _ _ nbd) _ _ nbd) _ _ nbd)).mono ?_
        rintro e w5 ⟨rfl, h5, hf5⟩
        go_wp2
        first | go_end0 | refine bodyPost_ret (results_none rfl _ _ _) rfl ?_
        refine ⟨rfl, Or.inr ⟨?_, ⟨k', hk', ?_⟩, ?_, ?_⟩⟩
        · rw [HB.out]; simp
        · rw [HB.out]; exact h5
        · exact Blk.fr (Blk.setOther (Blk.setOther (Blk.setOther (Blk.setOther (by exact HPr.out) _ _ ncd) _ _ ncd) _ _ ncd) _ _ ncd) hf5 (by simp; exact Ne.symm hbc)
        · exact (Fr.setCell (Fr.setCell (Fr.setCell (Fr.setCell (hfw.drewN _) _ _ (by simp; omega)) _ _ (by simp; omega)) _ _ (by simp; omega)) _ _ (by simp; omega)).trans hf5 (by simp)
    · by_cases h3 : (f k').c = 3
      · have hlt : k' + 1 < n := hend k' hk' (by omega)
        rw [rk_two (Or.inr h3)] at d0
        rw [h3, rs_three] at d3
        have H3 := hideR h3
        clear h3 h2
        cases bare
        · by_cases hle : x + (f k').v ≤ 4
          · go_wp2
            go_quiet (fail)
            go_wp2
            refine region_quiet_tail 10 (by kernel_rfl) (by kernel_rfl) ?_
            simp only [List.take_succ_cons, List.take_zero, List.drop_succ_cons, List.drop_zero]
            repeat (first | go_big_quiet_step ((fail)) | quiet_step ((fail)))
            refine wpQuiet_nil ?_
            rintro _ ⟨nr, rfl⟩
            go_wp2
            go_roundg (N - (k' + 1))
            case measure => omega
            case rel =>
              refine ⟨k' + 1, u, x + (f k').v, 2, (f k').at', (f k').v, ⟨#[120]⟩, rfl, by go_num, by go_num, hu, hle, hlt, ?_, ?_, ?_, ?_, ?_⟩
              · have e : (((k' + 1 : Nat) : Int)) = (k' : Int) + 1 := by omega
                unfold Wy; rw [e]
                refine Blk.set (cs := #[.slice (some ⟨g, 0, none⟩) n cap, .int .i64 k', .int .i64 0, .int .i64 bad, .int .i64 op]) ?_ 1 _
                repeat (refine Blk.setOther ?_ _ _ nbd)
                exact HWr.out
              · exact Blk.setOther (Blk.setOther (Blk.setOther (Blk.setOther (Blk.setOther (by exact HPr.out) _ _ ncd) _ _ ncd) _ _ ncd) _ _ ncd) _ _ (Ne.symm hbc)
              · exact Blk.setOther (Blk.store4 (by exact HDr.out) _ _ _ _) _ _ (Ne.symm nbd)
              · exact Fr.setCell (Fr.setCell (Fr.setCell (Fr.setCell (Fr.setCell (hfw.drewN _) _ _ (by simp; omega)) _ _ (by simp; omega)) _ _ (by simp; omega)) _ _ (by simp; omega)) _ _ (by simp)
              · unfold Hid
                rw [← HQ.out, pw_x (by omega) H3.out hle]; congr 1
          · have HB : Hid (R = ⟨5, (f k').at', k', u, x⟩) := by unfold Hid; rw [← HQ.out, pw_x_bad (by omega) H3.out hle]
            go_wp2
            go_quiet (fail)
            go_wp2
            refine region_quiet_tail 10 (by kernel_rfl) (by kernel_rfl) ?_
            simp only [List.take_succ_cons, List.take_zero, List.drop_succ_cons, List.drop_zero]
            repeat (first | go_big_quiet_step ((fail)) | quiet_step ((fail)))
            refine wpQuiet_nil ?_
            rintro _ ⟨nr, rfl⟩
            go_wp2_with fail
            refine (wrong_first b g n cap k' _ _ bad op _ (by exact Blk.setOther (Blk.setOther (Blk.setOther (Blk.setOther (by exact HWr.out) _ _ nbd) _ _ nbd) _ _ nbd) _ _ nbd)).mono ?_
            rintro e w5 ⟨rfl, h5, hf5⟩
            go_wp2
            first | go_end0 | refine bodyPost_ret (results_none rfl _ _ _) rfl ?_
            refine ⟨rfl, Or.inr ⟨?_, ⟨k', hk', ?_⟩, ?_, ?_⟩⟩
            · rw [HB.out]; simp
            · rw [HB.out]; exact h5
            · exact Blk.fr (Blk.setOther (Blk.setOther (Blk.setOther (Blk.setOther (by exact HPr.out) _ _ ncd) _ _ ncd) _ _ ncd) _ _ ncd) hf5 (by simp; exact Ne.symm hbc)
            · exact (Fr.setCell (Fr.setCell (Fr.setCell (Fr.setCell (hfw.drewN _) _ _ (by simp; omega)) _ _ (by simp; omega)) _ _ (by simp; omega)) _ _ (by simp; omega)).trans hf5 (by simp)
        · have HB : Hid (R = ⟨7, (f k').at', k', u, x⟩) := by unfold Hid; rw [← HQ.out, pw_x_bare (by omega) H3.out]
          go_wp2
          go_quiet (fail)
          go_wp2
          refine region_quiet_tail 10 (by kernel_rfl) (by kernel_rfl) ?_
          simp only [List.take_succ_cons, List.take_zero, List.drop_succ_cons, List.drop_zero]
          repeat (first | go_big_quiet_step ((fail)) | quiet_step ((fail)))
          refine wpQuiet_nil ?_
          rintro _ ⟨nr, rfl⟩
          go_wp2_with fail
          refine (wrong_first b g n cap k' _ _ bad op _ (by exact Blk.setOther (Blk.setOther (Blk.setOther (Blk.setOther (by exact HWr.out) _ _ nbd) _ _ nbd) _ _ nbd) _ _ nbd)).mono ?_
          rintro e w5 ⟨rfl, h5, hf5⟩
          go_wp2
          first | go_end0 | refine bodyPost_ret (results_none rfl _ _ _) rfl ?_
          refine ⟨rfl, Or.inr ⟨?_, ⟨k', hk', ?_⟩, ?_, ?_⟩⟩
          · rw [HB.out]; simp
          · rw [HB.out]; exact h5
          · exact Blk.fr (Blk.setOther (Blk.setOther (Blk.setOther (Blk.setOther (by exact HPr.out) _ _ ncd) _ _ ncd) _ _ ncd) _ _ ncd) hf5 (by simp; exact Ne.symm hbc)
          · exact (Fr.setCell (Fr.setCell (Fr.setCell (Fr.setCell (hfw.drewN _) _ _ (by simp; omega)) _ _ (by simp; omega)) _ _ (by simp; omega)) _ _ (by simp; omega)).trans hf5 (by simp)
      · have q2 : (rk (f k').c == 2) = false := by rw [beq_eq_false_iff_ne]; exact rk_not2 h2 h3
        have HB : Hid (R = ⟨0, 0, k', u, x⟩) := by unfold Hid; rw [← HQ.out, pw_end h2 h3]
        have hx0 : (0 : Int) ≤ (x : Int) := by omega
        have hx1 : (x : Int) < 5 := by omega
        have hu0 : (0 : Int) ≤ (u : Int) := by omega
        have hu1 : (u : Int) < 7 := by omega
        have hq : x * 7 + u < p.length := by rw [hgp.1]; omega
        have hcell := pv_get hq
        have hv7 := hgp.2 (x * 7 + u)
        have HV : Hid (plus p u x (sg * 1) = p.set (x * 7 + u) ((p.getD (x * 7 + u) 0 + (sg * 1)) % 7)) := by unfold Hid plus; rw [Nat.mul_comm 7 x]
        generalize p.getD (x * 7 + u) 0 = v at *
        have e3 : wr.cell? ⟨c, x * 7 + u, none⟩ = some (.int .i64 v) := by rw [HPr.out.cell]; exact hcell
        have e4 : wr.frozen? ⟨c, x * 7 + u, none⟩ = false := HPr.out.frozen _
        clear h2 h3 hcell
        go_wp2
        go_quiet (fail)
        go_wp2
        refine region_quiet_tail 16 (by kernel_rfl) (by kernel_rfl) ?_
        simp only [List.take_succ_cons, List.take_zero, List.drop_succ_cons, List.drop_zero]
        repeat (first | go_big_quiet_step ((fail)) | quiet_step ((fail)))
        refine wpQuiet_nil ?_
        rintro _ ⟨nr, rfl⟩
        go_wp2
        go_end0
        refine ⟨rfl, Or.inl ⟨?_, ?_, ?_, ?_, ?_⟩⟩
        · rw [HB.out]
        · rw [HB.out]; exact Blk.setOther (by exact HWr.out) _ _ hbc
        · rw [HB.out]; dsimp only; rw [HV.out]; exact Blk.putN (by exact HPr.out) _ _ _ (by have := HA.out; omega)
        · rw [HB.out]; exact hk'
        · exact Fr.setCell (hfw.drewN _) _ _ (by simp)
end Go.Proofs.YthlmgpllapccfaaDoor
/- THE DOCUMENT's ANSWER: term, with a number. -/
namespace Go.Proofs.YthlmgpllapccfaaDoor
open Go.RowKit

set_option maxRecDepth 100000 in
set_option maxHeartbeats 8000000 in
theorem wterm_number (f : Nat → Tok) (N b g n cap c k : Nat) (p : List Nat) (sg : Nat) (bare : Bool) (bad op : Int) (w : World) (h : Wy w b g n cap k 0 bad op) (ht : Tk w g n f) (hp : Blk w c (pv p) 41) (hgp : Good p)
    (hk : k < n) (hn : n ≤ N + 1) (hN : N ≤ 1000) (hend : ∀ j, j < n → (f j).c ≠ 0 → j + 1 < n) (hv : ∀ j, (f j).v ≤ 99) (hsg : sg ≤ 6) (hbg : b ≠ g) (hbc : b ≠ c) (hgc : g ≠ c) (hc : (f k).c = 1) :
    Calls Tryd.prog 54 #[.pointer (some ⟨b, 0, none⟩), .pointer (some ⟨c, 0, none⟩), .int .i64 sg, .bool bare] w fun e w' => e = .returned (.tuple #[]) ∧ TermEnd b g n cap c p (pw f bare (N - (k + 1)) (k + 1) 0 0) (sg * (f k).v) bad op w w' := by
  have hb : b < w.heap.size := Blk.lt h
  have hcl : c < w.heap.size := Blk.lt hp
  have hg := ht.1
  have HW := hideR h
  have HT := hideR ht
  have HPP := hideR hp
  have hrk := rk_one hc
  have hlt0 : k + 1 < n := hend k hk (by omega)
  have hvv := hv k
  have hm1 : (sg : Int) * ((f k).v : Int) ≤ 594 := by
    have h := Nat.mul_le_mul hsg hvv
    have : ((sg * (f k).v : Nat) : Int) ≤ ((6 * 99 : Nat) : Int) := by exact_mod_cast h
    rw [Int.natCast_mul] at this; omega
  have hm0 : 0 ≤ (sg : Int) * ((f k).v : Int) := by
    have : (0 : Int) ≤ ((sg * (f k).v : Nat) : Int) := by omega
    rw [Int.natCast_mul] at this; omega
  generalize hR : pw f bare (N - (k + 1)) (k + 1) 0 0 = R
  have HP : Hid (pw f bare (N - (k + 1)) (k + 1) 0 0 = R) := hR
  have HA : Hid ((sg : Int) * ((f k).v : Int) = ((sg * (f k).v : Nat) : Int)) := by unfold Hid; simp
  clear h ht hp hR hc
  go_enter Tryd.func54, Tryd.ntmps54
  go_wp2_with fail
  refine (next_any b g n cap k f 0 bad op _ HW.out HT.out hk (by omega)).mono ?_
  rintro e w1 ⟨rfl, hb1⟩
  rw [hrk]
  clear hrk
  have hz1 := hb1.size
  have hf1 : Fr [b, c] w w1 := Fr.of_below hb1
  have hw1 : Wy w1 b g n cap k 0 bad op := Blk.fr HW.out (Fr.of_below (bs := []) hb1) (by simp)
  have hp1 : Blk w1 c (pv p) 41 := HPP.out.fr (Fr.of_below (bs := []) hb1) (by simp)
  have nbd : ¬ b = w1.heap.size := by omega
  have ncd : ¬ c = w1.heap.size := by omega
  have ndb : ¬ w1.heap.size = b := by omega
  have HF1 := hideR hf1
  have HW1 := hideR hw1
  have HP1 := hideR hp1
  clear hf1 hw1 hp1 hb1
  obtain ⟨a0, a1, a2, a3, a4⟩ := Wy.cells HW1.out
  obtain ⟨g0, g1, g2, g3, g4⟩ := Wy.free HW1.out
  have hb1 : b < w1.heap.size := by omega
  have x1 : (w1.alloc (.cells #[.int .i64 1, .int .i64 (f k).at', .int .i64 (f k).v, .string (rs (f k).c)] 94)).cell? ⟨b, 1, none⟩ = some (.int .i64 k) := (Blk.alloc HW1.out _).cell 1
  have x2 : (w1.alloc (.cells #[.int .i64 1, .int .i64 (f k).at', .int .i64 (f k).v, .string (rs (f k).c)] 94)).frozen? ⟨b, 1, none⟩ = false := (Blk.alloc HW1.out _).frozen 1
  go_wp2
  clear a0 a1 a2 a3 a4 g0 g1 g2 g3 g4 x1 x2
  go_loopg [9, 10] (N - (k + 1)) (fun m v9 v10 wr => ∃ (k' u x : Nat) (y0 y1 y2 : Int) (y3 : ByteArray), m = N - k' ∧ v9 = .int .i64 u ∧ v10 = .int .i64 x ∧ u ≤ 6 ∧ x ≤ 4 ∧ k' < n ∧ Wy wr b g n cap k' 0 bad op ∧ Blk wr c (pv p) 41 ∧ Blk wr w1.heap.size #[.int .i64 y0, .int .i64 y1, .int .i64 y2, .string y3] 94 ∧ Fr [b, c] w wr ∧ Hid (pw f bare (N - k') k' u x = R))
  case atStart =>
    refine ⟨k + 1, 0, 0, _, _, _, _, rfl, rfl, rfl, by omega, by omega, hlt0, ?_, Blk.alloc (HP1.out.setOther _ _ (Ne.symm hbc)) _, Blk.newAt _ _ _ (by simp), (HF1.out.setCell _ _ (by simp)).alloc _, HP⟩
    have e : (((k + 1 : Nat) : Int)) = (k : Int) + 1 := by omega
    unfold Wy; rw [e]
    exact Blk.alloc (Blk.set HW1.out 1 _) _
  case round =>
    obtain ⟨k', u, x, y0, y1, y2, y3, hm, rfl, rfl, hu, hx, hk', hw, hpb, ht8, hfw, HQ⟩ := hrel
    have hT : Tk wr g n f := HT.out.fr hfw (by simp; omega)
    obtain ⟨c0, c1, c2, c3, c4⟩ := hw.cells
    obtain ⟨f0, f1, f2, f3, f4⟩ := hw.free
    obtain ⟨t0, t1, t2, t3⟩ := ht8.cells4
    obtain ⟨z0, z1, z2, z3⟩ := ht8.free4
    obtain ⟨d0, d1, d2, d3⟩ := hT.cells hk'
    have hvk := hv k'
    have i0 : (0 : Int) ≤ (k' : Int) := by omega
    have i1 : (k' : Int) < (n : Int) := by omega
    have HWr := hideR hw
    have HPr := hideR hpb
    have HDr := hideR ht8
    clear hw hpb ht8 hT
    by_cases h2 : (f k').c = 2
    · have hlt : k' + 1 < n := hend k' hk' (by omega)
      rw [rk_two (Or.inl h2)] at d0
      rw [h2, rs_two] at d3
      have H2 := hideR h2
      clear h2
      by_cases hle : u + (f k').v ≤ 6
      · go_wp2
        go_quiet (fail)
        go_wp2
        refine region_quiet_tail 10 (by kernel_rfl) (by kernel_rfl) ?_
        simp only [List.take_succ_cons, List.take_zero, List.drop_succ_cons, List.drop_zero]
        repeat (first | go_big_quiet_step ((fail)) | quiet_step ((fail)))
        refine wpQuiet_nil ?_
        rintro _ ⟨nr, rfl⟩
        go_wp2
        go_roundg (N - (k' + 1))
        case measure => omega
        case rel =>
          refine ⟨k' + 1, u + (f k').v, x, 2, (f k').at', (f k').v, ⟨#[117]⟩, rfl, by go_num, by go_num, hle, hx, hlt, ?_, ?_, ?_, ?_, ?_⟩
          · have e : (((k' + 1 : Nat) : Int)) = (k' : Int) + 1 := by omega
            unfold Wy; rw [e]
            refine Blk.set (cs := #[.slice (some ⟨g, 0, none⟩) n cap, .int .i64 k', .int .i64 0, .int .i64 bad, .int .i64 op]) ?_ 1 _
            repeat (refine Blk.setOther ?_ _ _ nbd)
            exact HWr.out
          · exact Blk.setOther (Blk.setOther (Blk.setOther (Blk.setOther (Blk.setOther (by exact HPr.out) _ _ ncd) _ _ ncd) _ _ ncd) _ _ ncd) _ _ (Ne.symm hbc)
          · exact Blk.setOther (Blk.store4 (by exact HDr.out) _ _ _ _) _ _ (Ne.symm nbd)
          · exact Fr.setCell (Fr.setCell (Fr.setCell (Fr.setCell (Fr.setCell (hfw.drewN _) _ _ (by simp; omega)) _ _ (by simp; omega)) _ _ (by simp; omega)) _ _ (by simp; omega)) _ _ (by simp)
          · unfold Hid
            rw [← HQ.out, pw_u (by omega) H2.out hle]; congr 1
      · have HB : Hid (R = ⟨5, (f k').at', k', u, x⟩) := by unfold Hid; rw [← HQ.out, pw_u_bad (by omega) H2.out hle]
        go_wp2
        go_quiet (fail)
        go_wp2
        refine region_quiet_tail 10 (by kernel_rfl) (by kernel_rfl) ?_
        simp only [List.take_succ_cons, List.take_zero, List.drop_succ_cons, List.drop_zero]
        repeat (first | go_big_quiet_step ((fail)) | quiet_step ((fail)))
        refine wpQuiet_nil ?_
        rintro _ ⟨nr, rfl⟩
        go_wp2_with fail
        refine (wrong_first b g n cap k' _ _ bad op _ (by exact Blk.setOther (Blk.setOther (Blk.setOther (Blk.setOther (by exact HWr.out) _ _ nbd) _ _ nbd) _ _ nbd) _ _ nbd)).mono ?_
        rintro e w5 ⟨rfl, h5, hf5⟩
        go_wp2
        first | go_end0 | refine bodyPost_ret (results_none rfl _ _ _) rfl ?_
        refine ⟨rfl, Or.inr ⟨?_, ⟨k', hk', ?_⟩, ?_, ?_⟩⟩
        · rw [HB.out]; simp
        · rw [HB.out]; exact h5
        · exact Blk.fr (Blk.setOther (Blk.setOther (Blk.setOther (Blk.setOther (by exact HPr.out) _ _ ncd) _ _ ncd) _ _ ncd) _ _ ncd) hf5 (by simp; exact Ne.symm hbc)
        · exact (Fr.setCell (Fr.setCell (Fr.setCell (Fr.setCell (hfw.drewN _) _ _ (by simp; omega)) _ _ (by simp; omega)) _ _ (by simp; omega)) _ _ (by simp; omega)).trans hf5 (by simp)
    · by_cases h3 : (f k').c = 3
      · have hlt : k' + 1 < n := hend k' hk' (by omega)
        rw [rk_two (Or.inr h3)] at d0
        rw [h3, rs_three] at d3
        have H3 := hideR h3
        clear h3 h2
        cases bare
        · by_cases hle : x + (f k').v ≤ 4
          · go_wp2
            go_quiet (fail)
            go_wp2
            refine region_quiet_tail 10 (by kernel_rfl) (by kernel_rfl) ?_
            simp only [List.take_succ_cons, List.take_zero, List.drop_succ_cons, List.drop_zero]
            repeat (first | go_big_quiet_step ((fail)) | quiet_step ((fail)))
            refine wpQuiet_nil ?_
            rintro _ ⟨nr, rfl⟩
            go_wp2
            go_roundg (N - (k' + 1))
            case measure => omega
            case rel =>
              refine ⟨k' + 1, u, x + (f k').v, 2, (f k').at', (f k').v, ⟨#[120]⟩, rfl, by go_num, by go_num, hu, hle, hlt, ?_, ?_, ?_, ?_, ?_⟩
              · have e : (((k' + 1 : Nat) : Int)) = (k' : Int) + 1 := by omega
                unfold Wy; rw [e]
                refine Blk.set (cs := #[.slice (some ⟨g, 0, none⟩) n cap, .int .i64 k', .int .i64 0, .int .i64 bad, .int .i64 op]) ?_ 1 _
                repeat (refine Blk.setOther ?_ _ _ nbd)
                exact HWr.out
              · exact Blk.setOther (Blk.setOther (Blk.setOther (Blk.setOther (Blk.setOther (by exact HPr.out) _ _ ncd) _ _ ncd) _ _ ncd) _ _ ncd) _ _ (Ne.symm hbc)
              · exact Blk.setOther (Blk.store4 (by exact HDr.out) _ _ _ _) _ _ (Ne.symm nbd)
              · exact Fr.setCell (Fr.setCell (Fr.setCell (Fr.setCell (Fr.setCell (hfw.drewN _) _ _ (by simp; omega)) _ _ (by simp; omega)) _ _ (by simp; omega)) _ _ (by simp; omega)) _ _ (by simp)
              · unfold Hid
                rw [← HQ.out, pw_x (by omega) H3.out hle]; congr 1
          · have HB : Hid (R = ⟨5, (f k').at', k', u, x⟩) := by unfold Hid; rw [← HQ.out, pw_x_bad (by omega) H3.out hle]
            go_wp2
            go_quiet (fail)
            go_wp2
            refine region_quiet_tail 10 (by kernel_rfl) (by kernel_rfl) ?_
            simp only [List.take_succ_cons, List.take_zero, List.drop_succ_cons, List.drop_zero]
            repeat (first | go_big_quiet_step ((fail)) | quiet_step ((fail)))
            refine wpQuiet_nil ?_
            rintro _ ⟨nr, rfl⟩
            go_wp2_with fail
            refine (wrong_first b g n cap k' _ _ bad op _ (by exact Blk.setOther (Blk.setOther (Blk.setOther (Blk.setOther (by exact HWr.out) _ _ nbd) _ _ nbd) _ _ nbd) _ _ nbd)).mono ?_
            rintro e w5 ⟨rfl, h5, hf5⟩
            go_wp2
            first | go_end0 | refine bodyPost_ret (results_none rfl _ _ _) rfl ?_
            refine ⟨rfl, Or.inr ⟨?_, ⟨k', hk', ?_⟩, ?_, ?_⟩⟩
            · rw [HB.out]; simp
            · rw [HB.out]; exact h5
            · exact Blk.fr (Blk.setOther (Blk.setOther (Blk.setOther (Blk.setOther (by exact HPr.out) _ _ ncd) _ _ ncd) _ _ ncd) _ _ ncd) hf5 (by simp; exact Ne.symm hbc)
            · exact (Fr.setCell (Fr.setCell (Fr.setCell (Fr.setCell (hfw.drewN _) _ _ (by simp; omega)) _ _ (by simp; omega)) _ _ (by simp; omega)) _ _ (by simp; omega)).trans hf5 (by simp)
        · have HB : Hid (R = ⟨7, (f k').at', k', u, x⟩) := by unfold Hid; rw [← HQ.out, pw_x_bare (by omega) H3.out]
          go_wp2
          go_quiet (fail)
          go_wp2
          refine region_quiet_tail 10 (by kernel_rfl) (by kernel_rfl) ?_
          simp only [List.take_succ_cons, List.take_zero, List.drop_succ_cons, List.drop_zero]
          repeat (first | go_big_quiet_step ((fail)) | quiet_step ((fail)))
          refine wpQuiet_nil ?_
          rintro _ ⟨nr, rfl⟩
          go_wp2_with fail
          refine (wrong_first b g n cap k' _ _ bad op _ (by exact Blk.setOther (Blk.setOther (Blk.setOther (Blk.setOther (by exact HWr.out) _ _ nbd) _ _ nbd) _ _ nbd) _ _ nbd)).mono ?_
          rintro e w5 ⟨rfl, h5, hf5⟩
          go_wp2
          first | go_end0 | refine bodyPost_ret (results_none rfl _ _ _) rfl ?_
          refine ⟨rfl, Or.inr ⟨?_, ⟨k', hk', ?_⟩, ?_, ?_⟩⟩
          · rw [HB.out]; simp
          · rw [HB.out]; exact h5
          · exact Blk.fr (Blk.setOther (Blk.setOther (Blk.setOther (Blk.setOther (by exact HPr.out) _ _ ncd) _ _ ncd) _ _ ncd) _ _ ncd) hf5 (by simp; exact Ne.symm hbc)
          · exact (Fr.setCell (Fr.setCell (Fr.setCell (Fr.setCell (hfw.drewN _) _ _ (by simp; omega)) _ _ (by simp; omega)) _ _ (by simp; omega)) _ _ (by simp; omega)).trans hf5 (by simp)
      · have q2 : (rk (f k').c == 2) = false := by rw [beq_eq_false_iff_ne]; exact rk_not2 h2 h3
        have HB : Hid (R = ⟨0, 0, k', u, x⟩) := by unfold Hid; rw [← HQ.out, pw_end h2 h3]
        have hx0 : (0 : Int) ≤ (x : Int) := by omega
        have hx1 : (x : Int) < 5 := by omega
        have hu0 : (0 : Int) ≤ (u : Int) := by omega
        have hu1 : (u : Int) < 7 := by omega
        have hq : x * 7 + u < p.length := by rw [hgp.1]; omega
        have hcell := pv_get hq
        have hv7 := hgp.2 (x * 7 + u)
        have HV : Hid (plus p u x (sg * (f k).v) = p.set (x * 7 + u) ((p.getD (x * 7 + u) 0 + (sg * (f k).v)) % 7)) := by unfold Hid plus; rw [Nat.mul_comm 7 x]
        generalize p.getD (x * 7 + u) 0 = v at *
        have e3 : wr.cell? ⟨c, x * 7 + u, none⟩ = some (.int .i64 v) := by rw [HPr.out.cell]; exact hcell
        have e4 : wr.frozen? ⟨c, x * 7 + u, none⟩ = false := HPr.out.frozen _
        clear h2 h3 hcell
        go_wp2
        go_quiet (fail)
        go_wp2
        refine region_quiet_tail 16 (by kernel_rfl) (by kernel_rfl) ?_
        simp only [List.take_succ_cons, List.take_zero, List.drop_succ_cons, List.drop_zero]
        repeat (first | go_big_quiet_step ((fail)) | quiet_step ((fail)))
        refine wpQuiet_nil ?_
        rintro _ ⟨nr, rfl⟩
        go_wp2
        go_end0
        refine ⟨rfl, Or.inl ⟨?_, ?_, ?_, ?_, ?_⟩⟩
        · rw [HB.out]
        · rw [HB.out]; exact Blk.setOther (by exact HWr.out) _ _ hbc
        · rw [HB.out]; dsimp only; rw [HV.out]; exact Blk.putN (by exact HPr.out) _ _ _ (by have := HA.out; omega)
        · rw [HB.out]; exact hk'
        · exact Fr.setCell (hfw.drewN _) _ _ (by simp)
end Go.Proofs.YthlmgpllapccfaaDoor
/- THE DOCUMENT's ANSWER: term whole; poly. -/
namespace Go.Proofs.YthlmgpllapccfaaDoor
open Go.RowKit

set_option maxRecDepth 100000 in
set_option maxHeartbeats 2000000 in
theorem wterm_bad (f : Nat → Tok) (b g n cap c k : Nat) (sg : Int) (bare : Bool) (bad op : Int) (w : World) (h : Wy w b g n cap k 0 bad op) (ht : Tk w g n f) (hk : k < n) (hn : n ≤ 1001) (hc : (f k).c ≠ 1 ∧ (f k).c ≠ 2 ∧ (f k).c ≠ 3) :
    Calls Tryd.prog 54 #[.pointer (some ⟨b, 0, none⟩), .pointer (some ⟨c, 0, none⟩), .int .i64 sg, .bool bare] w fun e w' => e = .returned (.tuple #[]) ∧ Wy w' b g n cap k 4 (f k).at' op ∧ Fr [b] w w' := by
  have hb : b < w.heap.size := Blk.lt h
  have HW := hideR h
  have HT := hideR ht
  have q1 : (rk (f k).c != 1) = true := by rw [bne_iff_ne]; exact rk_not1 hc.1
  have q2 : (rk (f k).c != 2) = true := by rw [bne_iff_ne]; exact rk_not2 hc.2.1 hc.2.2
  clear h ht hc
  go_enter Tryd.func54, Tryd.ntmps54
  go_wp2_with fail
  refine (next_any b g n cap k f 0 bad op _ HW.out HT.out hk (by omega)).mono ?_
  rintro e w1 ⟨rfl, hb1⟩
  have hw1 : Wy w1 b g n cap k 0 bad op := Blk.fr HW.out (Fr.of_below (bs := []) hb1) (by simp)
  have HW1 := hideR hw1
  have HB1 := hideR hb1
  clear hw1 hb1
  go_wp2_with fail
  refine (wrong_first b g n cap k _ _ bad op _ (by exact Blk.alloc HW1.out _)).mono ?_
  rintro e w5 ⟨rfl, h5, hf5⟩
  go_wp2
  first | go_end0 | refine bodyPost_ret (results_none rfl _ _ _) rfl ?_
  exact ⟨rfl, h5, ((Fr.of_below (bs := [b]) HB1.out).alloc _).trans hf5 (by simp)⟩

theorem wterm_ok (f : Nat → Tok) (N b g n cap c k : Nat) (p : List Nat) (sg : Nat) (bare : Bool) (bad op : Int) (w : World) (h : Wy w b g n cap k 0 bad op) (ht : Tk w g n f) (hp : Blk w c (pv p) 41) (hgp : Good p)
    (hk : k < n) (hn : n ≤ N + 1) (hN : N ≤ 1000) (hend : ∀ j, j < n → (f j).c ≠ 0 → j + 1 < n) (hv : ∀ j, (f j).v ≤ 99) (hsg : sg ≤ 6) (hbg : b ≠ g) (hbc : b ≠ c) (hgc : g ≠ c) (he : (tm f bare N k).e = 0) :
    Calls Tryd.prog 54 #[.pointer (some ⟨b, 0, none⟩), .pointer (some ⟨c, 0, none⟩), .int .i64 sg, .bool bare] w fun e w' => e = .returned (.tuple #[]) ∧ Wy w' b g n cap (tm f bare N k).k 0 bad op ∧ Blk w' c (pv (plus p (tm f bare N k).u (tm f bare N k).x (sg * (tm f bare N k).n))) 41 ∧ (tm f bare N k).k < n ∧ Fr [b, c] w w' := by
  unfold tm at *
  by_cases h1 : (f k).c = 1
  · rw [if_pos h1] at *
    refine (wterm_number f N b g n cap c k p sg bare bad op w h ht hp hgp hk hn hN hend hv hsg hbg hbc hgc h1).mono ?_
    rintro e w1 ⟨rfl, q | q⟩
    · exact ⟨rfl, q.2⟩
    · exact absurd he q.1
  · rw [if_neg h1] at *
    by_cases h2 : (f k).c = 2 ∨ (f k).c = 3
    · rw [if_pos h2] at *
      refine (wterm_power f N b g n cap c k p sg bare bad op w h ht hp hgp hk hn hN hend hv hsg hbg hbc hgc h2).mono ?_
      rintro e w1 ⟨rfl, q | q⟩
      · exact ⟨rfl, q.2⟩
      · exact absurd he q.1
    · rw [if_neg h2] at he; exact absurd he (by simp)
theorem wterm_not (f : Nat → Tok) (N b g n cap c k : Nat) (p : List Nat) (sg : Nat) (bare : Bool) (bad op : Int) (w : World) (h : Wy w b g n cap k 0 bad op) (ht : Tk w g n f) (hp : Blk w c (pv p) 41) (hgp : Good p)
    (hk : k < n) (hn : n ≤ N + 1) (hN : N ≤ 1000) (hend : ∀ j, j < n → (f j).c ≠ 0 → j + 1 < n) (hv : ∀ j, (f j).v ≤ 99) (hsg : sg ≤ 6) (hbg : b ≠ g) (hbc : b ≠ c) (hgc : g ≠ c) (he : (tm f bare N k).e ≠ 0) :
    Calls Tryd.prog 54 #[.pointer (some ⟨b, 0, none⟩), .pointer (some ⟨c, 0, none⟩), .int .i64 sg, .bool bare] w fun e w' => e = .returned (.tuple #[]) ∧ (∃ k', k' < n ∧ Wy w' b g n cap k' (tm f bare N k).e (tm f bare N k).bad op) ∧ Blk w' c (pv p) 41 ∧ Fr [b, c] w w' := by
  unfold tm at *
  by_cases h1 : (f k).c = 1
  · rw [if_pos h1] at *
    refine (wterm_number f N b g n cap c k p sg bare bad op w h ht hp hgp hk hn hN hend hv hsg hbg hbc hgc h1).mono ?_
    rintro e w1 ⟨rfl, q | q⟩
    · exact absurd q.1 he
    · exact ⟨rfl, q.2⟩
  · rw [if_neg h1] at *
    by_cases h2 : (f k).c = 2 ∨ (f k).c = 3
    · rw [if_pos h2] at *
      refine (wterm_power f N b g n cap c k p sg bare bad op w h ht hp hgp hk hn hN hend hv hsg hbg hbc hgc h2).mono ?_
      rintro e w1 ⟨rfl, q | q⟩
      · exact absurd q.1 he
      · exact ⟨rfl, q.2⟩
    · rw [if_neg h2] at *
      refine (wterm_bad f b g n cap c k sg bare bad op w h ht hk (by omega) (by omega)).mono ?_
      rintro e w1 ⟨rfl, q1, q2⟩
      exact ⟨rfl, ⟨k, hk, q1⟩, hp.fr q2 (by simp; omega), q2.mono (by simp)⟩

theorem rk_43 {c : Nat} : rk c = 43 ↔ c = 47 := by
  constructor
  · intro h
    unfold rk at h
    repeat' split at h
    all_goals omega
  · intro h; subst h; rfl
theorem rk_45 {c : Nat} : rk c = 45 ↔ c = 49 := by
  constructor
  · intro h
    unfold rk at h
    repeat' split at h
    all_goals omega
  · intro h; subst h; rfl
end Go.Proofs.YthlmgpllapccfaaDoor
/- THE DOCUMENT's ANSWER: poly. -/
namespace Go.Proofs.YthlmgpllapccfaaDoor
open Go.RowKit

/-- What poly ends in. -/
def PolyEnd (b g n cap : Nat) (R : PlR) (bad op : Int) (w : World) (e : Ending) (w' : World) : Prop :=
  (R.e = 0 ∧ e = .returned (.agg (pv R.p)) ∧ Good R.p ∧ Wy w' b g n cap R.k 0 bad op ∧ R.k < n ∧ Fr [b] w w') ∨ (R.e ≠ 0 ∧ (∃ q, Good q ∧ e = .returned (.agg (pv q))) ∧ (∃ k', k' < n ∧ Wy w' b g n cap k' R.e R.bad op) ∧ Fr [b] w w')

set_option maxRecDepth 100000 in
set_option maxHeartbeats 8000000 in
theorem wpoly_plain (f : Nat → Tok) (N b g n cap k : Nat) (bare : Bool) (bad op : Int) (w : World) (h : Wy w b g n cap k 0 bad op) (ht : Tk w g n f)
    (hk : k < n) (hn : n ≤ N + 1) (hN : N ≤ 1000) (hend : ∀ j, j < n → (f j).c ≠ 0 → j + 1 < n) (hv : ∀ j, (f j).v ≤ 99) (hbg : b ≠ g) (hc : (f k).c ≠ 49) :
    Calls Tryd.prog 29 #[.pointer (some ⟨b, 0, none⟩), .bool bare] w (PolyEnd b g n cap (pl f bare N (N + 1) k 1 zeros) bad op w) := by
  have hb : b < w.heap.size := Blk.lt h
  have hg := ht.1
  have HW := hideR h
  have HT := hideR ht
  generalize hR : pl f bare N (N + 1) k 1 zeros = R
  have HP : Hid (pl f bare N (N + 1) k 1 zeros = R) := hR
  have HC : Hid (rk (f k).c ≠ 45) := fun q => hc (rk_45.1 q)
  have hnt : ∀ (x : Bool) (w : World), (Op.unary .not (.bool x)).run Tryd.prog w = .ok (.bool (!x)) w := fun _ _ => rfl
  clear h ht hR hc
  go_enter Tryd.func29, Tryd.ntmps29
  go_wp2_with fail
  refine (passes_no b g n cap k f 45 bad op _ (by exact Blk.alloc (Blk.alloc HW.out _) _) (by exact HT.out.fr (((Fr.refl [] w).alloc _).alloc _) (by simp)) hk (by omega) (by omega) (by omega) HC.out).mono ?_
  rintro e w0 ⟨rfl, hw0, hfr0⟩
  have hs0 : Blk w0 (w.heap.size + 1) (pv zeros) 41 := Blk.fr (by exact Blk.newAt _ _ _ (by simp)) hfr0 (by simp; omega)
  have hr0 : Blk w0 w.heap.size (pv zeros) 41 := Blk.fr (by exact Blk.alloc (Blk.new w _ _) _) hfr0 (by simp; omega)
  have hf0 : Fr [b] w w0 := (((Fr.refl [b] w).alloc _).alloc _).trans hfr0 (by simp)
  go_wp2
  go_loopg [6] (N + 1) (fun m v6 wr => (∃ (k' sg : Nat) (p : List Nat), v6 = .int .i64 sg ∧ (sg = 1 ∨ sg = 6) ∧ N + 1 ≤ m + k' ∧ k' < n ∧ Good p ∧ Wy wr b g n cap k' 0 bad op ∧ Blk wr (w.heap.size + 1) (pv p) 41 ∧ Blk wr w.heap.size (pv zeros) 41 ∧ Fr [b] w wr ∧ Hid (pl f bare N m k' sg p = R)) ∨ (∃ (k' : Nat) (q : List Nat), k' < n ∧ Good q ∧ R.e ≠ 0 ∧ Wy wr b g n cap k' R.e R.bad op ∧ Blk wr (w.heap.size + 1) (pv q) 41 ∧ Blk wr w.heap.size (pv zeros) 41 ∧ Fr [b] w wr))
  case atStart => exact Or.inl ⟨k, 1, zeros, rfl, Or.inl rfl, by omega, hk, zeros_good, hw0, hs0, hr0, hf0, HP⟩
  case round =>
    have mb : ¬ w.heap.size + 1 = b := by omega
    have mb0 : ¬ w.heap.size = b := by omega
    have mg : g ≠ w.heap.size + 1 := by omega
    rcases hrel with ⟨k', sg, p, rfl, hsg, hm, hk', hgp, hw, hp, hr, hfw, HQ⟩ | ⟨k', q, hk', hgq, hne, hw, hp, hr, hfw⟩
    · obtain ⟨c0, c1, c2, c3, c4⟩ := hw.cells
      have HTr : Hid (Tk wr g n f) := HT.out.fr hfw (by simp; omega)
      have HWr := hideR hw
      have HPr := hideR hp
      have HRr := hideR hr
      have hbr := Blk.lt hw
      clear hw hp hr
      by_cases hte : (tm f bare N k').e = 0
      · have hT := tm_facts f bare N k'
        have HTE := hideR hte
        go_wp2_with fail
        refine (wterm_ok f N b g n cap (w.heap.size + 1) k' p sg bare bad op _ HWr.out HTr.out HPr.out hgp hk' hn hN hend hv (by omega) hbg (Ne.symm mb) mg hte).mono ?_
        rintro e w1 ⟨rfl, hw1, hp1, hk1, hfr1⟩
        clear hte
        generalize hTT : tm f bare N k' = T at *
        have HTT := hideR hTT
        clear hTT
        have hg' : Good (plus p T.u T.x (sg * T.n)) := plus_good hgp _ _ _
        obtain ⟨p', HP'⟩ : ∃ p', Hid (plus p T.u T.x (sg * T.n) = p') := ⟨_, rfl⟩
        rw [HP'.out] at hp1 hg'
        have hr1 : Blk w1 w.heap.size (pv zeros) 41 := HRr.out.fr hfr1 (by simp; omega)
        have hf1 : Fr [b] w w1 := hfw.trans hfr1 (by simp)
        have ht1 : Tk w1 g n f := HT.out.fr hf1 (by simp; omega)
        obtain ⟨e0, e1, e2, e3, e4⟩ := hw1.cells
        have HW1 := hideR hw1
        have HP1 := hideR hp1
        have HR1 := hideR hr1
        have HT1 := hideR ht1
        clear hw1 hp1 hr1 ht1 c0 c1 c2 c3 c4
        by_cases h4 : (f T.k).c = 47
        · have hlt : T.k + 1 < n := hend T.k hk1 (by omega)
          have HN' : Hid (pl f bare N (gk - 1) (T.k + 1) 1 p' = R) := by
            have q := HQ.out
            rw [pl_plus (by omega) (by rw [HTT.out]; exact HTE.out) (by rw [HTT.out]; exact h4), HTT.out, HP'.out] at q
            exact q
          have h4r := rk_43.2 h4
          have H4 := hideR h4r
          clear h4 h4r
          go_wp2_with fail
          refine (passes_yes b g n cap T.k f 43 bad op _ HW1.out HT1.out hk1 (by omega) (by omega) (by omega) H4.out).mono ?_
          rintro e w2 ⟨rfl, hw2, hfr2⟩
          have hf2 : Fr [b] w w2 := hf1.trans hfr2 (by simp)
          have HT2 : Hid (Tk w2 g n f) := HT.out.fr hf2 (by simp; omega)
          have HP2 : Hid (Blk w2 (w.heap.size + 1) (pv p') 41) := HP1.out.fr hfr2 (by simp [mb])
          have HR2 : Hid (Blk w2 w.heap.size (pv zeros) 41) := HR1.out.fr hfr2 (by simp [mb0])
          have HW2 := hideR hw2
          clear hw2
          by_cases h5 : (f (T.k + 1)).c = 49
          · have hlt2 : T.k + 1 + 1 < n := hend (T.k + 1) hlt (by omega)
            have h5r := rk_45.2 h5
            have H5 := hideR h5r
            have HRR : Hid (R.e = 4 ∧ R.bad = (f (T.k + 1)).at') := by
              have q : tm f bare N (T.k + 1) = ⟨4, (f (T.k + 1)).at', T.k + 1, 0, 0, 0⟩ := by
                unfold tm; rw [if_neg (by omega), if_neg (by omega)]
              unfold Hid
              rw [← HN'.out, pl_bad (by omega) (by rw [q]; simp), q]
              exact ⟨rfl, rfl⟩
            clear h5 h5r HN'
            generalize T.k + 1 = m at *
            go_wp2_with fail
            refine (passes_yes b g n cap m f 45 bad op _ HW2.out HT2.out hlt (by omega) (by omega) (by omega) H5.out).mono ?_
            rintro e w3 ⟨rfl, hw3, hfr3⟩
            have hf3 : Fr [b] w w3 := hf2.trans hfr3 (by simp)
            have ht3 : Tk w3 g n f := HT.out.fr hf3 (by simp; omega)
            have HP3 : Hid (Blk w3 (w.heap.size + 1) (pv p') 41) := HP2.out.fr hfr3 (by simp [mb])
            have HR3 : Hid (Blk w3 w.heap.size (pv zeros) 41) := HR2.out.fr hfr3 (by simp [mb0])
            obtain ⟨s0, s1, s2, s3, s4⟩ := hw3.cells
            obtain ⟨d0, d1, d2, d3⟩ := ht3.cells hlt
            have HW3 := hideR hw3
            have es : ((m + 1 : Nat) : Int) = (m : Int) + 1 := by omega
            rw [es] at s1
            have i0 : (0 : Int) ≤ (m : Int) := by omega
            have i1 : (m : Int) < (n : Int) := by omega
            clear es hw3 ht3
            go_wp2
            refine region_quiet_tail 13 (by kernel_rfl) (by kernel_rfl) ?_
            simp only [List.take_succ_cons, List.take_zero, List.drop_succ_cons, List.drop_zero]
            repeat (first | go_big_quiet_step ((fail)) | quiet_step ((fail)))
            refine wpQuiet_nil ?_
            rintro _ ⟨nr, rfl⟩
            go_wp2_with fail
            refine (wrong_first b g n cap (m + 1) _ _ bad op _ (by exact HW3.out)).mono ?_
            rintro e w4 ⟨rfl, hw4, hfr4⟩
            have hfr4' : Fr [b] w3 w4 := ((Fr.refl [b] w3).drewN nr).trans hfr4 (by simp)
            go_wp2
            go_roundg (gk - 1)
            case measure => omega
            case rel =>
              refine Or.inr ⟨m + 1, p', hlt2, hg', ?_, ?_, HP3.out.fr hfr4' (by simp [mb]), HR3.out.fr hfr4' (by simp [mb0]), hf3.trans hfr4' (by simp)⟩
              · rw [HRR.out.1]; simp
              · rw [HRR.out.1, HRR.out.2]; exact hw4
          · have H5 : Hid (rk (f (T.k + 1)).c ≠ 45) := fun q => h5 (rk_45.1 q)
            clear h5
            go_wp2_with fail
            refine (passes_no b g n cap (T.k + 1) f 45 bad op _ HW2.out HT2.out hlt (by omega) (by omega) (by omega) H5.out).mono ?_
            rintro e w3 ⟨rfl, hw3, hfr3⟩
            have hf3 : Fr [b] w w3 := hf2.trans hfr3 (by simp)
            go_wp2
            go_roundg (gk - 1)
            case measure => omega
            case rel => exact Or.inl ⟨T.k + 1, 1, p', rfl, Or.inl rfl, by omega, hlt, hg', hw3, HP2.out.fr hfr3 (by simp [mb]), HR2.out.fr hfr3 (by simp [mb0]), hf3, HN'⟩
        · have H4 : Hid (rk (f T.k).c ≠ 43) := fun q => h4 (rk_43.1 q)
          go_wp2_with fail
          refine (passes_no b g n cap T.k f 43 bad op _ HW1.out HT1.out hk1 (by omega) (by omega) (by omega) H4.out).mono ?_
          rintro e w2 ⟨rfl, hw2, hfr2⟩
          have hf2 : Fr [b] w w2 := hf1.trans hfr2 (by simp)
          have HT2 : Hid (Tk w2 g n f) := HT.out.fr hf2 (by simp; omega)
          have HP2 : Hid (Blk w2 (w.heap.size + 1) (pv p') 41) := HP1.out.fr hfr2 (by simp [mb])
          have HR2 : Hid (Blk w2 w.heap.size (pv zeros) 41) := HR1.out.fr hfr2 (by simp [mb0])
          have HW2 := hideR hw2
          clear hw2
          by_cases h5 : (f T.k).c = 49
          · have hlt : T.k + 1 < n := hend T.k hk1 (by omega)
            have HN' : Hid (pl f bare N (gk - 1) (T.k + 1) 6 p' = R) := by
              have q := HQ.out
              rw [pl_minus (by omega) (by rw [HTT.out]; exact HTE.out) (by rw [HTT.out]; exact h5), HTT.out, HP'.out] at q
              exact q
            have h5r := rk_45.2 h5
            have H5 := hideR h5r
            clear h4 h5 h5r
            go_wp2_with fail
            refine (passes_yes b g n cap T.k f 45 bad op _ HW2.out HT2.out hk1 (by omega) (by omega) (by omega) H5.out).mono ?_
            rintro e w3 ⟨rfl, hw3, hfr3⟩
            have hf3 : Fr [b] w w3 := hf2.trans hfr3 (by simp)
            go_wp2
            go_roundg (gk - 1)
            case measure => omega
            case rel => exact Or.inl ⟨T.k + 1, 6, p', rfl, Or.inr rfl, by omega, hlt, hg', hw3, HP2.out.fr hfr3 (by simp [mb]), HR2.out.fr hfr3 (by simp [mb0]), hf3, HN'⟩
          · have HB : Hid (R = ⟨0, 0, T.k, p'⟩) := by
              unfold Hid
              rw [← HQ.out, pl_done (by omega) (by rw [HTT.out]; exact HTE.out) (by rw [HTT.out]; exact h4) (by rw [HTT.out]; exact h5), HTT.out, HP'.out]
            have H5 : Hid (rk (f T.k).c ≠ 45) := fun q => h5 (rk_45.1 q)
            clear h4 h5
            go_wp2_with fail
            refine (passes_no b g n cap T.k f 45 bad op _ HW2.out HT2.out hk1 (by omega) (by omega) (by omega) H5.out).mono ?_
            rintro e w3 ⟨rfl, hw3, hfr3⟩
            have hf3 : Fr [b] w w3 := hf2.trans hfr3 (by simp)
            have HW3 := hideR hw3
            have HP3 : Hid (Blk w3 (w.heap.size + 1) (pv p') 41) := HP2.out.fr hfr3 (by simp [mb])
            have HR3 : Hid (Blk w3 w.heap.size (pv zeros) 41) := HR2.out.fr hfr3 (by simp [mb0])
            clear hw3
            go_wp2_with (first | (refine wpList_load_row (by rfl) 41 _ (by rfl) (w.heap.size + 1) (by rfl) 41 (pv p') (0, 0) _ HP3.out Tryd.underlying41 (by rfl) (size_rPoly hg') ?_) | (refine wpList_store_mid (by rfl) 41 _ (.tmp 55) (by rfl) w.heap.size 0 (pv p') (by rfl) (by rfl) (Blk.there HR3.out (by rw [pv_size, pv_size, hg'.1]; exact Nat.le_refl _)) (size_rPoly hg') (pv_one _) ?_))
            refine bodyPost_ret (results_cell_row Tryd.results29 _ _ w.heap.size 41 (pv p') (0, 0) _ (by rfl) (Blk.setAll HR3.out _ (by rw [pv_size, pv_size, hg'.1]; rfl)) Tryd.underlying41 rfl (size_rPoly hg')) rfl ?_
            refine Or.inl ⟨?_, ?_, ?_, ?_, ?_, ?_⟩
            · rw [HB.out]
            · rw [HB.out]
            · rw [HB.out]; exact hg'
            · rw [HB.out]; exact Blk.setCellsOther HW3.out _ _ _ (by omega)
            · rw [HB.out]; exact hk1
            · exact Fr.setCells hf3 _ _ _ (by simp)
      · have HB : Hid (R.e ≠ 0 ∧ R.e = (tm f bare N k').e ∧ R.bad = (tm f bare N k').bad) := by
          unfold Hid
          rw [← HQ.out, pl_bad (by omega) hte]; exact ⟨hte, rfl, rfl⟩
        go_wp2_with fail
        refine (wterm_not f N b g n cap (w.heap.size + 1) k' p sg bare bad op _ HWr.out HTr.out HPr.out hgp hk' hn hN hend hv (by omega) hbg (Ne.symm mb) mg hte).mono ?_
        rintro e w1 ⟨rfl, ⟨k1, hk1, hw1⟩, hp1, hfr1⟩
        obtain ⟨g1, g2, g3⟩ := HB.out
        rw [← g2, ← g3] at hw1
        have hr1 : Blk w1 w.heap.size (pv zeros) 41 := HRr.out.fr hfr1 (by simp; omega)
        have hf1 : Fr [b] w w1 := hfw.trans hfr1 (by simp)
        obtain ⟨e0, e1, e2, e3, e4⟩ := hw1.cells
        have qe : ((R.e : Int) != 0) = true := by rw [bne_iff_ne]; omega
        have HW1 := hideR hw1
        have HP1 := hideR hp1
        have HR1 := hideR hr1
        have HG1 := hideR g1
        clear hw1 hp1 hr1 c0 c1 c2 c3 c4 g1 g2 g3 hte
        go_wp2_with (first | (refine wpList_load_row (by rfl) 41 _ (by rfl) (w.heap.size + 1) (by rfl) 41 (pv p) (0, 0) _ HP1.out Tryd.underlying41 (by rfl) (size_rPoly hgp) ?_) | (refine wpList_store_mid (by rfl) 41 _ (.tmp 55) (by rfl) w.heap.size 0 (pv p) (by rfl) (by rfl) (Blk.there HR1.out (by rw [pv_size, pv_size, hgp.1]; exact Nat.le_refl _)) (size_rPoly hgp) (pv_one _) ?_))
        refine bodyPost_ret (results_cell_row Tryd.results29 _ _ w.heap.size 41 (pv p) (0, 0) _ (by rfl) (Blk.setAll HR1.out _ (by rw [pv_size, pv_size, hgp.1]; rfl)) Tryd.underlying41 rfl (size_rPoly hgp)) rfl ?_
        exact Or.inr ⟨HG1.out, ⟨p, hgp, rfl⟩, ⟨k1, hk1, Blk.setCellsOther HW1.out _ _ _ (by omega)⟩, Fr.setCells hf1 _ _ _ (by simp)⟩
    · obtain ⟨c0, c1, c2, c3, c4⟩ := hw.cells
      have qe : ((R.e : Int) == 0) = false := by rw [beq_eq_false_iff_ne]; omega
      have HW1 := hideR hw
      have HP1 := hideR hp
      have HR1 := hideR hr
      have HG1 := hideR hne
      clear hw hp hr hne
      go_wp2_with (first | (refine wpList_load_row (by rfl) 41 _ (by rfl) (w.heap.size + 1) (by rfl) 41 (pv q) (0, 0) _ HP1.out Tryd.underlying41 (by rfl) (size_rPoly hgq) ?_) | (refine wpList_store_mid (by rfl) 41 _ (.tmp 55) (by rfl) w.heap.size 0 (pv q) (by rfl) (by rfl) (Blk.there HR1.out (by rw [pv_size, pv_size, hgq.1]; exact Nat.le_refl _)) (size_rPoly hgq) (pv_one _) ?_))
      refine bodyPost_ret (results_cell_row Tryd.results29 _ _ w.heap.size 41 (pv q) (0, 0) _ (by rfl) (Blk.setAll HR1.out _ (by rw [pv_size, pv_size, hgq.1]; rfl)) Tryd.underlying41 rfl (size_rPoly hgq)) rfl ?_
      exact Or.inr ⟨HG1.out, ⟨q, hgq, rfl⟩, ⟨k', hk', Blk.setCellsOther HW1.out _ _ _ (by omega)⟩, Fr.setCells hfw _ _ _ (by simp)⟩
end Go.Proofs.YthlmgpllapccfaaDoor
/- THE DOCUMENT's ANSWER: poly, with a minus ahead; whole. -/
namespace Go.Proofs.YthlmgpllapccfaaDoor
open Go.RowKit

set_option maxRecDepth 100000 in
set_option maxHeartbeats 8000000 in
theorem wpoly_minus (f : Nat → Tok) (N b g n cap k : Nat) (bare : Bool) (bad op : Int) (w : World) (h : Wy w b g n cap k 0 bad op) (ht : Tk w g n f)
    (hk : k < n) (hn : n ≤ N + 1) (hN : N ≤ 1000) (hend : ∀ j, j < n → (f j).c ≠ 0 → j + 1 < n) (hv : ∀ j, (f j).v ≤ 99) (hbg : b ≠ g) (hc : (f k).c = 49) :
    Calls Tryd.prog 29 #[.pointer (some ⟨b, 0, none⟩), .bool bare] w (PolyEnd b g n cap (pl f bare N (N + 1) (k + 1) 6 zeros) bad op w) := by
  have hb : b < w.heap.size := Blk.lt h
  have hg := ht.1
  have HW := hideR h
  have HT := hideR ht
  generalize hR : pl f bare N (N + 1) (k + 1) 6 zeros = R
  have HP : Hid (pl f bare N (N + 1) (k + 1) 6 zeros = R) := hR
  have HC : Hid (rk (f k).c = 45) := rk_45.2 hc
  have hlt0 : k + 1 < n := hend k hk (by omega)
  have hnt : ∀ (x : Bool) (w : World), (Op.unary .not (.bool x)).run Tryd.prog w = .ok (.bool (!x)) w := fun _ _ => rfl
  clear h ht hR hc
  go_enter Tryd.func29, Tryd.ntmps29
  go_wp2_with fail
  refine (passes_yes b g n cap k f 45 bad op _ (by exact Blk.alloc (Blk.alloc HW.out _) _) (by exact HT.out.fr (((Fr.refl [] w).alloc _).alloc _) (by simp)) hk (by omega) (by omega) (by omega) HC.out).mono ?_
  rintro e w0 ⟨rfl, hw0, hfr0⟩
  have hs0 : Blk w0 (w.heap.size + 1) (pv zeros) 41 := Blk.fr (by exact Blk.newAt _ _ _ (by simp)) hfr0 (by simp; omega)
  have hr0 : Blk w0 w.heap.size (pv zeros) 41 := Blk.fr (by exact Blk.alloc (Blk.new w _ _) _) hfr0 (by simp; omega)
  have hf0 : Fr [b] w w0 := (((Fr.refl [b] w).alloc _).alloc _).trans hfr0 (by simp)
  go_wp2
  go_loopg [6] (N + 1) (fun m v6 wr => (∃ (k' sg : Nat) (p : List Nat), v6 = .int .i64 sg ∧ (sg = 1 ∨ sg = 6) ∧ N + 1 ≤ m + k' ∧ k' < n ∧ Good p ∧ Wy wr b g n cap k' 0 bad op ∧ Blk wr (w.heap.size + 1) (pv p) 41 ∧ Blk wr w.heap.size (pv zeros) 41 ∧ Fr [b] w wr ∧ Hid (pl f bare N m k' sg p = R)) ∨ (∃ (k' : Nat) (q : List Nat), k' < n ∧ Good q ∧ R.e ≠ 0 ∧ Wy wr b g n cap k' R.e R.bad op ∧ Blk wr (w.heap.size + 1) (pv q) 41 ∧ Blk wr w.heap.size (pv zeros) 41 ∧ Fr [b] w wr))
  case atStart => exact Or.inl ⟨k + 1, 6, zeros, rfl, Or.inr rfl, by omega, hlt0, zeros_good, hw0, hs0, hr0, hf0, HP⟩
  case round =>
    have mb : ¬ w.heap.size + 1 = b := by omega
    have mb0 : ¬ w.heap.size = b := by omega
    have mg : g ≠ w.heap.size + 1 := by omega
    rcases hrel with ⟨k', sg, p, rfl, hsg, hm, hk', hgp, hw, hp, hr, hfw, HQ⟩ | ⟨k', q, hk', hgq, hne, hw, hp, hr, hfw⟩
    · obtain ⟨c0, c1, c2, c3, c4⟩ := hw.cells
      have HTr : Hid (Tk wr g n f) := HT.out.fr hfw (by simp; omega)
      have HWr := hideR hw
      have HPr := hideR hp
      have HRr := hideR hr
      have hbr := Blk.lt hw
      clear hw hp hr
      by_cases hte : (tm f bare N k').e = 0
      · have hT := tm_facts f bare N k'
        have HTE := hideR hte
        go_wp2_with fail
        refine (wterm_ok f N b g n cap (w.heap.size + 1) k' p sg bare bad op _ HWr.out HTr.out HPr.out hgp hk' hn hN hend hv (by omega) hbg (Ne.symm mb) mg hte).mono ?_
        rintro e w1 ⟨rfl, hw1, hp1, hk1, hfr1⟩
        clear hte
        generalize hTT : tm f bare N k' = T at *
        have HTT := hideR hTT
        clear hTT
        have hg' : Good (plus p T.u T.x (sg * T.n)) := plus_good hgp _ _ _
        obtain ⟨p', HP'⟩ : ∃ p', Hid (plus p T.u T.x (sg * T.n) = p') := ⟨_, rfl⟩
        rw [HP'.out] at hp1 hg'
        have hr1 : Blk w1 w.heap.size (pv zeros) 41 := HRr.out.fr hfr1 (by simp; omega)
        have hf1 : Fr [b] w w1 := hfw.trans hfr1 (by simp)
        have ht1 : Tk w1 g n f := HT.out.fr hf1 (by simp; omega)
        obtain ⟨e0, e1, e2, e3, e4⟩ := hw1.cells
        have HW1 := hideR hw1
        have HP1 := hideR hp1
        have HR1 := hideR hr1
        have HT1 := hideR ht1
        clear hw1 hp1 hr1 ht1 c0 c1 c2 c3 c4
        by_cases h4 : (f T.k).c = 47
        · have hlt : T.k + 1 < n := hend T.k hk1 (by omega)
          have HN' : Hid (pl f bare N (gk - 1) (T.k + 1) 1 p' = R) := by
            have q := HQ.out
            rw [pl_plus (by omega) (by rw [HTT.out]; exact HTE.out) (by rw [HTT.out]; exact h4), HTT.out, HP'.out] at q
            exact q
          have h4r := rk_43.2 h4
          have H4 := hideR h4r
          clear h4 h4r
          go_wp2_with fail
          refine (passes_yes b g n cap T.k f 43 bad op _ HW1.out HT1.out hk1 (by omega) (by omega) (by omega) H4.out).mono ?_
          rintro e w2 ⟨rfl, hw2, hfr2⟩
          have hf2 : Fr [b] w w2 := hf1.trans hfr2 (by simp)
          have HT2 : Hid (Tk w2 g n f) := HT.out.fr hf2 (by simp; omega)
          have HP2 : Hid (Blk w2 (w.heap.size + 1) (pv p') 41) := HP1.out.fr hfr2 (by simp [mb])
          have HR2 : Hid (Blk w2 w.heap.size (pv zeros) 41) := HR1.out.fr hfr2 (by simp [mb0])
          have HW2 := hideR hw2
          clear hw2
          by_cases h5 : (f (T.k + 1)).c = 49
          · have hlt2 : T.k + 1 + 1 < n := hend (T.k + 1) hlt (by omega)
            have h5r := rk_45.2 h5
            have H5 := hideR h5r
            have HRR : Hid (R.e = 4 ∧ R.bad = (f (T.k + 1)).at') := by
              have q : tm f bare N (T.k + 1) = ⟨4, (f (T.k + 1)).at', T.k + 1, 0, 0, 0⟩ := by
                unfold tm; rw [if_neg (by omega), if_neg (by omega)]
              unfold Hid
              rw [← HN'.out, pl_bad (by omega) (by rw [q]; simp), q]
              exact ⟨rfl, rfl⟩
            clear h5 h5r HN'
            generalize T.k + 1 = m at *
            go_wp2_with fail
            refine (passes_yes b g n cap m f 45 bad op _ HW2.out HT2.out hlt (by omega) (by omega) (by omega) H5.out).mono ?_
            rintro e w3 ⟨rfl, hw3, hfr3⟩
            have hf3 : Fr [b] w w3 := hf2.trans hfr3 (by simp)
            have ht3 : Tk w3 g n f := HT.out.fr hf3 (by simp; omega)
            have HP3 : Hid (Blk w3 (w.heap.size + 1) (pv p') 41) := HP2.out.fr hfr3 (by simp [mb])
            have HR3 : Hid (Blk w3 w.heap.size (pv zeros) 41) := HR2.out.fr hfr3 (by simp [mb0])
            obtain ⟨s0, s1, s2, s3, s4⟩ := hw3.cells
            obtain ⟨d0, d1, d2, d3⟩ := ht3.cells hlt
            have HW3 := hideR hw3
            have es : ((m + 1 : Nat) : Int) = (m : Int) + 1 := by omega
            rw [es] at s1
            have i0 : (0 : Int) ≤ (m : Int) := by omega
            have i1 : (m : Int) < (n : Int) := by omega
            clear es hw3 ht3
            go_wp2
            refine region_quiet_tail 13 (by kernel_rfl) (by kernel_rfl) ?_
            simp only [List.take_succ_cons, List.take_zero, List.drop_succ_cons, List.drop_zero]
            repeat (first | go_big_quiet_step ((fail)) | quiet_step ((fail)))
            refine wpQuiet_nil ?_
            rintro _ ⟨nr, rfl⟩
            go_wp2_with fail
            refine (wrong_first b g n cap (m + 1) _ _ bad op _ (by exact HW3.out)).mono ?_
            rintro e w4 ⟨rfl, hw4, hfr4⟩
            have hfr4' : Fr [b] w3 w4 := ((Fr.refl [b] w3).drewN nr).trans hfr4 (by simp)
            go_wp2
            go_roundg (gk - 1)
            case measure => omega
            case rel =>
              refine Or.inr ⟨m + 1, p', hlt2, hg', ?_, ?_, HP3.out.fr hfr4' (by simp [mb]), HR3.out.fr hfr4' (by simp [mb0]), hf3.trans hfr4' (by simp)⟩
              · rw [HRR.out.1]; simp
              · rw [HRR.out.1, HRR.out.2]; exact hw4
          · have H5 : Hid (rk (f (T.k + 1)).c ≠ 45) := fun q => h5 (rk_45.1 q)
            clear h5
            go_wp2_with fail
            refine (passes_no b g n cap (T.k + 1) f 45 bad op _ HW2.out HT2.out hlt (by omega) (by omega) (by omega) H5.out).mono ?_
            rintro e w3 ⟨rfl, hw3, hfr3⟩
            have hf3 : Fr [b] w w3 := hf2.trans hfr3 (by simp)
            go_wp2
            go_roundg (gk - 1)
            case measure => omega
            case rel => exact Or.inl ⟨T.k + 1, 1, p', rfl, Or.inl rfl, by omega, hlt, hg', hw3, HP2.out.fr hfr3 (by simp [mb]), HR2.out.fr hfr3 (by simp [mb0]), hf3, HN'⟩
        · have H4 : Hid (rk (f T.k).c ≠ 43) := fun q => h4 (rk_43.1 q)
          go_wp2_with fail
          refine (passes_no b g n cap T.k f 43 bad op _ HW1.out HT1.out hk1 (by omega) (by omega) (by omega) H4.out).mono ?_
          rintro e w2 ⟨rfl, hw2, hfr2⟩
          have hf2 : Fr [b] w w2 := hf1.trans hfr2 (by simp)
          have HT2 : Hid (Tk w2 g n f) := HT.out.fr hf2 (by simp; omega)
          have HP2 : Hid (Blk w2 (w.heap.size + 1) (pv p') 41) := HP1.out.fr hfr2 (by simp [mb])
          have HR2 : Hid (Blk w2 w.heap.size (pv zeros) 41) := HR1.out.fr hfr2 (by simp [mb0])
          have HW2 := hideR hw2
          clear hw2
          by_cases h5 : (f T.k).c = 49
          · have hlt : T.k + 1 < n := hend T.k hk1 (by omega)
            have HN' : Hid (pl f bare N (gk - 1) (T.k + 1) 6 p' = R) := by
              have q := HQ.out
              rw [pl_minus (by omega) (by rw [HTT.out]; exact HTE.out) (by rw [HTT.out]; exact h5), HTT.out, HP'.out] at q
              exact q
            have h5r := rk_45.2 h5
            have H5 := hideR h5r
            clear h4 h5 h5r
            go_wp2_with fail
            refine (passes_yes b g n cap T.k f 45 bad op _ HW2.out HT2.out hk1 (by omega) (by omega) (by omega) H5.out).mono ?_
            rintro e w3 ⟨rfl, hw3, hfr3⟩
            have hf3 : Fr [b] w w3 := hf2.trans hfr3 (by simp)
            go_wp2
            go_roundg (gk - 1)
            case measure => omega
            case rel => exact Or.inl ⟨T.k + 1, 6, p', rfl, Or.inr rfl, by omega, hlt, hg', hw3, HP2.out.fr hfr3 (by simp [mb]), HR2.out.fr hfr3 (by simp [mb0]), hf3, HN'⟩
          · have HB : Hid (R = ⟨0, 0, T.k, p'⟩) := by
              unfold Hid
              rw [← HQ.out, pl_done (by omega) (by rw [HTT.out]; exact HTE.out) (by rw [HTT.out]; exact h4) (by rw [HTT.out]; exact h5), HTT.out, HP'.out]
            have H5 : Hid (rk (f T.k).c ≠ 45) := fun q => h5 (rk_45.1 q)
            clear h4 h5
            go_wp2_with fail
            refine (passes_no b g n cap T.k f 45 bad op _ HW2.out HT2.out hk1 (by omega) (by omega) (by omega) H5.out).mono ?_
            rintro e w3 ⟨rfl, hw3, hfr3⟩
            have hf3 : Fr [b] w w3 := hf2.trans hfr3 (by simp)
            have HW3 := hideR hw3
            have HP3 : Hid (Blk w3 (w.heap.size + 1) (pv p') 41) := HP2.out.fr hfr3 (by simp [mb])
            have HR3 : Hid (Blk w3 w.heap.size (pv zeros) 41) := HR2.out.fr hfr3 (by simp [mb0])
            clear hw3
            go_wp2_with (first | (refine wpList_load_row (by rfl) 41 _ (by rfl) (w.heap.size + 1) (by rfl) 41 (pv p') (0, 0) _ HP3.out Tryd.underlying41 (by rfl) (size_rPoly hg') ?_) | (refine wpList_store_mid (by rfl) 41 _ (.tmp 55) (by rfl) w.heap.size 0 (pv p') (by rfl) (by rfl) (Blk.there HR3.out (by rw [pv_size, pv_size, hg'.1]; exact Nat.le_refl _)) (size_rPoly hg') (pv_one _) ?_))
            refine bodyPost_ret (results_cell_row Tryd.results29 _ _ w.heap.size 41 (pv p') (0, 0) _ (by rfl) (Blk.setAll HR3.out _ (by rw [pv_size, pv_size, hg'.1]; rfl)) Tryd.underlying41 rfl (size_rPoly hg')) rfl ?_
            refine Or.inl ⟨?_, ?_, ?_, ?_, ?_, ?_⟩
            · rw [HB.out]
            · rw [HB.out]
            · rw [HB.out]; exact hg'
            · rw [HB.out]; exact Blk.setCellsOther HW3.out _ _ _ (by omega)
            · rw [HB.out]; exact hk1
            · exact Fr.setCells hf3 _ _ _ (by simp)
      · have HB : Hid (R.e ≠ 0 ∧ R.e = (tm f bare N k').e ∧ R.bad = (tm f bare N k').bad) := by
          unfold Hid
          rw [← HQ.out, pl_bad (by omega) hte]; exact ⟨hte, rfl, rfl⟩
        go_wp2_with fail
        refine (wterm_not f N b g n cap (w.heap.size + 1) k' p sg bare bad op _ HWr.out HTr.out HPr.out hgp hk' hn hN hend hv (by omega) hbg (Ne.symm mb) mg hte).mono ?_
        rintro e w1 ⟨rfl, ⟨k1, hk1, hw1⟩, hp1, hfr1⟩
        obtain ⟨g1, g2, g3⟩ := HB.out
        rw [← g2, ← g3] at hw1
        have hr1 : Blk w1 w.heap.size (pv zeros) 41 := HRr.out.fr hfr1 (by simp; omega)
        have hf1 : Fr [b] w w1 := hfw.trans hfr1 (by simp)
        obtain ⟨e0, e1, e2, e3, e4⟩ := hw1.cells
        have qe : ((R.e : Int) != 0) = true := by rw [bne_iff_ne]; omega
        have HW1 := hideR hw1
        have HP1 := hideR hp1
        have HR1 := hideR hr1
        have HG1 := hideR g1
        clear hw1 hp1 hr1 c0 c1 c2 c3 c4 g1 g2 g3 hte
        go_wp2_with (first | (refine wpList_load_row (by rfl) 41 _ (by rfl) (w.heap.size + 1) (by rfl) 41 (pv p) (0, 0) _ HP1.out Tryd.underlying41 (by rfl) (size_rPoly hgp) ?_) | (refine wpList_store_mid (by rfl) 41 _ (.tmp 55) (by rfl) w.heap.size 0 (pv p) (by rfl) (by rfl) (Blk.there HR1.out (by rw [pv_size, pv_size, hgp.1]; exact Nat.le_refl _)) (size_rPoly hgp) (pv_one _) ?_))
        refine bodyPost_ret (results_cell_row Tryd.results29 _ _ w.heap.size 41 (pv p) (0, 0) _ (by rfl) (Blk.setAll HR1.out _ (by rw [pv_size, pv_size, hgp.1]; rfl)) Tryd.underlying41 rfl (size_rPoly hgp)) rfl ?_
        exact Or.inr ⟨HG1.out, ⟨p, hgp, rfl⟩, ⟨k1, hk1, Blk.setCellsOther HW1.out _ _ _ (by omega)⟩, Fr.setCells hf1 _ _ _ (by simp)⟩
    · obtain ⟨c0, c1, c2, c3, c4⟩ := hw.cells
      have qe : ((R.e : Int) == 0) = false := by rw [beq_eq_false_iff_ne]; omega
      have HW1 := hideR hw
      have HP1 := hideR hp
      have HR1 := hideR hr
      have HG1 := hideR hne
      clear hw hp hr hne
      go_wp2_with (first | (refine wpList_load_row (by rfl) 41 _ (by rfl) (w.heap.size + 1) (by rfl) 41 (pv q) (0, 0) _ HP1.out Tryd.underlying41 (by rfl) (size_rPoly hgq) ?_) | (refine wpList_store_mid (by rfl) 41 _ (.tmp 55) (by rfl) w.heap.size 0 (pv q) (by rfl) (by rfl) (Blk.there HR1.out (by rw [pv_size, pv_size, hgq.1]; exact Nat.le_refl _)) (size_rPoly hgq) (pv_one _) ?_))
      refine bodyPost_ret (results_cell_row Tryd.results29 _ _ w.heap.size 41 (pv q) (0, 0) _ (by rfl) (Blk.setAll HR1.out _ (by rw [pv_size, pv_size, hgq.1]; rfl)) Tryd.underlying41 rfl (size_rPoly hgq)) rfl ?_
      exact Or.inr ⟨HG1.out, ⟨q, hgq, rfl⟩, ⟨k', hk', Blk.setCellsOther HW1.out _ _ _ (by omega)⟩, Fr.setCells hfw _ _ _ (by simp)⟩

theorem wpoly_any (f : Nat → Tok) (N b g n cap k : Nat) (bare : Bool) (bad op : Int) (w : World) (h : Wy w b g n cap k 0 bad op) (ht : Tk w g n f)
    (hk : k < n) (hn : n ≤ N + 1) (hN : N ≤ 1000) (hend : ∀ j, j < n → (f j).c ≠ 0 → j + 1 < n) (hv : ∀ j, (f j).v ≤ 99) (hbg : b ≠ g) :
    Calls Tryd.prog 29 #[.pointer (some ⟨b, 0, none⟩), .bool bare] w (PolyEnd b g n cap (poly f bare N k) bad op w) := by
  unfold poly
  by_cases hc : (f k).c = 49
  · rw [if_pos hc]; exact wpoly_minus f N b g n cap k bare bad op w h ht hk hn hN hend hv hbg hc
  · rw [if_neg hc]; exact wpoly_plain f N b g n cap k bare bad op w h ht hk hn hN hend hv hbg hc
theorem wpoly_ok (f : Nat → Tok) (N b g n cap k : Nat) (bare : Bool) (bad op : Int) (w : World) (h : Wy w b g n cap k 0 bad op) (ht : Tk w g n f)
    (hk : k < n) (hn : n ≤ N + 1) (hN : N ≤ 1000) (hend : ∀ j, j < n → (f j).c ≠ 0 → j + 1 < n) (hv : ∀ j, (f j).v ≤ 99) (hbg : b ≠ g) (he : (poly f bare N k).e = 0) :
    Calls Tryd.prog 29 #[.pointer (some ⟨b, 0, none⟩), .bool bare] w fun e w' => e = .returned (.agg (pv (poly f bare N k).p)) ∧ Good (poly f bare N k).p ∧ Wy w' b g n cap (poly f bare N k).k 0 bad op ∧ (poly f bare N k).k < n ∧ Fr [b] w w' :=
  (wpoly_any f N b g n cap k bare bad op w h ht hk hn hN hend hv hbg).mono (by rintro e w1 (q | q); exact q.2; exact absurd he q.1)
theorem wpoly_not (f : Nat → Tok) (N b g n cap k : Nat) (bare : Bool) (bad op : Int) (w : World) (h : Wy w b g n cap k 0 bad op) (ht : Tk w g n f)
    (hk : k < n) (hn : n ≤ N + 1) (hN : N ≤ 1000) (hend : ∀ j, j < n → (f j).c ≠ 0 → j + 1 < n) (hv : ∀ j, (f j).v ≤ 99) (hbg : b ≠ g) (he : (poly f bare N k).e ≠ 0) :
    Calls Tryd.prog 29 #[.pointer (some ⟨b, 0, none⟩), .bool bare] w fun e w' => (∃ q, Good q ∧ e = .returned (.agg (pv q))) ∧ (∃ k', k' < n ∧ Wy w' b g n cap k' (poly f bare N k).e (poly f bare N k).bad op) ∧ Fr [b] w w' :=
  (wpoly_any f N b g n cap k bare bad op w h ht hk hn hN hend hv hbg).mono (by rintro e w1 (q | q); exact absurd q.1 he; exact q.2)
end Go.Proofs.YthlmgpllapccfaaDoor
/- THE DOCUMENT's ANSWER: read. -/
namespace Go.Proofs.YthlmgpllapccfaaDoor
open Go.RowKit

theorem run_st0 (w : World) (b n : Nat) (cells : Array Value) (l : List Value) (hl : cells.toList = l) (hn : cells.size = n) (h : w.there b 0 n) (hi : (Tryd.prog.info? 41).map (·.size) = some n) (h1 : cells.all (·.oneCell') = true) :
    (Instr.storeAt 41 (.pointer (some ⟨b, 0, none⟩)) (.agg cells)).run Tryd.prog w = .ok () (w.setCells b 0 l) := by
  subst hl hn
  exact run_storeAt_mid w b 0 41 cells h hi h1
/-- The store of a whole polynomial, under a name that the walk does not open. -/
def stPoly (x y : Value) : Sem Unit := Instr.storeAt 41 x y
theorem stPoly_eq (x y : Value) : Instr.storeAt 41 x y = stPoly x y := rfl
set_option maxRecDepth 100000 in
theorem run_st (w : World) (b : Nat) (z : Array Value) (hz : z = pv zeros) (h : w.there b 0 35) : (stPoly (.pointer (some ⟨b, 0, none⟩)) (.agg #[.int .i64 0, .int .i64 0, .int .i64 0, .int .i64 0, .int .i64 0, .int .i64 0, .int .i64 0, .int .i64 0, .int .i64 0, .int .i64 0, .int .i64 0, .int .i64 0, .int .i64 0, .int .i64 0, .int .i64 0, .int .i64 0, .int .i64 0, .int .i64 0, .int .i64 0, .int .i64 0, .int .i64 0, .int .i64 0, .int .i64 0, .int .i64 0, .int .i64 0, .int .i64 0, .int .i64 0, .int .i64 0, .int .i64 0, .int .i64 0, .int .i64 0, .int .i64 0, .int .i64 0, .int .i64 0, .int .i64 0])).run Tryd.prog w = .ok () (w.setCells b 0 z.toList) := by
  rw [hz]
  exact run_st0 w b 35 _ _ lit_zeros (by kernel_rfl) h (by kernel_rfl) (by kernel_rfl)
attribute [local go_sem ↓] stPoly_eq

theorem results_read (tmps : Array Value) (w : World) (g1 : Nat) (p : List Nat) (h1 : tmps.getD 2 undef = .pointer (some ⟨g1, 0, none⟩)) (hp : Good p) (b1 : Blk w g1 (pv p) 41) :
    (results Tryd.f17 tmps).run Tryd.prog w = .ok (.tuple #[.agg (pv p), tmps.getD 3 undef, tmps.getD 4 undef]) w := by
  have l1 := run_loadVar_row (P := Tryd.prog) w g1 41 41 (pv p) (0, 0) _ b1 Tryd.underlying41 rfl (size_rPoly hp)
  have h1' : tmps[2]?.getD undef = .pointer (some ⟨g1, 0, none⟩) := by simpa using h1
  simp [results, Tryd.results17, h1', asAddr, l1]

set_option maxRecDepth 100000 in
set_option maxHeartbeats 2000000 in
theorem read_long (s : ByteArray) (w : World) (hl : 90 < s.size) (hm : s.size ≤ 140737488351232) :
    Calls Tryd.prog 17 #[.string s] w fun e w' => e = .returned (.tuple #[.agg (pv zeros), .int .i64 2, .int .i64 0]) ∧ Below w.heap.size w w' := by
  have h' : ((s.size : Nat) : Int) > 90 := by omega
  obtain ⟨z, HZ⟩ : ∃ z, Hid (z = pv zeros) := ⟨_, rfl⟩
  have hzs : z.size = 35 := by rw [HZ.out]; rfl
  have hsz : (Tryd.prog.info? 41).map (·.size) = some z.size := by rw [HZ.out]; exact size_rPoly zeros_good
  have hon : z.all (·.oneCell') = true := by rw [HZ.out]; exact pv_one _
  go_enter Tryd.func17, Tryd.ntmps17
  go_upto_region 2 with fail
  refine wp_forget (fun W => Blk W w.heap.size (pv zeros) 41 ∧ Below w.heap.size w W) ⟨Blk.new w _ _, by go_grown⟩ ?_
  rintro W ⟨b1, hb⟩
  have HTH := hideR (Blk.there b1 (show z.size ≤ (pv zeros).size by rw [hzs]; decide))
  have B1 := hideR b1
  clear b1
  go_wp2_with (refine wpList_store_mid (by rfl) 41 _ (.tmp 10) (by rfl) w.heap.size 0 z (by rfl) (by rw [HZ.out]; rfl) HTH.out hsz hon ?_)
  have b2 : Blk (W.setCells w.heap.size 0 z.toList) w.heap.size (pv zeros) 41 := by rw [← HZ.out]; exact Blk.setAll B1.out _ (by rw [hzs]; rfl)
  refine bodyPost_ret (results_read _ _ w.heap.size zeros (by rfl) zeros_good b2) rfl ⟨rfl, ?_⟩
  exact Below.setCells hb _ _ _ (Nat.le_refl _)

set_option maxRecDepth 100000 in
set_option maxHeartbeats 4000000 in
theorem read_short (s : ByteArray) (w : World) (hl : ¬ 90 < s.size) :
    Calls Tryd.prog 17 #[.string s] w fun e w' => e = .returned (.tuple #[.agg (pv (rd s).p), .int .i64 (rd s).e, .int .i64 (rd s).bad]) ∧ Good (rd s).p ∧ Below w.heap.size w w' := by
  generalize hrr : rd s = RR
  have HRR := hideR hrr
  clear hrr
  obtain ⟨z, HZ⟩ : ∃ z, Hid (z = pv zeros) := ⟨_, rfl⟩
  have hzs : z.size = 35 := by rw [HZ.out]; rfl
  have hsz : (Tryd.prog.info? 41).map (·.size) = some z.size := by rw [HZ.out]; exact size_rPoly zeros_good
  have hon : z.all (·.oneCell') = true := by rw [HZ.out]; exact pv_one _
  have hl' : ¬ (90 : Int) < ((s.size : Nat) : Int) := by omega
  go_enter Tryd.func17, Tryd.ntmps17
  go_upto_region 3 with fail
  refine wp_forget (fun W => Blk W w.heap.size (pv zeros) 41 ∧ Below w.heap.size w W) ⟨Blk.new w _ _, by go_grown⟩ ?_
  rintro W ⟨b1, hbW⟩
  have hwl := Blk.lt b1
  have B1 := hideR b1
  have BW := hideR hbW
  clear b1 hbW
  go_wp2_with fail
  refine (cut_plain s _ (by omega)).mono ?_
  rintro e w1 ⟨n, g, cap, rfl, hn, hc1, hc2, hown, hgb, hbel⟩
  have HT1 := hideR (Tk.of_owns hown)
  have hg1 : g < w1.heap.size := HT1.out.1
  have BR1 : Hid (Blk w1 w.heap.size (pv zeros) 41) := B1.out.fr (Fr.of_below (bs := []) hbel) (by simp)
  have F1 : Hid (Fr [] W w1) := Fr.of_below hbel
  have hwl1 := Blk.lt BR1.out
  have hend : ∀ j, j < n + 1 → (tk s 0 j).c ≠ 0 → j + 1 < n + 1 := fun j hj hne => by
    by_cases q : j = n
    · subst q; exact absurd hc2 hne
    · omega
  have hv : ∀ j, (tk s 0 j).v ≤ 99 := fun j => (tk_facts (Nat.zero_le _) j).2.2.1
  clear hown hbel hc1 hc2
  have HEND := hideR hend
  have HV := hideR hv
  clear hend hv
  have HW1 : Hid (Wy (w1.alloc (.cells #[.slice (some ⟨g, 0, none⟩) (n + 1) cap, .int .i64 0, .int .i64 0, .int .i64 0, .int .i64 0] 71)) w1.heap.size g (n + 1) cap 0 0 0 0) := Blk.new w1 _ _
  have HT2 : Hid (Tk (w1.alloc (.cells #[.slice (some ⟨g, 0, none⟩) (n + 1) cap, .int .i64 0, .int .i64 0, .int .i64 0, .int .i64 0] 71)) g (n + 1) (tk s 0)) := HT1.out.fr ((Fr.refl [] w1).alloc _) (by simp)
  have BR2 : Hid (Blk (w1.alloc (.cells #[.slice (some ⟨g, 0, none⟩) (n + 1) cap, .int .i64 0, .int .i64 0, .int .i64 0, .int .i64 0] 71)) w.heap.size (pv zeros) 41) := Blk.alloc BR1.out _
  have F2 : Hid (Fr [] W (w1.alloc (.cells #[.slice (some ⟨g, 0, none⟩) (n + 1) cap, .int .i64 0, .int .i64 0, .int .i64 0, .int .i64 0] 71))) := F1.out.alloc _
  have nrb : ¬ w.heap.size = w1.heap.size := by omega
  by_cases he : (poly (tk s 0) false s.size 0).e = 0
  · go_wp2_with fail
    refine (wpoly_ok (tk s 0) s.size w1.heap.size g (n + 1) cap 0 false 0 0 _ HW1.out HT2.out (by omega) (by omega) (by omega) HEND.out HV.out (by omega) he).mono ?_
    rintro e w2 ⟨rfl, hgp, hw2, hkk, hfr2⟩
    have BR3 : Hid (Blk w2 w.heap.size (pv zeros) 41) := BR2.out.fr hfr2 (by simp [nrb])
    have HT3 : Hid (Tk w2 g (n + 1) (tk s 0)) := HT2.out.fr hfr2 (by simp; omega)
    have HW3 := hideR hw2
    have F3 : Hid (Fr [] W w2) := F2.out.trans hfr2 (by have := F1.out.size; simp; omega)
    have hs2 := hfr2.size
    simp at hs2
    clear hw2 hfr2
    generalize hPP : poly (tk s 0) false s.size 0 = PP at *
    have HPP := hideR hPP
    have HE := hideR he
    clear hPP he
    have HTH : Hid ((w2.alloc (.cells #[.int .i64 0, .int .i64 0, .int .i64 0, .int .i64 0, .int .i64 0, .int .i64 0, .int .i64 0, .int .i64 0, .int .i64 0, .int .i64 0, .int .i64 0, .int .i64 0, .int .i64 0, .int .i64 0, .int .i64 0, .int .i64 0, .int .i64 0, .int .i64 0, .int .i64 0, .int .i64 0, .int .i64 0, .int .i64 0, .int .i64 0, .int .i64 0, .int .i64 0, .int .i64 0, .int .i64 0, .int .i64 0, .int .i64 0, .int .i64 0, .int .i64 0, .int .i64 0, .int .i64 0, .int .i64 0, .int .i64 0] 41)).there w2.heap.size 0 (pv PP.p).size) := Blk.there (Blk.new w2 _ _) (by rw [pv_size, hgp.1]; decide)
    go_wp2_with (refine wpList_store_mid (by rfl) 41 _ (.tmp 16) (by rfl) w2.heap.size 0 (pv PP.p) (by rfl) (by rfl) HTH.out (size_rPoly hgp) (pv_one _) ?_)
    have HW5 : Hid (Wy ((w2.alloc (.cells #[.int .i64 0, .int .i64 0, .int .i64 0, .int .i64 0, .int .i64 0, .int .i64 0, .int .i64 0, .int .i64 0, .int .i64 0, .int .i64 0, .int .i64 0, .int .i64 0, .int .i64 0, .int .i64 0, .int .i64 0, .int .i64 0, .int .i64 0, .int .i64 0, .int .i64 0, .int .i64 0, .int .i64 0, .int .i64 0, .int .i64 0, .int .i64 0, .int .i64 0, .int .i64 0, .int .i64 0, .int .i64 0, .int .i64 0, .int .i64 0, .int .i64 0, .int .i64 0, .int .i64 0, .int .i64 0, .int .i64 0] 41)).setCells w2.heap.size 0 (pv PP.p).toList) w1.heap.size g (n + 1) cap PP.k 0 0 0) := Blk.setCellsOther (Blk.alloc HW3.out _) _ _ _ (by omega)
    have FF : Hid (Fr [] w2 ((w2.alloc (.cells #[.int .i64 0, .int .i64 0, .int .i64 0, .int .i64 0, .int .i64 0, .int .i64 0, .int .i64 0, .int .i64 0, .int .i64 0, .int .i64 0, .int .i64 0, .int .i64 0, .int .i64 0, .int .i64 0, .int .i64 0, .int .i64 0, .int .i64 0, .int .i64 0, .int .i64 0, .int .i64 0, .int .i64 0, .int .i64 0, .int .i64 0, .int .i64 0, .int .i64 0, .int .i64 0, .int .i64 0, .int .i64 0, .int .i64 0, .int .i64 0, .int .i64 0, .int .i64 0, .int .i64 0, .int .i64 0, .int .i64 0] 41)).setCells w2.heap.size 0 (pv PP.p).toList)) := ((Fr.refl [] w2).alloc _).setCells _ _ _ (by simp)
    have HT5 : Hid (Tk ((w2.alloc (.cells #[.int .i64 0, .int .i64 0, .int .i64 0, .int .i64 0, .int .i64 0, .int .i64 0, .int .i64 0, .int .i64 0, .int .i64 0, .int .i64 0, .int .i64 0, .int .i64 0, .int .i64 0, .int .i64 0, .int .i64 0, .int .i64 0, .int .i64 0, .int .i64 0, .int .i64 0, .int .i64 0, .int .i64 0, .int .i64 0, .int .i64 0, .int .i64 0, .int .i64 0, .int .i64 0, .int .i64 0, .int .i64 0, .int .i64 0, .int .i64 0, .int .i64 0, .int .i64 0, .int .i64 0, .int .i64 0, .int .i64 0] 41)).setCells w2.heap.size 0 (pv PP.p).toList) g (n + 1) (tk s 0)) := HT3.out.fr FF.out (by simp)
    have BR5 : Hid (Blk ((w2.alloc (.cells #[.int .i64 0, .int .i64 0, .int .i64 0, .int .i64 0, .int .i64 0, .int .i64 0, .int .i64 0, .int .i64 0, .int .i64 0, .int .i64 0, .int .i64 0, .int .i64 0, .int .i64 0, .int .i64 0, .int .i64 0, .int .i64 0, .int .i64 0, .int .i64 0, .int .i64 0, .int .i64 0, .int .i64 0, .int .i64 0, .int .i64 0, .int .i64 0, .int .i64 0, .int .i64 0, .int .i64 0, .int .i64 0, .int .i64 0, .int .i64 0, .int .i64 0, .int .i64 0, .int .i64 0, .int .i64 0, .int .i64 0] 41)).setCells w2.heap.size 0 (pv PP.p).toList) w.heap.size (pv zeros) 41) := BR3.out.fr FF.out (by simp)
    have BS5 : Hid (Blk ((w2.alloc (.cells #[.int .i64 0, .int .i64 0, .int .i64 0, .int .i64 0, .int .i64 0, .int .i64 0, .int .i64 0, .int .i64 0, .int .i64 0, .int .i64 0, .int .i64 0, .int .i64 0, .int .i64 0, .int .i64 0, .int .i64 0, .int .i64 0, .int .i64 0, .int .i64 0, .int .i64 0, .int .i64 0, .int .i64 0, .int .i64 0, .int .i64 0, .int .i64 0, .int .i64 0, .int .i64 0, .int .i64 0, .int .i64 0, .int .i64 0, .int .i64 0, .int .i64 0, .int .i64 0, .int .i64 0, .int .i64 0, .int .i64 0] 41)).setCells w2.heap.size 0 (pv PP.p).toList) w2.heap.size (pv PP.p) 41) := Blk.setAll (Blk.new w2 _ _) _ (by rw [pv_size, hgp.1]; rfl)
    have F5 : Hid (Fr [] W ((w2.alloc (.cells #[.int .i64 0, .int .i64 0, .int .i64 0, .int .i64 0, .int .i64 0, .int .i64 0, .int .i64 0, .int .i64 0, .int .i64 0, .int .i64 0, .int .i64 0, .int .i64 0, .int .i64 0, .int .i64 0, .int .i64 0, .int .i64 0, .int .i64 0, .int .i64 0, .int .i64 0, .int .i64 0, .int .i64 0, .int .i64 0, .int .i64 0, .int .i64 0, .int .i64 0, .int .i64 0, .int .i64 0, .int .i64 0, .int .i64 0, .int .i64 0, .int .i64 0, .int .i64 0, .int .i64 0, .int .i64 0, .int .i64 0] 41)).setCells w2.heap.size 0 (pv PP.p).toList)) := F3.out.trans FF.out (by simp)
    by_cases hc : (tk s 0 PP.k).c = 0
    · have HFIN : Hid (RR = ⟨0, 0, PP.p⟩) := by
        unfold Hid; rw [← HRR.out]; unfold rd; rw [if_neg hl, HPP.out, if_pos HE.out, if_pos hc]
      refine (wend_ok w1.heap.size g (n + 1) cap PP.k (tk s 0) 0 0 0 _ HW5.out HT5.out hkk (by omega) (rk_end.2 hc)).mono ?_
      rintro e w4 ⟨rfl, hw4, hfr4⟩
      have BR4 : Hid (Blk w4 w.heap.size (pv zeros) 41) := BR5.out.fr hfr4 (by simp [nrb])
      have BS4 : Hid (Blk w4 w2.heap.size (pv PP.p) 41) := BS5.out.fr hfr4 (by simp; omega)
      have F4 : Hid (Fr [] W w4) := F5.out.trans hfr4 (by have := F1.out.size; simp; omega)
      obtain ⟨e0, e1, e2, e3, e4⟩ := hw4.cells
      clear hw4 hfr4 HW5 HT5 BR5 BS5 F5 FF HTH
      go_wp2_with (first | (refine wpList_load_row (by rfl) 41 _ (by rfl) w2.heap.size (by rfl) 41 (pv PP.p) (0, 0) _ BS4.out Tryd.underlying41 (by rfl) (size_rPoly hgp) ?_) | (refine wpList_store_mid (by rfl) 41 _ (.tmp 33) (by rfl) w.heap.size 0 (pv PP.p) (by rfl) (by rfl) (Blk.there BR4.out (by rw [pv_size, pv_size, hgp.1]; exact Nat.le_refl _)) (size_rPoly hgp) (pv_one _) ?_))
      refine bodyPost_ret (results_read _ _ w.heap.size PP.p (by rfl) hgp (Blk.setAll BR4.out _ (by rw [pv_size, pv_size, hgp.1]; rfl))) rfl ⟨?_, ?_, ?_⟩
      · rw [HFIN.out]; rfl
      · rw [HFIN.out]; exact hgp
      · exact Below.setCells (BW.out.trans (F4.out.below (by omega) (by simp))) _ _ _ (Nat.le_refl _)
    · have HFIN : Hid (RR = ⟨4, (tk s 0 PP.k).at', zeros⟩) := by
        unfold Hid; rw [← HRR.out]; unfold rd; rw [if_neg hl, HPP.out, if_pos HE.out, if_neg hc]
      refine (wend_first w1.heap.size g (n + 1) cap PP.k (tk s 0) 0 0 _ HW5.out HT5.out hkk (by omega) (fun q => hc (rk_end.1 q))).mono ?_
      rintro e w4 ⟨rfl, hw4, hfr4⟩
      have BR4 : Hid (Blk w4 w.heap.size (pv zeros) 41) := BR5.out.fr hfr4 (by simp [nrb])
      have F4 : Hid (Fr [] W w4) := F5.out.trans hfr4 (by have := F1.out.size; simp; omega)
      clear hfr4 HW5 HT5 BR5 BS5 F5 FF HTH hc
      obtain ⟨e0, e1, e2, e3, e4⟩ := hw4.cells
      have HW4 := hideR hw4
      have HTH4 : Hid (w4.there w.heap.size 0 z.size) := Blk.there BR4.out (by rw [hzs]; decide)
      clear hw4
      go_wp2
      have hst := fun (w' : World) (b : Nat) => run_st w' b z HZ.out
      have hth41 : w4.there w.heap.size 0 35 := Blk.there BR4.out (by decide)
      go_region_held3 (fun w' => w'.cell? ⟨w1.heap.size, 2, none⟩ = some (.int .i64 4) ∧ w'.cell? ⟨w1.heap.size, 3, none⟩ = some (.int .i64 (tk s 0 PP.k).at') ∧ w'.there w.heap.size 0 35) (first | (go_keep; done) | (refine ⟨?_, ?_, ?_⟩ <;> first | (rw [World.cell?_setCells_out _ _ _ _ _ (fun e _ => absurd e (by simp; omega))]; simp [*]; done) | (exact World.there_setCells (by simp [*]) _ _ _))) (fail)
      go_wp2
      have b9 : Blk (w4.drew.setCells w.heap.size 0 z.toList) w.heap.size (pv zeros) 41 := by rw [← HZ.out]; exact Blk.setAll (by exact BR4.out) _ (by rw [hzs]; rfl)
      refine bodyPost_ret (results_read _ _ w.heap.size zeros (by rfl) zeros_good b9) rfl ⟨?_, ?_, ?_⟩
      · rw [HFIN.out]; rfl
      · rw [HFIN.out]; exact zeros_good
      · exact Below.setCells ((BW.out.trans (F4.out.below (by omega) (by simp))).drew) _ _ _ (Nat.le_refl _)
  · go_wp2_with fail
    refine (wpoly_not (tk s 0) s.size w1.heap.size g (n + 1) cap 0 false 0 0 _ HW1.out HT2.out (by omega) (by omega) (by omega) HEND.out HV.out (by omega) he).mono ?_
    rintro e w2 ⟨⟨q, hgp, rfl⟩, ⟨kk, hkk, hw2⟩, hfr2⟩
    have BR3 : Hid (Blk w2 w.heap.size (pv zeros) 41) := BR2.out.fr hfr2 (by simp [nrb])
    have HT3 : Hid (Tk w2 g (n + 1) (tk s 0)) := HT2.out.fr hfr2 (by simp; omega)
    have HW3 := hideR hw2
    have F3 : Hid (Fr [] W w2) := F2.out.trans hfr2 (by have := F1.out.size; simp; omega)
    have hs2 := hfr2.size
    simp at hs2
    clear hw2 hfr2
    have HFIN : Hid (RR = ⟨(poly (tk s 0) false s.size 0).e, (poly (tk s 0) false s.size 0).bad, zeros⟩) := by
      unfold Hid; rw [← HRR.out]; unfold rd; rw [if_neg hl, if_neg he]
    have HEE : Hid (((poly (tk s 0) false s.size 0).e : Int) ≠ 0) := by unfold Hid; omega
    have qe : (((poly (tk s 0) false s.size 0).e : Int) != 0) = true := by rw [bne_iff_ne]; exact HEE.out
    clear he
    generalize poly (tk s 0) false s.size 0 = PP at *
    have HTH : Hid ((w2.alloc (.cells #[.int .i64 0, .int .i64 0, .int .i64 0, .int .i64 0, .int .i64 0, .int .i64 0, .int .i64 0, .int .i64 0, .int .i64 0, .int .i64 0, .int .i64 0, .int .i64 0, .int .i64 0, .int .i64 0, .int .i64 0, .int .i64 0, .int .i64 0, .int .i64 0, .int .i64 0, .int .i64 0, .int .i64 0, .int .i64 0, .int .i64 0, .int .i64 0, .int .i64 0, .int .i64 0, .int .i64 0, .int .i64 0, .int .i64 0, .int .i64 0, .int .i64 0, .int .i64 0, .int .i64 0, .int .i64 0, .int .i64 0] 41)).there w2.heap.size 0 (pv q).size) := Blk.there (Blk.new w2 _ _) (by rw [pv_size, hgp.1]; decide)
    go_wp2_with (refine wpList_store_mid (by rfl) 41 _ (.tmp 16) (by rfl) w2.heap.size 0 (pv q) (by rfl) (by rfl) HTH.out (size_rPoly hgp) (pv_one _) ?_)
    have HW5 : Hid (Wy ((w2.alloc (.cells #[.int .i64 0, .int .i64 0, .int .i64 0, .int .i64 0, .int .i64 0, .int .i64 0, .int .i64 0, .int .i64 0, .int .i64 0, .int .i64 0, .int .i64 0, .int .i64 0, .int .i64 0, .int .i64 0, .int .i64 0, .int .i64 0, .int .i64 0, .int .i64 0, .int .i64 0, .int .i64 0, .int .i64 0, .int .i64 0, .int .i64 0, .int .i64 0, .int .i64 0, .int .i64 0, .int .i64 0, .int .i64 0, .int .i64 0, .int .i64 0, .int .i64 0, .int .i64 0, .int .i64 0, .int .i64 0, .int .i64 0] 41)).setCells w2.heap.size 0 (pv q).toList) w1.heap.size g (n + 1) cap kk PP.e PP.bad 0) := Blk.setCellsOther (Blk.alloc HW3.out _) _ _ _ (by omega)
    have FF : Hid (Fr [] w2 ((w2.alloc (.cells #[.int .i64 0, .int .i64 0, .int .i64 0, .int .i64 0, .int .i64 0, .int .i64 0, .int .i64 0, .int .i64 0, .int .i64 0, .int .i64 0, .int .i64 0, .int .i64 0, .int .i64 0, .int .i64 0, .int .i64 0, .int .i64 0, .int .i64 0, .int .i64 0, .int .i64 0, .int .i64 0, .int .i64 0, .int .i64 0, .int .i64 0, .int .i64 0, .int .i64 0, .int .i64 0, .int .i64 0, .int .i64 0, .int .i64 0, .int .i64 0, .int .i64 0, .int .i64 0, .int .i64 0, .int .i64 0, .int .i64 0] 41)).setCells w2.heap.size 0 (pv q).toList)) := ((Fr.refl [] w2).alloc _).setCells _ _ _ (by simp)
    have HT5 : Hid (Tk ((w2.alloc (.cells #[.int .i64 0, .int .i64 0, .int .i64 0, .int .i64 0, .int .i64 0, .int .i64 0, .int .i64 0, .int .i64 0, .int .i64 0, .int .i64 0, .int .i64 0, .int .i64 0, .int .i64 0, .int .i64 0, .int .i64 0, .int .i64 0, .int .i64 0, .int .i64 0, .int .i64 0, .int .i64 0, .int .i64 0, .int .i64 0, .int .i64 0, .int .i64 0, .int .i64 0, .int .i64 0, .int .i64 0, .int .i64 0, .int .i64 0, .int .i64 0, .int .i64 0, .int .i64 0, .int .i64 0, .int .i64 0, .int .i64 0] 41)).setCells w2.heap.size 0 (pv q).toList) g (n + 1) (tk s 0)) := HT3.out.fr FF.out (by simp)
    have BR5 : Hid (Blk ((w2.alloc (.cells #[.int .i64 0, .int .i64 0, .int .i64 0, .int .i64 0, .int .i64 0, .int .i64 0, .int .i64 0, .int .i64 0, .int .i64 0, .int .i64 0, .int .i64 0, .int .i64 0, .int .i64 0, .int .i64 0, .int .i64 0, .int .i64 0, .int .i64 0, .int .i64 0, .int .i64 0, .int .i64 0, .int .i64 0, .int .i64 0, .int .i64 0, .int .i64 0, .int .i64 0, .int .i64 0, .int .i64 0, .int .i64 0, .int .i64 0, .int .i64 0, .int .i64 0, .int .i64 0, .int .i64 0, .int .i64 0, .int .i64 0] 41)).setCells w2.heap.size 0 (pv q).toList) w.heap.size (pv zeros) 41) := BR3.out.fr FF.out (by simp)
    have F5 : Hid (Fr [] W ((w2.alloc (.cells #[.int .i64 0, .int .i64 0, .int .i64 0, .int .i64 0, .int .i64 0, .int .i64 0, .int .i64 0, .int .i64 0, .int .i64 0, .int .i64 0, .int .i64 0, .int .i64 0, .int .i64 0, .int .i64 0, .int .i64 0, .int .i64 0, .int .i64 0, .int .i64 0, .int .i64 0, .int .i64 0, .int .i64 0, .int .i64 0, .int .i64 0, .int .i64 0, .int .i64 0, .int .i64 0, .int .i64 0, .int .i64 0, .int .i64 0, .int .i64 0, .int .i64 0, .int .i64 0, .int .i64 0, .int .i64 0, .int .i64 0] 41)).setCells w2.heap.size 0 (pv q).toList)) := F3.out.trans FF.out (by simp)
    refine (wend_later w1.heap.size g (n + 1) cap kk (tk s 0) PP.e PP.bad 0 _ HW5.out HT5.out hkk (by omega) HEE.out).mono ?_
    rintro e w4 ⟨rfl, hw4, hfr4⟩
    have BR4 : Hid (Blk w4 w.heap.size (pv zeros) 41) := BR5.out.fr hfr4 (by simp [nrb])
    have F4 : Hid (Fr [] W w4) := F5.out.trans hfr4 (by have := F1.out.size; simp; omega)
    clear hfr4 HW5 HT5 BR5 F5 FF HTH
    obtain ⟨e0, e1, e2, e3, e4⟩ := hw4.cells
    have HW4 := hideR hw4
    have HTH4 : Hid (w4.there w.heap.size 0 z.size) := Blk.there BR4.out (by rw [hzs]; decide)
    clear hw4
    go_wp2
    have hst := fun (w' : World) (b : Nat) => run_st w' b z HZ.out
    have hth41 : w4.there w.heap.size 0 35 := Blk.there BR4.out (by decide)
    go_region_held3 (fun w' => w'.cell? ⟨w1.heap.size, 2, none⟩ = some (.int .i64 PP.e) ∧ w'.cell? ⟨w1.heap.size, 3, none⟩ = some (.int .i64 PP.bad) ∧ w'.there w.heap.size 0 35) (first | (go_keep; done) | (refine ⟨?_, ?_, ?_⟩ <;> first | (rw [World.cell?_setCells_out _ _ _ _ _ (fun e _ => absurd e (by simp; omega))]; simp [*]; done) | (exact World.there_setCells (by simp [*]) _ _ _))) (fail)
    go_wp2
    have b9 : Blk (w4.drew.setCells w.heap.size 0 z.toList) w.heap.size (pv zeros) 41 := by rw [← HZ.out]; exact Blk.setAll (by exact BR4.out) _ (by rw [hzs]; rfl)
    refine bodyPost_ret (results_read _ _ w.heap.size zeros (by rfl) zeros_good b9) rfl ⟨?_, ?_, ?_⟩
    · rw [HFIN.out]; rfl
    · rw [HFIN.out]; exact zeros_good
    · exact Below.setCells ((BW.out.trans (F4.out.below (by omega) (by simp))).drew) _ _ _ (Nat.le_refl _)

/-- The document's answer reads a text as 'rd' does. -/
theorem read_any (s : ByteArray) (w : World) (hm : s.size ≤ 140737488351232) :
    Calls Tryd.prog 17 #[.string s] w fun e w' => e = .returned (.tuple #[.agg (pv (rd s).p), .int .i64 (rd s).e, .int .i64 (rd s).bad]) ∧ Good (rd s).p ∧ Below w.heap.size w w' := by
  by_cases hl : 90 < s.size
  · refine (read_long s w hl hm).mono ?_
    rintro e w' ⟨rfl, h⟩
    have : rd s = ⟨2, 0, zeros⟩ := by unfold rd; rw [if_pos hl]
    rw [this]
    exact ⟨rfl, zeros_good, h⟩
  · exact read_short s w hl
end Go.Proofs.YthlmgpllapccfaaDoor
