import Derived.Test.YtaajdcaciofmaaaDoorPack2
import Derived.Deep.LoopGhost
/- THE DOCUMENT's ANSWER: term, with a number. -/
namespace Go.Proofs.YtaajdcaciofmaaaDoor
open Go.RowKit

set_option maxRecDepth 100000 in
set_option maxHeartbeats 8000000 in
theorem wterm_number (f : Nat → Tok) (N b g n cap c k : Nat) (p : List Nat) (sg : Nat) (bare : Bool) (bad op : Int) (w : World) (h : Wy w b g n cap k 0 bad op) (ht : Tk w g n f) (hp : Blk w c (pv p) 41) (hgp : Good p)
    (hk : k < n) (hn : n ≤ N + 1) (hN : N ≤ 1000) (hend : ∀ j, j < n → (f j).c ≠ 0 → j + 1 < n) (hv : ∀ j, (f j).v ≤ 99) (hsg : sg ≤ 6) (hbg : b ≠ g) (hbc : b ≠ c) (hgc : g ≠ c) (hc : (f k).c = 1) :
    Calls Tryd.prog 58 #[.pointer (some ⟨b, 0, none⟩), .pointer (some ⟨c, 0, none⟩), .int .i64 sg, .bool bare] w fun e w' => e = .returned (.tuple #[]) ∧ TermEnd b g n cap c p (pw f bare (N - (k + 1)) (k + 1) 0 0) (sg * (f k).v) bad op w w' := by
  have hb : b < w.heap.size := Blk.lt h
  have hcl : c < w.heap.size := Blk.lt hp
  have hg := ht.1
  have HW := hideR h
  have HT := hideR ht
  have HPP := hideR hp
  have hrk := rk_one hc
  have hlt0 : k + 1 < n := hend k hk (by omega)
  have hvv := hv k
  have hm1 : (sg : Int) * ((f k).v : Int) ≤ 594 := by
    have h := Nat.mul_le_mul hsg hvv
    have : ((sg * (f k).v : Nat) : Int) ≤ ((6 * 99 : Nat) : Int) := by exact_mod_cast h
    rw [Int.natCast_mul] at this; omega
  have hm0 : 0 ≤ (sg : Int) * ((f k).v : Int) := by
    have : (0 : Int) ≤ ((sg * (f k).v : Nat) : Int) := by omega
    rw [Int.natCast_mul] at this; omega
  generalize hR : pw f bare (N - (k + 1)) (k + 1) 0 0 = R
  have HP : Hid (pw f bare (N - (k + 1)) (k + 1) 0 0 = R) := hR
  have HA : Hid ((sg : Int) * ((f k).v : Int) = ((sg * (f k).v : Nat) : Int)) := by unfold Hid; simp
  clear h ht hp hR hc
  go_enter Tryd.func58, Tryd.ntmps58
  go_wp2_with fail
  refine (next_any b g n cap k f 0 bad op _ HW.out HT.out hk (by omega)).mono ?_
  rintro e w1 ⟨rfl, hb1⟩
  rw [hrk]
  clear hrk
  have hz1 := hb1.size
  have hf1 : Fr [b, c] w w1 := Fr.of_below hb1
  have hw1 : Wy w1 b g n cap k 0 bad op := Blk.fr HW.out (Fr.of_below (bs := []) hb1) (by simp)
  have hp1 : Blk w1 c (pv p) 41 := HPP.out.fr (Fr.of_below (bs := []) hb1) (by simp)
  have nbd : ¬ b = w1.heap.size := by omega
  have ncd : ¬ c = w1.heap.size := by omega
  have ndb : ¬ w1.heap.size = b := by omega
  have HF1 := hideR hf1
  have HW1 := hideR hw1
  have HP1 := hideR hp1
  clear hf1 hw1 hp1 hb1
  obtain ⟨a0, a1, a2, a3, a4⟩ := Wy.cells HW1.out
  obtain ⟨g0, g1, g2, g3, g4⟩ := Wy.free HW1.out
  have hb1 : b < w1.heap.size := by omega
  have x1 : (w1.alloc (.cells #[.int .i64 1, .int .i64 (f k).at', .int .i64 (f k).v, .string (rs (f k).c)] 103)).cell? ⟨b, 1, none⟩ = some (.int .i64 k) := (Blk.alloc HW1.out _).cell 1
  have x2 : (w1.alloc (.cells #[.int .i64 1, .int .i64 (f k).at', .int .i64 (f k).v, .string (rs (f k).c)] 103)).frozen? ⟨b, 1, none⟩ = false := (Blk.alloc HW1.out _).frozen 1
  go_wp2
  clear a0 a1 a2 a3 a4 g0 g1 g2 g3 g4 x1 x2
  go_loopg [9, 10] (N - (k + 1)) (fun m v9 v10 wr => ∃ (k' u x : Nat) (y0 y1 y2 : Int) (y3 : ByteArray), m = N - k' ∧ v9 = .int .i64 u ∧ v10 = .int .i64 x ∧ u ≤ 6 ∧ x ≤ 4 ∧ k' < n ∧ Wy wr b g n cap k' 0 bad op ∧ Blk wr c (pv p) 41 ∧ Blk wr w1.heap.size #[.int .i64 y0, .int .i64 y1, .int .i64 y2, .string y3] 103 ∧ Fr [b, c] w wr ∧ Hid (pw f bare (N - k') k' u x = R))
  case atStart =>
    refine ⟨k + 1, 0, 0, _, _, _, _, rfl, rfl, rfl, by omega, by omega, hlt0, ?_, Blk.alloc (HP1.out.setOther _ _ (Ne.symm hbc)) _, Blk.newAt _ _ _ (by simp), (HF1.out.setCell _ _ (by simp)).alloc _, HP⟩
    have e : (((k + 1 : Nat) : Int)) = (k : Int) + 1 := by omega
    unfold Wy; rw [e]
    exact Blk.alloc (Blk.set HW1.out 1 _) _
  case round =>
    obtain ⟨k', u, x, y0, y1, y2, y3, hm, rfl, rfl, hu, hx, hk', hw, hpb, ht8, hfw, HQ⟩ := hrel
    have hT : Tk wr g n f := HT.out.fr hfw (by simp; omega)
    obtain ⟨c0, c1, c2, c3, c4⟩ := hw.cells
    obtain ⟨f0, f1, f2, f3, f4⟩ := hw.free
    obtain ⟨t0, t1, t2, t3⟩ := ht8.cells4
    obtain ⟨z0, z1, z2, z3⟩ := ht8.free4
    obtain ⟨d0, d1, d2, d3⟩ := hT.cells hk'
    have hvk := hv k'
    have i0 : (0 : Int) ≤ (k' : Int) := by omega
    have i1 : (k' : Int) < (n : Int) := by omega
    have HWr := hideR hw
    have HPr := hideR hpb
    have HDr := hideR ht8
    clear hw hpb ht8 hT
    by_cases h2 : (f k').c = 2
    · have hlt : k' + 1 < n := hend k' hk' (by omega)
      rw [rk_two (Or.inl h2)] at d0
      rw [h2, rs_two] at d3
      have H2 := hideR h2
      clear h2
      by_cases hle : u + (f k').v ≤ 6
      · go_wp2
        go_quiet (fail)
        go_wp2
        refine region_quiet_tail 10 (by kernel_rfl) (by kernel_rfl) ?_
        simp only [List.take_succ_cons, List.take_zero, List.drop_succ_cons, List.drop_zero]
        repeat (first | go_big_quiet_step ((fail)) | quiet_step ((fail)))
        refine wpQuiet_nil ?_
        rintro _ ⟨nr, rfl⟩
        go_wp2
        go_roundg (N - (k' + 1))
        case measure => omega
        case rel =>
          refine ⟨k' + 1, u + (f k').v, x, 2, (f k').at', (f k').v, ⟨#[117]⟩, rfl, by go_num, by go_num, hle, hx, hlt, ?_, ?_, ?_, ?_, ?_⟩
          · have e : (((k' + 1 : Nat) : Int)) = (k' : Int) + 1 := by omega
            unfold Wy; rw [e]
            refine Blk.set (cs := #[.slice (some ⟨g, 0, none⟩) n cap, .int .i64 k', .int .i64 0, .int .i64 bad, .int .i64 op]) ?_ 1 _
            repeat (refine Blk.setOther ?_ _ _ nbd)
            exact HWr.out
          · exact Blk.setOther (Blk.setOther (Blk.setOther (Blk.setOther (Blk.setOther (by exact HPr.out) _ _ ncd) _ _ ncd) _ _ ncd) _ _ ncd) _ _ (Ne.symm hbc)
          · exact Blk.setOther (Blk.store4 (by exact HDr.out) _ _ _ _) _ _ (Ne.symm nbd)
          · exact Fr.setCell (Fr.setCell (Fr.setCell (Fr.setCell (Fr.setCell (hfw.drewN _) _ _ (by simp; omega)) _ _ (by simp; omega)) _ _ (by simp; omega)) _ _ (by simp; omega)) _ _ (by simp)
          · unfold Hid
            rw [← HQ.out, pw_u (by omega) H2.out hle]; congr 1
      · have HB : Hid (R = ⟨5, (f k').at', k', u, x⟩) := by unfold Hid; rw [← HQ.out, pw_u_bad (by omega) H2.out hle]
        go_wp2
        go_quiet (fail)
        go_wp2
        refine region_quiet_tail 10 (by kernel_rfl) (by kernel_rfl) ?_
        simp only [List.take_succ_cons, List.take_zero, List.drop_succ_cons, List.drop_zero]
        repeat (first | go_big_quiet_step ((fail)) | quiet_step ((fail)))
        refine wpQuiet_nil ?_
        rintro _ ⟨nr, rfl⟩
        go_wp2_with fail
        refine (wrong_first b g n cap k' _ _ bad op _ (by exact Blk.setOther (Blk.setOther (Blk.setOther (Blk.setOther (by exact HWr.out) _ _ nbd) _ _ nbd) _ _ nbd) _ _ nbd)).mono ?_
        rintro e w5 ⟨rfl, h5, hf5⟩
        go_wp2
        first | go_end0 | refine bodyPost_ret (results_none rfl _ _ _) rfl ?_
        refine ⟨rfl, Or.inr ⟨?_, ⟨k', hk', ?_⟩, ?_, ?_⟩⟩
        · rw [HB.out]; simp
        · rw [HB.out]; exact h5
        · exact Blk.fr (Blk.setOther (Blk.setOther (Blk.setOther (Blk.setOther (by exact HPr.out) _ _ ncd) _ _ ncd) _ _ ncd) _ _ ncd) hf5 (by simp; exact Ne.symm hbc)
        · exact (Fr.setCell (Fr.setCell (Fr.setCell (Fr.setCell (hfw.drewN _) _ _ (by simp; omega)) _ _ (by simp; omega)) _ _ (by simp; omega)) _ _ (by simp; omega)).trans hf5 (by simp)
    · by_cases h3 : (f k').c = 3
      · have hlt : k' + 1 < n := hend k' hk' (by omega)
        rw [rk_two (Or.inr h3)] at d0
        rw [h3, rs_three] at d3
        have H3 := hideR h3
        clear h3 h2
        cases bare
        · by_cases hle : x + (f k').v ≤ 4
          · go_wp2
            go_quiet (fail)
            go_wp2
            refine region_quiet_tail 10 (by kernel_rfl) (by kernel_rfl) ?_
            simp only [List.take_succ_cons, List.take_zero, List.drop_succ_cons, List.drop_zero]
            repeat (first | go_big_quiet_step ((fail)) | quiet_step ((fail)))
            refine wpQuiet_nil ?_
            rintro _ ⟨nr, rfl⟩
            go_wp2
            go_roundg (N - (k' + 1))
            case measure => omega
            case rel =>
              refine ⟨k' + 1, u, x + (f k').v, 2, (f k').at', (f k').v, ⟨#[120]⟩, rfl, by go_num, by go_num, hu, hle, hlt, ?_, ?_, ?_, ?_, ?_⟩
              · have e : (((k' + 1 : Nat) : Int)) = (k' : Int) + 1 := by omega
                unfold Wy; rw [e]
                refine Blk.set (cs := #[.slice (some ⟨g, 0, none⟩) n cap, .int .i64 k', .int .i64 0, .int .i64 bad, .int .i64 op]) ?_ 1 _
                repeat (refine Blk.setOther ?_ _ _ nbd)
                exact HWr.out
              · exact Blk.setOther (Blk.setOther (Blk.setOther (Blk.setOther (Blk.setOther (by exact HPr.out) _ _ ncd) _ _ ncd) _ _ ncd) _ _ ncd) _ _ (Ne.symm hbc)
              · exact Blk.setOther (Blk.store4 (by exact HDr.out) _ _ _ _) _ _ (Ne.symm nbd)
              · exact Fr.setCell (Fr.setCell (Fr.setCell (Fr.setCell (Fr.setCell (hfw.drewN _) _ _ (by simp; omega)) _ _ (by simp; omega)) _ _ (by simp; omega)) _ _ (by simp; omega)) _ _ (by simp)
              · unfold Hid
                rw [← HQ.out, pw_x (by omega) H3.out hle]; congr 1
          · have HB : Hid (R = ⟨5, (f k').at', k', u, x⟩) := by unfold Hid; rw [← HQ.out, pw_x_bad (by omega) H3.out hle]
            go_wp2
            go_quiet (fail)
            go_wp2
            refine region_quiet_tail 10 (by kernel_rfl) (by kernel_rfl) ?_
            simp only [List.take_succ_cons, List.take_zero, List.drop_succ_cons, List.drop_zero]
            repeat (first | go_big_quiet_step ((fail)) | quiet_step ((fail)))
            refine wpQuiet_nil ?_
            rintro _ ⟨nr, rfl⟩
            go_wp2_with fail
            refine (wrong_first b g n cap k' _ _ bad op _ (by exact Blk.setOther (Blk.setOther (Blk.setOther (Blk.setOther (by exact HWr.out) _ _ nbd) _ _ nbd) _ _ nbd) _ _ nbd)).mono ?_
            rintro e w5 ⟨rfl, h5, hf5⟩
            go_wp2
            first | go_end0 | refine bodyPost_ret (results_none rfl _ _ _) rfl ?_
            refine ⟨rfl, Or.inr ⟨?_, ⟨k', hk', ?_⟩, ?_, ?_⟩⟩
            · rw [HB.out]; simp
            · rw [HB.out]; exact h5
            · exact Blk.fr (Blk.setOther (Blk.setOther (Blk.setOther (Blk.setOther (by exact HPr.out) _ _ ncd) _ _ ncd) _ _ ncd) _ _ ncd) hf5 (by simp; exact Ne.symm hbc)
            · exact (Fr.setCell (Fr.setCell (Fr.setCell (Fr.setCell (hfw.drewN _) _ _ (by simp; omega)) _ _ (by simp; omega)) _ _ (by simp; omega)) _ _ (by simp; omega)).trans hf5 (by simp)
        · have HB : Hid (R = ⟨7, (f k').at', k', u, x⟩) := by unfold Hid; rw [← HQ.out, pw_x_bare (by omega) H3.out]
          go_wp2
          go_quiet (fail)
          go_wp2
          refine region_quiet_tail 10 (by kernel_rfl) (by kernel_rfl) ?_
          simp only [List.take_succ_cons, List.take_zero, List.drop_succ_cons, List.drop_zero]
          repeat (first | go_big_quiet_step ((fail)) | quiet_step ((fail)))
          refine wpQuiet_nil ?_
          rintro _ ⟨nr, rfl⟩
          go_wp2_with fail
          refine (wrong_first b g n cap k' _ _ bad op _ (by exact Blk.setOther (Blk.setOther (Blk.setOther (Blk.setOther (by exact HWr.out) _ _ nbd) _ _ nbd) _ _ nbd) _ _ nbd)).mono ?_
          rintro e w5 ⟨rfl, h5, hf5⟩
          go_wp2
          first | go_end0 | refine bodyPost_ret (results_none rfl _ _ _) rfl ?_
          refine ⟨rfl, Or.inr ⟨?_, ⟨k', hk', ?_⟩, ?_, ?_⟩⟩
          · rw [HB.out]; simp
          · rw [HB.out]; exact h5
          · exact Blk.fr (Blk.setOther (Blk.setOther (Blk.setOther (Blk.setOther (by exact HPr.out) _ _ ncd) _ _ ncd) _ _ ncd) _ _ ncd) hf5 (by simp; exact Ne.symm hbc)
          · exact (Fr.setCell (Fr.setCell (Fr.setCell (Fr.setCell (hfw.drewN _) _ _ (by simp; omega)) _ _ (by simp; omega)) _ _ (by simp; omega)) _ _ (by simp; omega)).trans hf5 (by simp)
      · have q2 : (rk (f k').c == 2) = false := by rw [beq_eq_false_iff_ne]; exact rk_not2 h2 h3
        have HB : Hid (R = ⟨0, 0, k', u, x⟩) := by unfold Hid; rw [← HQ.out, pw_end h2 h3]
        have hx0 : (0 : Int) ≤ (x : Int) := by omega
        have hx1 : (x : Int) < 5 := by omega
        have hu0 : (0 : Int) ≤ (u : Int) := by omega
        have hu1 : (u : Int) < 7 := by omega
        have hq : x * 7 + u < p.length := by rw [hgp.1]; omega
        have hcell := pv_get hq
        have hv7 := hgp.2 (x * 7 + u)
        have HV : Hid (plus p u x (sg * (f k).v) = p.set (x * 7 + u) ((p.getD (x * 7 + u) 0 + (sg * (f k).v)) % 7)) := by unfold Hid plus; rw [Nat.mul_comm 7 x]
        generalize p.getD (x * 7 + u) 0 = v at *
        have e3 : wr.cell? ⟨c, x * 7 + u, none⟩ = some (.int .i64 v) := by rw [HPr.out.cell]; exact hcell
        have e4 : wr.frozen? ⟨c, x * 7 + u, none⟩ = false := HPr.out.frozen _
        clear h2 h3 hcell
        go_wp2
        go_quiet (fail)
        go_wp2
        refine region_quiet_tail 16 (by kernel_rfl) (by kernel_rfl) ?_
        simp only [List.take_succ_cons, List.take_zero, List.drop_succ_cons, List.drop_zero]
        repeat (first | go_big_quiet_step ((fail)) | quiet_step ((fail)))
        refine wpQuiet_nil ?_
        rintro _ ⟨nr, rfl⟩
        go_wp2
        go_end0
        refine ⟨rfl, Or.inl ⟨?_, ?_, ?_, ?_, ?_⟩⟩
        · rw [HB.out]
        · rw [HB.out]; exact Blk.setOther (by exact HWr.out) _ _ hbc
        · rw [HB.out]; dsimp only; rw [HV.out]; exact Blk.putN (by exact HPr.out) _ _ _ (by have := HA.out; omega)
        · rw [HB.out]; exact hk'
        · exact Fr.setCell (hfw.drewN _) _ _ (by simp)
end Go.Proofs.YtaajdcaciofmaaaDoor
/- THE READER: take, fail, finish. -/
namespace Go.Proofs.YtaajdcaciofmaaaDoor
open Go.RowKit

/-- A reader in memory: its text and its next token. -/
def Rd (w : World) (b : Nat) (s : ByteArray) (t : Tok) : Prop := Blk w b #[.string s, .int .i64 (pk t.c), .int .i64 t.at', .int .i64 t.to, .int .i64 t.v] 91
theorem Rd.cells {w : World} {b : Nat} {s : ByteArray} {t : Tok} (h : Rd w b s t) : w.cell? ⟨b, 0, none⟩ = some (.string s) ∧ w.cell? ⟨b, 1, none⟩ = some (.int .i64 (pk t.c)) ∧ w.cell? ⟨b, 2, none⟩ = some (.int .i64 t.at') ∧ w.cell? ⟨b, 3, none⟩ = some (.int .i64 t.to) ∧ w.cell? ⟨b, 4, none⟩ = some (.int .i64 t.v) :=
  ⟨Blk.cell h 0, Blk.cell h 1, Blk.cell h 2, Blk.cell h 3, Blk.cell h 4⟩
theorem Rd.free {w : World} {b : Nat} {s : ByteArray} {t : Tok} (h : Rd w b s t) : w.frozen? ⟨b, 0, none⟩ = false ∧ w.frozen? ⟨b, 1, none⟩ = false ∧ w.frozen? ⟨b, 2, none⟩ = false ∧ w.frozen? ⟨b, 3, none⟩ = false ∧ w.frozen? ⟨b, 4, none⟩ = false :=
  ⟨Blk.frozen h 0, Blk.frozen h 1, Blk.frozen h 2, Blk.frozen h 3, Blk.frozen h 4⟩

theorem Rd.store {w : World} {b : Nat} {s : ByteArray} {t : Tok} (h : Rd w b s t) (u : Tok) : Rd ((((w.setCell ⟨b, 1, none⟩ (.int .i64 (pk u.c))).setCell ⟨b, 2, none⟩ (.int .i64 u.at')).setCell ⟨b, 3, none⟩ (.int .i64 u.to)).setCell ⟨b, 4, none⟩ (.int .i64 u.v)) b s u :=
  Blk.set (Blk.set (Blk.set (Blk.set h 1 _) 2 _) 3 _) 4 _
theorem Rd.setOther {w : World} {b : Nat} {s : ByteArray} {t : Tok} (h : Rd w b s t) (p : Addr) (v : Value) (hn : b ≠ p.block) : Rd (w.setCell p v) b s t := Blk.setOther h p v hn

set_option maxHeartbeats 400000 in
theorem fail_any (s : ByteArray) (t : Tok) (b : Nat) (n : Int) (w : World) (hr : Rd w b s t) :
    Calls Tryd.prog 45 #[.pointer (some ⟨b, 0, none⟩), .int .i64 n] w fun e w' => e = .panicked [{ v := .iface 55 (.agg #[.int .i64 n, .int .i64 t.at']), recovered := false }] ∧ w' = w := by
  obtain ⟨c0, c1, c2, c3, c4⟩ := hr.cells
  go_enter Tryd.func45, Tryd.ntmps45
  go_wp2
  exact ⟨rfl, rfl, rfl⟩

set_option maxHeartbeats 1000000 in
theorem take_any (s : ByteArray) (a k b : Nat) (w : World) (hs : s.size ≤ 1000) (ha : a ≤ s.size) (hr : Rd w b s (tk s a k)) :
    Calls Tryd.prog 42 #[.pointer (some ⟨b, 0, none⟩)] w fun e w' => e = .returned (.agg #[.int .i64 (pk (tk s a k).c), .int .i64 (tk s a k).at', .int .i64 (tk s a k).to, .int .i64 (tk s a k).v]) ∧ Rd w' b s (tk s a (k + 1)) ∧ Fr [b] w w' := by
  obtain ⟨c0, c1, c2, c3, c4⟩ := hr.cells
  obtain ⟨f0, f1, f2, f3, f4⟩ := hr.free
  have hb : b < w.heap.size := Blk.lt hr
  have hf := tk_facts ha k
  have n0 : ¬ b = w.heap.size := by omega
  have n1 : ¬ b = w.heap.size + 1 := by omega
  have HR : Hid (Rd w b s (tk s a k)) := hr
  have HK : Hid (tok s (tk s a k).to = tk s a (k + 1)) := rfl
  clear hr
  generalize tk s a k = t at *
  generalize tk s a (k + 1) = t1 at *
  go_enter Tryd.func42, Tryd.ntmps42
  go_wp2
  go_region_held3 (fun w' => w'.cell? ⟨b, 0, none⟩ = some (.string s) ∧ w'.cell? ⟨w.heap.size + 1, 2, none⟩ = some (.int .i64 t.to)) (first | (go_keep; done) | (simp [*, World.cell?_setCell_far, cell_set_off]; done)) (first | (go_at_call 41; refine (tokenAt_any s t.to _ _ (by omega) (by omega) (by omega)).mono ?_; rintro e w1 ⟨rfl, hbel⟩; obtain ⟨hc1, hf1⟩ := bcell hbel; have HR1 : Hid (Rd w1 b s t) := Blk.fr (by exact Blk.alloc (Blk.alloc HR.out _) _) (Fr.of_below (bs := []) hbel) (by simp); obtain ⟨d0, d1, d2, d3, d4⟩ := Rd.cells HR1.out; obtain ⟨g0, g1, g2, g3, g4⟩ := Rd.free HR1.out))
  go_wp2
  have hn : Blk w1 w.heap.size #[.int .i64 0, .int .i64 0, .int .i64 0, .int .i64 0] 88 := Blk.fr (by exact Blk.alloc (Blk.new w _ _) _) (Fr.of_below (bs := []) hbel) (by simp)
  have n0' : ¬ w.heap.size = b := fun e => n0 e.symm
  refine bodyPost_ret (results_cell_row Tryd.results42 _ _ w.heap.size 88 #[.int .i64 (pk t.c), .int .i64 t.at', .int .i64 t.to, .int .i64 t.v] (0, 0) _ (by rfl) (Blk.store4 (Blk.setOther (Blk.setOther (Blk.setOther (Blk.setOther hn _ _ n0') _ _ n0') _ _ n0') _ _ n0') _ _ _ _) Tryd.underlying88 rfl (by kernel_rfl)) rfl ⟨rfl, ?_, ?_⟩
  · rw [← HK.out]
    exact ((((Rd.store HR1.out (tok s t.to)).setOther _ _ n0).setOther _ _ n0).setOther _ _ n0).setOther _ _ n0
  · have h1 : Fr [b] w w1 := ((((Fr.refl [b] w).alloc _).alloc _).drew).trans (Fr.of_below (bs := []) hbel) (by simp)
    repeat (refine Fr.setCell ?_ _ _ (by simp))
    exact h1
end Go.Proofs.YtaajdcaciofmaaaDoor
/- THE READER: power. -/
namespace Go.Proofs.YtaajdcaciofmaaaDoor
open Go.RowKit

set_option maxHeartbeats 1000000 in
theorem power_u (s : ByteArray) (a k b : Nat) (u x : Nat) (N : Int) (w : World) (hs : s.size ≤ 1000) (ha : a ≤ s.size) (hr : Rd w b s (tk s a k)) (hc : (tk s a k).c = 2) (hu : u ≤ 6) (hx : x ≤ 4) :
    Calls Tryd.prog 66 #[.pointer (some ⟨b, 0, none⟩), .agg #[.int .i64 N, .int .i64 u, .int .i64 x]] w fun e w' =>
      (u + (tk s a k).v ≤ 6 ∧ e = .returned (.agg #[.int .i64 N, .int .i64 ((u + (tk s a k).v : Nat) : Int), .int .i64 (x : Int)]) ∧ Rd w' b s (tk s a (k + 1)) ∧ Fr [b] w w') ∨
      (¬ u + (tk s a k).v ≤ 6 ∧ e = .panicked [{ v := .iface 55 (.agg #[.int .i64 5, .int .i64 (tk s a k).at']), recovered := false }] ∧ Fr [b] w w') := by
  obtain ⟨c0, c1, c2, c3, c4⟩ := hr.cells
  obtain ⟨f0, f1, f2, f3, f4⟩ := hr.free
  have hb : b < w.heap.size := Blk.lt hr
  have hf := tk_facts ha k
  have n0 : ¬ b = w.heap.size := by omega
  have n1 : ¬ b = w.heap.size + 1 := by omega
  have m0 : ¬ w.heap.size = b := by omega
  have m1 : ¬ w.heap.size + 1 = b := by omega
  have HR : Hid (Rd w b s (tk s a k)) := hr
  have hpk : pk (tk s a k).c = 2 := by rw [hc]; rfl
  rw [hpk] at c1
  clear hr hpk hc
  by_cases hle : u + (tk s a k).v ≤ 6
  · go_enter Tryd.func66, Tryd.ntmps66
    go_wp2
    go_region
    go_wp2_with fail
    refine (take_any s a k b _ (by omega) (by omega) (by exact Blk.alloc (Blk.alloc HR.out _) _)).mono ?_
    rintro e w1 ⟨rfl, hr1, hfr⟩
    have ht : Blk w1 w.heap.size #[.int .i64 N, .int .i64 ((u : Int) + ((tk s a k).v : Int)), .int .i64 (x : Int)] 64 := Blk.fr (by exact Blk.alloc (Blk.new w _ _) _) hfr (by simp [m0])
    have hq : Blk w1 (w.heap.size + 1) #[.int .i64 0, .int .i64 0, .int .i64 0] 64 := Blk.fr (by exact Blk.newAt _ _ _ (by simp)) hfr (by simp [m1])
    obtain ⟨p0, p1, p2⟩ := ht.cells3
    obtain ⟨q0, q1, q2⟩ := hq.cells3
    obtain ⟨g0, g1, g2⟩ := hq.free3
    go_wp2
    refine bodyPost_ret (results_cell_row Tryd.results66 _ _ (w.heap.size + 1) 64 #[.int .i64 N, .int .i64 ((u : Int) + ((tk s a k).v : Int)), .int .i64 (x : Int)] (0, 0) _ (by rfl) (Blk.store3 hq _ _ _) Tryd.underlying64 rfl (by kernel_rfl)) rfl (Or.inl ⟨hle, ?_, ?_, ?_⟩)
    · exact ret3 rfl (by omega) (by omega)
    · exact ((hr1.setOther _ _ n1).setOther _ _ n1).setOther _ _ n1
    · repeat (refine Fr.setCell ?_ _ _ (by simp))
      exact ((((Fr.refl [b] w).alloc _).alloc _).drew).trans hfr (by simp)
  · go_enter Tryd.func66, Tryd.ntmps66
    go_wp2
    go_region
    go_wp2_with (go_at_call 45; refine (fail_any s (tk s a k) b _ _ (by exact Blk.alloc (Blk.alloc HR.out _) _)).mono ?_; rintro e w1 ⟨rfl, rfl⟩)
    refine ⟨rfl, Or.inr ⟨hle, rfl, ?_⟩⟩
    exact (((Fr.refl [b] w).alloc _).alloc _).drew

set_option maxHeartbeats 1000000 in
theorem power_x (s : ByteArray) (a k b : Nat) (u x : Nat) (N : Int) (w : World) (hs : s.size ≤ 1000) (ha : a ≤ s.size) (hr : Rd w b s (tk s a k)) (hc : (tk s a k).c = 3) (hu : u ≤ 6) (hx : x ≤ 4) :
    Calls Tryd.prog 66 #[.pointer (some ⟨b, 0, none⟩), .agg #[.int .i64 N, .int .i64 u, .int .i64 x]] w fun e w' =>
      (x + (tk s a k).v ≤ 4 ∧ e = .returned (.agg #[.int .i64 N, .int .i64 (u : Int), .int .i64 ((x + (tk s a k).v : Nat) : Int)]) ∧ Rd w' b s (tk s a (k + 1)) ∧ Fr [b] w w') ∨
      (¬ x + (tk s a k).v ≤ 4 ∧ e = .panicked [{ v := .iface 55 (.agg #[.int .i64 5, .int .i64 (tk s a k).at']), recovered := false }] ∧ Fr [b] w w') := by
  obtain ⟨c0, c1, c2, c3, c4⟩ := hr.cells
  obtain ⟨f0, f1, f2, f3, f4⟩ := hr.free
  have hb : b < w.heap.size := Blk.lt hr
  have hf := tk_facts ha k
  have n0 : ¬ b = w.heap.size := by omega
  have n1 : ¬ b = w.heap.size + 1 := by omega
  have m0 : ¬ w.heap.size = b := by omega
  have m1 : ¬ w.heap.size + 1 = b := by omega
  have HR : Hid (Rd w b s (tk s a k)) := hr
  have hpk : pk (tk s a k).c = 3 := by rw [hc]; rfl
  rw [hpk] at c1
  clear hr hpk hc
  by_cases hle : x + (tk s a k).v ≤ 4
  · go_enter Tryd.func66, Tryd.ntmps66
    go_wp2
    go_region
    go_wp2_with fail
    refine (take_any s a k b _ (by omega) (by omega) (by exact Blk.alloc (Blk.alloc HR.out _) _)).mono ?_
    rintro e w1 ⟨rfl, hr1, hfr⟩
    have ht : Blk w1 w.heap.size #[.int .i64 N, .int .i64 (u : Int), .int .i64 ((x : Int) + ((tk s a k).v : Int))] 64 := Blk.fr (by exact Blk.alloc (Blk.new w _ _) _) hfr (by simp [m0])
    have hq : Blk w1 (w.heap.size + 1) #[.int .i64 0, .int .i64 0, .int .i64 0] 64 := Blk.fr (by exact Blk.newAt _ _ _ (by simp)) hfr (by simp [m1])
    obtain ⟨p0, p1, p2⟩ := ht.cells3
    obtain ⟨q0, q1, q2⟩ := hq.cells3
    obtain ⟨g0, g1, g2⟩ := hq.free3
    go_wp2
    refine bodyPost_ret (results_cell_row Tryd.results66 _ _ (w.heap.size + 1) 64 #[.int .i64 N, .int .i64 (u : Int), .int .i64 ((x : Int) + ((tk s a k).v : Int))] (0, 0) _ (by rfl) (Blk.store3 hq _ _ _) Tryd.underlying64 rfl (by kernel_rfl)) rfl (Or.inl ⟨hle, ?_, ?_, ?_⟩)
    · exact ret3 rfl (by omega) (by omega)
    · exact ((hr1.setOther _ _ n1).setOther _ _ n1).setOther _ _ n1
    · repeat (refine Fr.setCell ?_ _ _ (by simp))
      exact ((((Fr.refl [b] w).alloc _).alloc _).drew).trans hfr (by simp)
  · go_enter Tryd.func66, Tryd.ntmps66
    go_wp2
    go_region
    go_wp2_with (go_at_call 45; refine (fail_any s (tk s a k) b _ _ (by exact Blk.alloc (Blk.alloc HR.out _) _)).mono ?_; rintro e w1 ⟨rfl, rfl⟩)
    refine ⟨rfl, Or.inr ⟨hle, rfl, ?_⟩⟩
    exact (((Fr.refl [b] w).alloc _).alloc _).drew
end Go.Proofs.YtaajdcaciofmaaaDoor
/- THE READER: term. -/
namespace Go.Proofs.YtaajdcaciofmaaaDoor
open Go.RowKit

theorem pk_ne1 {c : Nat} (h : c ≠ 1) : (pk c == 1) = false := by
  rw [beq_eq_false_iff_ne]; unfold pk
  repeat' split
  all_goals omega
theorem pk_ne2 {c : Nat} (h : c ≠ 2) : (pk c == 2) = false := by
  rw [beq_eq_false_iff_ne]; unfold pk
  repeat' split
  all_goals omega
theorem pk_ne3 {c : Nat} (h : c ≠ 3) : (pk c == 3) = false := by
  rw [beq_eq_false_iff_ne]; unfold pk
  repeat' split
  all_goals omega
def faulty (n at' : Int) : List PanicEntry := [{ v := .iface 55 (.agg #[.int .i64 n, .int .i64 at']), recovered := false }]

theorem power_uOk (s : ByteArray) (a k b : Nat) (u x : Nat) (N : Int) (w : World) (hs : s.size ≤ 1000) (ha : a ≤ s.size) (hr : Rd w b s (tk s a k)) (hc : (tk s a k).c = 2) (hu : u ≤ 6) (hx : x ≤ 4) (h : u + (tk s a k).v ≤ 6) :
    Calls Tryd.prog 66 #[.pointer (some ⟨b, 0, none⟩), .agg #[.int .i64 N, .int .i64 u, .int .i64 x]] w fun e w' =>
      e = .returned (.agg #[.int .i64 N, .int .i64 ((u + (tk s a k).v : Nat) : Int), .int .i64 x]) ∧ Rd w' b s (tk s a (k + 1)) ∧ Fr [b] w w' :=
  (power_u s a k b u x N w hs ha hr hc hu hx).mono (by rintro e w1 (g | g); exact g.2; exact absurd h g.1)
theorem power_uBad (s : ByteArray) (a k b : Nat) (u x : Nat) (N : Int) (w : World) (hs : s.size ≤ 1000) (ha : a ≤ s.size) (hr : Rd w b s (tk s a k)) (hc : (tk s a k).c = 2) (hu : u ≤ 6) (hx : x ≤ 4) (h : ¬ u + (tk s a k).v ≤ 6) :
    Calls Tryd.prog 66 #[.pointer (some ⟨b, 0, none⟩), .agg #[.int .i64 N, .int .i64 u, .int .i64 x]] w fun e w' =>
      e = .panicked (faulty 5 (tk s a k).at') ∧ Fr [b] w w' :=
  (power_u s a k b u x N w hs ha hr hc hu hx).mono (by rintro e w1 (g | g); exact absurd g.1 h; exact g.2)
theorem power_xOk (s : ByteArray) (a k b : Nat) (u x : Nat) (N : Int) (w : World) (hs : s.size ≤ 1000) (ha : a ≤ s.size) (hr : Rd w b s (tk s a k)) (hc : (tk s a k).c = 3) (hu : u ≤ 6) (hx : x ≤ 4) (h : x + (tk s a k).v ≤ 4) :
    Calls Tryd.prog 66 #[.pointer (some ⟨b, 0, none⟩), .agg #[.int .i64 N, .int .i64 u, .int .i64 x]] w fun e w' =>
      e = .returned (.agg #[.int .i64 N, .int .i64 u, .int .i64 ((x + (tk s a k).v : Nat) : Int)]) ∧ Rd w' b s (tk s a (k + 1)) ∧ Fr [b] w w' :=
  (power_x s a k b u x N w hs ha hr hc hu hx).mono (by rintro e w1 (g | g); exact g.2; exact absurd h g.1)
theorem power_xBad (s : ByteArray) (a k b : Nat) (u x : Nat) (N : Int) (w : World) (hs : s.size ≤ 1000) (ha : a ≤ s.size) (hr : Rd w b s (tk s a k)) (hc : (tk s a k).c = 3) (hu : u ≤ 6) (hx : x ≤ 4) (h : ¬ x + (tk s a k).v ≤ 4) :
    Calls Tryd.prog 66 #[.pointer (some ⟨b, 0, none⟩), .agg #[.int .i64 N, .int .i64 u, .int .i64 x]] w fun e w' =>
      e = .panicked (faulty 5 (tk s a k).at') ∧ Fr [b] w w' :=
  (power_x s a k b u x N w hs ha hr hc hu hx).mono (by rintro e w1 (g | g); exact absurd g.1 h; exact g.2)

theorem field_tok (x0 x1 x2 x3 : Int) (w : World) : (Instr.field 88 (.agg #[.int .i64 x0, .int .i64 x1, .int .i64 x2, .int .i64 x3]) 3).run Tryd.prog w = .ok (.int .i64 x3) w := by kernel_rfl
/-- What a term's reading ends in. -/
def TermPost (s : ByteArray) (a b : Nat) (n : Nat) (R : PwR) (w : World) (e : Ending) (w' : World) : Prop :=
  (R.e = 0 ∧ e = .returned (.agg #[.int .i64 n, .int .i64 R.u, .int .i64 R.x]) ∧ Rd w' b s (tk s a R.k) ∧ Fr [b] w w') ∨ (R.e ≠ 0 ∧ e = .panicked (faulty R.e R.bad) ∧ Fr [b] w w')

set_option maxRecDepth 100000 in
set_option maxHeartbeats 2000000 in
theorem term_number (s : ByteArray) (a k b : Nat) (w : World) (hs : s.size ≤ 1000) (ha : a ≤ s.size) (hr : Rd w b s (tk s a k)) (hc : (tk s a k).c = 1) :
    Calls Tryd.prog 43 #[.pointer (some ⟨b, 0, none⟩)] w (TermPost s a b (tk s a k).v (pw (tk s a) false (s.size - (k + 1)) (k + 1) 0 0) w) := by
  obtain ⟨c0, c1, c2, c3, c4⟩ := hr.cells
  obtain ⟨f0, f1, f2, f3, f4⟩ := hr.free
  have hb : b < w.heap.size := Blk.lt hr
  have hf := tk_facts ha k
  have n0 : ¬ b = w.heap.size := by omega
  have n1 : ¬ b = w.heap.size + 1 := by omega
  have m0 : ¬ w.heap.size = b := by omega
  have m1 : ¬ w.heap.size + 1 = b := by omega
  have HR : Hid (Rd w b s (tk s a k)) := hr
  have hpk : pk (tk s a k).c = 1 := by rw [hc]; rfl
  rw [hpk] at c1
  generalize hR : pw (tk s a) false (s.size - (k + 1)) (k + 1) 0 0 = R
  have HP : Hid (pw (tk s a) false (s.size - (k + 1)) (k + 1) 0 0 = R) := hR
  have hfl := field_tok
  clear hr hpk hc hR
  go_enter Tryd.func43, Tryd.ntmps43
  go_wp2_with fail
  refine (take_any s a k b _ (by omega) (by omega) (by exact Blk.alloc (Blk.alloc HR.out _) _)).mono ?_
  rintro e w1 ⟨rfl, hr1, hfr⟩
  have ht : Blk w1 (w.heap.size + 1) #[.int .i64 1, .int .i64 0, .int .i64 0] 64 := Blk.fr (by exact Blk.newAt _ _ _ (by simp)) hfr (by simp [m1])
  have hq : Blk w1 w.heap.size #[.int .i64 0, .int .i64 0, .int .i64 0] 64 := Blk.fr (by exact Blk.alloc (Blk.new w _ _) _) hfr (by simp [m0])
  have hf1 : Fr [b] w w1 := ((((Fr.refl [b] w).alloc _).alloc _)).trans hfr (by simp)
  obtain ⟨p0, p1, p2⟩ := ht.cells3
  obtain ⟨g0, g1, g2⟩ := ht.free3
  go_wp2
  clear c0 c1 c2 c3 c4 f0 f1 f2 f3 f4 p0 p1 p2 g0 g1 g2 hfl
  go_loopg [] (s.size - (k + 1)) (fun m wr => ∃ k' u x : Nat, m = s.size - k' ∧ u ≤ 6 ∧ x ≤ 4 ∧ Rd wr b s (tk s a k') ∧ Blk wr (w.heap.size + 1) #[.int .i64 ((tk s a k).v : Nat), .int .i64 u, .int .i64 x] 64 ∧ Blk wr w.heap.size #[.int .i64 0, .int .i64 0, .int .i64 0] 64 ∧ Fr [b] w wr ∧ Hid (pw (tk s a) false (s.size - k') k' u x = R))
  case atStart => exact ⟨k + 1, 0, 0, rfl, by omega, by omega, hr1.setOther _ _ n1, ht.set 0 _, hq.setOther _ _ (by simp), hf1.setCell _ _ (by simp), HP⟩
  case round =>
    obtain ⟨k', u, x, hm, hu, hx, hrd, htm, hrs, hfw, HQ⟩ := hrel
    have HRD : Hid (Rd wr b s (tk s a k')) := hrd
    obtain ⟨d0, d1, d2, d3, d4⟩ := hrd.cells
    obtain ⟨i0, i1, i2⟩ := htm.cells3
    have hf' := tk_facts ha k'
    clear hrd
    by_cases h2 : (tk s a k').c = 2
    · have hp2 : pk (tk s a k').c = 2 := by rw [h2]; rfl
      rw [hp2] at d1
      have hlt : k' < s.size := tk_lt ha (by omega)
      have H2 : Hid ((tk s a k').c = 2) := h2
      clear h2 hp2
      by_cases hle : u + (tk s a k').v ≤ 6
      · go_wp2_with fail
        refine (power_uOk s a k' b u x _ _ (by omega) ha HRD.out H2.out hu hx hle).mono ?_
        rintro e w2 ⟨rfl, hr2, hfr2⟩
        have ht2 := htm.fr hfr2 (by simp [m1])
        have hq2 := hrs.fr hfr2 (by simp [m0])
        obtain ⟨j0, j1, j2⟩ := ht2.cells3
        obtain ⟨l0, l1, l2⟩ := ht2.free3
        go_wp2
        go_roundg (s.size - (k' + 1))
        case measure => omega
        case rel =>
          refine ⟨k' + 1, u + (tk s a k').v, x, rfl, hle, hx, ((hr2.setOther _ _ n1).setOther _ _ n1).setOther _ _ n1, Blk.store3 ht2 _ _ _, ((hq2.setOther _ _ (by simp)).setOther _ _ (by simp)).setOther _ _ (by simp), ?_, ?_⟩
          · repeat (refine Fr.setCell ?_ _ _ (by simp))
            exact hfw.trans hfr2 (by simp)
          · unfold Hid
            rw [← HQ.out, pw_u (by omega) H2.out hle]; congr 1
      · have HB : Hid (R = ⟨5, (tk s a k').at', k', u, x⟩) := by unfold Hid; rw [← HQ.out, pw_u_bad (by omega) H2.out hle]
        go_wp2_with fail
        refine (power_uBad s a k' b u x _ _ (by omega) ha HRD.out H2.out hu hx hle).mono ?_
        rintro e w2 ⟨rfl, hfr2⟩
        go_wp2
        refine ⟨rfl, Or.inr ⟨?_, ?_, hfw.trans hfr2 (by simp)⟩⟩
        · rw [HB.out]; simp
        · rw [HB.out]; rfl
    · by_cases h3 : (tk s a k').c = 3
      · have hp3 : pk (tk s a k').c = 3 := by rw [h3]; rfl
        rw [hp3] at d1
        have hlt : k' < s.size := tk_lt ha (by omega)
        have H3 : Hid ((tk s a k').c = 3) := h3
        clear h3 hp3 h2
        by_cases hle : x + (tk s a k').v ≤ 4
        · go_wp2_with fail
          refine (power_xOk s a k' b u x _ _ (by omega) ha HRD.out H3.out hu hx hle).mono ?_
          rintro e w2 ⟨rfl, hr2, hfr2⟩
          have ht2 := htm.fr hfr2 (by simp [m1])
          have hq2 := hrs.fr hfr2 (by simp [m0])
          obtain ⟨j0, j1, j2⟩ := ht2.cells3
          obtain ⟨l0, l1, l2⟩ := ht2.free3
          go_wp2
          go_roundg (s.size - (k' + 1))
          case measure => omega
          case rel =>
            refine ⟨k' + 1, u, x + (tk s a k').v, rfl, hu, hle, ((hr2.setOther _ _ n1).setOther _ _ n1).setOther _ _ n1, Blk.store3 ht2 _ _ _, ((hq2.setOther _ _ (by simp)).setOther _ _ (by simp)).setOther _ _ (by simp), ?_, ?_⟩
            · repeat (refine Fr.setCell ?_ _ _ (by simp))
              exact hfw.trans hfr2 (by simp)
            · unfold Hid
              rw [← HQ.out, pw_x (by omega) H3.out hle]; congr 1
        · have HB : Hid (R = ⟨5, (tk s a k').at', k', u, x⟩) := by unfold Hid; rw [← HQ.out, pw_x_bad (by omega) H3.out hle]
          go_wp2_with fail
          refine (power_xBad s a k' b u x _ _ (by omega) ha HRD.out H3.out hu hx hle).mono ?_
          rintro e w2 ⟨rfl, hfr2⟩
          go_wp2
          refine ⟨rfl, Or.inr ⟨?_, ?_, hfw.trans hfr2 (by simp)⟩⟩
          · rw [HB.out]; simp
          · rw [HB.out]; rfl
      · have q2 := pk_ne2 h2
        have q3 := pk_ne3 h3
        have HB : Hid (R = ⟨0, 0, k', u, x⟩) := by unfold Hid; rw [← HQ.out, pw_end h2 h3]
        obtain ⟨o0, o1, o2⟩ := hrs.cells3
        obtain ⟨l0, l1, l2⟩ := hrs.free3
        clear h2 h3
        go_wp2
        refine bodyPost_ret (results_cell_row Tryd.results43 _ _ w.heap.size 64 _ (0, 0) _ (by rfl) (Blk.store3 hrs _ _ _) Tryd.underlying64 rfl (by kernel_rfl)) rfl (Or.inl ⟨?_, ?_, ?_, ?_⟩)
        · rw [HB.out]
        · first | (rw [HB.out]; done) | (rw [HB.out]; rfl)
        · rw [HB.out]; exact (((show Rd wr b s (tk s a k') from HRD.out).setOther _ _ n0).setOther _ _ n0).setOther _ _ n0
        · repeat (refine Fr.setCell ?_ _ _ (by simp))
          exact hfw

set_option maxRecDepth 100000 in
set_option maxHeartbeats 2000000 in
theorem term_power (s : ByteArray) (a k b : Nat) (w : World) (hs : s.size ≤ 1000) (ha : a ≤ s.size) (hr : Rd w b s (tk s a k)) (hc : (tk s a k).c = 2 ∨ (tk s a k).c = 3) :
    Calls Tryd.prog 43 #[.pointer (some ⟨b, 0, none⟩)] w (TermPost s a b 1 (pw (tk s a) false (s.size - k) k 0 0) w) := by
  obtain ⟨c0, c1, c2, c3, c4⟩ := hr.cells
  obtain ⟨f0, f1, f2, f3, f4⟩ := hr.free
  have hb : b < w.heap.size := Blk.lt hr
  have hf := tk_facts ha k
  have n0 : ¬ b = w.heap.size := by omega
  have n1 : ¬ b = w.heap.size + 1 := by omega
  have m0 : ¬ w.heap.size = b := by omega
  have m1 : ¬ w.heap.size + 1 = b := by omega
  have HR : Hid (Rd w b s (tk s a k)) := hr
  have hpk : pk (tk s a k).c = 2 ∨ pk (tk s a k).c = 3 := by rcases hc with h | h <;> rw [h] <;> simp [pk]
  generalize hR : pw (tk s a) false (s.size - k) k 0 0 = R
  have HP : Hid (pw (tk s a) false (s.size - k) k 0 0 = R) := hR
  clear hr hc hR
  rcases hpk with hpk | hpk
  all_goals
    rw [hpk] at c1
    clear hpk
    go_enter Tryd.func43, Tryd.ntmps43
    go_wp2
    clear c0 c1 c2 c3 c4 f0 f1 f2 f3 f4
    go_loopg [] (s.size - k) (fun m wr => ∃ k' u x : Nat, m = s.size - k' ∧ u ≤ 6 ∧ x ≤ 4 ∧ Rd wr b s (tk s a k') ∧ Blk wr (w.heap.size + 1) #[.int .i64 1, .int .i64 u, .int .i64 x] 64 ∧ Blk wr w.heap.size #[.int .i64 0, .int .i64 0, .int .i64 0] 64 ∧ Fr [b] w wr ∧ Hid (pw (tk s a) false (s.size - k') k' u x = R))
    case atStart => exact ⟨k, 0, 0, rfl, by omega, by omega, Blk.alloc (Blk.alloc HR.out _) _, Blk.newAt _ _ _ (by simp), Blk.alloc (Blk.new w _ _) _, ((Fr.refl [b] w).alloc _).alloc _, HP⟩
    case round =>
      obtain ⟨k', u, x, hm, hu, hx, hrd, htm, hrs, hfw, HQ⟩ := hrel
      have HRD : Hid (Rd wr b s (tk s a k')) := hrd
      obtain ⟨d0, d1, d2, d3, d4⟩ := hrd.cells
      obtain ⟨i0, i1, i2⟩ := htm.cells3
      have hf' := tk_facts ha k'
      clear hrd
      by_cases h2 : (tk s a k').c = 2
      · have hp2 : pk (tk s a k').c = 2 := by rw [h2]; rfl
        rw [hp2] at d1
        have hlt : k' < s.size := tk_lt ha (by omega)
        have H2 : Hid ((tk s a k').c = 2) := h2
        clear h2 hp2
        by_cases hle : u + (tk s a k').v ≤ 6
        · go_wp2_with fail
          refine (power_uOk s a k' b u x _ _ (by omega) ha HRD.out H2.out hu hx hle).mono ?_
          rintro e w2 ⟨rfl, hr2, hfr2⟩
          have ht2 := htm.fr hfr2 (by simp [m1])
          have hq2 := hrs.fr hfr2 (by simp [m0])
          obtain ⟨j0, j1, j2⟩ := ht2.cells3
          obtain ⟨l0, l1, l2⟩ := ht2.free3
          go_wp2
          go_roundg (s.size - (k' + 1))
          case measure => omega
          case rel =>
            refine ⟨k' + 1, u + (tk s a k').v, x, rfl, hle, hx, ((hr2.setOther _ _ n1).setOther _ _ n1).setOther _ _ n1, Blk.store3 ht2 _ _ _, ((hq2.setOther _ _ (by simp)).setOther _ _ (by simp)).setOther _ _ (by simp), ?_, ?_⟩
            · repeat (refine Fr.setCell ?_ _ _ (by simp))
              exact hfw.trans hfr2 (by simp)
            · unfold Hid
              rw [← HQ.out, pw_u (by omega) H2.out hle]; congr 1
        · have HB : Hid (R = ⟨5, (tk s a k').at', k', u, x⟩) := by unfold Hid; rw [← HQ.out, pw_u_bad (by omega) H2.out hle]
          go_wp2_with fail
          refine (power_uBad s a k' b u x _ _ (by omega) ha HRD.out H2.out hu hx hle).mono ?_
          rintro e w2 ⟨rfl, hfr2⟩
          go_wp2
          refine ⟨rfl, Or.inr ⟨?_, ?_, hfw.trans hfr2 (by simp)⟩⟩
          · rw [HB.out]; simp
          · rw [HB.out]; rfl
      · by_cases h3 : (tk s a k').c = 3
        · have hp3 : pk (tk s a k').c = 3 := by rw [h3]; rfl
          rw [hp3] at d1
          have hlt : k' < s.size := tk_lt ha (by omega)
          have H3 : Hid ((tk s a k').c = 3) := h3
          clear h3 hp3 h2
          by_cases hle : x + (tk s a k').v ≤ 4
          · go_wp2_with fail
            refine (power_xOk s a k' b u x _ _ (by omega) ha HRD.out H3.out hu hx hle).mono ?_
            rintro e w2 ⟨rfl, hr2, hfr2⟩
            have ht2 := htm.fr hfr2 (by simp [m1])
            have hq2 := hrs.fr hfr2 (by simp [m0])
            obtain ⟨j0, j1, j2⟩ := ht2.cells3
            obtain ⟨l0, l1, l2⟩ := ht2.free3
            go_wp2
            go_roundg (s.size - (k' + 1))
            case measure => omega
            case rel =>
              refine ⟨k' + 1, u, x + (tk s a k').v, rfl, hu, hle, ((hr2.setOther _ _ n1).setOther _ _ n1).setOther _ _ n1, Blk.store3 ht2 _ _ _, ((hq2.setOther _ _ (by simp)).setOther _ _ (by simp)).setOther _ _ (by simp), ?_, ?_⟩
              · repeat (refine Fr.setCell ?_ _ _ (by simp))
                exact hfw.trans hfr2 (by simp)
              · unfold Hid
                rw [← HQ.out, pw_x (by omega) H3.out hle]; congr 1
          · have HB : Hid (R = ⟨5, (tk s a k').at', k', u, x⟩) := by unfold Hid; rw [← HQ.out, pw_x_bad (by omega) H3.out hle]
            go_wp2_with fail
            refine (power_xBad s a k' b u x _ _ (by omega) ha HRD.out H3.out hu hx hle).mono ?_
            rintro e w2 ⟨rfl, hfr2⟩
            go_wp2
            refine ⟨rfl, Or.inr ⟨?_, ?_, hfw.trans hfr2 (by simp)⟩⟩
            · rw [HB.out]; simp
            · rw [HB.out]; rfl
        · have q2 := pk_ne2 h2
          have q3 := pk_ne3 h3
          have HB : Hid (R = ⟨0, 0, k', u, x⟩) := by unfold Hid; rw [← HQ.out, pw_end h2 h3]
          obtain ⟨o0, o1, o2⟩ := hrs.cells3
          obtain ⟨l0, l1, l2⟩ := hrs.free3
          clear h2 h3
          go_wp2
          refine bodyPost_ret (results_cell_row Tryd.results43 _ _ w.heap.size 64 _ (0, 0) _ (by rfl) (Blk.store3 hrs _ _ _) Tryd.underlying64 rfl (by kernel_rfl)) rfl (Or.inl ⟨?_, ?_, ?_, ?_⟩)
          · rw [HB.out]
          · first | (rw [HB.out]; done) | (rw [HB.out]; rfl)
          · rw [HB.out]; exact (((show Rd wr b s (tk s a k') from HRD.out).setOther _ _ n0).setOther _ _ n0).setOther _ _ n0
          · repeat (refine Fr.setCell ?_ _ _ (by simp))
            exact hfw

set_option maxRecDepth 100000 in
set_option maxHeartbeats 1000000 in
theorem term_bad (s : ByteArray) (a k b : Nat) (w : World) (hr : Rd w b s (tk s a k)) (hc : (tk s a k).c ≠ 1 ∧ (tk s a k).c ≠ 2 ∧ (tk s a k).c ≠ 3) :
    Calls Tryd.prog 43 #[.pointer (some ⟨b, 0, none⟩)] w fun e w' => e = .panicked (faulty 4 (tk s a k).at') ∧ Fr [b] w w' := by
  obtain ⟨c0, c1, c2, c3, c4⟩ := hr.cells
  have HR : Hid (Rd w b s (tk s a k)) := hr
  obtain ⟨h1, h2, h3⟩ := hc
  have hb : b < w.heap.size := Blk.lt hr
  have q1 := pk_ne1 h1
  have q2 := pk_ne2 h2
  have q3 := pk_ne3 h3
  clear hr h1 h2 h3
  go_enter Tryd.func43, Tryd.ntmps43
  go_wp2_with fail
  refine (fail_any s (tk s a k) b _ _ (by exact Blk.alloc (Blk.alloc HR.out _) _)).mono ?_
  rintro e w1 ⟨rfl, rfl⟩
  go_wp2
  exact ⟨rfl, rfl, ((Fr.refl [b] w).alloc _).alloc _⟩
end Go.Proofs.YtaajdcaciofmaaaDoor
/- THE PROGRAM's POLYNOMIALS: Plus. -/
namespace Go.Proofs.YtaajdcaciofmaaaDoor
open Go.RowKit

set_option maxRecDepth 100000 in
set_option maxHeartbeats 1000000 in
theorem Plus_any (p : List Nat) (u x a : Nat) (N : Int) (w : World) (hp : Good p) (hu : u ≤ 6) (hx : x ≤ 4) (hN : N % 7 = ((a % 7 : Nat) : Int)) :
    Calls Tryd.prog 44 #[.agg (pv p), .agg #[.int .i64 N, .int .i64 u, .int .i64 x]] w fun e w' => e = .returned (.agg (pv (plus p u x a))) ∧ Below w.heap.size w w' := by
  have hx0 : (0 : Int) ≤ (x : Int) := by omega
  have hx1 : (x : Int) < 5 := by omega
  have hu0 : (0 : Int) ≤ (u : Int) := by omega
  have hu1 : (u : Int) < 7 := by omega
  have hq : x * 7 + u < p.length := by rw [hp.1]; omega
  have hcell := pv_get hq
  have hv7 := hp.2 (x * 7 + u)
  have HV : Hid (plus p u x a = p.set (x * 7 + u) ((p.getD (x * 7 + u) 0 + a) % 7)) := by unfold Hid plus; rw [Nat.mul_comm 7 x]
  generalize p.getD (x * 7 + u) 0 = v at *
  go_enter Tryd.func44, Tryd.ntmps44
  go_wp2
  refine wp_forget (fun W => Blk W w.heap.size (pv p) 37 ∧ Blk W (w.heap.size + 1) #[.int .i64 N, .int .i64 u, .int .i64 x] 64 ∧ Blk W (w.heap.size + 1 + 1) (pv zeros) 37 ∧ Below w.heap.size w W) ⟨Blk.alloc (Blk.alloc (Blk.new w _ _) _) _, Blk.alloc (Blk.newAt _ _ _ (by simp)) _, Blk.newAt _ _ _ (by simp), by go_grown⟩ ?_
  rintro W ⟨b1, b2, b3, hbel⟩
  have B1 : Hid (Blk W w.heap.size (pv p) 37) := b1
  have B3 : Hid (Blk W (w.heap.size + 1 + 1) (pv zeros) 37) := b3
  obtain ⟨e0, e1, e2⟩ := b2.cells3
  have e3 : W.cell? ⟨w.heap.size, x * 7 + u, none⟩ = some (.int .i64 v) := by rw [b1.cell]; exact hcell
  have e4 : W.frozen? ⟨w.heap.size, x * 7 + u, none⟩ = false := b1.frozen _
  clear b1 b2 b3 hcell
  refine region_quiet_tail 18 (by kernel_rfl) (by kernel_rfl) ?_
  simp only [List.take_succ_cons, List.take_zero, List.drop_succ_cons, List.drop_zero]
  repeat (first | go_big_quiet_step ((go_at_call 35; exact Calls.quiet_of_same (Mod_any _ _))) | quiet_step ((go_at_call 35; exact Calls.quiet_of_same (Mod_any _ _))))
  refine wpQuiet_nil ?_
  rintro _ ⟨nq, rfl⟩
  have hg : Good (plus p u x a) := plus_good hp u x a
  go_wp2_with (first | (refine wpList_load_row (by rfl) 37 _ (by rfl) w.heap.size (by rfl) 37 (pv (plus p u x a)) (0, 0) _ (by rw [HV.out]; exact Blk.putN B1.out _ _ _ (by omega)) Tryd.underlying37 (by rfl) (size_poly hg) ?_) | (refine wpList_store_mid (by rfl) 37 _ _ (by rfl) (w.heap.size + 1 + 1) 0 (pv (plus p u x a)) (by rfl) (by rfl) (by exact Blk.there (Blk.setOther B3.out _ _ (by show ¬ w.heap.size + 1 + 1 = w.heap.size; omega)) (by rw [pv_size, pv_size, hg.1]; simp [zeros])) (size_poly hg) (pv_one _) ?_))
  refine bodyPost_ret (results_cell_row Tryd.results44 _ _ (w.heap.size + 1 + 1) 37 (pv (plus p u x a)) (0, 0) _ (by rfl) (Blk.setAll (Blk.setOther (by exact B3.out) _ _ (by show ¬ w.heap.size + 1 + 1 = w.heap.size; omega)) _ (by rw [pv_size, pv_size, hg.1]; rfl)) Tryd.underlying37 rfl (size_poly hg)) rfl ⟨rfl, ?_⟩
  exact Below.setCells (Below.setCell (below_drewN hbel nq) (Nat.le_refl _) _) _ _ _ (by omega)
end Go.Proofs.YtaajdcaciofmaaaDoor
/- THE READER: term whole; polynomial. -/
namespace Go.Proofs.YtaajdcaciofmaaaDoor
open Go.RowKit

theorem term_ok (s : ByteArray) (a k b : Nat) (w : World) (hs : s.size ≤ 1000) (ha : a ≤ s.size) (hr : Rd w b s (tk s a k)) (h : (tm (tk s a) false s.size k).e = 0) :
    Calls Tryd.prog 43 #[.pointer (some ⟨b, 0, none⟩)] w fun e w' => e = .returned (.agg #[.int .i64 (tm (tk s a) false s.size k).n, .int .i64 (tm (tk s a) false s.size k).u, .int .i64 (tm (tk s a) false s.size k).x]) ∧ Rd w' b s (tk s a (tm (tk s a) false s.size k).k) ∧ Fr [b] w w' := by
  unfold tm at *
  by_cases h1 : (tk s a k).c = 1
  · rw [if_pos h1] at *
    refine (term_number s a k b w hs ha hr h1).mono ?_
    rintro e w1 (g | g)
    · exact g.2
    · exact absurd h g.1
  · rw [if_neg h1] at *
    by_cases h2 : (tk s a k).c = 2 ∨ (tk s a k).c = 3
    · rw [if_pos h2] at *
      refine (term_power s a k b w hs ha hr h2).mono ?_
      rintro e w1 (g | g)
      · exact g.2
      · exact absurd h g.1
    · rw [if_neg h2] at h
      exact absurd h (by simp)
theorem term_not (s : ByteArray) (a k b : Nat) (w : World) (hs : s.size ≤ 1000) (ha : a ≤ s.size) (hr : Rd w b s (tk s a k)) (h : (tm (tk s a) false s.size k).e ≠ 0) :
    Calls Tryd.prog 43 #[.pointer (some ⟨b, 0, none⟩)] w fun e w' => e = .panicked (faulty (tm (tk s a) false s.size k).e (tm (tk s a) false s.size k).bad) ∧ Fr [b] w w' := by
  unfold tm at *
  by_cases h1 : (tk s a k).c = 1
  · rw [if_pos h1] at *
    refine (term_number s a k b w hs ha hr h1).mono ?_
    rintro e w1 (g | g)
    · exact absurd g.1 h
    · exact g.2
  · rw [if_neg h1] at *
    by_cases h2 : (tk s a k).c = 2 ∨ (tk s a k).c = 3
    · rw [if_pos h2] at *
      refine (term_power s a k b w hs ha hr h2).mono ?_
      rintro e w1 (g | g)
      · exact absurd g.1 h
      · exact g.2
    · rw [if_neg h2] at *
      exact term_bad s a k b w hr (by omega)

theorem pk_is4 {c : Nat} (h : c = 47) : pk c = 4 := by subst h; rfl
theorem pk_is5 {c : Nat} (h : c = 49) : pk c = 5 := by subst h; rfl
theorem pk_ne4 {c : Nat} (h : c ≠ 47) : (pk c != 4) = true := by
  rw [bne_iff_ne]; unfold pk
  repeat' split
  all_goals omega
theorem pk_ne5 {c : Nat} (h : c ≠ 49) : (pk c != 5) = true := by
  rw [bne_iff_ne]; unfold pk
  repeat' split
  all_goals omega
theorem pk_no5 {c : Nat} (h : c ≠ 49) : (pk c == 5) = false := by
  rw [beq_eq_false_iff_ne]; unfold pk
  repeat' split
  all_goals omega
theorem pl_bad {f : Nat → Tok} {bare : Bool} {N m k sg : Nat} {p : List Nat} (hm : 0 < m) (h : (tm f bare N k).e ≠ 0) : pl f bare N m k sg p = ⟨(tm f bare N k).e, (tm f bare N k).bad, k, p⟩ := by
  obtain ⟨m, rfl⟩ : ∃ n, m = n + 1 := ⟨m - 1, by omega⟩
  simp only [pl, h, if_false]
theorem pl_plus {f : Nat → Tok} {bare : Bool} {N m k sg : Nat} {p : List Nat} (hm : 0 < m) (h : (tm f bare N k).e = 0) (hc : (f (tm f bare N k).k).c = 47) :
    pl f bare N m k sg p = pl f bare N (m - 1) ((tm f bare N k).k + 1) 1 (plus p (tm f bare N k).u (tm f bare N k).x (sg * (tm f bare N k).n)) := by
  obtain ⟨m, rfl⟩ : ∃ n, m = n + 1 := ⟨m - 1, by omega⟩
  simp only [pl, h, hc, if_true, Nat.add_sub_cancel]
theorem pl_minus {f : Nat → Tok} {bare : Bool} {N m k sg : Nat} {p : List Nat} (hm : 0 < m) (h : (tm f bare N k).e = 0) (hc : (f (tm f bare N k).k).c = 49) :
    pl f bare N m k sg p = pl f bare N (m - 1) ((tm f bare N k).k + 1) 6 (plus p (tm f bare N k).u (tm f bare N k).x (sg * (tm f bare N k).n)) := by
  obtain ⟨m, rfl⟩ : ∃ n, m = n + 1 := ⟨m - 1, by omega⟩
  simp [pl, h, hc]
theorem pl_done {f : Nat → Tok} {bare : Bool} {N m k sg : Nat} {p : List Nat} (hm : 0 < m) (h : (tm f bare N k).e = 0) (h4 : (f (tm f bare N k).k).c ≠ 47) (h5 : (f (tm f bare N k).k).c ≠ 49) :
    pl f bare N m k sg p = ⟨0, 0, (tm f bare N k).k, plus p (tm f bare N k).u (tm f bare N k).x (sg * (tm f bare N k).n)⟩ := by
  obtain ⟨m, rfl⟩ : ∃ n, m = n + 1 := ⟨m - 1, by omega⟩
  simp only [pl, h, h4, h5, if_true, if_false]

def sgOf (neg : Bool) : Nat := if neg then 6 else 1

/-- What the reading of a polynomial ends in. -/
def PolyPost (s : ByteArray) (a b : Nat) (R : PlR) (w : World) (e : Ending) (w' : World) : Prop :=
  (R.e = 0 ∧ e = .returned (.agg (pv R.p)) ∧ Good R.p ∧ Rd w' b s (tk s a R.k) ∧ Fr [b] w w') ∨ (R.e ≠ 0 ∧ e = .panicked (faulty R.e R.bad) ∧ Fr [b] w w')
end Go.Proofs.YtaajdcaciofmaaaDoor
/- THE DOCUMENT's ANSWER: term whole; poly. -/
namespace Go.Proofs.YtaajdcaciofmaaaDoor
open Go.RowKit

set_option maxRecDepth 100000 in
set_option maxHeartbeats 2000000 in
theorem wterm_bad (f : Nat → Tok) (b g n cap c k : Nat) (sg : Int) (bare : Bool) (bad op : Int) (w : World) (h : Wy w b g n cap k 0 bad op) (ht : Tk w g n f) (hk : k < n) (hn : n ≤ 1001) (hc : (f k).c ≠ 1 ∧ (f k).c ≠ 2 ∧ (f k).c ≠ 3) :
    Calls Tryd.prog 58 #[.pointer (some ⟨b, 0, none⟩), .pointer (some ⟨c, 0, none⟩), .int .i64 sg, .bool bare] w fun e w' => e = .returned (.tuple #[]) ∧ Wy w' b g n cap k 4 (f k).at' op ∧ Fr [b] w w' := by
  have hb : b < w.heap.size := Blk.lt h
  have HW := hideR h
  have HT := hideR ht
  have q1 : (rk (f k).c != 1) = true := by rw [bne_iff_ne]; exact rk_not1 hc.1
  have q2 : (rk (f k).c != 2) = true := by rw [bne_iff_ne]; exact rk_not2 hc.2.1 hc.2.2
  clear h ht hc
  go_enter Tryd.func58, Tryd.ntmps58
  go_wp2_with fail
  refine (next_any b g n cap k f 0 bad op _ HW.out HT.out hk (by omega)).mono ?_
  rintro e w1 ⟨rfl, hb1⟩
  have hw1 : Wy w1 b g n cap k 0 bad op := Blk.fr HW.out (Fr.of_below (bs := []) hb1) (by simp)
  have HW1 := hideR hw1
  have HB1 := hideR hb1
  clear hw1 hb1
  go_wp2_with fail
  refine (wrong_first b g n cap k _ _ bad op _ (by exact Blk.alloc HW1.out _)).mono ?_
  rintro e w5 ⟨rfl, h5, hf5⟩
  go_wp2
  first | go_end0 | refine bodyPost_ret (results_none rfl _ _ _) rfl ?_
  exact ⟨rfl, h5, ((Fr.of_below (bs := [b]) HB1.out).alloc _).trans hf5 (by simp)⟩

theorem wterm_ok (f : Nat → Tok) (N b g n cap c k : Nat) (p : List Nat) (sg : Nat) (bare : Bool) (bad op : Int) (w : World) (h : Wy w b g n cap k 0 bad op) (ht : Tk w g n f) (hp : Blk w c (pv p) 41) (hgp : Good p)
    (hk : k < n) (hn : n ≤ N + 1) (hN : N ≤ 1000) (hend : ∀ j, j < n → (f j).c ≠ 0 → j + 1 < n) (hv : ∀ j, (f j).v ≤ 99) (hsg : sg ≤ 6) (hbg : b ≠ g) (hbc : b ≠ c) (hgc : g ≠ c) (he : (tm f bare N k).e = 0) :
    Calls Tryd.prog 58 #[.pointer (some ⟨b, 0, none⟩), .pointer (some ⟨c, 0, none⟩), .int .i64 sg, .bool bare] w fun e w' => e = .returned (.tuple #[]) ∧ Wy w' b g n cap (tm f bare N k).k 0 bad op ∧ Blk w' c (pv (plus p (tm f bare N k).u (tm f bare N k).x (sg * (tm f bare N k).n))) 41 ∧ (tm f bare N k).k < n ∧ Fr [b, c] w w' := by
  unfold tm at *
  by_cases h1 : (f k).c = 1
  · rw [if_pos h1] at *
    refine (wterm_number f N b g n cap c k p sg bare bad op w h ht hp hgp hk hn hN hend hv hsg hbg hbc hgc h1).mono ?_
    rintro e w1 ⟨rfl, q | q⟩
    · exact ⟨rfl, q.2⟩
    · exact absurd he q.1
  · rw [if_neg h1] at *
    by_cases h2 : (f k).c = 2 ∨ (f k).c = 3
    · rw [if_pos h2] at *
      refine (wterm_power f N b g n cap c k p sg bare bad op w h ht hp hgp hk hn hN hend hv hsg hbg hbc hgc h2).mono ?_
      rintro e w1 ⟨rfl, q | q⟩
      · exact ⟨rfl, q.2⟩
      · exact absurd he q.1
    · rw [if_neg h2] at he; exact absurd he (by simp)
theorem wterm_not (f : Nat → Tok) (N b g n cap c k : Nat) (p : List Nat) (sg : Nat) (bare : Bool) (bad op : Int) (w : World) (h : Wy w b g n cap k 0 bad op) (ht : Tk w g n f) (hp : Blk w c (pv p) 41) (hgp : Good p)
    (hk : k < n) (hn : n ≤ N + 1) (hN : N ≤ 1000) (hend : ∀ j, j < n → (f j).c ≠ 0 → j + 1 < n) (hv : ∀ j, (f j).v ≤ 99) (hsg : sg ≤ 6) (hbg : b ≠ g) (hbc : b ≠ c) (hgc : g ≠ c) (he : (tm f bare N k).e ≠ 0) :
    Calls Tryd.prog 58 #[.pointer (some ⟨b, 0, none⟩), .pointer (some ⟨c, 0, none⟩), .int .i64 sg, .bool bare] w fun e w' => e = .returned (.tuple #[]) ∧ (∃ k', k' < n ∧ Wy w' b g n cap k' (tm f bare N k).e (tm f bare N k).bad op) ∧ Blk w' c (pv p) 41 ∧ Fr [b, c] w w' := by
  unfold tm at *
  by_cases h1 : (f k).c = 1
  · rw [if_pos h1] at *
    refine (wterm_number f N b g n cap c k p sg bare bad op w h ht hp hgp hk hn hN hend hv hsg hbg hbc hgc h1).mono ?_
    rintro e w1 ⟨rfl, q | q⟩
    · exact absurd q.1 he
    · exact ⟨rfl, q.2⟩
  · rw [if_neg h1] at *
    by_cases h2 : (f k).c = 2 ∨ (f k).c = 3
    · rw [if_pos h2] at *
      refine (wterm_power f N b g n cap c k p sg bare bad op w h ht hp hgp hk hn hN hend hv hsg hbg hbc hgc h2).mono ?_
      rintro e w1 ⟨rfl, q | q⟩
      · exact absurd q.1 he
      · exact ⟨rfl, q.2⟩
    · rw [if_neg h2] at *
      refine (wterm_bad f b g n cap c k sg bare bad op w h ht hk (by omega) (by omega)).mono ?_
      rintro e w1 ⟨rfl, q1, q2⟩
      exact ⟨rfl, ⟨k, hk, q1⟩, hp.fr q2 (by simp; omega), q2.mono (by simp)⟩

theorem rk_43 {c : Nat} : rk c = 43 ↔ c = 47 := by
  constructor
  · intro h
    unfold rk at h
    repeat' split at h
    all_goals omega
  · intro h; subst h; rfl
theorem rk_45 {c : Nat} : rk c = 45 ↔ c = 49 := by
  constructor
  · intro h
    unfold rk at h
    repeat' split at h
    all_goals omega
  · intro h; subst h; rfl
end Go.Proofs.YtaajdcaciofmaaaDoor
/- THE DOCUMENT's ANSWER: poly. -/
namespace Go.Proofs.YtaajdcaciofmaaaDoor
open Go.RowKit

/-- What poly ends in. -/
def PolyEnd (b g n cap : Nat) (R : PlR) (bad op : Int) (w : World) (e : Ending) (w' : World) : Prop :=
  (R.e = 0 ∧ e = .returned (.agg (pv R.p)) ∧ Good R.p ∧ Wy w' b g n cap R.k 0 bad op ∧ R.k < n ∧ Fr [b] w w') ∨ (R.e ≠ 0 ∧ (∃ q, Good q ∧ e = .returned (.agg (pv q))) ∧ (∃ k', k' < n ∧ Wy w' b g n cap k' R.e R.bad op) ∧ Fr [b] w w')

set_option maxRecDepth 100000 in
set_option maxHeartbeats 8000000 in
theorem wpoly_plain (f : Nat → Tok) (N b g n cap k : Nat) (bare : Bool) (bad op : Int) (w : World) (h : Wy w b g n cap k 0 bad op) (ht : Tk w g n f)
    (hk : k < n) (hn : n ≤ N + 1) (hN : N ≤ 1000) (hend : ∀ j, j < n → (f j).c ≠ 0 → j + 1 < n) (hv : ∀ j, (f j).v ≤ 99) (hbg : b ≠ g) (hc : (f k).c ≠ 49) :
    Calls Tryd.prog 32 #[.pointer (some ⟨b, 0, none⟩), .bool bare] w (PolyEnd b g n cap (pl f bare N (N + 1) k 1 zeros) bad op w) := by
  have hb : b < w.heap.size := Blk.lt h
  have hg := ht.1
  have HW := hideR h
  have HT := hideR ht
  generalize hR : pl f bare N (N + 1) k 1 zeros = R
  have HP : Hid (pl f bare N (N + 1) k 1 zeros = R) := hR
  have HC : Hid (rk (f k).c ≠ 45) := fun q => hc (rk_45.1 q)
  have hnt : ∀ (x : Bool) (w : World), (Op.unary .not (.bool x)).run Tryd.prog w = .ok (.bool (!x)) w := fun _ _ => rfl
  clear h ht hR hc
  go_enter Tryd.func32, Tryd.ntmps32
  go_wp2_with fail
  refine (passes_no b g n cap k f 45 bad op _ (by exact Blk.alloc (Blk.alloc HW.out _) _) (by exact HT.out.fr (((Fr.refl [] w).alloc _).alloc _) (by simp)) hk (by omega) (by omega) (by omega) HC.out).mono ?_
  rintro e w0 ⟨rfl, hw0, hfr0⟩
  have hs0 : Blk w0 (w.heap.size + 1) (pv zeros) 41 := Blk.fr (by exact Blk.newAt _ _ _ (by simp)) hfr0 (by simp; omega)
  have hr0 : Blk w0 w.heap.size (pv zeros) 41 := Blk.fr (by exact Blk.alloc (Blk.new w _ _) _) hfr0 (by simp; omega)
  have hf0 : Fr [b] w w0 := (((Fr.refl [b] w).alloc _).alloc _).trans hfr0 (by simp)
  go_wp2
  go_loopg [6] (N + 1) (fun m v6 wr => (∃ (k' sg : Nat) (p : List Nat), v6 = .int .i64 sg ∧ (sg = 1 ∨ sg = 6) ∧ N + 1 ≤ m + k' ∧ k' < n ∧ Good p ∧ Wy wr b g n cap k' 0 bad op ∧ Blk wr (w.heap.size + 1) (pv p) 41 ∧ Blk wr w.heap.size (pv zeros) 41 ∧ Fr [b] w wr ∧ Hid (pl f bare N m k' sg p = R)) ∨ (∃ (k' : Nat) (q : List Nat), k' < n ∧ Good q ∧ R.e ≠ 0 ∧ Wy wr b g n cap k' R.e R.bad op ∧ Blk wr (w.heap.size + 1) (pv q) 41 ∧ Blk wr w.heap.size (pv zeros) 41 ∧ Fr [b] w wr))
  case atStart => exact Or.inl ⟨k, 1, zeros, rfl, Or.inl rfl, by omega, hk, zeros_good, hw0, hs0, hr0, hf0, HP⟩
  case round =>
    have mb : ¬ w.heap.size + 1 = b := by omega
    have mb0 : ¬ w.heap.size = b := by omega
    have mg : g ≠ w.heap.size + 1 := by omega
    rcases hrel with ⟨k', sg, p, rfl, hsg, hm, hk', hgp, hw, hp, hr, hfw, HQ⟩ | ⟨k', q, hk', hgq, hne, hw, hp, hr, hfw⟩
    · obtain ⟨c0, c1, c2, c3, c4⟩ := hw.cells
      have HTr : Hid (Tk wr g n f) := HT.out.fr hfw (by simp; omega)
      have HWr := hideR hw
      have HPr := hideR hp
      have HRr := hideR hr
      have hbr := Blk.lt hw
      clear hw hp hr
      by_cases hte : (tm f bare N k').e = 0
      · have hT := tm_facts f bare N k'
        have HTE := hideR hte
        go_wp2_with fail
        refine (wterm_ok f N b g n cap (w.heap.size + 1) k' p sg bare bad op _ HWr.out HTr.out HPr.out hgp hk' hn hN hend hv (by omega) hbg (Ne.symm mb) mg hte).mono ?_
        rintro e w1 ⟨rfl, hw1, hp1, hk1, hfr1⟩
        clear hte
        generalize hTT : tm f bare N k' = T at *
        have HTT := hideR hTT
        clear hTT
        have hg' : Good (plus p T.u T.x (sg * T.n)) := plus_good hgp _ _ _
        obtain ⟨p', HP'⟩ : ∃ p', Hid (plus p T.u T.x (sg * T.n) = p') := ⟨_, rfl⟩
        rw [HP'.out] at hp1 hg'
        have hr1 : Blk w1 w.heap.size (pv zeros) 41 := HRr.out.fr hfr1 (by simp; omega)
        have hf1 : Fr [b] w w1 := hfw.trans hfr1 (by simp)
        have ht1 : Tk w1 g n f := HT.out.fr hf1 (by simp; omega)
        obtain ⟨e0, e1, e2, e3, e4⟩ := hw1.cells
        have HW1 := hideR hw1
        have HP1 := hideR hp1
        have HR1 := hideR hr1
        have HT1 := hideR ht1
        clear hw1 hp1 hr1 ht1 c0 c1 c2 c3 c4
        by_cases h4 : (f T.k).c = 47
        · have hlt : T.k + 1 < n := hend T.k hk1 (by omega)
          have HN' : Hid (pl f bare N (gk - 1) (T.k + 1) 1 p' = R) := by
            have q := HQ.out
            rw [pl_plus (by omega) (by rw [HTT.out]; exact HTE.out) (by rw [HTT.out]; exact h4), HTT.out, HP'.out] at q
            exact q
          have h4r := rk_43.2 h4
          have H4 := hideR h4r
          clear h4 h4r
          go_wp2_with fail
          refine (passes_yes b g n cap T.k f 43 bad op _ HW1.out HT1.out hk1 (by omega) (by omega) (by omega) H4.out).mono ?_
          rintro e w2 ⟨rfl, hw2, hfr2⟩
          have hf2 : Fr [b] w w2 := hf1.trans hfr2 (by simp)
          have HT2 : Hid (Tk w2 g n f) := HT.out.fr hf2 (by simp; omega)
          have HP2 : Hid (Blk w2 (w.heap.size + 1) (pv p') 41) := HP1.out.fr hfr2 (by simp [mb])
          have HR2 : Hid (Blk w2 w.heap.size (pv zeros) 41) := HR1.out.fr hfr2 (by simp [mb0])
          have HW2 := hideR hw2
          clear hw2
          by_cases h5 : (f (T.k + 1)).c = 49
          · have hlt2 : T.k + 1 + 1 < n := hend (T.k + 1) hlt (by omega)
            have h5r := rk_45.2 h5
            have H5 := hideR h5r
            have HRR : Hid (R.e = 4 ∧ R.bad = (f (T.k + 1)).at') := by
              have q : tm f bare N (T.k + 1) = ⟨4, (f (T.k + 1)).at', T.k + 1, 0, 0, 0⟩ := by
                unfold tm; rw [if_neg (by omega), if_neg (by omega)]
              unfold Hid
              rw [← HN'.out, pl_bad (by omega) (by rw [q]; simp), q]
              exact ⟨rfl, rfl⟩
            clear h5 h5r HN'
            generalize T.k + 1 = m at *
            go_wp2_with fail
            refine (passes_yes b g n cap m f 45 bad op _ HW2.out HT2.out hlt (by omega) (by omega) (by omega) H5.out).mono ?_
            rintro e w3 ⟨rfl, hw3, hfr3⟩
            have hf3 : Fr [b] w w3 := hf2.trans hfr3 (by simp)
            have ht3 : Tk w3 g n f := HT.out.fr hf3 (by simp; omega)
            have HP3 : Hid (Blk w3 (w.heap.size + 1) (pv p') 41) := HP2.out.fr hfr3 (by simp [mb])
            have HR3 : Hid (Blk w3 w.heap.size (pv zeros) 41) := HR2.out.fr hfr3 (by simp [mb0])
            obtain ⟨s0, s1, s2, s3, s4⟩ := hw3.cells
            obtain ⟨d0, d1, d2, d3⟩ := ht3.cells hlt
            have HW3 := hideR hw3
            have es : ((m + 1 : Nat) : Int) = (m : Int) + 1 := by omega
            rw [es] at s1
            have i0 : (0 : Int) ≤ (m : Int) := by omega
            have i1 : (m : Int) < (n : Int) := by omega
            clear es hw3 ht3
            go_wp2
            refine region_quiet_tail 13 (by kernel_rfl) (by kernel_rfl) ?_
            simp only [List.take_succ_cons, List.take_zero, List.drop_succ_cons, List.drop_zero]
            repeat (first | go_big_quiet_step ((fail)) | quiet_step ((fail)))
            refine wpQuiet_nil ?_
            rintro _ ⟨nr, rfl⟩
            go_wp2_with fail
            refine (wrong_first b g n cap (m + 1) _ _ bad op _ (by exact HW3.out)).mono ?_
            rintro e w4 ⟨rfl, hw4, hfr4⟩
            have hfr4' : Fr [b] w3 w4 := ((Fr.refl [b] w3).drewN nr).trans hfr4 (by simp)
            go_wp2
            go_roundg (gk - 1)
            case measure => omega
            case rel =>
              refine Or.inr ⟨m + 1, p', hlt2, hg', ?_, ?_, HP3.out.fr hfr4' (by simp [mb]), HR3.out.fr hfr4' (by simp [mb0]), hf3.trans hfr4' (by simp)⟩
              · rw [HRR.out.1]; simp
              · rw [HRR.out.1, HRR.out.2]; exact hw4
          · have H5 : Hid (rk (f (T.k + 1)).c ≠ 45) := fun q => h5 (rk_45.1 q)
            clear h5
            go_wp2_with fail
            refine (passes_no b g n cap (T.k + 1) f 45 bad op _ HW2.out HT2.out hlt (by omega) (by omega) (by omega) H5.out).mono ?_
            rintro e w3 ⟨rfl, hw3, hfr3⟩
            have hf3 : Fr [b] w w3 := hf2.trans hfr3 (by simp)
            go_wp2
            go_roundg (gk - 1)
            case measure => omega
            case rel => exact Or.inl ⟨T.k + 1, 1, p', rfl, Or.inl rfl, by omega, hlt, hg', hw3, HP2.out.fr hfr3 (by simp [mb]), HR2.out.fr hfr3 (by simp [mb0]), hf3, HN'⟩
        · have H4 : Hid (rk (f T.k).c ≠ 43) := fun q => h4 (rk_43.1 q)
          go_wp2_with fail
          refine (passes_no b g n cap T.k f 43 bad op _ HW1.out HT1.out hk1 (by omega) (by omega) (by omega) H4.out).mono ?_
          rintro e w2 ⟨rfl, hw2, hfr2⟩
          have hf2 : Fr [b] w w2 := hf1.trans hfr2 (by simp)
          have HT2 : Hid (Tk w2 g n f) := HT.out.fr hf2 (by simp; omega)
          have HP2 : Hid (Blk w2 (w.heap.size + 1) (pv p') 41) := HP1.out.fr hfr2 (by simp [mb])
          have HR2 : Hid (Blk w2 w.heap.size (pv zeros) 41) := HR1.out.fr hfr2 (by simp [mb0])
          have HW2 := hideR hw2
          clear hw2
          by_cases h5 : (f T.k).c = 49
          · have hlt : T.k + 1 < n := hend T.k hk1 (by omega)
            have HN' : Hid (pl f bare N (gk - 1) (T.k + 1) 6 p' = R) := by
              have q := HQ.out
              rw [pl_minus (by omega) (by rw [HTT.out]; exact HTE.out) (by rw [HTT.out]; exact h5), HTT.out, HP'.out] at q
              exact q
            have h5r := rk_45.2 h5
            have H5 := hideR h5r
            clear h4 h5 h5r
            go_wp2_with fail
            refine (passes_yes b g n cap T.k f 45 bad op _ HW2.out HT2.out hk1 (by omega) (by omega) (by omega) H5.out).mono ?_
            rintro e w3 ⟨rfl, hw3, hfr3⟩
            have hf3 : Fr [b] w w3 := hf2.trans hfr3 (by simp)
            go_wp2
            go_roundg (gk - 1)
            case measure => omega
            case rel => exact Or.inl ⟨T.k + 1, 6, p', rfl, Or.inr rfl, by omega, hlt, hg', hw3, HP2.out.fr hfr3 (by simp [mb]), HR2.out.fr hfr3 (by simp [mb0]), hf3, HN'⟩
          · have HB : Hid (R = ⟨0, 0, T.k, p'⟩) := by
              unfold Hid
              rw [← HQ.out, pl_done (by omega) (by rw [HTT.out]; exact HTE.out) (by rw [HTT.out]; exact h4) (by rw [HTT.out]; exact h5), HTT.out, HP'.out]
            have H5 : Hid (rk (f T.k).c ≠ 45) := fun q => h5 (rk_45.1 q)
            clear h4 h5
            go_wp2_with fail
            refine (passes_no b g n cap T.k f 45 bad op _ HW2.out HT2.out hk1 (by omega) (by omega) (by omega) H5.out).mono ?_
            rintro e w3 ⟨rfl, hw3, hfr3⟩
            have hf3 : Fr [b] w w3 := hf2.trans hfr3 (by simp)
            have HW3 := hideR hw3
            have HP3 : Hid (Blk w3 (w.heap.size + 1) (pv p') 41) := HP2.out.fr hfr3 (by simp [mb])
            have HR3 : Hid (Blk w3 w.heap.size (pv zeros) 41) := HR2.out.fr hfr3 (by simp [mb0])
            clear hw3
            go_wp2_with (first | (refine wpList_load_row (by rfl) 41 _ (by rfl) (w.heap.size + 1) (by rfl) 41 (pv p') (0, 0) _ HP3.out Tryd.underlying41 (by rfl) (size_rPoly hg') ?_) | (refine wpList_store_mid (by rfl) 41 _ (.tmp 55) (by rfl) w.heap.size 0 (pv p') (by rfl) (by rfl) (Blk.there HR3.out (by rw [pv_size, pv_size, hg'.1]; exact Nat.le_refl _)) (size_rPoly hg') (pv_one _) ?_))
            refine bodyPost_ret (results_cell_row Tryd.results32 _ _ w.heap.size 41 (pv p') (0, 0) _ (by rfl) (Blk.setAll HR3.out _ (by rw [pv_size, pv_size, hg'.1]; rfl)) Tryd.underlying41 rfl (size_rPoly hg')) rfl ?_
            refine Or.inl ⟨?_, ?_, ?_, ?_, ?_, ?_⟩
            · rw [HB.out]
            · rw [HB.out]
            · rw [HB.out]; exact hg'
            · rw [HB.out]; exact Blk.setCellsOther HW3.out _ _ _ (by omega)
            · rw [HB.out]; exact hk1
            · exact Fr.setCells hf3 _ _ _ (by simp)
      · have HB : Hid (R.e ≠ 0 ∧ R.e = (tm f bare N k').e ∧ R.bad = (tm f bare N k').bad) := by
          unfold Hid
          rw [← HQ.out, pl_bad (by omega) hte]; exact ⟨hte, rfl, rfl⟩
        go_wp2_with fail
        refine (wterm_not f N b g n cap (w.heap.size + 1) k' p sg bare bad op _ HWr.out HTr.out HPr.out hgp hk' hn hN hend hv (by omega) hbg (Ne.symm mb) mg hte).mono ?_
        rintro e w1 ⟨rfl, ⟨k1, hk1, hw1⟩, hp1, hfr1⟩
        obtain ⟨g1, g2, g3⟩ := HB.out
        rw [← g2, ← g3] at hw1
        have hr1 : Blk w1 w.heap.size (pv zeros) 41 := HRr.out.fr hfr1 (by simp; omega)
        have hf1 : Fr [b] w w1 := hfw.trans hfr1 (by simp)
        obtain ⟨e0, e1, e2, e3, e4⟩ := hw1.cells
        have qe : ((R.e : Int) != 0) = true := by rw [bne_iff_ne]; omega
        have HW1 := hideR hw1
        have HP1 := hideR hp1
        have HR1 := hideR hr1
        have HG1 := hideR g1
        clear hw1 hp1 hr1 c0 c1 c2 c3 c4 g1 g2 g3 hte
        go_wp2_with (first | (refine wpList_load_row (by rfl) 41 _ (by rfl) (w.heap.size + 1) (by rfl) 41 (pv p) (0, 0) _ HP1.out Tryd.underlying41 (by rfl) (size_rPoly hgp) ?_) | (refine wpList_store_mid (by rfl) 41 _ (.tmp 55) (by rfl) w.heap.size 0 (pv p) (by rfl) (by rfl) (Blk.there HR1.out (by rw [pv_size, pv_size, hgp.1]; exact Nat.le_refl _)) (size_rPoly hgp) (pv_one _) ?_))
        refine bodyPost_ret (results_cell_row Tryd.results32 _ _ w.heap.size 41 (pv p) (0, 0) _ (by rfl) (Blk.setAll HR1.out _ (by rw [pv_size, pv_size, hgp.1]; rfl)) Tryd.underlying41 rfl (size_rPoly hgp)) rfl ?_
        exact Or.inr ⟨HG1.out, ⟨p, hgp, rfl⟩, ⟨k1, hk1, Blk.setCellsOther HW1.out _ _ _ (by omega)⟩, Fr.setCells hf1 _ _ _ (by simp)⟩
    · obtain ⟨c0, c1, c2, c3, c4⟩ := hw.cells
      have qe : ((R.e : Int) == 0) = false := by rw [beq_eq_false_iff_ne]; omega
      have HW1 := hideR hw
      have HP1 := hideR hp
      have HR1 := hideR hr
      have HG1 := hideR hne
      clear hw hp hr hne
      go_wp2_with (first | (refine wpList_load_row (by rfl) 41 _ (by rfl) (w.heap.size + 1) (by rfl) 41 (pv q) (0, 0) _ HP1.out Tryd.underlying41 (by rfl) (size_rPoly hgq) ?_) | (refine wpList_store_mid (by rfl) 41 _ (.tmp 55) (by rfl) w.heap.size 0 (pv q) (by rfl) (by rfl) (Blk.there HR1.out (by rw [pv_size, pv_size, hgq.1]; exact Nat.le_refl _)) (size_rPoly hgq) (pv_one _) ?_))
      refine bodyPost_ret (results_cell_row Tryd.results32 _ _ w.heap.size 41 (pv q) (0, 0) _ (by rfl) (Blk.setAll HR1.out _ (by rw [pv_size, pv_size, hgq.1]; rfl)) Tryd.underlying41 rfl (size_rPoly hgq)) rfl ?_
      exact Or.inr ⟨HG1.out, ⟨q, hgq, rfl⟩, ⟨k', hk', Blk.setCellsOther HW1.out _ _ _ (by omega)⟩, Fr.setCells hfw _ _ _ (by simp)⟩
end Go.Proofs.YtaajdcaciofmaaaDoor
/- THE DOCUMENT's ANSWER: poly, with a minus ahead; whole. -/
namespace Go.Proofs.YtaajdcaciofmaaaDoor
open Go.RowKit

set_option maxRecDepth 100000 in
set_option maxHeartbeats 8000000 in
theorem wpoly_minus (f : Nat → Tok) (N b g n cap k : Nat) (bare : Bool) (bad op : Int) (w : World) (h : Wy w b g n cap k 0 bad op) (ht : Tk w g n f)
    (hk : k < n) (hn : n ≤ N + 1) (hN : N ≤ 1000) (hend : ∀ j, j < n → (f j).c ≠ 0 → j + 1 < n) (hv : ∀ j, (f j).v ≤ 99) (hbg : b ≠ g) (hc : (f k).c = 49) :
    Calls Tryd.prog 32 #[.pointer (some ⟨b, 0, none⟩), .bool bare] w (PolyEnd b g n cap (pl f bare N (N + 1) (k + 1) 6 zeros) bad op w) := by
  have hb : b < w.heap.size := Blk.lt h
  have hg := ht.1
  have HW := hideR h
  have HT := hideR ht
  generalize hR : pl f bare N (N + 1) (k + 1) 6 zeros = R
  have HP : Hid (pl f bare N (N + 1) (k + 1) 6 zeros = R) := hR
  have HC : Hid (rk (f k).c = 45) := rk_45.2 hc
  have hlt0 : k + 1 < n := hend k hk (by omega)
  have hnt : ∀ (x : Bool) (w : World), (Op.unary .not (.bool x)).run Tryd.prog w = .ok (.bool (!x)) w := fun _ _ => rfl
  clear h ht hR hc
  go_enter Tryd.func32, Tryd.ntmps32
  go_wp2_with fail
  refine (passes_yes b g n cap k f 45 bad op _ (by exact Blk.alloc (Blk.alloc HW.out _) _) (by exact HT.out.fr (((Fr.refl [] w).alloc _).alloc _) (by simp)) hk (by omega) (by omega) (by omega) HC.out).mono ?_
  rintro e w0 ⟨rfl, hw0, hfr0⟩
  have hs0 : Blk w0 (w.heap.size + 1) (pv zeros) 41 := Blk.fr (by exact Blk.newAt _ _ _ (by simp)) hfr0 (by simp; omega)
  have hr0 : Blk w0 w.heap.size (pv zeros) 41 := Blk.fr (by exact Blk.alloc (Blk.new w _ _) _) hfr0 (by simp; omega)
  have hf0 : Fr [b] w w0 := (((Fr.refl [b] w).alloc _).alloc _).trans hfr0 (by simp)
  go_wp2
  go_loopg [6] (N + 1) (fun m v6 wr => (∃ (k' sg : Nat) (p : List Nat), v6 = .int .i64 sg ∧ (sg = 1 ∨ sg = 6) ∧ N + 1 ≤ m + k' ∧ k' < n ∧ Good p ∧ Wy wr b g n cap k' 0 bad op ∧ Blk wr (w.heap.size + 1) (pv p) 41 ∧ Blk wr w.heap.size (pv zeros) 41 ∧ Fr [b] w wr ∧ Hid (pl f bare N m k' sg p = R)) ∨ (∃ (k' : Nat) (q : List Nat), k' < n ∧ Good q ∧ R.e ≠ 0 ∧ Wy wr b g n cap k' R.e R.bad op ∧ Blk wr (w.heap.size + 1) (pv q) 41 ∧ Blk wr w.heap.size (pv zeros) 41 ∧ Fr [b] w wr))
  case atStart => exact Or.inl ⟨k + 1, 6, zeros, rfl, Or.inr rfl, by omega, hlt0, zeros_good, hw0, hs0, hr0, hf0, HP⟩
  case round =>
    have mb : ¬ w.heap.size + 1 = b := by omega
    have mb0 : ¬ w.heap.size = b := by omega
    have mg : g ≠ w.heap.size + 1 := by omega
    rcases hrel with ⟨k', sg, p, rfl, hsg, hm, hk', hgp, hw, hp, hr, hfw, HQ⟩ | ⟨k', q, hk', hgq, hne, hw, hp, hr, hfw⟩
    · obtain ⟨c0, c1, c2, c3, c4⟩ := hw.cells
      have HTr : Hid (Tk wr g n f) := HT.out.fr hfw (by simp; omega)
      have HWr := hideR hw
      have HPr := hideR hp
      have HRr := hideR hr
      have hbr := Blk.lt hw
      clear hw hp hr
      by_cases hte : (tm f bare N k').e = 0
      · have hT := tm_facts f bare N k'
        have HTE := hideR hte
        go_wp2_with fail
        refine (wterm_ok f N b g n cap (w.heap.size + 1) k' p sg bare bad op _ HWr.out HTr.out HPr.out hgp hk' hn hN hend hv (by omega) hbg (Ne.symm mb) mg hte).mono ?_
        rintro e w1 ⟨rfl, hw1, hp1, hk1, hfr1⟩
        clear hte
        generalize hTT : tm f bare N k' = T at *
        have HTT := hideR hTT
        clear hTT
        have hg' : Good (plus p T.u T.x (sg * T.n)) := plus_good hgp _ _ _
        obtain ⟨p', HP'⟩ : ∃ p', Hid (plus p T.u T.x (sg * T.n) = p') := ⟨_, rfl⟩
        rw [HP'.out] at hp1 hg'
        have hr1 : Blk w1 w.heap.size (pv zeros) 41 := HRr.out.fr hfr1 (by simp; omega)
        have hf1 : Fr [b] w w1 := hfw.trans hfr1 (by simp)
        have ht1 : Tk w1 g n f := HT.out.fr hf1 (by simp; omega)
        obtain ⟨e0, e1, e2, e3, e4⟩ := hw1.cells
        have HW1 := hideR hw1
        have HP1 := hideR hp1
        have HR1 := hideR hr1
        have HT1 := hideR ht1
        clear hw1 hp1 hr1 ht1 c0 c1 c2 c3 c4
        by_cases h4 : (f T.k).c = 47
        · have hlt : T.k + 1 < n := hend T.k hk1 (by omega)
          have HN' : Hid (pl f bare N (gk - 1) (T.k + 1) 1 p' = R) := by
            have q := HQ.out
            rw [pl_plus (by omega) (by rw [HTT.out]; exact HTE.out) (by rw [HTT.out]; exact h4), HTT.out, HP'.out] at q
            exact q
          have h4r := rk_43.2 h4
          have H4 := hideR h4r
          clear h4 h4r
          go_wp2_with fail
          refine (passes_yes b g n cap T.k f 43 bad op _ HW1.out HT1.out hk1 (by omega) (by omega) (by omega) H4.out).mono ?_
          rintro e w2 ⟨rfl, hw2, hfr2⟩
          have hf2 : Fr [b] w w2 := hf1.trans hfr2 (by simp)
          have HT2 : Hid (Tk w2 g n f) := HT.out.fr hf2 (by simp; omega)
          have HP2 : Hid (Blk w2 (w.heap.size + 1) (pv p') 41) := HP1.out.fr hfr2 (by simp [mb])
          have HR2 : Hid (Blk w2 w.heap.size (pv zeros) 41) := HR1.out.fr hfr2 (by simp [mb0])
          have HW2 := hideR hw2
          clear hw2
          by_cases h5 : (f (T.k + 1)).c = 49
          · have hlt2 : T.k + 1 + 1 < n := hend (T.k + 1) hlt (by omega)
            have h5r := rk_45.2 h5
            have H5 := hideR h5r
            have HRR : Hid (R.e = 4 ∧ R.bad = (f (T.k + 1)).at') := by
              have q : tm f bare N (T.k + 1) = ⟨4, (f (T.k + 1)).at', T.k + 1, 0, 0, 0⟩ := by
                unfold tm; rw [if_neg (by omega), if_neg (by omega)]
              unfold Hid
              rw [← HN'.out, pl_bad (by omega) (by rw [q]; simp), q]
              exact ⟨rfl, rfl⟩
            clear h5 h5r HN'
            generalize T.k + 1 = m at *
            go_wp2_with fail
            refine (passes_yes b g n cap m f 45 bad op _ HW2.out HT2.out hlt (by omega) (by omega) (by omega) H5.out).mono ?_
            rintro e w3 ⟨rfl, hw3, hfr3⟩
            have hf3 : Fr [b] w w3 := hf2.trans hfr3 (by simp)
            have ht3 : Tk w3 g n f := HT.out.fr hf3 (by simp; omega)
            have HP3 : Hid (Blk w3 (w.heap.size + 1) (pv p') 41) := HP2.out.fr hfr3 (by simp [mb])
            have HR3 : Hid (Blk w3 w.heap.size (pv zeros) 41) := HR2.out.fr hfr3 (by simp [mb0])
            obtain ⟨s0, s1, s2, s3, s4⟩ := hw3.cells
            obtain ⟨d0, d1, d2, d3⟩ := ht3.cells hlt
            have HW3 := hideR hw3
            have es : ((m + 1 : Nat) : Int) = (m : Int) + 1 := by omega
            rw [es] at s1
            have i0 : (0 : Int) ≤ (m : Int) := by omega
            have i1 : (m : Int) < (n : Int) := by omega
            clear es hw3 ht3
            go_wp2
            refine region_quiet_tail 13 (by kernel_rfl) (by kernel_rfl) ?_
            simp only [List.take_succ_cons, List.take_zero, List.drop_succ_cons, List.drop_zero]
            repeat (first | go_big_quiet_step ((fail)) | quiet_step ((fail)))
            refine wpQuiet_nil ?_
            rintro _ ⟨nr, rfl⟩
            go_wp2_with fail
            refine (wrong_first b g n cap (m + 1) _ _ bad op _ (by exact HW3.out)).mono ?_
            rintro e w4 ⟨rfl, hw4, hfr4⟩
            have hfr4' : Fr [b] w3 w4 := ((Fr.refl [b] w3).drewN nr).trans hfr4 (by simp)
            go_wp2
            go_roundg (gk - 1)
            case measure => omega
            case rel =>
              refine Or.inr ⟨m + 1, p', hlt2, hg', ?_, ?_, HP3.out.fr hfr4' (by simp [mb]), HR3.out.fr hfr4' (by simp [mb0]), hf3.trans hfr4' (by simp)⟩
              · rw [HRR.out.1]; simp
              · rw [HRR.out.1, HRR.out.2]; exact hw4
          · have H5 : Hid (rk (f (T.k + 1)).c ≠ 45) := fun q => h5 (rk_45.1 q)
            clear h5
            go_wp2_with fail
            refine (passes_no b g n cap (T.k + 1) f 45 bad op _ HW2.out HT2.out hlt (by omega) (by omega) (by omega) H5.out).mono ?_
            rintro e w3 ⟨rfl, hw3, hfr3⟩
            have hf3 : Fr [b] w w3 := hf2.trans hfr3 (by simp)
            go_wp2
            go_roundg (gk - 1)
            case measure => omega
            case rel => exact Or.inl ⟨T.k + 1, 1, p', rfl, Or.inl rfl, by omega, hlt, hg', hw3, HP2.out.fr hfr3 (by simp [mb]), HR2.out.fr hfr3 (by simp [mb0]), hf3, HN'⟩
        · have H4 : Hid (rk (f T.k).c ≠ 43) := fun q => h4 (rk_43.1 q)
          go_wp2_with fail
          refine (passes_no b g n cap T.k f 43 bad op _ HW1.out HT1.out hk1 (by omega) (by omega) (by omega) H4.out).mono ?_
          rintro e w2 ⟨rfl, hw2, hfr2⟩
          have hf2 : Fr [b] w w2 := hf1.trans hfr2 (by simp)
          have HT2 : Hid (Tk w2 g n f) := HT.out.fr hf2 (by simp; omega)
          have HP2 : Hid (Blk w2 (w.heap.size + 1) (pv p') 41) := HP1.out.fr hfr2 (by simp [mb])
          have HR2 : Hid (Blk w2 w.heap.size (pv zeros) 41) := HR1.out.fr hfr2 (by simp [mb0])
          have HW2 := hideR hw2
          clear hw2
          by_cases h5 : (f T.k).c = 49
          · have hlt : T.k + 1 < n := hend T.k hk1 (by omega)
            have HN' : Hid (pl f bare N (gk - 1) (T.k + 1) 6 p' = R) := by
              have q := HQ.out
              rw [pl_minus (by omega) (by rw [HTT.out]; exact HTE.out) (by rw [HTT.out]; exact h5), HTT.out, HP'.out] at q
              exact q
            have h5r := rk_45.2 h5
            have H5 := hideR h5r
            clear h4 h5 h5r
            go_wp2_with fail
            refine (passes_yes b g n cap T.k f 45 bad op _ HW2.out HT2.out hk1 (by omega) (by omega) (by omega) H5.out).mono ?_
            rintro e w3 ⟨rfl, hw3, hfr3⟩
            have hf3 : Fr [b] w w3 := hf2.trans hfr3 (by simp)
            go_wp2
            go_roundg (gk - 1)
            case measure => omega
            case rel => exact Or.inl ⟨T.k + 1, 6, p', rfl, Or.inr rfl, by omega, hlt, hg', hw3, HP2.out.fr hfr3 (by simp [mb]), HR2.out.fr hfr3 (by simp [mb0]), hf3, HN'⟩
          · have HB : Hid (R = ⟨0, 0, T.k, p'⟩) := by
              unfold Hid
              rw [← HQ.out, pl_done (by omega) (by rw [HTT.out]; exact HTE.out) (by rw [HTT.out]; exact h4) (by rw [HTT.out]; exact h5), HTT.out, HP'.out]
            have H5 : Hid (rk (f T.k).c ≠ 45) := fun q => h5 (rk_45.1 q)
            clear h4 h5
            go_wp2_with fail
            refine (passes_no b g n cap T.k f 45 bad op _ HW2.out HT2.out hk1 (by omega) (by omega) (by omega) H5.out).mono ?_
            rintro e w3 ⟨rfl, hw3, hfr3⟩
            have hf3 : Fr [b] w w3 := hf2.trans hfr3 (by simp)
            have HW3 := hideR hw3
            have HP3 : Hid (Blk w3 (w.heap.size + 1) (pv p') 41) := HP2.out.fr hfr3 (by simp [mb])
            have HR3 : Hid (Blk w3 w.heap.size (pv zeros) 41) := HR2.out.fr hfr3 (by simp [mb0])
            clear hw3
            go_wp2_with (first | (refine wpList_load_row (by rfl) 41 _ (by rfl) (w.heap.size + 1) (by rfl) 41 (pv p') (0, 0) _ HP3.out Tryd.underlying41 (by rfl) (size_rPoly hg') ?_) | (refine wpList_store_mid (by rfl) 41 _ (.tmp 55) (by rfl) w.heap.size 0 (pv p') (by rfl) (by rfl) (Blk.there HR3.out (by rw [pv_size, pv_size, hg'.1]; exact Nat.le_refl _)) (size_rPoly hg') (pv_one _) ?_))
            refine bodyPost_ret (results_cell_row Tryd.results32 _ _ w.heap.size 41 (pv p') (0, 0) _ (by rfl) (Blk.setAll HR3.out _ (by rw [pv_size, pv_size, hg'.1]; rfl)) Tryd.underlying41 rfl (size_rPoly hg')) rfl ?_
            refine Or.inl ⟨?_, ?_, ?_, ?_, ?_, ?_⟩
            · rw [HB.out]
            · rw [HB.out]
            · rw [HB.out]; exact hg'
            · rw [HB.out]; exact Blk.setCellsOther HW3.out _ _ _ (by omega)
            · rw [HB.out]; exact hk1
            · exact Fr.setCells hf3 _ _ _ (by simp)
      · have HB : Hid (R.e ≠ 0 ∧ R.e = (tm f bare N k').e ∧ R.bad = (tm f bare N k').bad) := by
          unfold Hid
          rw [← HQ.out, pl_bad (by omega) hte]; exact ⟨hte, rfl, rfl⟩
        go_wp2_with fail
        refine (wterm_not f N b g n cap (w.heap.size + 1) k' p sg bare bad op _ HWr.out HTr.out HPr.out hgp hk' hn hN hend hv (by omega) hbg (Ne.symm mb) mg hte).mono ?_
        rintro e w1 ⟨rfl, ⟨k1, hk1, hw1⟩, hp1, hfr1⟩
        obtain ⟨g1, g2, g3⟩ := HB.out
        rw [← g2, ← g3] at hw1
        have hr1 : Blk w1 w.heap.size (pv zeros) 41 := HRr.out.fr hfr1 (by simp; omega)
        have hf1 : Fr [b] w w1 := hfw.trans hfr1 (by simp)
        obtain ⟨e0, e1, e2, e3, e4⟩ := hw1.cells
        have qe : ((R.e : Int) != 0) = true := by rw [bne_iff_ne]; omega
        have HW1 := hideR hw1
        have HP1 := hideR hp1
        have HR1 := hideR hr1
        have HG1 := hideR g1
        clear hw1 hp1 hr1 c0 c1 c2 c3 c4 g1 g2 g3 hte
        go_wp2_with (first | (refine wpList_load_row (by rfl) 41 _ (by rfl) (w.heap.size + 1) (by rfl) 41 (pv p) (0, 0) _ HP1.out Tryd.underlying41 (by rfl) (size_rPoly hgp) ?_) | (refine wpList_store_mid (by rfl) 41 _ (.tmp 55) (by rfl) w.heap.size 0 (pv p) (by rfl) (by rfl) (Blk.there HR1.out (by rw [pv_size, pv_size, hgp.1]; exact Nat.le_refl _)) (size_rPoly hgp) (pv_one _) ?_))
        refine bodyPost_ret (results_cell_row Tryd.results32 _ _ w.heap.size 41 (pv p) (0, 0) _ (by rfl) (Blk.setAll HR1.out _ (by rw [pv_size, pv_size, hgp.1]; rfl)) Tryd.underlying41 rfl (size_rPoly hgp)) rfl ?_
        exact Or.inr ⟨HG1.out, ⟨p, hgp, rfl⟩, ⟨k1, hk1, Blk.setCellsOther HW1.out _ _ _ (by omega)⟩, Fr.setCells hf1 _ _ _ (by simp)⟩
    · obtain ⟨c0, c1, c2, c3, c4⟩ := hw.cells
      have qe : ((R.e : Int) == 0) = false := by rw [beq_eq_false_iff_ne]; omega
      have HW1 := hideR hw
      have HP1 := hideR hp
      have HR1 := hideR hr
      have HG1 := hideR hne
      clear hw hp hr hne
      go_wp2_with (first | (refine wpList_load_row (by rfl) 41 _ (by rfl) (w.heap.size + 1) (by rfl) 41 (pv q) (0, 0) _ HP1.out Tryd.underlying41 (by rfl) (size_rPoly hgq) ?_) | (refine wpList_store_mid (by rfl) 41 _ (.tmp 55) (by rfl) w.heap.size 0 (pv q) (by rfl) (by rfl) (Blk.there HR1.out (by rw [pv_size, pv_size, hgq.1]; exact Nat.le_refl _)) (size_rPoly hgq) (pv_one _) ?_))
      refine bodyPost_ret (results_cell_row Tryd.results32 _ _ w.heap.size 41 (pv q) (0, 0) _ (by rfl) (Blk.setAll HR1.out _ (by rw [pv_size, pv_size, hgq.1]; rfl)) Tryd.underlying41 rfl (size_rPoly hgq)) rfl ?_
      exact Or.inr ⟨HG1.out, ⟨q, hgq, rfl⟩, ⟨k', hk', Blk.setCellsOther HW1.out _ _ _ (by omega)⟩, Fr.setCells hfw _ _ _ (by simp)⟩

theorem wpoly_any (f : Nat → Tok) (N b g n cap k : Nat) (bare : Bool) (bad op : Int) (w : World) (h : Wy w b g n cap k 0 bad op) (ht : Tk w g n f)
    (hk : k < n) (hn : n ≤ N + 1) (hN : N ≤ 1000) (hend : ∀ j, j < n → (f j).c ≠ 0 → j + 1 < n) (hv : ∀ j, (f j).v ≤ 99) (hbg : b ≠ g) :
    Calls Tryd.prog 32 #[.pointer (some ⟨b, 0, none⟩), .bool bare] w (PolyEnd b g n cap (poly f bare N k) bad op w) := by
  unfold poly
  by_cases hc : (f k).c = 49
  · rw [if_pos hc]; exact wpoly_minus f N b g n cap k bare bad op w h ht hk hn hN hend hv hbg hc
  · rw [if_neg hc]; exact wpoly_plain f N b g n cap k bare bad op w h ht hk hn hN hend hv hbg hc
theorem wpoly_ok (f : Nat → Tok) (N b g n cap k : Nat) (bare : Bool) (bad op : Int) (w : World) (h : Wy w b g n cap k 0 bad op) (ht : Tk w g n f)
    (hk : k < n) (hn : n ≤ N + 1) (hN : N ≤ 1000) (hend : ∀ j, j < n → (f j).c ≠ 0 → j + 1 < n) (hv : ∀ j, (f j).v ≤ 99) (hbg : b ≠ g) (he : (poly f bare N k).e = 0) :
    Calls Tryd.prog 32 #[.pointer (some ⟨b, 0, none⟩), .bool bare] w fun e w' => e = .returned (.agg (pv (poly f bare N k).p)) ∧ Good (poly f bare N k).p ∧ Wy w' b g n cap (poly f bare N k).k 0 bad op ∧ (poly f bare N k).k < n ∧ Fr [b] w w' :=
  (wpoly_any f N b g n cap k bare bad op w h ht hk hn hN hend hv hbg).mono (by rintro e w1 (q | q); exact q.2; exact absurd he q.1)
theorem wpoly_not (f : Nat → Tok) (N b g n cap k : Nat) (bare : Bool) (bad op : Int) (w : World) (h : Wy w b g n cap k 0 bad op) (ht : Tk w g n f)
    (hk : k < n) (hn : n ≤ N + 1) (hN : N ≤ 1000) (hend : ∀ j, j < n → (f j).c ≠ 0 → j + 1 < n) (hv : ∀ j, (f j).v ≤ 99) (hbg : b ≠ g) (he : (poly f bare N k).e ≠ 0) :
    Calls Tryd.prog 32 #[.pointer (some ⟨b, 0, none⟩), .bool bare] w fun e w' => (∃ q, Good q ∧ e = .returned (.agg (pv q))) ∧ (∃ k', k' < n ∧ Wy w' b g n cap k' (poly f bare N k).e (poly f bare N k).bad op) ∧ Fr [b] w w' :=
  (wpoly_any f N b g n cap k bare bad op w h ht hk hn hN hend hv hbg).mono (by rintro e w1 (q | q); exact absurd q.1 he; exact q.2)
end Go.Proofs.YtaajdcaciofmaaaDoor
