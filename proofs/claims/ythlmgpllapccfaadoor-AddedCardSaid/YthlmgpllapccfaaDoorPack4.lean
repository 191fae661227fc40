import Derived.Test.YthlmgpllapccfaaDoorPack3
import Derived.Deep.LoopGhost
/- THE DOCUMENT's ANSWER: passes, end. -/
namespace Go.Proofs.YthlmgpllapccfaaDoor
open Go.RowKit

theorem Fr.drewN {bs : List Nat} {a w : World} (h : Fr bs a w) (n : Nat) : Fr bs a (w.drewN n) := ⟨h.os, h.tape, h.output, h.size, h.block⟩

set_option maxRecDepth 100000 in
set_option maxHeartbeats 1000000 in
theorem passes_later (b g n cap k : Nat) (c x bad op : Int) (w : World) (h : Wy w b g n cap k x bad op) (hx : x ≠ 0) :
    Calls Tryd.prog 53 #[.pointer (some ⟨b, 0, none⟩), .int .u8 c] w fun e w' => e = .returned (.bool false) ∧ Wy w' b g n cap k x bad op ∧ Fr [b] w w' := by
  obtain ⟨c0, c1, c2, c3, c4⟩ := h.cells
  have q : (x != 0) = true := by rw [bne_iff_ne]; exact hx
  have H := hideR h
  clear hx h
  go_enter Tryd.func53, Tryd.ntmps53
  go_wp2
  go_quiet (fail)
  go_wp2
  go_ret
  exact ⟨rfl, H.out, (Fr.refl [b] w).drewN _⟩

set_option maxRecDepth 100000 in
set_option maxHeartbeats 1000000 in
theorem passes_no (b g n cap k : Nat) (f : Nat → Tok) (c bad op : Int) (w : World) (h : Wy w b g n cap k 0 bad op) (ht : Tk w g n f) (hk : k < n) (_hn : n ≤ 2000) (hc0 : 0 ≤ c) (hc1 : c ≤ 255) (hne : rk (f k).c ≠ c) :
    Calls Tryd.prog 53 #[.pointer (some ⟨b, 0, none⟩), .int .u8 c] w fun e w' => e = .returned (.bool false) ∧ Wy w' b g n cap k 0 bad op ∧ Fr [b] w w' := by
  obtain ⟨c0, c1, c2, c3, c4⟩ := h.cells
  obtain ⟨d0, d1, d2, d3⟩ := ht.cells hk
  have q : (rk (f k).c != c) = true := by rw [bne_iff_ne]; exact hne
  have i0 : (0 : Int) ≤ (k : Int) := by omega
  have i1 : (k : Int) < (n : Int) := by omega
  have H := hideR h
  clear hne h ht
  go_enter Tryd.func53, Tryd.ntmps53
  go_wp2
  go_quiet (fail)
  go_wp2
  go_ret
  exact ⟨rfl, H.out, (Fr.refl [b] w).drewN _⟩

set_option maxRecDepth 100000 in
set_option maxHeartbeats 1000000 in
theorem passes_yes (b g n cap k : Nat) (f : Nat → Tok) (c bad op : Int) (w : World) (h : Wy w b g n cap k 0 bad op) (ht : Tk w g n f) (hk : k < n) (_hn : n ≤ 2000) (hc0 : 0 ≤ c) (hc1 : c ≤ 255) (he : rk (f k).c = c) :
    Calls Tryd.prog 53 #[.pointer (some ⟨b, 0, none⟩), .int .u8 c] w fun e w' => e = .returned (.bool true) ∧ Wy w' b g n cap (k + 1) 0 bad op ∧ Fr [b] w w' := by
  obtain ⟨c0, c1, c2, c3, c4⟩ := h.cells
  obtain ⟨f0, f1, f2, f3, f4⟩ := h.free
  obtain ⟨d0, d1, d2, d3⟩ := ht.cells hk
  rw [he] at d0
  have i0 : (0 : Int) ≤ (k : Int) := by omega
  have i1 : (k : Int) < (n : Int) := by omega
  have H := hideR h
  clear he h ht
  go_enter Tryd.func53, Tryd.ntmps53
  go_wp2
  go_quiet (fail)
  go_wp2
  go_ret
  refine ⟨rfl, ?_, ((Fr.refl [b] w).drewN _).setCell _ _ (by simp)⟩
  have e : (((k + 1 : Nat) : Int)) = (k : Int) + 1 := by omega
  unfold Wy
  rw [e]
  exact Blk.set (by exact H.out) 1 _

set_option maxRecDepth 100000 in
set_option maxHeartbeats 1000000 in
theorem wend_ok (b g n cap k : Nat) (f : Nat → Tok) (x bad op : Int) (w : World) (h : Wy w b g n cap k x bad op) (ht : Tk w g n f) (hk : k < n) (_hn : n ≤ 2000) (he : rk (f k).c = 6) :
    Calls Tryd.prog 30 #[.pointer (some ⟨b, 0, none⟩)] w fun e w' => e = .returned (.tuple #[]) ∧ Wy w' b g n cap k x bad op ∧ Fr [b] w w' := by
  obtain ⟨c0, c1, c2, c3, c4⟩ := h.cells
  obtain ⟨d0, d1, d2, d3⟩ := ht.cells hk
  rw [he] at d0
  have i0 : (0 : Int) ≤ (k : Int) := by omega
  have i1 : (k : Int) < (n : Int) := by omega
  have H := hideR h
  clear he h ht
  go_enter Tryd.func30, Tryd.ntmps30
  go_wp2
  go_quiet (fail)
  go_wp2
  go_end0
  exact ⟨rfl, H.out, (Fr.refl [b] w).drewN _⟩

set_option maxRecDepth 100000 in
set_option maxHeartbeats 1000000 in
theorem wend_first (b g n cap k : Nat) (f : Nat → Tok) (bad op : Int) (w : World) (h : Wy w b g n cap k 0 bad op) (ht : Tk w g n f) (hk : k < n) (_hn : n ≤ 2000) (he : rk (f k).c ≠ 6) :
    Calls Tryd.prog 30 #[.pointer (some ⟨b, 0, none⟩)] w fun e w' => e = .returned (.tuple #[]) ∧ Wy w' b g n cap k 4 (f k).at' op ∧ Fr [b] w w' := by
  obtain ⟨c0, c1, c2, c3, c4⟩ := h.cells
  obtain ⟨d0, d1, d2, d3⟩ := ht.cells hk
  have q : (rk (f k).c != 6) = true := by rw [bne_iff_ne]; exact he
  have i0 : (0 : Int) ≤ (k : Int) := by omega
  have i1 : (k : Int) < (n : Int) := by omega
  have H := hideR h
  clear he h ht
  go_enter Tryd.func30, Tryd.ntmps30
  go_wp2
  go_quiet (fail)
  go_wp2
  refine region_quiet_tail 12 (by kernel_rfl) (by kernel_rfl) ?_
  simp only [List.take_succ_cons, List.take_zero, List.drop_succ_cons, List.drop_zero]
  repeat (first | go_big_quiet_step ((fail)) | quiet_step ((fail)))
  refine wpQuiet_nil ?_
  rintro _ ⟨nr, rfl⟩
  go_wp2_with fail
  refine (wrong_first b g n cap k _ _ bad op _ (by exact H.out)).mono ?_
  rintro e w1 ⟨rfl, h1, hf1⟩
  go_wp2
  go_end0
  exact ⟨rfl, h1, ((Fr.refl [b] w).drewN _).trans hf1 (by simp)⟩

set_option maxRecDepth 100000 in
set_option maxHeartbeats 1000000 in
theorem wend_later (b g n cap k : Nat) (f : Nat → Tok) (x bad op : Int) (w : World) (h : Wy w b g n cap k x bad op) (ht : Tk w g n f) (hk : k < n) (_hn : n ≤ 2000) (hx : x ≠ 0) :
    Calls Tryd.prog 30 #[.pointer (some ⟨b, 0, none⟩)] w fun e w' => e = .returned (.tuple #[]) ∧ Wy w' b g n cap k x bad op ∧ Fr [b] w w' := by
  by_cases he : rk (f k).c = 6
  · exact wend_ok b g n cap k f x bad op w h ht hk _hn he
  obtain ⟨c0, c1, c2, c3, c4⟩ := h.cells
  obtain ⟨d0, d1, d2, d3⟩ := ht.cells hk
  have q : (rk (f k).c != 6) = true := by rw [bne_iff_ne]; exact he
  have i0 : (0 : Int) ≤ (k : Int) := by omega
  have i1 : (k : Int) < (n : Int) := by omega
  have H := hideR h
  have HX := hideR hx
  clear he h ht hx
  go_enter Tryd.func30, Tryd.ntmps30
  go_wp2
  go_quiet (fail)
  go_wp2
  refine region_quiet_tail 12 (by kernel_rfl) (by kernel_rfl) ?_
  simp only [List.take_succ_cons, List.take_zero, List.drop_succ_cons, List.drop_zero]
  repeat (first | go_big_quiet_step ((fail)) | quiet_step ((fail)))
  refine wpQuiet_nil ?_
  rintro _ ⟨nr, rfl⟩
  go_wp2_with fail
  refine (wrong_later b g n cap k _ _ x bad op _ (by exact H.out) HX.out).mono ?_
  rintro e w1 ⟨rfl, rfl⟩
  go_wp2
  go_end0
  exact ⟨rfl, H.out, (Fr.refl [b] w).drewN _⟩
end Go.Proofs.YthlmgpllapccfaaDoor
/- THE PROGRAM's POLYNOMIALS: At. -/
namespace Go.Proofs.YthlmgpllapccfaaDoor
open Go.RowKit

def atH (p : List Nat) (a x m : Nat) : Nat → Nat := fun i => if i < x then horn (rowN p i) 7 a 7 else if i = x then horn (rowN p i) 7 a m else 0
theorem upL_congr {g d : Nat → Nat} (h : ∀ i, i < 5 → g i = d i) : upL g = upL d := by
  unfold upL; rw [h 0 (by omega), h 1 (by omega), h 2 (by omega), h 3 (by omega), h 4 (by omega)]
theorem atH_roll (p : List Nat) (a x : Nat) : upL (atH p a x 7) = upL (atH p a (x + 1) 0) := upL_congr (fun i _ => by
  unfold atH
  by_cases h1 : i < x
  · rw [if_pos h1, if_pos (by omega)]
  · rw [if_neg h1]
    by_cases h2 : i = x
    · rw [if_pos h2, if_pos (by omega)]
    · rw [if_neg h2, if_neg (by omega)]
      split <;> simp [horn])
theorem atH_step (p : List Nat) (a x m : Nat) (hx : x < 5) : (upL (atH p a x m)).set (x * 7) (horn (rowN p x) 7 a (m + 1)) = upL (atH p a x (m + 1)) := by
  apply upL_set _ _ hx
  · unfold atH; rw [if_neg (by omega), if_pos rfl]
  · intro i hi; unfold atH; simp [hi]
theorem atH_at (p : List Nat) (a x m : Nat) (hx : x < 5) : (upL (atH p a x m)).getD (x * 7) 0 = horn (rowN p x) 7 a m := by
  rw [upL_at _ hx]; unfold atH; rw [if_neg (by omega), if_pos rfl]
theorem atH_end (p : List Nat) (a : Nat) : upL (atH p a 5 0) = upL (lnF a p) := upL_congr (fun i hi => by
  unfold atH lnF
  rw [if_pos hi, if_pos hi, horn_pows])
theorem atH_zero (p : List Nat) (a : Nat) : upL (atH p a 0 0) = zeros := rfl
theorem lnF_good (a : Nat) (p : List Nat) : Good (upL (lnF a p)) := upL_good (fun i _ => (lnF_vec a p i).1)

/-- A row of a polynomial. -/
def rowL (p : List Nat) (x : Nat) : List Nat := (p.drop (x * 7)).take 7
theorem rowL_len {p : List Nat} (hp : Good p) {x : Nat} (hx : x < 5) : (rowL p x).length = 7 := by
  unfold rowL; rw [List.length_take, List.length_drop, hp.1]; omega
theorem rowL_at {p : List Nat} {x j : Nat} (hj : j < 7) : (rowL p x).getD j 0 = rowN p x j := by
  unfold rowL rowN
  rw [List.getD_eq_getElem?_getD, List.getElem?_take, if_pos hj, List.getElem?_drop, ← List.getD_eq_getElem?_getD]
theorem rowL_pv {p : List Nat} (hp : Good p) {x : Nat} (hx : x < 5) : (pv p).extract (x * 7) (x * 7 + 7) = pv (rowL p x) := by
  apply Array.ext_getElem?
  intro j
  by_cases hj : j < 7
  · rw [Array.getElem?_extract, if_pos (by rw [pv_size, hp.1]; omega), pv_get (by rw [hp.1]; omega), pv_get (by rw [rowL_len hp hx]; exact hj), rowL_at hj]; rfl
  · rw [Array.getElem?_eq_none (by simp; omega), Array.getElem?_eq_none (by rw [pv_size, rowL_len hp hx]; omega)]
theorem idx_row {p : List Nat} (hp : Good p) {x : Nat} (hx : x < 5) (w : World) : (Instr.index 37 (.agg (pv p)) (.int .i64 (x : Int))).run Tryd.prog w = .ok (.agg (pv (rowL p x))) w := by
  obtain ⟨i, hi⟩ := info_some (P := Tryd.prog) (t := 35) (by kernel_rfl)
  have hs : i.size = 7 := by
    have h7 : (Tryd.prog.info? 35).map (·.size) = some 7 := by kernel_rfl
    rw [hi] at h7; simpa using h7
  simp [Instr.index, asIntOf, run_underlying Tryd.underlying37, sizeOf, typeInfo, hi, hs, part_row, rowL_pv hp hx]
  intro h; omega
theorem size_rowP {l : List Nat} (hl : l.length = 7) : (Tryd.prog.info? 35).map (·.size) = some (pv l).size := by rw [pv_size, hl]; kernel_rfl

set_option maxRecDepth 100000 in
set_option maxHeartbeats 800000 in
theorem At_any (p : List Nat) (A : Int) (a : Nat) (w : World) (hp : Good p) (hA : A % 7 = a) (ha : a < 7) :
    Calls Tryd.prog 32 #[.agg (pv p), .int .i64 A] w fun e w' => e = .returned (.agg (pv (upL (lnF a p)))) ∧ Below w.heap.size w w' := by
  have HA := hidV hA
  clear hA
  obtain ⟨R, HR⟩ : ∃ R, Hid (upL (lnF a p) = R) := ⟨_, hidV rfl⟩
  have hgr := lnF_good a p
  rw [HR.out] at hgr ⊢
  obtain ⟨z, HZ, hzl⟩ : ∃ z : List Nat, Hid (z = zeros) ∧ z.length = 35 := ⟨_, hidV rfl, rfl⟩
  have hzp : pv z = pv zeros := by rw [HZ.out]
  go_enter Tryd.func32, Tryd.ntmps32
  go_upto_region 3 with ((go_at_call 33; refine (Mod_any _ _).mono ?_; rintro e w1 ⟨rfl, rfl⟩))
  rw [HA.out]
  refine wp_forget (fun W => Blk W w.heap.size (pv p) 37 ∧ Blk W (w.heap.size + 1) (pv z) 37 ∧ Blk W (w.heap.size + 1 + 1) (pv (upL (atH p a 0 0))) 37 ∧ Below w.heap.size w W) ⟨Blk.alloc (Blk.alloc (Blk.new w _ _) _) _, by rw [hzp]; exact Blk.alloc (Blk.newAt _ _ _ (by simp)) _, by rw [atH_zero]; exact Blk.newAt _ _ _ (by simp), by go_grown⟩ ?_
  rintro W ⟨b1, b2, b3, hbel⟩
  have HH := hidV (And.intro b1 (And.intro b2 (And.intro b3 hbel)))
  clear b1 b2 b3 hbel hzp
  go_wp2_with (refine wpList_load_row (by rfl) 37 _ (by rfl) w.heap.size (by rfl) 37 (pv p) (0, 0) _ (by exact HH.out.1) Tryd.underlying37 (by rfl) (size_poly hp) ?_)
  go_loopg [12] 5 (fun gm v12 wr => ∃ x : Nat, gm = 5 - x ∧ x ≤ 5 ∧ v12 = .int .i64 x ∧ Hid (Blk wr (w.heap.size + 1) (pv z) 37 ∧ Blk wr (w.heap.size + 1 + 1) (pv (upL (atH p a x 0))) 37 ∧ Below w.heap.size w wr))
  case atStart => exact ⟨0, rfl, by omega, rfl, HH.out.2⟩
  case round =>
    obtain ⟨x, hgm, hx, rfl, HD⟩ := hrel
    clear HH W
    by_cases h5 : x < 5
    · have x0 : (0 : Int) ≤ (x : Int) := by omega
      have x1 : (x : Int) < 5 := by omega
      have hps : (pv p).size = 35 := by rw [pv_size]; exact hp.1
      have hidx := fun (w' : World) => idx_row hp h5 w'
      have hrl := rowL_len hp h5
      have HRA := hidV (fun (j : Nat) (hj : j < 7) => rowL_at (p := p) (x := x) hj)
      obtain ⟨RL, HRL⟩ : ∃ RL, Hid (rowL p x = RL) := ⟨_, hidV rfl⟩
      rw [HRL.out] at hrl HRA
      have hidx2 : ∀ w', (Instr.index 37 (.agg (pv p)) (.int .i64 (x : Int))).run Tryd.prog w' = .ok (.agg (pv RL)) w' := fun w' => by rw [← HRL.out]; exact hidx w'
      clear hidx
      go_upto_region 7 with (refine wpList_store_mid (by rfl) 35 _ _ (by rfl) wr.heap.size 0 (pv RL) (by rfl) (by rfl) (by exact Blk.there (Blk.new wr _ _) (by rw [pv_size, hrl]; decide)) (size_rowP hrl) (pv_one _) ?_)
      refine wp_forget (fun W => Blk W wr.heap.size (pv RL) 35 ∧ Blk W (w.heap.size + 1) (pv z) 37 ∧ Blk W (w.heap.size + 1 + 1) (pv (upL (atH p a x 0))) 37 ∧ Below w.heap.size w W) ?_ ?_
      · have hf : Fr [wr.heap.size] wr ((wr.alloc (.cells (pv [0, 0, 0, 0, 0, 0, 0]) 35)).setCells wr.heap.size 0 (pv RL).toList) := Fr.setCells (Fr.alloc (Fr.refl _ _) _) _ _ _ (Or.inl (by simp))
        have hl1 := HD.out.1.lt
        have hl2 := HD.out.2.1.lt
        exact ⟨Blk.setAll (Blk.new wr _ _) _ (by rw [pv_size, hrl]; rfl), HD.out.1.fr hf (by simp; omega), HD.out.2.1.fr hf (by simp; omega), HD.out.2.2.trans (hf.below (B := w.heap.size) HD.out.2.2.size (by simp; exact HD.out.2.2.size))⟩
      rintro V ⟨v1, v2, v3, v4⟩
      have hBl : w.heap.size + 1 + 1 < wr.heap.size := HD.out.2.1.lt
      have HV := hidV (And.intro v1 (And.intro v2 (And.intro v3 v4)))
      clear v1 v2 v3 v4 HD
      generalize wr.heap.size = B at *
      go_loopg [8] 7 (fun gm v8 wr => ∃ m : Nat, gm = 7 - m ∧ m ≤ 7 ∧ v8 = .int .i64 (((7 - m : Nat) : Int) - 1) ∧ Hid (Blk wr B (pv RL) 35 ∧ Blk wr (w.heap.size + 1) (pv z) 37 ∧ Blk wr (w.heap.size + 1 + 1) (pv (upL (atH p a x m))) 37 ∧ Below w.heap.size w wr))
      case atStart => exact ⟨0, rfl, by omega, rfl, HV⟩
      case round =>
        obtain ⟨m, hgm2, hm, rfl, HE⟩ := hrel
        clear HV V
        by_cases h7 : m < 7
        · obtain ⟨j, hj⟩ : ∃ j : Nat, 7 - m = j + 1 := ⟨6 - m, by omega⟩
          have hj6 : j < 7 := by omega
          have e2 : (((7 - m : Nat) : Int) - 1) = (j : Int) := by omega
          rw [e2]
          have HS2 : Hid (horn (rowN p x) 7 a (m + 1) = (horn (rowN p x) 7 a m * a + rowN p x j) % 7) := by
            unfold Hid
            rw [horn, show 7 - 1 - m = j by omega]
          have HM1 : Hid ((((7 - (m + 1) : Nat) : Int) - 1) = (j : Int) - 1) := by unfold Hid; omega
          clear e2 hj
          have HST := hidV (atH_step p a x m h5)
          have hlt := horn_lt (rowN p x) 7 a m
          have hc1 : wr.cell? ⟨w.heap.size + 1 + 1, x * 7, none⟩ = some (.int .i64 (horn (rowN p x) 7 a m)) := by rw [HE.out.2.2.1.cell, ← atH_at p a x m h5]; exact pv_get (by rw [upL_len]; omega)
          have hc2 : wr.frozen? ⟨w.heap.size + 1 + 1, x * 7, none⟩ = false := HE.out.2.2.1.frozen _
          have hc3 : wr.cell? ⟨B, j, none⟩ = some (.int .i64 (rowN p x j)) := by rw [HE.out.1.cell, ← HRA.out j hj6]; exact pv_get (by rw [hrl]; exact hj6)
          have hv7 : rowN p x j < 7 := hp.2 (x * 7 + j)
          have hpb := prod_bd hlt ha
          have j0 : (0 : Int) ≤ (j : Int) := by omega
          have j1 : (j : Int) < 7 := by omega
          generalize rowN p x j = v at *
          generalize horn (rowN p x) 7 a m = G at *
          go_wp2
          refine region_quiet_tail 14 (by kernel_rfl) (by kernel_rfl) ?_
          simp only [List.take_succ_cons, List.take_zero, List.drop_succ_cons, List.drop_zero]
          repeat (first | go_big_quiet_step ((go_at_call 33; exact Calls.quiet_of_same (Mod_any _ _))) | quiet_step ((go_at_call 33; exact Calls.quiet_of_same (Mod_any _ _))))
          refine wpQuiet_nil ?_
          rintro _ ⟨nq, rfl⟩
          go_wp2
          go_roundg (7 - (m + 1))
          case measure => omega
          case rel =>
            refine ⟨m + 1, rfl, by omega, by rw [HM1.out], ⟨?_, ?_, ?_, ?_⟩⟩
            · exact Blk.setOther (by exact HE.out.1) _ _ (by show ¬ B = w.heap.size + 1 + 1; omega)
            · exact Blk.setOther (by exact HE.out.2.1) _ _ (by show ¬ w.heap.size + 1 = w.heap.size + 1 + 1; omega)
            · rw [← HST.out, HS2.out]
              exact Blk.putN (by exact HE.out.2.2.1) _ _ _ (by simp)
            · exact Below.setCell (below_drewN HE.out.2.2.2 nq) (by show w.heap.size ≤ w.heap.size + 1 + 1; omega) _
        · have e7 : m = 7 := by omega
          subst e7
          go_wp2
          go_roundg (5 - (x + 1))
          case measure => omega
          case rel => exact ⟨x + 1, rfl, by omega, by go_num, by rw [← atH_roll]; exact HE.out.2⟩
    · have e5 : x = 5 := by omega
      subst e5
      have HE : Hid (Blk wr (w.heap.size + 1 + 1) (pv R) 37) := by unfold Hid; rw [← HR.out, ← atH_end]; exact HD.out.2.1
      go_wp2_with (first | (refine wpList_load_row (by rfl) 37 _ (by rfl) (w.heap.size + 1 + 1) (by rfl) 37 (pv R) (0, 0) _ (by exact HE.out) Tryd.underlying37 (by rfl) (size_poly hgr) ?_) | (refine wpList_store_mid (by rfl) 37 _ _ (by rfl) (w.heap.size + 1) 0 (pv R) (by rfl) (by rfl) (by exact Blk.there HD.out.1 (by rw [pv_size, pv_size, hgr.1, hzl]; exact Nat.le_refl _)) (size_poly hgr) (pv_one _) ?_))
      refine bodyPost_ret (results_cell_row Tryd.results32 _ _ (w.heap.size + 1) 37 (pv R) (0, 0) _ (by rfl) (Blk.setAll (by exact HD.out.1) _ (by rw [pv_size, pv_size, hgr.1, hzl])) Tryd.underlying37 rfl (size_poly hgr)) rfl ⟨rfl, ?_⟩
      exact Below.setCells HD.out.2.2 _ _ _ (by omega)
end Go.Proofs.YthlmgpllapccfaaDoor
/- THE PROGRAM's Value of a polynomial. -/
namespace Go.Proofs.YthlmgpllapccfaaDoor
open Go.RowKit

theorem valP_ln (p : List Nat) (a b : Nat) : valP p a b = horn (lnF a p) 5 b 5 := by
  unfold valP
  rw [horn_pows, horn_pows]
  exact pows_congr 5 (fun i hi => by unfold lnF; rw [if_pos hi, horn_pows]; rfl)

set_option maxRecDepth 100000 in
set_option maxHeartbeats 800000 in
theorem pVal_any (p : List Nat) (U X : Int) (a b : Nat) (w : World) (hp : Good p) (hU : U % 7 = a) (hX : X % 7 = b) (ha : a < 7) (hb : b < 7) :
    Calls Tryd.prog 19 #[.agg (pv p), .int .i64 U, .int .i64 X] w fun e w' => e = .returned (.int .i64 (valP p a b)) ∧ Below w.heap.size w w' := by
  rw [valP_ln]
  have HX := hidV hX
  have HAT := hidV (fun w' => At_any p U a w' hp hU ha)
  have hgl := lnF_good a p
  have HUA := hidV (fun (k : Nat) (h : k < 5) => upL_at (lnF a p) h)
  have hvec := lnF_vec a p
  obtain ⟨L, HL⟩ : ∃ L, Hid (upL (lnF a p) = L) := ⟨_, hidV rfl⟩
  rw [HL.out] at HAT hgl HUA
  clear hU hX
  generalize lnF a p = c at *
  go_enter Tryd.func19, Tryd.ntmps19
  go_upto_region 2 with (first | (refine wpList_load_row (by rfl) 37 _ (by rfl) w.heap.size (by rfl) 37 (pv p) (0, 0) _ (by exact Blk.new w _ _) Tryd.underlying37 (by rfl) (size_poly hp) ?_) | (go_at_call 32; refine (HAT.out _).mono ?_; rintro e w1 ⟨rfl, hb1⟩; have HB1 := hidV hb1; clear hb1) | (go_at_call 33; refine (Mod_any _ _).mono ?_; rintro e w2 ⟨rfl, rfl⟩) | (refine wpList_store_mid (by rfl) 37 _ _ (by rfl) w2.heap.size 0 (pv L) (by rfl) (by rfl) (by exact Blk.there (Blk.new w2 _ _) (by rw [pv_size, hgl.1]; decide)) (size_poly hgl) (pv_one _) ?_))
  rw [HX.out]
  have hw2 : w.heap.size < w2.heap.size := by have := HB1.out.size; simp at this; omega
  refine wp_forget (fun W => Blk W w2.heap.size (pv L) 37 ∧ Below w.heap.size w W) ⟨Blk.setAll (Blk.new w2 _ _) _ (by rw [pv_size, hgl.1]; rfl), Below.setCells (Below.alloc (Fr.below (bs := []) (((Fr.refl [] w).alloc _).trans (Fr.of_below (bs := []) HB1.out) (by simp)) (Nat.le_refl _) (by simp)) (by omega) _) _ _ _ (by omega)⟩ ?_
  rintro W ⟨b1, hbel⟩
  have HH := hidV (And.intro b1 hbel)
  clear b1 hbel HB1
  generalize w2.heap.size = B at *
  go_wp2
  go_loopg [8, 9] 5 (fun gm v8 v9 wr => ∃ k : Nat, gm = 5 - k ∧ k ≤ 5 ∧ v9 = .int .i64 (((5 - k : Nat) : Int) - 1) ∧ v8 = .int .i64 (horn c 5 b k) ∧ wr = W)
  case atStart => exact ⟨0, rfl, by omega, rfl, rfl, rfl⟩
  case round =>
    obtain ⟨k, hgm, hk, rfl, rfl, rfl⟩ := hrel
    by_cases h5 : k < 5
    · obtain ⟨i, hi⟩ : ∃ i : Nat, 5 - k = i + 1 := ⟨4 - k, by omega⟩
      have hi4 : i < 5 := by omega
      have e : (((5 - k : Nat) : Int) - 1) = (i : Int) := by omega
      rw [e]
      have HST : Hid (horn c 5 b (k + 1) = (horn c 5 b k * b + c i) % 7) := by unfold Hid; rw [horn, show 5 - 1 - k = i by omega]
      have HK1 : Hid ((((5 - (k + 1) : Nat) : Int) - 1) = (i : Int) - 1) := by unfold Hid; omega
      have hlt := horn_lt c 5 b k
      have hc : wr.cell? ⟨B, i * 7, none⟩ = some (.int .i64 (c i)) := by rw [HH.out.1.cell, ← HUA.out i hi4]; exact pv_get (by rw [hgl.1]; omega)
      have hc7 := (hvec i).1
      clear e hi
      generalize horn c 5 b k = G at *
      generalize c i = ci at *
      have hpb := prod_bd hlt hb
      have i0 : (0 : Int) ≤ (i : Int) := by omega
      have i1 : (i : Int) < 5 := by omega
      go_wp2_with (go_at_call 33; refine (Mod_any _ _).mono ?_; rintro e w3 ⟨rfl, rfl⟩)
      go_roundg (5 - (k + 1))
      case measure => omega
      case rel => exact ⟨k + 1, rfl, by omega, by rw [HK1.out], by rw [HST.out]; simp, rfl⟩
    · have e5 : k = 5 := by omega
      subst e5
      go_wp2
      go_ret
      exact ⟨rfl, HH.out.2⟩
end Go.Proofs.YthlmgpllapccfaaDoor
/- PLAIN: a stream of tokens, each of which begins where the one ahead of it ends. -/
namespace Go.Proofs.YthlmgpllapccfaaDoor

structure Str (s : ByteArray) (f : Nat → Tok) : Prop where
  step : ∀ k, tok s (f k).to = f (k + 1)
  facts : ∀ k, (f k).at' ≤ s.size ∧ (f k).to ≤ s.size ∧ (f k).v ≤ 99
  lt : ∀ {k}, (f k).c ≠ 0 → k < s.size

theorem Str.tk {s : ByteArray} {a : Nat} (h : a ≤ s.size) : Str s (tk s a) :=
  ⟨fun _ => rfl, fun k => by have := tk_facts h k; exact ⟨this.1, this.2.1, this.2.2.1⟩, fun hk => tk_lt h hk⟩
end Go.Proofs.YthlmgpllapccfaaDoor
/- THE PROGRAM's TOKENS: isDigit, digit, numberAt, powerAt, tokenAt. -/
namespace Go.Proofs.YthlmgpllapccfaaDoor
open Go.RowKit

set_option maxHeartbeats 400000 in
theorem isDigit_any (s : ByteArray) (i : Nat) (a : Int) (w : World) (ha : a = i) (_hs : s.size ≤ 1000) (_hi : i ≤ 1000) :
    Calls Tryd.prog 70 #[.string s, .int .i64 a] w fun e w' => e = .returned (.bool (isD s i)) ∧ w' = w := by
  subst ha
  by_cases h : i < s.size
  · have hb := byt_cast h
    by_cases h1 : 48 ≤ byt s i
    · by_cases h2 : byt s i ≤ 57
      · go_enter Tryd.func70, Tryd.ntmps70
        go_wp2
        go_ret
        exact ⟨by simp [isD, h1, h2]; omega, rfl⟩
      · go_enter Tryd.func70, Tryd.ntmps70
        go_wp2
        go_ret
        exact ⟨by simp [isD, h1, h2]; omega, rfl⟩
    · go_enter Tryd.func70, Tryd.ntmps70
      go_wp2
      go_ret
      exact ⟨by simp [isD, h1], rfl⟩
  · have hb := byt_ge h
    go_enter Tryd.func70, Tryd.ntmps70
    go_wp2
    go_ret
    exact ⟨by simp [isD, hb], rfl⟩

set_option maxHeartbeats 400000 in
theorem digit_any (s : ByteArray) (i : Nat) (a : Int) (w : World) (ha : a = i) (_hs : s.size ≤ 1000) (hd : isD s i = true) :
    Calls Tryd.prog 77 #[.string s, .int .i64 a] w fun e w' => e = .returned (.int .i64 ((byt s i : Int) - 48)) ∧ w' = w := by
  subst ha
  have hi := isD_in hd
  have hb := byt_cast hi
  rw [isD_iff] at hd
  obtain ⟨h1, h2⟩ := hd
  go_enter Tryd.func77, Tryd.ntmps77
  go_wp2
  go_ret
  exact ⟨by simp, rfl⟩

set_option maxHeartbeats 400000 in
theorem numberAt_any (s : ByteArray) (i : Nat) (a : Int) (w : World) (ha : a = i) (hs : s.size ≤ 1000) (hd : isD s i = true) :
    Calls Tryd.prog 71 #[.string s, .int .i64 a] w fun e w' => e = .returned (.agg #[.int .i64 1, .int .i64 (tokAt s i).at', .int .i64 (tokAt s i).to, .int .i64 (tokAt s i).v]) ∧ Below w.heap.size w w' := by
  subst ha
  have hi := isD_in hd
  have hD := (isD_iff s i).1 hd
  have ht : byt s i ≠ 256 := by omega
  by_cases h2 : isD s (i + 1) = true
  · have hi2 := isD_in h2
    have hD2 := (isD_iff s (i + 1)).1 h2
    have HT : Hid (tokAt s i = ⟨1, i, i + 2, 10 * (byt s i - 48) + (byt s (i + 1) - 48)⟩) := by unfold Hid tokAt; rw [if_neg ht, if_pos hd, if_pos h2]
    have H2 : Hid (isD s (i + 1) = true) := h2
    have H1 : Hid (isD s i = true) := hd
    clear hd ht
    go_enter Tryd.func71, Tryd.ntmps71
    go_wp2_with (first | (go_at_call 77; refine (digit_any s i _ _ (by rfl) (by omega) H1.out).mono ?_; rintro e w' ⟨rfl, rfl⟩) | (go_at_call 70; refine (isDigit_any s (i+1) _ _ (by omega) (by omega) (by omega)).mono ?_; rintro e w' ⟨rfl, rfl⟩))
    go_region_with (first | (go_at_call 77; refine (digit_any s (i+1) _ _ (by omega) (by omega) H2.out).mono ?_; rintro e w' ⟨rfl, rfl⟩))
    all_goals
      go_wp2
      go_returns
      exact ⟨by rw [HT.out]; dsimp only; exact ret4 (by omega) (by omega) (by omega) (by omega), by go_grown⟩
  · have HT : Hid (tokAt s i = ⟨1, i, i + 1, byt s i - 48⟩) := by unfold Hid tokAt; rw [if_neg ht, if_pos hd, if_neg h2]
    have H1 : Hid (isD s i = true) := hd
    have h2' : isD s (i + 1) = false := by simpa using h2
    clear hd ht h2
    go_enter Tryd.func71, Tryd.ntmps71
    go_wp2_with (first | (go_at_call 77; refine (digit_any s i _ _ (by rfl) (by omega) H1.out).mono ?_; rintro e w' ⟨rfl, rfl⟩) | (go_at_call 70; refine (isDigit_any s (i+1) _ _ (by omega) (by omega) (by omega)).mono ?_; rintro e w' ⟨rfl, rfl⟩))
    go_returns
    exact ⟨by rw [HT.out]; dsimp only; exact ret4 (by omega) (by omega) (by omega) (by omega), by go_grown⟩
end Go.Proofs.YthlmgpllapccfaaDoor
/- THE PROGRAM's TOKENS: powerAt. -/
namespace Go.Proofs.YthlmgpllapccfaaDoor
open Go.RowKit

/-- The program's kind of a token. -/
def pk (c : Nat) : Int := if c = 0 then 0 else if c = 1 then 1 else if c = 2 then 2 else if c = 3 then 3 else if 69 ≤ c ∧ c ≤ 94 then 4 else if c = 47 then 5 else if c = 49 then 6 else if c = 48 then 7 else if c = 65 then 8 else if c = 128 then 9 else if c = 42 then 10 else if c = 130 then 11 else if c = 44 then 12 else if c = 45 then 13 else if c = 95 then 14 else if c = 97 then 15 else 16

set_option maxHeartbeats 1000000 in
theorem kindOf_any (n : Nat) (w : World) (hn : n < 256) :
    Calls Tryd.prog 73 #[.int .u8 n] w fun e w' => e = .returned (.int .i64 (pk (n + 4))) ∧ w' = w := by
  have h0 : ¬ n + 4 = 0 := by omega
  have h1 : ¬ n + 4 = 1 := by omega
  have h2 : ¬ n + 4 = 2 := by omega
  have h3 : ¬ n + 4 = 3 := by omega
  by_cases hA : 65 ≤ n ∧ n ≤ 90
  · have HP : Hid (pk (n + 4) = 4) := by unfold Hid pk; rw [if_neg h0, if_neg h1, if_neg h2, if_neg h3, if_pos (by omega)]
    obtain ⟨ha, hb⟩ := hA
    go_enter Tryd.func73, Tryd.ntmps73
    go_wp2
    go_ret
    exact ⟨by rw [HP.out]; rfl, rfl⟩
  · by_cases hc : n = 43 ∨ n = 45 ∨ n = 44 ∨ n = 61 ∨ n = 124 ∨ n = 38 ∨ n = 126 ∨ n = 40 ∨ n = 41 ∨ n = 91 ∨ n = 93
    · rcases hc with rfl | rfl | rfl | rfl | rfl | rfl | rfl | rfl | rfl | rfl | rfl
      all_goals
        clear hn h0 h1 h2 h3 hA
        go_enter Tryd.func73, Tryd.ntmps73
        go_wp2
        go_ret
        exact ⟨rfl, rfl⟩
    · have HP : Hid (pk (n + 4) = 16) := by
        unfold Hid pk
        rw [if_neg h0, if_neg h1, if_neg h2, if_neg h3, if_neg (by omega), if_neg (by omega), if_neg (by omega), if_neg (by omega), if_neg (by omega), if_neg (by omega), if_neg (by omega), if_neg (by omega), if_neg (by omega), if_neg (by omega), if_neg (by omega), if_neg (by omega)]
      simp only [not_or] at hc
      obtain ⟨d1, d2, d3, d4, d5, d6, d7, d8, d9, d10, d11⟩ := hc
      by_cases ha : 65 ≤ n
      · have hb : ¬ n ≤ 90 := by omega
        clear h0 h1 h2 h3 hA
        go_enter Tryd.func73, Tryd.ntmps73
        go_wp2
        go_ret
        exact ⟨by rw [HP.out]; rfl, rfl⟩
      · clear h0 h1 h2 h3 hA
        go_enter Tryd.func73, Tryd.ntmps73
        go_wp2
        go_ret
        exact ⟨by rw [HP.out]; rfl, rfl⟩

set_option maxHeartbeats 400000 in
theorem powerAt_any (s : ByteArray) (i : Nat) (a k : Int) (w : World) (ha : a = i) (hs : s.size ≤ 1000) (hi : i < s.size) (hx : byt s i = 117 ∧ k = 2 ∨ byt s i = 120 ∧ k = 3) :
    Calls Tryd.prog 72 #[.string s, .int .i64 a, .int .i64 k] w fun e w' => e = .returned (.agg #[.int .i64 k, .int .i64 (tokAt s i).at', .int .i64 (tokAt s i).to, .int .i64 (tokAt s i).v]) ∧ Below w.heap.size w w' := by
  subst ha
  have h0 : byt s i ≠ 256 := by omega
  have h1 : ¬ isD s i = true := by rw [isD_iff]; omega
  by_cases h2 : isD s (i + 1) = true
  · have hi2 := isD_in h2
    have hD2 := (isD_iff s (i + 1)).1 h2
    have HT : Hid ((tokAt s i).at' = i ∧ (tokAt s i).to = i + 2 ∧ (tokAt s i).v = byt s (i + 1) - 48) := by
      unfold Hid tokAt
      rcases hx with ⟨hx, _⟩ | ⟨hx, _⟩ <;> simp [h1, h2, hx]
    have H2 : Hid (isD s (i + 1) = true) := h2
    clear h0 h1 hx
    go_enter Tryd.func72, Tryd.ntmps72
    go_wp2_with (first | (go_at_call 77; refine (digit_any s (i + 1) _ _ (by omega) (by omega) H2.out).mono ?_; rintro e w' ⟨rfl, rfl⟩) | (go_at_call 70; refine (isDigit_any s (i+1) _ _ (by omega) (by omega) (by omega)).mono ?_; rintro e w' ⟨rfl, rfl⟩))
    go_returns
    obtain ⟨e1, e2, e3⟩ := HT.out
    exact ⟨by rw [e1, e2, e3]; exact ret4 (by omega) (by omega) (by omega) (by omega), by go_grown⟩
  · have HT : Hid ((tokAt s i).at' = i ∧ (tokAt s i).to = i + 1 ∧ (tokAt s i).v = 1) := by
      unfold Hid tokAt
      rcases hx with ⟨hx, _⟩ | ⟨hx, _⟩ <;> simp [h1, h2, hx]
    have h2' : isD s (i + 1) = false := by simpa using h2
    clear h0 h1 hx h2
    go_enter Tryd.func72, Tryd.ntmps72
    go_wp2_with (first | (go_at_call 70; refine (isDigit_any s (i+1) _ _ (by omega) (by omega) (by omega)).mono ?_; rintro e w' ⟨rfl, rfl⟩))
    go_returns
    obtain ⟨e1, e2, e3⟩ := HT.out
    exact ⟨by rw [e1, e2, e3]; exact ret4 (by omega) (by omega) (by omega) (by omega), by go_grown⟩
end Go.Proofs.YthlmgpllapccfaaDoor
/- THE PROGRAM's TOKENS: tokenAt. -/
namespace Go.Proofs.YthlmgpllapccfaaDoor
open Go.RowKit

theorem kindOf_to (n : Nat) (x : Int) (w : World) (hx : x = n) (hn : n < 256) :
    Calls Tryd.prog 73 #[.int .u8 x] w fun e w' => e = .returned (.int .i64 (pk (n + 4))) ∧ w' = w := by subst hx; exact kindOf_any n w hn

set_option maxHeartbeats 1000000 in
theorem tokenAt_any (s : ByteArray) (i : Nat) (a : Int) (w : World) (ha : a = i) (hs : s.size ≤ 1000) (hi : i ≤ s.size) :
    Calls Tryd.prog 61 #[.string s, .int .i64 a] w fun e w' => e = .returned (.agg #[.int .i64 (pk (tok s i).c), .int .i64 (tok s i).at', .int .i64 (tok s i).to, .int .i64 (tok s i).v]) ∧ Below w.heap.size w w' := by
  subst ha
  go_enter Tryd.func61, Tryd.ntmps61
  go_wp2
  go_loop [1] (fun v => ∃ k : Nat, k ≤ s.size ∧ v = .int .i64 k ∧ Hid (skip s k = skip s i)) (fun v => s.size - (intOf v).toNat)
  case atStart => exact ⟨i, hi, rfl, rfl⟩
  case round =>
    obtain ⟨k, hk, rfl, HK⟩ := hrel
    by_cases hlt : k < s.size
    · have hb := byt_cast hlt
      by_cases hsp : byt s k = 32
      · have H2 : Hid (skip s (k + 1) = skip s i) := by unfold Hid; rw [← skip_space hsp]; exact HK.out
        go_wp2
        go_round
        case rel => exact ⟨k + 1, by omega, by go_num, H2⟩
        case measure => simp [intOf]; omega
      · have HT : Hid (tok s i = tokAt s k) := by unfold Hid tok; rw [← HK.out, skip_here hsp]
        have hsm := byt_small hlt
        have hz : byt s k ≠ 256 := by omega
        by_cases hd : isD s k = true
        · have HC : Hid (pk (tokAt s k).c = 1) := by
            unfold Hid tokAt; rw [if_neg hz, if_pos hd]; split <;> rfl
          have H1 : Hid (isD s k = true) := hd
          go_wp2_with (first | (go_at_call 70; refine (isDigit_any s k _ _ (by omega) (by omega) (by omega)).mono ?_; rintro e w' ⟨rfl, rfl⟩) | (go_at_call 71; refine (numberAt_any s k _ _ (by omega) (by omega) H1.out).mono ?_; rintro e w1 ⟨rfl, hbel⟩; obtain ⟨hc1, hf1⟩ := bcell hbel))
          have hbw := below_alloc hbel
          refine bodyPost_ret (v := .agg #[.int .i64 1, .int .i64 (tokAt s k).at', .int .i64 (tokAt s k).to, .int .i64 (tokAt s k).v]) (by simp [results, Tryd.results61, go_sem, hc1]) rfl ?_
          exact ⟨by rw [HT.out]; exact ret4 (by rw [HC.out]) rfl rfl rfl, by go_grown⟩
        · have hd' : isD s k = false := by simpa using hd
          by_cases hu : byt s k = 117
          · have HC : Hid (pk (tokAt s k).c = 2) := by
              unfold Hid tokAt; rw [if_neg hz, if_neg hd, if_pos hu]; split <;> rfl
            go_wp2_with (first | (go_at_call 70; refine (isDigit_any s k _ _ (by omega) (by omega) (by omega)).mono ?_; rintro e w' ⟨rfl, rfl⟩) | (go_at_call 72; refine (powerAt_any s k _ _ _ (by omega) (by omega) hlt (by omega)).mono ?_; rintro e w1 ⟨rfl, hbel⟩; obtain ⟨hc1, hf1⟩ := bcell hbel))
            have hbw := below_alloc hbel
            refine bodyPost_ret (v := .agg #[.int .i64 2, .int .i64 (tokAt s k).at', .int .i64 (tokAt s k).to, .int .i64 (tokAt s k).v]) (by simp [results, Tryd.results61, go_sem, hc1]) rfl ?_
            exact ⟨by rw [HT.out]; exact ret4 (by rw [HC.out]) rfl rfl rfl, by go_grown⟩
          · by_cases hx : byt s k = 120
            · have HC : Hid (pk (tokAt s k).c = 3) := by
                unfold Hid tokAt; rw [if_neg hz, if_neg hd, if_neg hu, if_pos hx]; split <;> rfl
              go_wp2_with (first | (go_at_call 70; refine (isDigit_any s k _ _ (by omega) (by omega) (by omega)).mono ?_; rintro e w' ⟨rfl, rfl⟩) | (go_at_call 72; refine (powerAt_any s k _ _ _ (by omega) (by omega) hlt (by omega)).mono ?_; rintro e w1 ⟨rfl, hbel⟩; obtain ⟨hc1, hf1⟩ := bcell hbel))
              have hbw := below_alloc hbel
              refine bodyPost_ret (v := .agg #[.int .i64 3, .int .i64 (tokAt s k).at', .int .i64 (tokAt s k).to, .int .i64 (tokAt s k).v]) (by simp [results, Tryd.results61, go_sem, hc1]) rfl ?_
              exact ⟨by rw [HT.out]; exact ret4 (by rw [HC.out]) rfl rfl rfl, by go_grown⟩
            · have HC : Hid (tokAt s k = ⟨byt s k + 4, k, k + 1, 0⟩) := by
                unfold Hid tokAt; rw [if_neg hz, if_neg hd, if_neg hu, if_neg hx]
              go_wp2_with (first | (go_at_call 70; refine (isDigit_any s k _ _ (by omega) (by omega) (by omega)).mono ?_; rintro e w' ⟨rfl, rfl⟩) | (go_at_call 73; refine (kindOf_any (byt s k) _ (by omega)).mono ?_; rintro e w' ⟨rfl, rfl⟩))
              go_returns
              exact ⟨by rw [HT.out, HC.out]; dsimp only; exact ret4 rfl (by omega) (by omega) (by omega), by go_grown⟩
    · have hz := byt_ge hlt
      have HT : Hid (tok s i = ⟨0, k, k, 0⟩) := by
        unfold Hid tok
        rw [← HK.out, skip_here (by omega)]; unfold tokAt; rw [if_pos hz]
      go_wp2
      go_returns
      exact ⟨by rw [HT.out]; exact ret4 rfl rfl rfl rfl, by go_grown⟩
end Go.Proofs.YthlmgpllapccfaaDoor
/- THE READER: take, fail, finish. -/
namespace Go.Proofs.YthlmgpllapccfaaDoor
open Go.RowKit

/-- A reader in memory: its text, the names, its next token, how much is open, whether x may not stand. -/
def Rd (w : World) (b : Nat) (s : ByteArray) (M : Value) (D : Int) (O : Bool) (t : Tok) : Prop := Blk w b #[.string s, M, .int .i64 (pk t.c), .int .i64 t.at', .int .i64 t.to, .int .i64 t.v, .int .i64 D, .bool O] 59
variable {M : Value} {D : Int} {O : Bool}
theorem Rd.cells {w : World} {b : Nat} {s : ByteArray} {t : Tok} (h : Rd w b s M D O t) : w.cell? ⟨b, 0, none⟩ = some (.string s) ∧ w.cell? ⟨b, 2, none⟩ = some (.int .i64 (pk t.c)) ∧ w.cell? ⟨b, 3, none⟩ = some (.int .i64 t.at') ∧ w.cell? ⟨b, 4, none⟩ = some (.int .i64 t.to) ∧ w.cell? ⟨b, 5, none⟩ = some (.int .i64 t.v) :=
  ⟨Blk.cell h 0, Blk.cell h 2, Blk.cell h 3, Blk.cell h 4, Blk.cell h 5⟩
theorem Rd.more {w : World} {b : Nat} {s : ByteArray} {t : Tok} (h : Rd w b s M D O t) : w.cell? ⟨b, 1, none⟩ = some M ∧ w.cell? ⟨b, 6, none⟩ = some (.int .i64 D) ∧ w.cell? ⟨b, 7, none⟩ = some (.bool O) :=
  ⟨Blk.cell h 1, Blk.cell h 6, Blk.cell h 7⟩
theorem Rd.free {w : World} {b : Nat} {s : ByteArray} {t : Tok} (h : Rd w b s M D O t) : w.frozen? ⟨b, 0, none⟩ = false ∧ w.frozen? ⟨b, 2, none⟩ = false ∧ w.frozen? ⟨b, 3, none⟩ = false ∧ w.frozen? ⟨b, 4, none⟩ = false ∧ w.frozen? ⟨b, 5, none⟩ = false :=
  ⟨Blk.frozen h 0, Blk.frozen h 2, Blk.frozen h 3, Blk.frozen h 4, Blk.frozen h 5⟩
theorem Rd.store {w : World} {b : Nat} {s : ByteArray} {t : Tok} (h : Rd w b s M D O t) (u : Tok) : Rd ((((w.setCell ⟨b, 2, none⟩ (.int .i64 (pk u.c))).setCell ⟨b, 3, none⟩ (.int .i64 u.at')).setCell ⟨b, 4, none⟩ (.int .i64 u.to)).setCell ⟨b, 5, none⟩ (.int .i64 u.v)) b s M D O u :=
  Blk.set (Blk.set (Blk.set (Blk.set h 2 _) 3 _) 4 _) 5 _
theorem Rd.setOther {w : World} {b : Nat} {s : ByteArray} {t : Tok} (h : Rd w b s M D O t) (p : Addr) (v : Value) (hn : b ≠ p.block) : Rd (w.setCell p v) b s M D O t := Blk.setOther h p v hn
def faulty (n at' : Int) : List PanicEntry := [{ v := .iface 80 (.agg #[.int .i64 n, .int .i64 at']), recovered := false }]

set_option maxHeartbeats 400000 in
theorem fail_any (n p : Int) (w : World) :
    Calls Tryd.prog 60 #[.int .i64 n, .int .i64 p] w fun e w' => e = .panicked (faulty n p) ∧ w' = w := by
  go_enter Tryd.func60, Tryd.ntmps60
  go_wp2
  exact ⟨rfl, rfl, rfl⟩

set_option maxHeartbeats 1000000 in
theorem take_any (s : ByteArray) (f : Nat → Tok) (k b : Nat) (w : World) (hs : s.size ≤ 1000) (ha : Str s f) (hr : Rd w b s M D O (f k)) :
    Calls Tryd.prog 39 #[.pointer (some ⟨b, 0, none⟩)] w fun e w' => e = .returned (.agg #[.int .i64 (pk (f k).c), .int .i64 (f k).at', .int .i64 (f k).to, .int .i64 (f k).v]) ∧ Rd w' b s M D O (f (k + 1)) ∧ Fr [b] w w' := by
  obtain ⟨c0, c1, c2, c3, c4⟩ := hr.cells
  obtain ⟨f0, f1, f2, f3, f4⟩ := hr.free
  have hb : b < w.heap.size := Blk.lt hr
  have hf := ha.facts k
  have n0 : ¬ b = w.heap.size := by omega
  have n1 : ¬ b = w.heap.size + 1 := by omega
  have HR : Hid (Rd w b s M D O (f k)) := hr
  have HK : Hid (tok s (f k).to = f (k + 1)) := ha.step k
  have hto := (ha.facts k).2.1
  clear hr
  clear ha
  generalize f (k + 1) = t1 at *
  generalize f k = t at *
  go_enter Tryd.func39, Tryd.ntmps39
  go_wp2
  go_region_held3 (fun w' => w'.cell? ⟨b, 0, none⟩ = some (.string s) ∧ w'.cell? ⟨w.heap.size + 1, 2, none⟩ = some (.int .i64 t.to)) (first | (go_keep; done) | (simp [*, World.cell?_setCell_far, cell_set_off]; done)) (first | (go_at_call 61; refine (tokenAt_any s t.to _ _ (by omega) (by omega) (by omega)).mono ?_; rintro e w1 ⟨rfl, hbel⟩; obtain ⟨hc1, hf1⟩ := bcell hbel; have HR1 : Hid (Rd w1 b s M D O t) := Blk.fr (by exact Blk.alloc (Blk.alloc HR.out _) _) (Fr.of_below (bs := []) hbel) (by simp); obtain ⟨d0, d1, d2, d3, d4⟩ := Rd.cells HR1.out; obtain ⟨g0, g1, g2, g3, g4⟩ := Rd.free HR1.out))
  go_wp2
  have hn : Blk w1 w.heap.size #[.int .i64 0, .int .i64 0, .int .i64 0, .int .i64 0] 57 := Blk.fr (by exact Blk.alloc (Blk.new w _ _) _) (Fr.of_below (bs := []) hbel) (by simp)
  have n0' : ¬ w.heap.size = b := fun e => n0 e.symm
  refine bodyPost_ret (results_cell_row Tryd.results39 _ _ w.heap.size 57 #[.int .i64 (pk t.c), .int .i64 t.at', .int .i64 t.to, .int .i64 t.v] (0, 0) _ (by rfl) (Blk.store4 (Blk.setOther (Blk.setOther (Blk.setOther (Blk.setOther hn _ _ n0') _ _ n0') _ _ n0') _ _ n0') _ _ _ _) Tryd.underlying57 rfl (by kernel_rfl)) rfl ⟨rfl, ?_, ?_⟩
  · rw [← HK.out]
    exact ((((Rd.store HR1.out (tok s t.to)).setOther _ _ n0).setOther _ _ n0).setOther _ _ n0).setOther _ _ n0
  · have h1 : Fr [b] w w1 := ((((Fr.refl [b] w).alloc _).alloc _).drew).trans (Fr.of_below (bs := []) hbel) (by simp)
    repeat (refine Fr.setCell ?_ _ _ (by simp))
    exact h1

set_option maxHeartbeats 1000000 in
theorem expect_ok (s : ByteArray) (f : Nat → Tok) (k b : Nat) (K : Int) (w : World) (hs : s.size ≤ 1000) (ha : Str s f) (hr : Rd w b s M D O (f k)) (hc : pk (f k).c = K) :
    Calls Tryd.prog 38 #[.pointer (some ⟨b, 0, none⟩), .int .i64 K] w fun e w' => e = .returned (.agg #[.int .i64 K, .int .i64 (f k).at', .int .i64 (f k).to, .int .i64 (f k).v]) ∧ Rd w' b s M D O (f (k + 1)) ∧ Fr [b] w w' := by
  obtain ⟨c0, c1, c2, c3, c4⟩ := hr.cells
  have HR : Hid (Rd w b s M D O (f k)) := hr
  have hb : b < w.heap.size := Blk.lt hr
  rw [hc] at c1
  have HC : Hid (pk (f k).c = K) := hc
  clear hr hc
  go_enter Tryd.func38, Tryd.ntmps38
  go_wp2_with fail
  refine (take_any s f k b _ (by omega) ha (by exact Blk.alloc HR.out _)).mono ?_
  rintro e w1 ⟨rfl, hr1, hfr⟩
  rw [HC.out]
  have hq : Blk w1 w.heap.size #[.int .i64 0, .int .i64 0, .int .i64 0, .int .i64 0] 57 := Blk.fr (by exact Blk.new w _ _) hfr (by simp; omega)
  obtain ⟨q0, q1, q2, q3⟩ : w1.cell? ⟨w.heap.size, 0, none⟩ = some (.int .i64 0) ∧ w1.cell? ⟨w.heap.size, 1, none⟩ = some (.int .i64 0) ∧ w1.cell? ⟨w.heap.size, 2, none⟩ = some (.int .i64 0) ∧ w1.cell? ⟨w.heap.size, 3, none⟩ = some (.int .i64 0) := ⟨hq.cell 0, hq.cell 1, hq.cell 2, hq.cell 3⟩
  obtain ⟨g0, g1, g2⟩ := hq.free3
  have g3 := hq.frozen 3
  have n0 : b ≠ w.heap.size := by omega
  go_wp2
  refine bodyPost_ret (results_cell_row Tryd.results38 _ _ w.heap.size 57 #[.int .i64 K, .int .i64 (f k).at', .int .i64 (f k).to, .int .i64 (f k).v] (0, 0) _ (by rfl) (Blk.store4 hq _ _ _ _) Tryd.underlying57 rfl (by kernel_rfl)) rfl ⟨rfl, ?_, ?_⟩
  · exact (((hr1.setOther _ _ n0).setOther _ _ n0).setOther _ _ n0).setOther _ _ n0
  · repeat (refine Fr.setCell ?_ _ _ (by simp))
    exact ((Fr.refl [b] w).alloc _).trans hfr (by simp)

set_option maxHeartbeats 1000000 in
theorem expect_not (s : ByteArray) (t : Tok) (b : Nat) (K : Int) (w : World) (hr : Rd w b s M D O t) (hc : pk t.c ≠ K) :
    Calls Tryd.prog 38 #[.pointer (some ⟨b, 0, none⟩), .int .i64 K] w fun e w' => e = .panicked (faulty 4 t.at') ∧ Fr [b] w w' := by
  obtain ⟨c0, c1, c2, c3, c4⟩ := hr.cells
  have hb : b < w.heap.size := Blk.lt hr
  have q : (pk t.c != K) = true := by rw [bne_iff_ne]; exact hc
  clear hr hc
  go_enter Tryd.func38, Tryd.ntmps38
  go_wp2_with fail
  refine (fail_any _ _ _).mono ?_
  rintro e w1 ⟨rfl, rfl⟩
  go_wp2
  exact ⟨rfl, rfl, (Fr.refl _ _).alloc _⟩
end Go.Proofs.YthlmgpllapccfaaDoor
/- THE READER: power. -/
namespace Go.Proofs.YthlmgpllapccfaaDoor
open Go.RowKit
variable {M : Value} {D : Int} {O : Bool}

set_option maxHeartbeats 2000000 in
theorem power_u0 (s : ByteArray) (f : Nat → Tok) (k b : Nat) (u x : Nat) (N : Int) (w : World) (hs : s.size ≤ 1000) (ha : Str s f) (hr : Rd w b s M D false (f k)) (hc : (f k).c = 2) (hu : u ≤ 6) (hx : x ≤ 4) :
    Calls Tryd.prog 62 #[.pointer (some ⟨b, 0, none⟩), .agg #[.int .i64 N, .int .i64 u, .int .i64 x]] w fun e w' =>
      (u + (f k).v ≤ 6 ∧ e = .returned (.agg #[.int .i64 N, .int .i64 ((u + (f k).v : Nat) : Int), .int .i64 (x : Int)]) ∧ Rd w' b s M D false (f (k + 1)) ∧ Fr [b] w w') ∨
      (¬ u + (f k).v ≤ 6 ∧ e = .panicked (faulty 5 (f k).at') ∧ Fr [b] w w') := by
  have hb : b < w.heap.size := Blk.lt hr
  have hf := ha.facts k
  have HR : Hid (Rd w b s M D false (f k)) := hr
  have HPK : Hid (pk (f k).c = 2) := by unfold Hid; rw [hc]; rfl
  have m0 : ¬ w.heap.size = b := by omega
  have m1 : ¬ w.heap.size + 1 = b := by omega
  have HFA := hidV ha
  clear hr hc ha

  by_cases hle : u + (f k).v ≤ 6
  all_goals
    go_enter Tryd.func62, Tryd.ntmps62
    go_wp2_with fail
    refine (take_any s f k b _ (by omega) HFA.out (by exact Blk.alloc (Blk.alloc HR.out _) _)).mono ?_
    rintro e w1 ⟨rfl, hr1, hfr⟩
    rw [HPK.out]
    have ht : Blk w1 w.heap.size #[.int .i64 N, .int .i64 (u : Int), .int .i64 (x : Int)] 65 := Blk.fr (by exact Blk.alloc (Blk.new w _ _) _) hfr (by simp [m0])
    have hq : Blk w1 (w.heap.size + 1) #[.int .i64 0, .int .i64 0, .int .i64 0] 65 := Blk.fr (by exact Blk.newAt _ _ _ (by simp)) hfr (by simp [m1])
    have HF1 : Hid (Fr [b] w w1) := (((Fr.refl [b] w).alloc _).alloc _).trans hfr (by simp)
    have hl1 : w.heap.size + 1 < w1.heap.size := hq.lt
    have hl0 : w.heap.size < w1.heap.size := by omega
    have hb1 : b < w1.heap.size := Blk.lt hr1
    obtain ⟨p0, p1, p2⟩ := ht.cells3
    obtain ⟨e0, e1, e2⟩ := ht.free3
    obtain ⟨q0, q1, q2⟩ := hq.cells3
    obtain ⟨g0, g1, g2⟩ := hq.free3
    have r7 := hr1.more.2.2
    have HQ := hidV hq
    have HR1 := hidV hr1
    clear ht hq hr1 hfr
    go_wp2_with (go_at_call 60; refine (fail_any _ _ _).mono ?_; rintro e w2 ⟨rfl, rfl⟩)
  · refine bodyPost_ret (results_cell_row Tryd.results62 _ _ (w.heap.size + 1) 65 #[.int .i64 N, .int .i64 ((u : Int) + ((f k).v : Int)), .int .i64 ((x : Int))] (0, 0) _ (by rfl) (Blk.alloc (Blk.store3 (HQ.out.setOther _ _ (by simp)) _ _ _) _) Tryd.underlying65 rfl (by kernel_rfl)) rfl (Or.inl ⟨hle, ret3 rfl (by omega) (by omega), ?_, ?_⟩)
    · exact Blk.alloc ((((Rd.setOther HR1.out _ _ (by simp; omega)).setOther _ _ (by simp; omega)).setOther _ _ (by simp; omega)).setOther _ _ (by simp; omega)) _
    · refine Fr.alloc ?_ _
      repeat (refine Fr.setCell ?_ _ _ (by simp))
      exact HF1.out
  · refine ⟨rfl, Or.inr ⟨hle, rfl, ?_⟩⟩
    refine Fr.alloc ?_ _
    repeat (refine Fr.setCell ?_ _ _ (by simp))
    exact HF1.out

set_option maxHeartbeats 2000000 in
theorem power_u1 (s : ByteArray) (f : Nat → Tok) (k b : Nat) (u x : Nat) (N : Int) (w : World) (hs : s.size ≤ 1000) (ha : Str s f) (hr : Rd w b s M D true (f k)) (hc : (f k).c = 2) (hu : u ≤ 6) (hx : x ≤ 4) :
    Calls Tryd.prog 62 #[.pointer (some ⟨b, 0, none⟩), .agg #[.int .i64 N, .int .i64 u, .int .i64 x]] w fun e w' =>
      (u + (f k).v ≤ 6 ∧ e = .returned (.agg #[.int .i64 N, .int .i64 ((u + (f k).v : Nat) : Int), .int .i64 (x : Int)]) ∧ Rd w' b s M D true (f (k + 1)) ∧ Fr [b] w w') ∨
      (¬ u + (f k).v ≤ 6 ∧ e = .panicked (faulty 5 (f k).at') ∧ Fr [b] w w') := by
  have hb : b < w.heap.size := Blk.lt hr
  have hf := ha.facts k
  have HR : Hid (Rd w b s M D true (f k)) := hr
  have HPK : Hid (pk (f k).c = 2) := by unfold Hid; rw [hc]; rfl
  have m0 : ¬ w.heap.size = b := by omega
  have m1 : ¬ w.heap.size + 1 = b := by omega
  have HFA := hidV ha
  clear hr hc ha

  by_cases hle : u + (f k).v ≤ 6
  all_goals
    go_enter Tryd.func62, Tryd.ntmps62
    go_wp2_with fail
    refine (take_any s f k b _ (by omega) HFA.out (by exact Blk.alloc (Blk.alloc HR.out _) _)).mono ?_
    rintro e w1 ⟨rfl, hr1, hfr⟩
    rw [HPK.out]
    have ht : Blk w1 w.heap.size #[.int .i64 N, .int .i64 (u : Int), .int .i64 (x : Int)] 65 := Blk.fr (by exact Blk.alloc (Blk.new w _ _) _) hfr (by simp [m0])
    have hq : Blk w1 (w.heap.size + 1) #[.int .i64 0, .int .i64 0, .int .i64 0] 65 := Blk.fr (by exact Blk.newAt _ _ _ (by simp)) hfr (by simp [m1])
    have HF1 : Hid (Fr [b] w w1) := (((Fr.refl [b] w).alloc _).alloc _).trans hfr (by simp)
    have hl1 : w.heap.size + 1 < w1.heap.size := hq.lt
    have hl0 : w.heap.size < w1.heap.size := by omega
    have hb1 : b < w1.heap.size := Blk.lt hr1
    obtain ⟨p0, p1, p2⟩ := ht.cells3
    obtain ⟨e0, e1, e2⟩ := ht.free3
    obtain ⟨q0, q1, q2⟩ := hq.cells3
    obtain ⟨g0, g1, g2⟩ := hq.free3
    have r7 := hr1.more.2.2
    have HQ := hidV hq
    have HR1 := hidV hr1
    clear ht hq hr1 hfr
    go_wp2_with (go_at_call 60; refine (fail_any _ _ _).mono ?_; rintro e w2 ⟨rfl, rfl⟩)
  · refine bodyPost_ret (results_cell_row Tryd.results62 _ _ (w.heap.size + 1) 65 #[.int .i64 N, .int .i64 ((u : Int) + ((f k).v : Int)), .int .i64 ((x : Int))] (0, 0) _ (by rfl) (Blk.alloc (Blk.store3 (HQ.out.setOther _ _ (by simp)) _ _ _) _) Tryd.underlying65 rfl (by kernel_rfl)) rfl (Or.inl ⟨hle, ret3 rfl (by omega) (by omega), ?_, ?_⟩)
    · exact Blk.alloc ((((Rd.setOther HR1.out _ _ (by simp; omega)).setOther _ _ (by simp; omega)).setOther _ _ (by simp; omega)).setOther _ _ (by simp; omega)) _
    · refine Fr.alloc ?_ _
      repeat (refine Fr.setCell ?_ _ _ (by simp))
      exact HF1.out
  · refine ⟨rfl, Or.inr ⟨hle, rfl, ?_⟩⟩
    refine Fr.alloc ?_ _
    repeat (refine Fr.setCell ?_ _ _ (by simp))
    exact HF1.out

set_option maxHeartbeats 2000000 in
theorem power_x0 (s : ByteArray) (f : Nat → Tok) (k b : Nat) (u x : Nat) (N : Int) (w : World) (hs : s.size ≤ 1000) (ha : Str s f) (hr : Rd w b s M D false (f k)) (hc : (f k).c = 3) (hu : u ≤ 6) (hx : x ≤ 4) :
    Calls Tryd.prog 62 #[.pointer (some ⟨b, 0, none⟩), .agg #[.int .i64 N, .int .i64 u, .int .i64 x]] w fun e w' =>
      (x + (f k).v ≤ 4 ∧ e = .returned (.agg #[.int .i64 N, .int .i64 (u : Int), .int .i64 ((x + (f k).v : Nat) : Int)]) ∧ Rd w' b s M D false (f (k + 1)) ∧ Fr [b] w w') ∨
      (¬ x + (f k).v ≤ 4 ∧ e = .panicked (faulty 5 (f k).at') ∧ Fr [b] w w') := by
  have hb : b < w.heap.size := Blk.lt hr
  have hf := ha.facts k
  have HR : Hid (Rd w b s M D false (f k)) := hr
  have HPK : Hid (pk (f k).c = 3) := by unfold Hid; rw [hc]; rfl
  have m0 : ¬ w.heap.size = b := by omega
  have m1 : ¬ w.heap.size + 1 = b := by omega
  have HFA := hidV ha
  clear hr hc ha

  by_cases hle : x + (f k).v ≤ 4
  all_goals
    go_enter Tryd.func62, Tryd.ntmps62
    go_wp2_with fail
    refine (take_any s f k b _ (by omega) HFA.out (by exact Blk.alloc (Blk.alloc HR.out _) _)).mono ?_
    rintro e w1 ⟨rfl, hr1, hfr⟩
    rw [HPK.out]
    have ht : Blk w1 w.heap.size #[.int .i64 N, .int .i64 (u : Int), .int .i64 (x : Int)] 65 := Blk.fr (by exact Blk.alloc (Blk.new w _ _) _) hfr (by simp [m0])
    have hq : Blk w1 (w.heap.size + 1) #[.int .i64 0, .int .i64 0, .int .i64 0] 65 := Blk.fr (by exact Blk.newAt _ _ _ (by simp)) hfr (by simp [m1])
    have HF1 : Hid (Fr [b] w w1) := (((Fr.refl [b] w).alloc _).alloc _).trans hfr (by simp)
    have hl1 : w.heap.size + 1 < w1.heap.size := hq.lt
    have hl0 : w.heap.size < w1.heap.size := by omega
    have hb1 : b < w1.heap.size := Blk.lt hr1
    obtain ⟨p0, p1, p2⟩ := ht.cells3
    obtain ⟨e0, e1, e2⟩ := ht.free3
    obtain ⟨q0, q1, q2⟩ := hq.cells3
    obtain ⟨g0, g1, g2⟩ := hq.free3
    have r7 := hr1.more.2.2
    have HQ := hidV hq
    have HR1 := hidV hr1
    clear ht hq hr1 hfr
    go_wp2_with (go_at_call 60; refine (fail_any _ _ _).mono ?_; rintro e w2 ⟨rfl, rfl⟩)
  · refine bodyPost_ret (results_cell_row Tryd.results62 _ _ (w.heap.size + 1) 65 #[.int .i64 N, .int .i64 ((u : Int)), .int .i64 ((x : Int) + ((f k).v : Int))] (0, 0) _ (by rfl) (Blk.alloc (Blk.store3 (HQ.out.setOther _ _ (by simp)) _ _ _) _) Tryd.underlying65 rfl (by kernel_rfl)) rfl (Or.inl ⟨hle, ret3 rfl (by omega) (by omega), ?_, ?_⟩)
    · exact Blk.alloc ((((Rd.setOther HR1.out _ _ (by simp; omega)).setOther _ _ (by simp; omega)).setOther _ _ (by simp; omega)).setOther _ _ (by simp; omega)) _
    · refine Fr.alloc ?_ _
      repeat (refine Fr.setCell ?_ _ _ (by simp))
      exact HF1.out
  · refine ⟨rfl, Or.inr ⟨hle, rfl, ?_⟩⟩
    refine Fr.alloc ?_ _
    repeat (refine Fr.setCell ?_ _ _ (by simp))
    exact HF1.out

theorem power_u (s : ByteArray) (f : Nat → Tok) (k b : Nat) (u x : Nat) (N : Int) (w : World) (hs : s.size ≤ 1000) (ha : Str s f) (hr : Rd w b s M D O (f k)) (hc : (f k).c = 2) (hu : u ≤ 6) (hx : x ≤ 4) :
    Calls Tryd.prog 62 #[.pointer (some ⟨b, 0, none⟩), .agg #[.int .i64 N, .int .i64 u, .int .i64 x]] w fun e w' =>
      (u + (f k).v ≤ 6 ∧ e = .returned (.agg #[.int .i64 N, .int .i64 ((u + (f k).v : Nat) : Int), .int .i64 (x : Int)]) ∧ Rd w' b s M D O (f (k + 1)) ∧ Fr [b] w w') ∨
      (¬ u + (f k).v ≤ 6 ∧ e = .panicked (faulty 5 (f k).at') ∧ Fr [b] w w') := by
  cases O
  · exact power_u0 s f k b u x N w hs ha hr hc hu hx
  · exact power_u1 s f k b u x N w hs ha hr hc hu hx

set_option maxHeartbeats 2000000 in
theorem power_x1 (s : ByteArray) (f : Nat → Tok) (k b : Nat) (u x : Nat) (N : Int) (w : World) (hs : s.size ≤ 1000) (ha : Str s f) (hr : Rd w b s M D true (f k)) (hc : (f k).c = 3) :
    Calls Tryd.prog 62 #[.pointer (some ⟨b, 0, none⟩), .agg #[.int .i64 N, .int .i64 u, .int .i64 x]] w fun e w' => e = .panicked (faulty 7 (f k).at') ∧ Fr [b] w w' := by
  have hb : b < w.heap.size := Blk.lt hr
  have hf := ha.facts k
  have HR : Hid (Rd w b s M D true (f k)) := hr
  have HPK : Hid (pk (f k).c = 3) := by unfold Hid; rw [hc]; rfl
  have HFA := hidV ha
  clear hr hc ha
  go_enter Tryd.func62, Tryd.ntmps62
  go_wp2_with fail
  refine (take_any s f k b _ (by omega) HFA.out (by exact Blk.alloc (Blk.alloc HR.out _) _)).mono ?_
  rintro e w1 ⟨rfl, hr1, hfr⟩
  rw [HPK.out]
  have HF1 : Hid (Fr [b] w w1) := (((Fr.refl [b] w).alloc _).alloc _).trans hfr (by simp)
  have hb1 : b < w1.heap.size := Blk.lt hr1
  have r7 := hr1.more.2.2
  clear hr1 hfr
  go_wp2_with (go_at_call 60; refine (fail_any _ _ _).mono ?_; rintro e w2 ⟨rfl, rfl⟩)
  exact ⟨rfl, rfl, HF1.out.alloc _⟩
end Go.Proofs.YthlmgpllapccfaaDoor
/- THE READER: term. -/
namespace Go.Proofs.YthlmgpllapccfaaDoor
open Go.RowKit
variable {M : Value} {D : Int} {O : Bool}

theorem pk_ne1 {c : Nat} (h : c ≠ 1) : (pk c == 1) = false := by
  rw [beq_eq_false_iff_ne]; unfold pk
  repeat' split
  all_goals omega
theorem pk_ne2 {c : Nat} (h : c ≠ 2) : (pk c == 2) = false := by
  rw [beq_eq_false_iff_ne]; unfold pk
  repeat' split
  all_goals omega
theorem pk_ne3 {c : Nat} (h : c ≠ 3) : (pk c == 3) = false := by
  rw [beq_eq_false_iff_ne]; unfold pk
  repeat' split
  all_goals omega
theorem power_uOk (s : ByteArray) (f : Nat → Tok) (k b : Nat) (u x : Nat) (N : Int) (w : World) (hs : s.size ≤ 1000) (ha : Str s f) (hr : Rd w b s M D O (f k)) (hc : (f k).c = 2) (hu : u ≤ 6) (hx : x ≤ 4) (h : u + (f k).v ≤ 6) :
    Calls Tryd.prog 62 #[.pointer (some ⟨b, 0, none⟩), .agg #[.int .i64 N, .int .i64 u, .int .i64 x]] w fun e w' =>
      e = .returned (.agg #[.int .i64 N, .int .i64 ((u + (f k).v : Nat) : Int), .int .i64 x]) ∧ Rd w' b s M D O (f (k + 1)) ∧ Fr [b] w w' :=
  (power_u s f k b u x N w hs ha hr hc hu hx).mono (by rintro e w1 (g | g); exact g.2; exact absurd h g.1)
theorem power_uBad (s : ByteArray) (f : Nat → Tok) (k b : Nat) (u x : Nat) (N : Int) (w : World) (hs : s.size ≤ 1000) (ha : Str s f) (hr : Rd w b s M D O (f k)) (hc : (f k).c = 2) (hu : u ≤ 6) (hx : x ≤ 4) (h : ¬ u + (f k).v ≤ 6) :
    Calls Tryd.prog 62 #[.pointer (some ⟨b, 0, none⟩), .agg #[.int .i64 N, .int .i64 u, .int .i64 x]] w fun e w' =>
      e = .panicked (faulty 5 (f k).at') ∧ Fr [b] w w' :=
  (power_u s f k b u x N w hs ha hr hc hu hx).mono (by rintro e w1 (g | g); exact absurd g.1 h; exact g.2)
theorem power_xOk (s : ByteArray) (f : Nat → Tok) (k b : Nat) (u x : Nat) (N : Int) (w : World) (hs : s.size ≤ 1000) (ha : Str s f) (hr : Rd w b s M D false (f k)) (hc : (f k).c = 3) (hu : u ≤ 6) (hx : x ≤ 4) (h : x + (f k).v ≤ 4) :
    Calls Tryd.prog 62 #[.pointer (some ⟨b, 0, none⟩), .agg #[.int .i64 N, .int .i64 u, .int .i64 x]] w fun e w' =>
      e = .returned (.agg #[.int .i64 N, .int .i64 u, .int .i64 ((x + (f k).v : Nat) : Int)]) ∧ Rd w' b s M D false (f (k + 1)) ∧ Fr [b] w w' :=
  (power_x0 s f k b u x N w hs ha hr hc hu hx).mono (by rintro e w1 (g | g); exact g.2; exact absurd h g.1)
theorem power_xBad (s : ByteArray) (f : Nat → Tok) (k b : Nat) (u x : Nat) (N : Int) (w : World) (hs : s.size ≤ 1000) (ha : Str s f) (hr : Rd w b s M D false (f k)) (hc : (f k).c = 3) (hu : u ≤ 6) (hx : x ≤ 4) (h : ¬ x + (f k).v ≤ 4) :
    Calls Tryd.prog 62 #[.pointer (some ⟨b, 0, none⟩), .agg #[.int .i64 N, .int .i64 u, .int .i64 x]] w fun e w' =>
      e = .panicked (faulty 5 (f k).at') ∧ Fr [b] w w' :=
  (power_x0 s f k b u x N w hs ha hr hc hu hx).mono (by rintro e w1 (g | g); exact absurd g.1 h; exact g.2)

theorem field_tok (x0 x1 x2 x3 : Int) (w : World) : (Instr.field 57 (.agg #[.int .i64 x0, .int .i64 x1, .int .i64 x2, .int .i64 x3]) 3).run Tryd.prog w = .ok (.int .i64 x3) w := by kernel_rfl
/-- What a term's reading ends in. -/
def TermPost (s : ByteArray) (f : Nat → Tok) (M : Value) (D : Int) (O : Bool) (b : Nat) (n : Nat) (R : PwR) (w : World) (e : Ending) (w' : World) : Prop :=
  (R.e = 0 ∧ e = .returned (.agg #[.int .i64 n, .int .i64 R.u, .int .i64 R.x]) ∧ Rd w' b s M D O (f R.k) ∧ Fr [b] w w') ∨ (R.e ≠ 0 ∧ e = .panicked (faulty R.e R.bad) ∧ Fr [b] w w')

set_option maxRecDepth 100000 in
set_option maxHeartbeats 2000000 in
theorem term_number (s : ByteArray) (f : Nat → Tok) (k b : Nat) (w : World) (hs : s.size ≤ 1000) (ha : Str s f) (hr : Rd w b s M D O (f k)) (hc : (f k).c = 1) :
    Calls Tryd.prog 40 #[.pointer (some ⟨b, 0, none⟩)] w (TermPost s f M D O b (f k).v (pw f O (s.size - (k + 1)) (k + 1) 0 0) w) := by
  obtain ⟨c0, c1, c2, c3, c4⟩ := hr.cells
  obtain ⟨f0, f1, f2, f3, f4⟩ := hr.free
  have hb : b < w.heap.size := Blk.lt hr
  have hf := ha.facts k
  have n0 : ¬ b = w.heap.size := by omega
  have n1 : ¬ b = w.heap.size + 1 := by omega
  have m0 : ¬ w.heap.size = b := by omega
  have m1 : ¬ w.heap.size + 1 = b := by omega
  have HR : Hid (Rd w b s M D O (f k)) := hr
  have hpk : pk (f k).c = 1 := by rw [hc]; rfl
  rw [hpk] at c1
  have HPK := hidV hpk
  generalize hR : pw f O (s.size - (k + 1)) (k + 1) 0 0 = R
  have HP : Hid (pw f O (s.size - (k + 1)) (k + 1) 0 0 = R) := hR
  have hfl := field_tok
  clear hr hpk hc hR
  go_enter Tryd.func40, Tryd.ntmps40
  go_wp2_with fail
  refine (expect_ok s f k b 1 _ (by omega) ha (by exact Blk.alloc (Blk.alloc HR.out _) _) HPK.out).mono ?_
  rintro e w1 ⟨rfl, hr1, hfr⟩
  have ht : Blk w1 (w.heap.size + 1) #[.int .i64 1, .int .i64 0, .int .i64 0] 65 := Blk.fr (by exact Blk.newAt _ _ _ (by simp)) hfr (by simp [m1])
  have hq : Blk w1 w.heap.size #[.int .i64 0, .int .i64 0, .int .i64 0] 65 := Blk.fr (by exact Blk.alloc (Blk.new w _ _) _) hfr (by simp [m0])
  have hf1 : Fr [b] w w1 := ((((Fr.refl [b] w).alloc _).alloc _)).trans hfr (by simp)
  obtain ⟨p0, p1, p2⟩ := ht.cells3
  obtain ⟨g0, g1, g2⟩ := ht.free3
  go_wp2
  clear c0 c1 c2 c3 c4 f0 f1 f2 f3 f4 p0 p1 p2 g0 g1 g2 hfl
  go_loopg [] (s.size - (k + 1)) (fun m wr => ∃ k' u x : Nat, m = s.size - k' ∧ u ≤ 6 ∧ x ≤ 4 ∧ Rd wr b s M D O (f k') ∧ Blk wr (w.heap.size + 1) #[.int .i64 ((f k).v : Nat), .int .i64 u, .int .i64 x] 65 ∧ Blk wr w.heap.size #[.int .i64 0, .int .i64 0, .int .i64 0] 65 ∧ Fr [b] w wr ∧ Hid (pw f O (s.size - k') k' u x = R))
  case atStart => exact ⟨k + 1, 0, 0, rfl, by omega, by omega, hr1.setOther _ _ n1, ht.set 0 _, hq.setOther _ _ (by simp), hf1.setCell _ _ (by simp), HP⟩
  case round =>
    obtain ⟨k', u, x, hm, hu, hx, hrd, htm, hrs, hfw, HQ⟩ := hrel
    have HRD : Hid (Rd wr b s M D O (f k')) := hrd
    obtain ⟨d0, d1, d2, d3, d4⟩ := hrd.cells
    obtain ⟨i0, i1, i2⟩ := htm.cells3
    have hf' := ha.facts k'
    clear hrd
    by_cases h2 : (f k').c = 2
    · have hp2 : pk (f k').c = 2 := by rw [h2]; rfl
      rw [hp2] at d1
      have hlt : k' < s.size := ha.lt (by omega)
      have H2 : Hid ((f k').c = 2) := h2
      clear h2 hp2
      by_cases hle : u + (f k').v ≤ 6
      · go_wp2_with fail
        refine (power_uOk s f k' b u x _ _ (by omega) ha HRD.out H2.out hu hx hle).mono ?_
        rintro e w2 ⟨rfl, hr2, hfr2⟩
        have ht2 := htm.fr hfr2 (by simp [m1])
        have hq2 := hrs.fr hfr2 (by simp [m0])
        obtain ⟨j0, j1, j2⟩ := ht2.cells3
        obtain ⟨l0, l1, l2⟩ := ht2.free3
        go_wp2
        go_roundg (s.size - (k' + 1))
        case measure => omega
        case rel =>
          refine ⟨k' + 1, u + (f k').v, x, rfl, hle, hx, ((hr2.setOther _ _ n1).setOther _ _ n1).setOther _ _ n1, Blk.store3 ht2 _ _ _, ((hq2.setOther _ _ (by simp)).setOther _ _ (by simp)).setOther _ _ (by simp), ?_, ?_⟩
          · repeat (refine Fr.setCell ?_ _ _ (by simp))
            exact hfw.trans hfr2 (by simp)
          · unfold Hid
            rw [← HQ.out, pw_u (by omega) H2.out hle]; congr 1
      · have HB : Hid (R = ⟨5, (f k').at', k', u, x⟩) := by unfold Hid; rw [← HQ.out, pw_u_bad (by omega) H2.out hle]
        go_wp2_with fail
        refine (power_uBad s f k' b u x _ _ (by omega) ha HRD.out H2.out hu hx hle).mono ?_
        rintro e w2 ⟨rfl, hfr2⟩
        go_wp2
        refine ⟨rfl, Or.inr ⟨?_, ?_, hfw.trans hfr2 (by simp)⟩⟩
        · rw [HB.out]; simp
        · rw [HB.out]; rfl
    · by_cases h3 : (f k').c = 3
      · have hp3 : pk (f k').c = 3 := by rw [h3]; rfl
        rw [hp3] at d1
        have hlt : k' < s.size := ha.lt (by omega)
        have H3 : Hid ((f k').c = 3) := h3
        clear h3 hp3 h2
        rcases Bool.eq_false_or_eq_true O with hO | hO
        · subst hO
          have HB : Hid (R = ⟨7, (f k').at', k', u, x⟩) := by unfold Hid; rw [← HQ.out, pw_x_bare (by omega) H3.out]
          go_wp2_with fail
          refine (power_x1 s f k' b u x _ _ (by omega) ha HRD.out H3.out).mono ?_
          rintro e w2 ⟨rfl, hfr2⟩
          go_wp2
          refine ⟨rfl, Or.inr ⟨?_, ?_, hfw.trans hfr2 (by simp)⟩⟩
          · rw [HB.out]; simp
          · rw [HB.out]; rfl
        · subst hO
          by_cases hle : x + (f k').v ≤ 4
          · go_wp2_with fail
            refine (power_xOk s f k' b u x _ _ (by omega) ha HRD.out H3.out hu hx hle).mono ?_
            rintro e w2 ⟨rfl, hr2, hfr2⟩
            have ht2 := htm.fr hfr2 (by simp [m1])
            have hq2 := hrs.fr hfr2 (by simp [m0])
            obtain ⟨j0, j1, j2⟩ := ht2.cells3
            obtain ⟨l0, l1, l2⟩ := ht2.free3
            go_wp2
            go_roundg (s.size - (k' + 1))
            case measure => omega
            case rel =>
              refine ⟨k' + 1, u, x + (f k').v, rfl, hu, hle, ((hr2.setOther _ _ n1).setOther _ _ n1).setOther _ _ n1, Blk.store3 ht2 _ _ _, ((hq2.setOther _ _ (by simp)).setOther _ _ (by simp)).setOther _ _ (by simp), ?_, ?_⟩
              · repeat (refine Fr.setCell ?_ _ _ (by simp))
                exact hfw.trans hfr2 (by simp)
              · unfold Hid
                rw [← HQ.out, pw_x (by omega) H3.out hle]; congr 1
          · have HB : Hid (R = ⟨5, (f k').at', k', u, x⟩) := by unfold Hid; rw [← HQ.out, pw_x_bad (by omega) H3.out hle]
            go_wp2_with fail
            refine (power_xBad s f k' b u x _ _ (by omega) ha HRD.out H3.out hu hx hle).mono ?_
            rintro e w2 ⟨rfl, hfr2⟩
            go_wp2
            refine ⟨rfl, Or.inr ⟨?_, ?_, hfw.trans hfr2 (by simp)⟩⟩
            · rw [HB.out]; simp
            · rw [HB.out]; rfl
      · have q2 := pk_ne2 h2
        have q3 := pk_ne3 h3
        have HB : Hid (R = ⟨0, 0, k', u, x⟩) := by unfold Hid; rw [← HQ.out, pw_end h2 h3]
        obtain ⟨o0, o1, o2⟩ := hrs.cells3
        obtain ⟨l0, l1, l2⟩ := hrs.free3
        clear h2 h3
        go_wp2
        refine bodyPost_ret (results_cell_row Tryd.results40 _ _ w.heap.size 65 _ (0, 0) _ (by rfl) (Blk.store3 hrs _ _ _) Tryd.underlying65 rfl (by kernel_rfl)) rfl (Or.inl ⟨?_, ?_, ?_, ?_⟩)
        · rw [HB.out]
        · first | (rw [HB.out]; done) | (rw [HB.out]; rfl)
        · rw [HB.out]; exact (((show Rd wr b s M D O (f k') from HRD.out).setOther _ _ n0).setOther _ _ n0).setOther _ _ n0
        · repeat (refine Fr.setCell ?_ _ _ (by simp))
          exact hfw

set_option maxRecDepth 100000 in
set_option maxHeartbeats 2000000 in
theorem term_power (s : ByteArray) (f : Nat → Tok) (k b : Nat) (w : World) (hs : s.size ≤ 1000) (ha : Str s f) (hr : Rd w b s M D O (f k)) (hc : (f k).c = 2 ∨ (f k).c = 3) :
    Calls Tryd.prog 40 #[.pointer (some ⟨b, 0, none⟩)] w (TermPost s f M D O b 1 (pw f O (s.size - k) k 0 0) w) := by
  obtain ⟨c0, c1, c2, c3, c4⟩ := hr.cells
  obtain ⟨f0, f1, f2, f3, f4⟩ := hr.free
  have hb : b < w.heap.size := Blk.lt hr
  have hf := ha.facts k
  have n0 : ¬ b = w.heap.size := by omega
  have n1 : ¬ b = w.heap.size + 1 := by omega
  have m0 : ¬ w.heap.size = b := by omega
  have m1 : ¬ w.heap.size + 1 = b := by omega
  have HR : Hid (Rd w b s M D O (f k)) := hr
  have hpk : pk (f k).c = 2 ∨ pk (f k).c = 3 := by rcases hc with h | h <;> rw [h] <;> simp [pk]
  generalize hR : pw f O (s.size - k) k 0 0 = R
  have HP : Hid (pw f O (s.size - k) k 0 0 = R) := hR
  clear hr hc hR
  rcases hpk with hpk | hpk
  all_goals
    rw [hpk] at c1
    clear hpk
    go_enter Tryd.func40, Tryd.ntmps40
    go_wp2
    clear c0 c1 c2 c3 c4 f0 f1 f2 f3 f4
    go_loopg [] (s.size - k) (fun m wr => ∃ k' u x : Nat, m = s.size - k' ∧ u ≤ 6 ∧ x ≤ 4 ∧ Rd wr b s M D O (f k') ∧ Blk wr (w.heap.size + 1) #[.int .i64 1, .int .i64 u, .int .i64 x] 65 ∧ Blk wr w.heap.size #[.int .i64 0, .int .i64 0, .int .i64 0] 65 ∧ Fr [b] w wr ∧ Hid (pw f O (s.size - k') k' u x = R))
    case atStart => exact ⟨k, 0, 0, rfl, by omega, by omega, Blk.alloc (Blk.alloc HR.out _) _, Blk.newAt _ _ _ (by simp), Blk.alloc (Blk.new w _ _) _, ((Fr.refl [b] w).alloc _).alloc _, HP⟩
    case round =>
      obtain ⟨k', u, x, hm, hu, hx, hrd, htm, hrs, hfw, HQ⟩ := hrel
      have HRD : Hid (Rd wr b s M D O (f k')) := hrd
      obtain ⟨d0, d1, d2, d3, d4⟩ := hrd.cells
      obtain ⟨i0, i1, i2⟩ := htm.cells3
      have hf' := ha.facts k'
      clear hrd
      by_cases h2 : (f k').c = 2
      · have hp2 : pk (f k').c = 2 := by rw [h2]; rfl
        rw [hp2] at d1
        have hlt : k' < s.size := ha.lt (by omega)
        have H2 : Hid ((f k').c = 2) := h2
        clear h2 hp2
        by_cases hle : u + (f k').v ≤ 6
        · go_wp2_with fail
          refine (power_uOk s f k' b u x _ _ (by omega) ha HRD.out H2.out hu hx hle).mono ?_
          rintro e w2 ⟨rfl, hr2, hfr2⟩
          have ht2 := htm.fr hfr2 (by simp [m1])
          have hq2 := hrs.fr hfr2 (by simp [m0])
          obtain ⟨j0, j1, j2⟩ := ht2.cells3
          obtain ⟨l0, l1, l2⟩ := ht2.free3
          go_wp2
          go_roundg (s.size - (k' + 1))
          case measure => omega
          case rel =>
            refine ⟨k' + 1, u + (f k').v, x, rfl, hle, hx, ((hr2.setOther _ _ n1).setOther _ _ n1).setOther _ _ n1, Blk.store3 ht2 _ _ _, ((hq2.setOther _ _ (by simp)).setOther _ _ (by simp)).setOther _ _ (by simp), ?_, ?_⟩
            · repeat (refine Fr.setCell ?_ _ _ (by simp))
              exact hfw.trans hfr2 (by simp)
            · unfold Hid
              rw [← HQ.out, pw_u (by omega) H2.out hle]; congr 1
        · have HB : Hid (R = ⟨5, (f k').at', k', u, x⟩) := by unfold Hid; rw [← HQ.out, pw_u_bad (by omega) H2.out hle]
          go_wp2_with fail
          refine (power_uBad s f k' b u x _ _ (by omega) ha HRD.out H2.out hu hx hle).mono ?_
          rintro e w2 ⟨rfl, hfr2⟩
          go_wp2
          refine ⟨rfl, Or.inr ⟨?_, ?_, hfw.trans hfr2 (by simp)⟩⟩
          · rw [HB.out]; simp
          · rw [HB.out]; rfl
      · by_cases h3 : (f k').c = 3
        · have hp3 : pk (f k').c = 3 := by rw [h3]; rfl
          rw [hp3] at d1
          have hlt : k' < s.size := ha.lt (by omega)
          have H3 : Hid ((f k').c = 3) := h3
          clear h3 hp3 h2
          rcases Bool.eq_false_or_eq_true O with hO | hO
          · subst hO
            have HB : Hid (R = ⟨7, (f k').at', k', u, x⟩) := by unfold Hid; rw [← HQ.out, pw_x_bare (by omega) H3.out]
            go_wp2_with fail
            refine (power_x1 s f k' b u x _ _ (by omega) ha HRD.out H3.out).mono ?_
            rintro e w2 ⟨rfl, hfr2⟩
            go_wp2
            refine ⟨rfl, Or.inr ⟨?_, ?_, hfw.trans hfr2 (by simp)⟩⟩
            · rw [HB.out]; simp
            · rw [HB.out]; rfl
          · subst hO
            by_cases hle : x + (f k').v ≤ 4
            · go_wp2_with fail
              refine (power_xOk s f k' b u x _ _ (by omega) ha HRD.out H3.out hu hx hle).mono ?_
              rintro e w2 ⟨rfl, hr2, hfr2⟩
              have ht2 := htm.fr hfr2 (by simp [m1])
              have hq2 := hrs.fr hfr2 (by simp [m0])
              obtain ⟨j0, j1, j2⟩ := ht2.cells3
              obtain ⟨l0, l1, l2⟩ := ht2.free3
              go_wp2
              go_roundg (s.size - (k' + 1))
              case measure => omega
              case rel =>
                refine ⟨k' + 1, u, x + (f k').v, rfl, hu, hle, ((hr2.setOther _ _ n1).setOther _ _ n1).setOther _ _ n1, Blk.store3 ht2 _ _ _, ((hq2.setOther _ _ (by simp)).setOther _ _ (by simp)).setOther _ _ (by simp), ?_, ?_⟩
                · repeat (refine Fr.setCell ?_ _ _ (by simp))
                  exact hfw.trans hfr2 (by simp)
                · unfold Hid
                  rw [← HQ.out, pw_x (by omega) H3.out hle]; congr 1
            · have HB : Hid (R = ⟨5, (f k').at', k', u, x⟩) := by unfold Hid; rw [← HQ.out, pw_x_bad (by omega) H3.out hle]
              go_wp2_with fail
              refine (power_xBad s f k' b u x _ _ (by omega) ha HRD.out H3.out hu hx hle).mono ?_
              rintro e w2 ⟨rfl, hfr2⟩
              go_wp2
              refine ⟨rfl, Or.inr ⟨?_, ?_, hfw.trans hfr2 (by simp)⟩⟩
              · rw [HB.out]; simp
              · rw [HB.out]; rfl
        · have q2 := pk_ne2 h2
          have q3 := pk_ne3 h3
          have HB : Hid (R = ⟨0, 0, k', u, x⟩) := by unfold Hid; rw [← HQ.out, pw_end h2 h3]
          obtain ⟨o0, o1, o2⟩ := hrs.cells3
          obtain ⟨l0, l1, l2⟩ := hrs.free3
          clear h2 h3
          go_wp2
          refine bodyPost_ret (results_cell_row Tryd.results40 _ _ w.heap.size 65 _ (0, 0) _ (by rfl) (Blk.store3 hrs _ _ _) Tryd.underlying65 rfl (by kernel_rfl)) rfl (Or.inl ⟨?_, ?_, ?_, ?_⟩)
          · rw [HB.out]
          · first | (rw [HB.out]; done) | (rw [HB.out]; rfl)
          · rw [HB.out]; exact (((show Rd wr b s M D O (f k') from HRD.out).setOther _ _ n0).setOther _ _ n0).setOther _ _ n0
          · repeat (refine Fr.setCell ?_ _ _ (by simp))
            exact hfw

set_option maxRecDepth 100000 in
set_option maxHeartbeats 1000000 in
theorem term_bad (s : ByteArray) (f : Nat → Tok) (k b : Nat) (w : World) (hr : Rd w b s M D O (f k)) (hc : (f k).c ≠ 1 ∧ (f k).c ≠ 2 ∧ (f k).c ≠ 3) :
    Calls Tryd.prog 40 #[.pointer (some ⟨b, 0, none⟩)] w fun e w' => e = .panicked (faulty 4 (f k).at') ∧ Fr [b] w w' := by
  obtain ⟨c0, c1, c2, c3, c4⟩ := hr.cells
  have HR : Hid (Rd w b s M D O (f k)) := hr
  obtain ⟨h1, h2, h3⟩ := hc
  have hb : b < w.heap.size := Blk.lt hr
  have HN1 : Hid (pk (f k).c ≠ 1) := by have := pk_ne1 h1; rw [beq_eq_false_iff_ne] at this; exact this
  have q2 := pk_ne2 h2
  have q3 := pk_ne3 h3
  clear hr h1 h2 h3
  go_enter Tryd.func40, Tryd.ntmps40
  go_wp2_with fail
  refine (expect_not s (f k) b 1 _ (by exact Blk.alloc (Blk.alloc HR.out _) _) HN1.out).mono ?_
  rintro e w1 ⟨rfl, hfr⟩
  go_wp2
  exact ⟨rfl, rfl, (((Fr.refl [b] w).alloc _).alloc _).trans hfr (by simp)⟩
end Go.Proofs.YthlmgpllapccfaaDoor
/- THE READER: term whole; polynomial. -/
namespace Go.Proofs.YthlmgpllapccfaaDoor
open Go.RowKit
variable {M : Value} {D : Int} {O : Bool}

theorem term_ok (s : ByteArray) (f : Nat → Tok) (k b : Nat) (w : World) (hs : s.size ≤ 1000) (ha : Str s f) (hr : Rd w b s M D O (f k)) (h : (tm f O s.size k).e = 0) :
    Calls Tryd.prog 40 #[.pointer (some ⟨b, 0, none⟩)] w fun e w' => e = .returned (.agg #[.int .i64 (tm f O s.size k).n, .int .i64 (tm f O s.size k).u, .int .i64 (tm f O s.size k).x]) ∧ Rd w' b s M D O (f (tm f O s.size k).k) ∧ Fr [b] w w' := by
  unfold tm at *
  by_cases h1 : (f k).c = 1
  · rw [if_pos h1] at *
    refine (term_number s f k b w hs ha hr h1).mono ?_
    rintro e w1 (g | g)
    · exact g.2
    · exact absurd h g.1
  · rw [if_neg h1] at *
    by_cases h2 : (f k).c = 2 ∨ (f k).c = 3
    · rw [if_pos h2] at *
      refine (term_power s f k b w hs ha hr h2).mono ?_
      rintro e w1 (g | g)
      · exact g.2
      · exact absurd h g.1
    · rw [if_neg h2] at h
      exact absurd h (by simp)
theorem term_not (s : ByteArray) (f : Nat → Tok) (k b : Nat) (w : World) (hs : s.size ≤ 1000) (ha : Str s f) (hr : Rd w b s M D O (f k)) (h : (tm f O s.size k).e ≠ 0) :
    Calls Tryd.prog 40 #[.pointer (some ⟨b, 0, none⟩)] w fun e w' => e = .panicked (faulty (tm f O s.size k).e (tm f O s.size k).bad) ∧ Fr [b] w w' := by
  unfold tm at *
  by_cases h1 : (f k).c = 1
  · rw [if_pos h1] at *
    refine (term_number s f k b w hs ha hr h1).mono ?_
    rintro e w1 (g | g)
    · exact absurd g.1 h
    · exact g.2
  · rw [if_neg h1] at *
    by_cases h2 : (f k).c = 2 ∨ (f k).c = 3
    · rw [if_pos h2] at *
      refine (term_power s f k b w hs ha hr h2).mono ?_
      rintro e w1 (g | g)
      · exact absurd g.1 h
      · exact g.2
    · rw [if_neg h2] at *
      exact term_bad s f k b w hr (by omega)

theorem pk_is4 {c : Nat} (h : c = 47) : pk c = 5 := by subst h; rfl
theorem pk_is5 {c : Nat} (h : c = 49) : pk c = 6 := by subst h; rfl
theorem pk_ne4 {c : Nat} (h : c ≠ 47) : (pk c != 5) = true := by
  rw [bne_iff_ne]; unfold pk
  repeat' split
  all_goals omega
theorem pk_ne5 {c : Nat} (h : c ≠ 49) : (pk c != 6) = true := by
  rw [bne_iff_ne]; unfold pk
  repeat' split
  all_goals omega
theorem pk_no5 {c : Nat} (h : c ≠ 49) : (pk c == 6) = false := by
  rw [beq_eq_false_iff_ne]; unfold pk
  repeat' split
  all_goals omega

/-- What the reading of a polynomial ends in. -/
def PolyPost (s : ByteArray) (f : Nat → Tok) (M : Value) (D : Int) (O : Bool) (b : Nat) (R : PlR) (w : World) (e : Ending) (w' : World) : Prop :=
  (R.e = 0 ∧ e = .returned (.agg (pv R.p)) ∧ Good R.p ∧ Rd w' b s M D O (f R.k) ∧ Fr [b] w w') ∨ (R.e ≠ 0 ∧ e = .panicked (faulty R.e R.bad) ∧ Fr [b] w w')
end Go.Proofs.YthlmgpllapccfaaDoor
