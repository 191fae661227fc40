/- THE DOCUMENT's ANSWER: passes, end. -/
import Derived.Test.YtaajdcaciofmaaaDoorWay1
namespace Go.Proofs.YtaajdcaciofmaaaDoor
open Go.RowKit

theorem Fr.drewN {bs : List Nat} {a w : World} (h : Fr bs a w) (n : Nat) : Fr bs a (w.drewN n) := ⟨h.os, h.tape, h.output, h.size, h.block⟩

set_option maxRecDepth 100000 in
set_option maxHeartbeats 1000000 in
theorem passes_later (b g n cap k : Nat) (c x bad op : Int) (w : World) (h : Wy w b g n cap k x bad op) (hx : x ≠ 0) :
    Calls Tryd.prog 57 #[.pointer (some ⟨b, 0, none⟩), .int .u8 c] w fun e w' => e = .returned (.bool false) ∧ Wy w' b g n cap k x bad op ∧ Fr [b] w w' := by
  obtain ⟨c0, c1, c2, c3, c4⟩ := h.cells
  have q : (x != 0) = true := by rw [bne_iff_ne]; exact hx
  have H := hideR h
  clear hx h
  go_enter Tryd.func57, Tryd.ntmps57
  go_wp2
  go_quiet (fail)
  go_wp2
  go_ret
  exact ⟨rfl, H.out, (Fr.refl [b] w).drewN _⟩

set_option maxRecDepth 100000 in
set_option maxHeartbeats 1000000 in
theorem passes_no (b g n cap k : Nat) (f : Nat → Tok) (c bad op : Int) (w : World) (h : Wy w b g n cap k 0 bad op) (ht : Tk w g n f) (hk : k < n) (_hn : n ≤ 2000) (hc0 : 0 ≤ c) (hc1 : c ≤ 255) (hne : rk (f k).c ≠ c) :
    Calls Tryd.prog 57 #[.pointer (some ⟨b, 0, none⟩), .int .u8 c] w fun e w' => e = .returned (.bool false) ∧ Wy w' b g n cap k 0 bad op ∧ Fr [b] w w' := by
  obtain ⟨c0, c1, c2, c3, c4⟩ := h.cells
  obtain ⟨d0, d1, d2, d3⟩ := ht.cells hk
  have q : (rk (f k).c != c) = true := by rw [bne_iff_ne]; exact hne
  have i0 : (0 : Int) ≤ (k : Int) := by omega
  have i1 : (k : Int) < (n : Int) := by omega
  have H := hideR h
  clear hne h ht
  go_enter Tryd.func57, Tryd.ntmps57
  go_wp2
  go_quiet (fail)
  go_wp2
  go_ret
  exact ⟨rfl, H.out, (Fr.refl [b] w).drewN _⟩

set_option maxRecDepth 100000 in
set_option maxHeartbeats 1000000 in
theorem passes_yes (b g n cap k : Nat) (f : Nat → Tok) (c bad op : Int) (w : World) (h : Wy w b g n cap k 0 bad op) (ht : Tk w g n f) (hk : k < n) (_hn : n ≤ 2000) (hc0 : 0 ≤ c) (hc1 : c ≤ 255) (he : rk (f k).c = c) :
    Calls Tryd.prog 57 #[.pointer (some ⟨b, 0, none⟩), .int .u8 c] w fun e w' => e = .returned (.bool true) ∧ Wy w' b g n cap (k + 1) 0 bad op ∧ Fr [b] w w' := by
  obtain ⟨c0, c1, c2, c3, c4⟩ := h.cells
  obtain ⟨f0, f1, f2, f3, f4⟩ := h.free
  obtain ⟨d0, d1, d2, d3⟩ := ht.cells hk
  rw [he] at d0
  have i0 : (0 : Int) ≤ (k : Int) := by omega
  have i1 : (k : Int) < (n : Int) := by omega
  have H := hideR h
  clear he h ht
  go_enter Tryd.func57, Tryd.ntmps57
  go_wp2
  go_quiet (fail)
  go_wp2
  go_ret
  refine ⟨rfl, ?_, ((Fr.refl [b] w).drewN _).setCell _ _ (by simp)⟩
  have e : (((k + 1 : Nat) : Int)) = (k : Int) + 1 := by omega
  unfold Wy
  rw [e]
  exact Blk.set (by exact H.out) 1 _

set_option maxRecDepth 100000 in
set_option maxHeartbeats 1000000 in
theorem wend_ok (b g n cap k : Nat) (f : Nat → Tok) (x bad op : Int) (w : World) (h : Wy w b g n cap k x bad op) (ht : Tk w g n f) (hk : k < n) (_hn : n ≤ 2000) (he : rk (f k).c = 6) :
    Calls Tryd.prog 33 #[.pointer (some ⟨b, 0, none⟩)] w fun e w' => e = .returned (.tuple #[]) ∧ Wy w' b g n cap k x bad op ∧ Fr [b] w w' := by
  obtain ⟨c0, c1, c2, c3, c4⟩ := h.cells
  obtain ⟨d0, d1, d2, d3⟩ := ht.cells hk
  rw [he] at d0
  have i0 : (0 : Int) ≤ (k : Int) := by omega
  have i1 : (k : Int) < (n : Int) := by omega
  have H := hideR h
  clear he h ht
  go_enter Tryd.func33, Tryd.ntmps33
  go_wp2
  go_quiet (fail)
  go_wp2
  go_end0
  exact ⟨rfl, H.out, (Fr.refl [b] w).drewN _⟩

set_option maxRecDepth 100000 in
set_option maxHeartbeats 1000000 in
theorem wend_first (b g n cap k : Nat) (f : Nat → Tok) (bad op : Int) (w : World) (h : Wy w b g n cap k 0 bad op) (ht : Tk w g n f) (hk : k < n) (_hn : n ≤ 2000) (he : rk (f k).c ≠ 6) :
    Calls Tryd.prog 33 #[.pointer (some ⟨b, 0, none⟩)] w fun e w' => e = .returned (.tuple #[]) ∧ Wy w' b g n cap k 4 (f k).at' op ∧ Fr [b] w w' := by
  obtain ⟨c0, c1, c2, c3, c4⟩ := h.cells
  obtain ⟨d0, d1, d2, d3⟩ := ht.cells hk
  have q : (rk (f k).c != 6) = true := by rw [bne_iff_ne]; exact he
  have i0 : (0 : Int) ≤ (k : Int) := by omega
  have i1 : (k : Int) < (n : Int) := by omega
  have H := hideR h
  clear he h ht
  go_enter Tryd.func33, Tryd.ntmps33
  go_wp2
  go_quiet (fail)
  go_wp2
  refine region_quiet_tail 12 (by kernel_rfl) (by kernel_rfl) ?_
  simp only [List.take_succ_cons, List.take_zero, List.drop_succ_cons, List.drop_zero]
  repeat (first | go_big_quiet_step ((fail)) | quiet_step ((fail)))
  refine wpQuiet_nil ?_
  rintro _ ⟨nr, rfl⟩
  go_wp2_with fail
  refine (wrong_first b g n cap k _ _ bad op _ (by exact H.out)).mono ?_
  rintro e w1 ⟨rfl, h1, hf1⟩
  go_wp2
  go_end0
  exact ⟨rfl, h1, ((Fr.refl [b] w).drewN _).trans hf1 (by simp)⟩

set_option maxRecDepth 100000 in
set_option maxHeartbeats 1000000 in
theorem wend_later (b g n cap k : Nat) (f : Nat → Tok) (x bad op : Int) (w : World) (h : Wy w b g n cap k x bad op) (ht : Tk w g n f) (hk : k < n) (_hn : n ≤ 2000) (hx : x ≠ 0) :
    Calls Tryd.prog 33 #[.pointer (some ⟨b, 0, none⟩)] w fun e w' => e = .returned (.tuple #[]) ∧ Wy w' b g n cap k x bad op ∧ Fr [b] w w' := by
  by_cases he : rk (f k).c = 6
  · exact wend_ok b g n cap k f x bad op w h ht hk _hn he
  obtain ⟨c0, c1, c2, c3, c4⟩ := h.cells
  obtain ⟨d0, d1, d2, d3⟩ := ht.cells hk
  have q : (rk (f k).c != 6) = true := by rw [bne_iff_ne]; exact he
  have i0 : (0 : Int) ≤ (k : Int) := by omega
  have i1 : (k : Int) < (n : Int) := by omega
  have H := hideR h
  have HX := hideR hx
  clear he h ht hx
  go_enter Tryd.func33, Tryd.ntmps33
  go_wp2
  go_quiet (fail)
  go_wp2
  refine region_quiet_tail 12 (by kernel_rfl) (by kernel_rfl) ?_
  simp only [List.take_succ_cons, List.take_zero, List.drop_succ_cons, List.drop_zero]
  repeat (first | go_big_quiet_step ((fail)) | quiet_step ((fail)))
  refine wpQuiet_nil ?_
  rintro _ ⟨nr, rfl⟩
  go_wp2_with fail
  refine (wrong_later b g n cap k _ _ x bad op _ (by exact H.out) HX.out).mono ?_
  rintro e w1 ⟨rfl, rfl⟩
  go_wp2
  go_end0
  exact ⟨rfl, H.out, (Fr.refl [b] w).drewN _⟩
end Go.Proofs.YtaajdcaciofmaaaDoor
