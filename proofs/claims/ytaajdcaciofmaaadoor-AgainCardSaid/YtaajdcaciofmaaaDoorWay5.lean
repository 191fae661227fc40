/- THE DOCUMENT's ANSWER: term whole; poly. -/
import Derived.Test.YtaajdcaciofmaaaDoorWay4
import Derived.Test.YtaajdcaciofmaaaDoorReader4
namespace Go.Proofs.YtaajdcaciofmaaaDoor
open Go.RowKit

set_option maxRecDepth 100000 in
set_option maxHeartbeats 2000000 in
theorem wterm_bad (f : Nat → Tok) (b g n cap c k : Nat) (sg : Int) (bare : Bool) (bad op : Int) (w : World) (h : Wy w b g n cap k 0 bad op) (ht : Tk w g n f) (hk : k < n) (hn : n ≤ 1001) (hc : (f k).c ≠ 1 ∧ (f k).c ≠ 2 ∧ (f k).c ≠ 3) :
    Calls Tryd.prog 58 #[.pointer (some ⟨b, 0, none⟩), .pointer (some ⟨c, 0, none⟩), .int .i64 sg, .bool bare] w fun e w' => e = .returned (.tuple #[]) ∧ Wy w' b g n cap k 4 (f k).at' op ∧ Fr [b] w w' := by
  have hb : b < w.heap.size := Blk.lt h
  have HW := hideR h
  have HT := hideR ht
  have q1 : (rk (f k).c != 1) = true := by rw [bne_iff_ne]; exact rk_not1 hc.1
  have q2 : (rk (f k).c != 2) = true := by rw [bne_iff_ne]; exact rk_not2 hc.2.1 hc.2.2
  clear h ht hc
  go_enter Tryd.func58, Tryd.ntmps58
  go_wp2_with fail
  refine (next_any b g n cap k f 0 bad op _ HW.out HT.out hk (by omega)).mono ?_
  rintro e w1 ⟨rfl, hb1⟩
  have hw1 : Wy w1 b g n cap k 0 bad op := Blk.fr HW.out (Fr.of_below (bs := []) hb1) (by simp)
  have HW1 := hideR hw1
  have HB1 := hideR hb1
  clear hw1 hb1
  go_wp2_with fail
  refine (wrong_first b g n cap k _ _ bad op _ (by exact Blk.alloc HW1.out _)).mono ?_
  rintro e w5 ⟨rfl, h5, hf5⟩
  go_wp2
  first | go_end0 | refine bodyPost_ret (results_none rfl _ _ _) rfl ?_
  exact ⟨rfl, h5, ((Fr.of_below (bs := [b]) HB1.out).alloc _).trans hf5 (by simp)⟩

theorem wterm_ok (f : Nat → Tok) (N b g n cap c k : Nat) (p : List Nat) (sg : Nat) (bare : Bool) (bad op : Int) (w : World) (h : Wy w b g n cap k 0 bad op) (ht : Tk w g n f) (hp : Blk w c (pv p) 41) (hgp : Good p)
    (hk : k < n) (hn : n ≤ N + 1) (hN : N ≤ 1000) (hend : ∀ j, j < n → (f j).c ≠ 0 → j + 1 < n) (hv : ∀ j, (f j).v ≤ 99) (hsg : sg ≤ 6) (hbg : b ≠ g) (hbc : b ≠ c) (hgc : g ≠ c) (he : (tm f bare N k).e = 0) :
    Calls Tryd.prog 58 #[.pointer (some ⟨b, 0, none⟩), .pointer (some ⟨c, 0, none⟩), .int .i64 sg, .bool bare] w fun e w' => e = .returned (.tuple #[]) ∧ Wy w' b g n cap (tm f bare N k).k 0 bad op ∧ Blk w' c (pv (plus p (tm f bare N k).u (tm f bare N k).x (sg * (tm f bare N k).n))) 41 ∧ (tm f bare N k).k < n ∧ Fr [b, c] w w' := by
  unfold tm at *
  by_cases h1 : (f k).c = 1
  · rw [if_pos h1] at *
    refine (wterm_number f N b g n cap c k p sg bare bad op w h ht hp hgp hk hn hN hend hv hsg hbg hbc hgc h1).mono ?_
    rintro e w1 ⟨rfl, q | q⟩
    · exact ⟨rfl, q.2⟩
    · exact absurd he q.1
  · rw [if_neg h1] at *
    by_cases h2 : (f k).c = 2 ∨ (f k).c = 3
    · rw [if_pos h2] at *
      refine (wterm_power f N b g n cap c k p sg bare bad op w h ht hp hgp hk hn hN hend hv hsg hbg hbc hgc h2).mono ?_
      rintro e w1 ⟨rfl, q | q⟩
      · exact ⟨rfl, q.2⟩
      · exact absurd he q.1
    · rw [if_neg h2] at he; exact absurd he (by simp)
theorem wterm_not (f : Nat → Tok) (N b g n cap c k : Nat) (p : List Nat) (sg : Nat) (bare : Bool) (bad op : Int) (w : World) (h : Wy w b g n cap k 0 bad op) (ht : Tk w g n f) (hp : Blk w c (pv p) 41) (hgp : Good p)
    (hk : k < n) (hn : n ≤ N + 1) (hN : N ≤ 1000) (hend : ∀ j, j < n → (f j).c ≠ 0 → j + 1 < n) (hv : ∀ j, (f j).v ≤ 99) (hsg : sg ≤ 6) (hbg : b ≠ g) (hbc : b ≠ c) (hgc : g ≠ c) (he : (tm f bare N k).e ≠ 0) :
    Calls Tryd.prog 58 #[.pointer (some ⟨b, 0, none⟩), .pointer (some ⟨c, 0, none⟩), .int .i64 sg, .bool bare] w fun e w' => e = .returned (.tuple #[]) ∧ (∃ k', k' < n ∧ Wy w' b g n cap k' (tm f bare N k).e (tm f bare N k).bad op) ∧ Blk w' c (pv p) 41 ∧ Fr [b, c] w w' := by
  unfold tm at *
  by_cases h1 : (f k).c = 1
  · rw [if_pos h1] at *
    refine (wterm_number f N b g n cap c k p sg bare bad op w h ht hp hgp hk hn hN hend hv hsg hbg hbc hgc h1).mono ?_
    rintro e w1 ⟨rfl, q | q⟩
    · exact absurd q.1 he
    · exact ⟨rfl, q.2⟩
  · rw [if_neg h1] at *
    by_cases h2 : (f k).c = 2 ∨ (f k).c = 3
    · rw [if_pos h2] at *
      refine (wterm_power f N b g n cap c k p sg bare bad op w h ht hp hgp hk hn hN hend hv hsg hbg hbc hgc h2).mono ?_
      rintro e w1 ⟨rfl, q | q⟩
      · exact absurd q.1 he
      · exact ⟨rfl, q.2⟩
    · rw [if_neg h2] at *
      refine (wterm_bad f b g n cap c k sg bare bad op w h ht hk (by omega) (by omega)).mono ?_
      rintro e w1 ⟨rfl, q1, q2⟩
      exact ⟨rfl, ⟨k, hk, q1⟩, hp.fr q2 (by simp; omega), q2.mono (by simp)⟩

theorem rk_43 {c : Nat} : rk c = 43 ↔ c = 47 := by
  constructor
  · intro h
    unfold rk at h
    repeat' split at h
    all_goals omega
  · intro h; subst h; rfl
theorem rk_45 {c : Nat} : rk c = 45 ↔ c = 49 := by
  constructor
  · intro h
    unfold rk at h
    repeat' split at h
    all_goals omega
  · intro h; subst h; rfl
end Go.Proofs.YtaajdcaciofmaaaDoor
