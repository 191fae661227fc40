/- THE READER: begin, finish; the deferred function. -/
import Derived.Test.YtaajdcaciofmaaaDoorReader5
import Derived.Test.YtaajdcaciofmaaaDoorAs2
import Derived.Defers
import Derived.Recover
namespace Go.Proofs.YtaajdcaciofmaaaDoor
open Go.RowKit

set_option maxHeartbeats 1000000 in
theorem begin_long (s : ByteArray) (w : World) (h : 90 < s.size) (hm : s.size ≤ 140737488351232) :
    Calls Tryd.prog 26 #[.string s] w fun e w' => e = .panicked (faulty 2 0) ∧ w' = w := by
  have h' : ((s.size : Nat) : Int) > 90 := by omega
  go_enter Tryd.func26, Tryd.ntmps26
  go_wp2
  exact ⟨rfl, rfl, rfl⟩

set_option maxHeartbeats 1000000 in
theorem begin_short (s : ByteArray) (w : World) (h : ¬ 90 < s.size) :
    Calls Tryd.prog 26 #[.string s] w fun e w' => ∃ b, e = .returned (.pointer (some ⟨b, 0, none⟩)) ∧ w.heap.size ≤ b ∧ Rd w' b s (tk s 0 0) ∧ Below w.heap.size w w' := by
  have HK : Hid (tok s 0 = tk s 0 0) := rfl
  go_enter Tryd.func26, Tryd.ntmps26
  go_wp2_with fail
  refine (tokenAt_any s 0 _ _ (by omega) (by omega) (by omega)).mono ?_
  rintro e w1 ⟨rfl, hbel⟩
  rw [HK.out]
  go_wp2
  go_ret
  refine ⟨w1.heap.size, rfl, hbel.size, Blk.new w1 _ _, hbel.alloc hbel.size _⟩

set_option maxHeartbeats 1000000 in
theorem finish_ok (s : ByteArray) (t : Tok) (b : Nat) (w : World) (hr : Rd w b s t) (hc : t.c = 0) :
    Calls Tryd.prog 28 #[.pointer (some ⟨b, 0, none⟩)] w fun e w' => e = .returned (.tuple #[]) ∧ w' = w := by
  obtain ⟨c0, c1, c2, c3, c4⟩ := hr.cells
  have hpk : pk t.c = 0 := by rw [hc]; rfl
  rw [hpk] at c1
  go_enter Tryd.func28, Tryd.ntmps28
  go_wp2
  go_end0
  exact ⟨rfl, rfl⟩

theorem pk_ne0 {c : Nat} (h : c ≠ 0) : (pk c != 0) = true := by
  rw [bne_iff_ne]; unfold pk
  repeat' split
  all_goals omega

set_option maxHeartbeats 1000000 in
theorem finish_not (s : ByteArray) (t : Tok) (b : Nat) (w : World) (hr : Rd w b s t) (hc : t.c ≠ 0) :
    Calls Tryd.prog 28 #[.pointer (some ⟨b, 0, none⟩)] w fun e w' => e = .panicked (faulty 4 t.at') ∧ w' = w := by
  obtain ⟨c0, c1, c2, c3, c4⟩ := hr.cells
  have q := pk_ne0 hc
  have HR : Hid (Rd w b s t) := hr
  clear hc hr
  go_enter Tryd.func28, Tryd.ntmps28
  go_wp2_with fail
  refine (fail_any s t b _ _ HR.out).mono ?_
  rintro e w1 ⟨rfl, rfl⟩
  go_wp2
  exact ⟨rfl, rfl, rfl⟩

end Go.Proofs.YtaajdcaciofmaaaDoor
