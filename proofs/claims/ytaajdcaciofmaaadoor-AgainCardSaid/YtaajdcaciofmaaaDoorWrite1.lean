/- THE DOCUMENT's TEXT OF A POLYNOMIAL: letter. -/
import Derived.Test.YtaajdcaciofmaaaDoorText2
import Derived.Laws.IdiomStrings
namespace Go.Proofs.YtaajdcaciofmaaaDoor
open Go.RowKit

theorem conv_at (n : Nat) (hn : n < 10) (g : Nat) (w : World) (h : w.cell? ⟨g, 0, none⟩ = some (.int .u8 (48 + (n : Int)))) :
    (convert 72 9 (.slice (some ⟨g, 0, none⟩) 1 1)).run Tryd.prog w = .ok (.string (bs [dgt n])) w := by
  refine run_convert_bytes_back w 72 9 5 ⟨g, 0, none⟩ 1 [dgt n] Tryd.underlying72 Tryd.underlying5 Tryd.underlying9 ?_
  intro j hj
  have : j = 0 := by simpa using hj
  subst this
  show w.cell? ⟨g, 0, none⟩ = some (.int .u8 ((dgt n).toNat : Int))
  rw [dgt_int hn]; exact h
theorem conv_new (n : Nat) (hn : n < 10) (w : World) :
    (convert 72 9 (.slice (some ⟨w.heap.size, 0, none⟩) 1 1)).run Tryd.prog (w.alloc (.cells #[.int .u8 (48 + (n : Int))] 5)) = .ok (.string (bs [dgt n])) (w.alloc (.cells #[.int .u8 (48 + (n : Int))] 5)) :=
  conv_at n hn w.heap.size _ (Blk.cell (Blk.new w _ _) 0)

set_option maxRecDepth 100000 in
theorem letter_any (c : UInt8) (S : ByteArray) (n : Nat) (N : Int) (w : World) (hN : N = n) (hS : S = bs [c]) (hn : n ≤ 6) :
    Calls Tryd.prog 34 #[.string S, .int .i64 N] w fun e w' => e = .returned (.string (bs (ptx c n))) ∧ Below w.heap.size w w' := by
  subst hN hS
  unfold ptx
  by_cases h0 : n = 0
  · subst h0
    go_enter Tryd.func34, Tryd.ntmps34
    go_wp2
    go_ret
    exact ⟨rfl, Below.refl _ _⟩
  · rw [if_neg h0]
    by_cases h1 : n = 1
    · subst h1
      go_enter Tryd.func34, Tryd.ntmps34
      go_wp2
      go_ret
      exact ⟨rfl, Below.refl _ _⟩
    · rw [if_neg h1]
      have q0 : ((n : Int) == 0) = false := by rw [beq_eq_false_iff_ne]; omega
      have q1 : ((n : Int) == 1) = false := by rw [beq_eq_false_iff_ne]; omega
      go_enter Tryd.func34, Tryd.ntmps34
      have hcv := fun (w' : World) => conv_new n (by omega) w'
      go_wp2
      go_ret
      exact ⟨by rw [bs_append]; rfl, by go_grown⟩
end Go.Proofs.YtaajdcaciofmaaaDoor
