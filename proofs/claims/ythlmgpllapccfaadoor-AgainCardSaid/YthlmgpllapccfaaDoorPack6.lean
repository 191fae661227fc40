import Derived.Test.YthlmgpllapccfaaDoorPack5
import Derived.Test.YthlmgpllapccfaaDoorRows
import Derived.ChangeSame
import Derived.ChangeVars
import Derived.JoinedOf
import Derived.RowKit
import Derived.RowKitTokens
import Derived.LaidLaws
import Derived.LaidHandle
import Derived.SizedLaws
import Derived.Stop.Joined
import Derived.LaidMore
import Derived.Test.YthlmgpllapccfaaDoorTie
import Derived.Test.YthlmgpllapccfaaDoorCards
import Derived.SevenTiedAt
import Derived.ProofKit
import Derived.ChangeMaps5
/- THE TWO Values, AND THE LAW. -/
namespace Go.Proofs.YthlmgpllapccfaaDoor
open Go.RowKit

/-- What Value answers. -/
def vv (s : ByteArray) (u x : Int) : Nat := if (rd s).e = 0 then valP (rd s).p (u % 7).toNat (x % 7).toNat else 0
def vb (s : ByteArray) : Nat := if (rd s).e = 0 then 0 else (rd s).bad
theorem m7 (u : Int) : u % 7 = ((u % 7).toNat : Int) ∧ (u % 7).toNat < 7 := by omega
theorem lineR_len (p : List Nat) (u : Nat) : (lineR p u).length = 5 := rfl
theorem lineR_lt (p : List Nat) (u i : Nat) : (lineR p u).getD i 0 < 7 := by
  by_cases h : i < 5
  · rw [lineR_get _ _ _ h]; exact pows_lt _ _ _
  · rw [List.getD_eq_getElem?_getD, List.getElem?_eq_none (by rw [lineR_len]; omega)]; simp

set_option maxRecDepth 100000 in
set_option maxHeartbeats 2000000 in
theorem pValue_any (s : ByteArray) (u x : Int) (w : World) (hg : ErrT w) (hm : s.size ≤ 140737488351232) :
    Calls Tryd.prog 9 #[.string s, .int .i64 u, .int .i64 x] w fun e w' => e = .returned (.tuple #[.int .i64 (vv s u x), .int .i64 (rd s).e, .int .i64 (vb s)]) ∧ Below w.heap.size w w' := by
  have hu := m7 u
  have hx := m7 x
  have HU := hidV hu
  have HX := hidV hx
  clear hu hx
  have HP := hidV (Polynomial_any s w hg hm)
  clear hg hm
  unfold vv vb
  generalize rd s = R at *
  by_cases he : R.e = 0
  · rw [if_pos he, if_pos he]
    rw [he] at HP ⊢
    go_enter Tryd.func9, Tryd.ntmps9
    go_wp2_with fail
    refine HP.out.mono ?_
    rintro e w1 ⟨rfl, hgd, hbel⟩
    have HB := hidV hbel
    clear hbel HP
    go_wp2_with (first | (refine wpList_store_mid (by rfl) 37 _ _ (by rfl) w1.heap.size 0 (pv R.p) (by rfl) (by rfl) (Blk.there (Blk.new w1 _ _) (by rw [pv_size, hgd.1]; decide)) (size_poly hgd) (pv_one _) ?_) | (refine wpList_load_row (by rfl) 37 _ (by rfl) w1.heap.size (by rfl) 37 (pv R.p) (0, 0) _ (by exact Blk.setAll (Blk.new w1 _ _) _ (by rw [pv_size, hgd.1]; rfl)) Tryd.underlying37 (by rfl) (size_poly hgd) ?_))
    refine (pVal_any R.p u x _ _ _ hgd HU.out.1 HX.out.1 HU.out.2 HX.out.2).mono ?_
    rintro e w2 ⟨rfl, hbel2⟩
    have HB2 := hidV hbel2
    clear hbel2
    go_wp2
    go_ret3
    refine ⟨rfl, ?_⟩
    refine Fr.below (bs := []) ((Fr.setCells (Fr.alloc (Fr.of_below HB.out) _) _ _ _ (Or.inr HB.out.size)).trans (Fr.of_below (bs := []) (by exact HB2.out)) (by simp)) (Nat.le_refl _) (by simp)
  · rw [if_neg he, if_neg he]
    have he' : ((R.e : Int) != 0) = true := by rw [bne_iff_ne]; omega
    go_enter Tryd.func9, Tryd.ntmps9
    go_wp2_with fail
    refine HP.out.mono ?_
    rintro e w1 ⟨rfl, hgd, hbel⟩
    have HB := hidV hbel
    clear hbel HP
    go_wp2_with (first | (refine wpList_store_mid (by rfl) 37 _ _ (by rfl) w1.heap.size 0 (pv R.p) (by rfl) (by rfl) (Blk.there (Blk.new w1 _ _) (by rw [pv_size, hgd.1]; decide)) (size_poly hgd) (pv_one _) ?_))
    go_ret3
    refine ⟨rfl, ?_⟩
    exact Fr.below (bs := []) (Fr.setCells (Fr.alloc (Fr.of_below HB.out) _) _ _ _ (Or.inr HB.out.size)) (Nat.le_refl _) (by simp)

/-- The load of a whole polynomial, under a name that the walk does not open. -/
def ldPoly (x : Value) : Sem Value := Instr.loadAt 41 x
theorem ldPoly_eq (x : Value) : Instr.loadAt 41 x = ldPoly x := rfl
theorem run_ld (w : World) (b : Nat) (p : List Nat) (hp : Good p) (h : Blk w b (pv p) 41) : (ldPoly (.pointer (some ⟨b, 0, none⟩))).run Tryd.prog w = .ok (.agg (pv p)) w := by
  unfold ldPoly
  simp only [Instr.loadAt, Instr.sureAddr, Sem.run_bind, Sem.run_pure, Result.andThen_ok, run_loadVar_row w b 41 41 (pv p) (0, 0) _ h Tryd.underlying41 rfl (size_rPoly hp)]
section
attribute [local go_sem ↓] ldPoly_eq
set_option maxRecDepth 100000 in
set_option maxHeartbeats 2000000 in
theorem rValue_any (s : ByteArray) (u x : Int) (w : World) (hm : s.size ≤ 140737488351232) :
    Calls Tryd.prog 10 #[.string s, .int .i64 u, .int .i64 x] w fun e w' => e = .returned (.tuple #[.int .i64 (vv s u x), .int .i64 (rd s).e, .int .i64 (vb s)]) ∧ Below w.heap.size w w' := by
  have hu := m7 u
  have hx := m7 x
  have HU := hidV hu
  have HX := hidV hx
  clear hu hx
  have HP := hidV (read_any s w hm)
  clear hm
  unfold vv vb
  rw [← val_same]
  generalize rd s = R at *
  by_cases he : R.e = 0
  · rw [if_pos he, if_pos he]
    rw [he] at HP ⊢
    go_enter Tryd.func10, Tryd.ntmps10
    go_wp2_with fail
    refine HP.out.mono ?_
    rintro e w1 ⟨rfl, hgd, hbel⟩
    have HB := hidV hbel
    clear hbel HP
    go_wp2_with (first | (refine wpList_store_mid (by rfl) 41 _ _ (by rfl) w1.heap.size 0 (pv R.p) (by rfl) (by rfl) (Blk.there (Blk.new w1 _ _) (by rw [pv_size, hgd.1]; decide)) (size_rPoly hgd) (pv_one _) ?_) | (refine wpList_load_row (by rfl) 41 _ (by rfl) w1.heap.size (by rfl) 41 (pv R.p) (0, 0) _ (by exact Blk.setAll (Blk.new w1 _ _) _ (by rw [pv_size, hgd.1]; rfl)) Tryd.underlying41 (by rfl) (size_rPoly hgd) ?_))
    refine wp_forget (fun W => Blk W w1.heap.size (pv R.p) 41 ∧ Below w.heap.size w W) ⟨by exact Blk.setAll (Blk.new w1 _ _) _ (by rw [pv_size, hgd.1]; rfl), Fr.below (bs := []) (Fr.setCells (Fr.alloc (Fr.of_below HB.out) _) _ _ _ (Or.inr HB.out.size)) (Nat.le_refl _) (by simp)⟩ ?_
    rintro W ⟨bk, hbW⟩
    have HBW := hidV hbW
    have HBK := hidV bk
    clear hbW
    generalize w1.heap.size = g at *
    have hld := fun (w' : World) (h : Blk w' g (pv R.p) 41) => run_ld w' g R.p hgd h
    go_region_held3 (fun w' => Blk w' g (pv R.p) 41) (first | assumption | exact HBK.out) (first | (go_at_call 22; refine (modulo_any _ _).mono ?_; rintro e w2 ⟨rfl, rfl⟩) | (go_at_call 21; refine (at_any R.p (u % 7).toNat _ _ hgd HU.out.1 HU.out.2).mono ?_; rintro e w3 ⟨rfl, hb3⟩; have HB3 := hidV hb3; have bk3 : Blk w3 g (pv R.p) 41 := Blk.fr (by exact HBK.out) (Fr.of_below (bs := []) hb3) (by simp)) | (go_at_call 20; refine (worth_any (lineR R.p (u % 7).toNat) (x % 7).toNat _ _ (lineR_len _ _) (lineR_lt _ _) HX.out.1 HX.out.2).mono ?_; rintro e w4 ⟨rfl, hb4⟩; have HB4 := hidV hb4; have bk4 : Blk w4 g (pv R.p) 41 := Blk.fr (by exact bk3) (Fr.of_below (bs := []) hb4) (by simp)))
    go_wp2
    go_ret3
    refine ⟨rfl, ?_⟩
    exact Fr.below (bs := []) (((Fr.of_below HBW.out).drew.trans (Fr.of_below (bs := []) HB3.out) (by simp)).trans (Fr.of_below (bs := []) HB4.out) (by simp)) (Nat.le_refl _) (by simp)
  · rw [if_neg he, if_neg he]
    have he' : ((R.e : Int) != 0) = true := by rw [bne_iff_ne]; omega
    go_enter Tryd.func10, Tryd.ntmps10
    go_wp2_with fail
    refine HP.out.mono ?_
    rintro e w1 ⟨rfl, hgd, hbel⟩
    have HB := hidV hbel
    clear hbel HP
    go_wp2_with (first | (refine wpList_store_mid (by rfl) 41 _ _ (by rfl) w1.heap.size 0 (pv R.p) (by rfl) (by rfl) (Blk.there (Blk.new w1 _ _) (by rw [pv_size, hgd.1]; decide)) (size_rPoly hgd) (pv_one _) ?_))
    go_ret3
    refine ⟨rfl, ?_⟩
    exact Fr.below (bs := []) (Fr.setCells (Fr.alloc (Fr.of_below HB.out) _) _ _ _ (Or.inr HB.out.size)) (Nat.le_refl _) (by simp)
end

theorem ErrT.below {w w' : World} (h : ErrT w) (hb : Below w.heap.size w w') : ErrT w' := by
  unfold ErrT at *
  rw [← h]
  exact (Fr.of_below (bs := []) hb).cell 0 (ErrT.lt h) (by simp)

/-- The law. -/
theorem lawValues_any (s : ByteArray) (u x : Int) (w : World) (hg : ErrT w) (hm : s.size ≤ 140737488351232) :
    Calls Tryd.prog 4 #[.string s, .int .i64 u, .int .i64 x] w fun e w' => e = .returned (.bool true) ∧ Below w.heap.size w w' := by
  go_enter Tryd.func4, Tryd.ntmps4
  go_wp2_with fail
  refine (pValue_any s u x _ hg hm).mono ?_
  rintro e w1 ⟨rfl, hb1⟩
  go_wp2_with fail
  refine (rValue_any s u x _ hm).mono ?_
  rintro e w2 ⟨rfl, hb2⟩
  generalize vv s u x = V at *
  generalize vb s = B at *
  generalize rd s = R at *
  have HB1 := hidV hb1
  have HB2 := hidV hb2
  clear hb1 hb2
  go_wp2
  go_ret
  exact ⟨rfl, Fr.below (bs := []) ((Fr.of_below HB1.out).trans (Fr.of_below (bs := []) (by exact HB2.out)) (by simp)) (Nat.le_refl _) (by simp)⟩
end Go.Proofs.YthlmgpllapccfaaDoor
/- THE TWO Canons, AND THE LAW. -/
namespace Go.Proofs.YthlmgpllapccfaaDoor
open Go.RowKit

/-- What Canon writes. -/
def cv (s : ByteArray) : List UInt8 := if (rd s).e = 0 then txt (rd s).p else []

set_option maxRecDepth 100000 in
set_option maxHeartbeats 2000000 in
theorem pCanon_any (s : ByteArray) (w : World) (hg : ErrT w) (hm : s.size ≤ 140737488351232) :
    Calls Tryd.prog 7 #[.string s] w fun e w' => e = .returned (.tuple #[.string (bs (cv s)), .int .i64 (rd s).e, .int .i64 (vb s)]) ∧ Below w.heap.size w w' := by
  have HP := hidV (Polynomial_any s w hg hm)
  clear hg hm
  unfold cv vb
  generalize rd s = R at *
  by_cases he : R.e = 0
  · rw [if_pos he, if_pos he]
    rw [he] at HP ⊢
    go_enter Tryd.func7, Tryd.ntmps7
    go_wp2_with fail
    refine HP.out.mono ?_
    rintro e w1 ⟨rfl, hgd, hbel⟩
    have HB := hidV hbel
    clear hbel HP
    go_wp2_with (first | (refine wpList_store_mid (by rfl) 37 _ _ (by rfl) w1.heap.size 0 (pv R.p) (by rfl) (by rfl) (Blk.there (Blk.new w1 _ _) (by rw [pv_size, hgd.1]; decide)) (size_poly hgd) (pv_one _) ?_) | (refine wpList_load_row (by rfl) 37 _ (by rfl) w1.heap.size (by rfl) 37 (pv R.p) (0, 0) _ (by exact Blk.setAll (Blk.new w1 _ _) _ (by rw [pv_size, hgd.1]; rfl)) Tryd.underlying37 (by rfl) (size_poly hgd) ?_))
    refine (Text_any R.p _ hgd).mono ?_
    rintro e w2 ⟨rfl, hbel2⟩
    have HB2 := hidV hbel2
    clear hbel2
    go_wp2
    go_ret3
    refine ⟨rfl, ?_⟩
    refine Fr.below (bs := []) ((Fr.setCells (Fr.alloc (Fr.of_below HB.out) _) _ _ _ (Or.inr HB.out.size)).trans (Fr.of_below (bs := []) (by exact HB2.out)) (by simp)) (Nat.le_refl _) (by simp)
  · rw [if_neg he, if_neg he]
    have he' : ((R.e : Int) != 0) = true := by rw [bne_iff_ne]; omega
    go_enter Tryd.func7, Tryd.ntmps7
    go_wp2_with fail
    refine HP.out.mono ?_
    rintro e w1 ⟨rfl, hgd, hbel⟩
    have HB := hidV hbel
    clear hbel HP
    go_wp2_with (first | (refine wpList_store_mid (by rfl) 37 _ _ (by rfl) w1.heap.size 0 (pv R.p) (by rfl) (by rfl) (Blk.there (Blk.new w1 _ _) (by rw [pv_size, hgd.1]; decide)) (size_poly hgd) (pv_one _) ?_))
    go_ret3
    refine ⟨rfl, ?_⟩
    exact Fr.below (bs := []) (Fr.setCells (Fr.alloc (Fr.of_below HB.out) _) _ _ _ (Or.inr HB.out.size)) (Nat.le_refl _) (by simp)

set_option maxRecDepth 100000 in
set_option maxHeartbeats 2000000 in
theorem rCanon_any (s : ByteArray) (w : World) (hm : s.size ≤ 140737488351232) :
    Calls Tryd.prog 8 #[.string s] w fun e w' => e = .returned (.tuple #[.string (bs (cv s)), .int .i64 (rd s).e, .int .i64 (vb s)]) ∧ Below w.heap.size w w' := by
  have HP := hidV (read_any s w hm)
  clear hm
  unfold cv vb
  generalize rd s = R at *
  by_cases he : R.e = 0
  · rw [if_pos he, if_pos he]
    rw [he] at HP ⊢
    go_enter Tryd.func8, Tryd.ntmps8
    go_wp2_with fail
    refine HP.out.mono ?_
    rintro e w1 ⟨rfl, hgd, hbel⟩
    have HB := hidV hbel
    clear hbel HP
    go_wp2_with (first | (refine wpList_store_mid (by rfl) 41 _ _ (by rfl) w1.heap.size 0 (pv R.p) (by rfl) (by rfl) (Blk.there (Blk.new w1 _ _) (by rw [pv_size, hgd.1]; decide)) (size_rPoly hgd) (pv_one _) ?_) | (refine wpList_load_row (by rfl) 41 _ (by rfl) w1.heap.size (by rfl) 41 (pv R.p) (0, 0) _ (by exact Blk.setAll (Blk.new w1 _ _) _ (by rw [pv_size, hgd.1]; rfl)) Tryd.underlying41 (by rfl) (size_rPoly hgd) ?_))
    refine (write_any R.p _ hgd).mono ?_
    rintro e w2 ⟨rfl, hbel2⟩
    have HB2 := hidV hbel2
    clear hbel2
    go_wp2
    go_ret3
    refine ⟨rfl, ?_⟩
    refine Fr.below (bs := []) ((Fr.setCells (Fr.alloc (Fr.of_below HB.out) _) _ _ _ (Or.inr HB.out.size)).trans (Fr.of_below (bs := []) (by exact HB2.out)) (by simp)) (Nat.le_refl _) (by simp)
  · rw [if_neg he, if_neg he]
    have he' : ((R.e : Int) != 0) = true := by rw [bne_iff_ne]; omega
    go_enter Tryd.func8, Tryd.ntmps8
    go_wp2_with fail
    refine HP.out.mono ?_
    rintro e w1 ⟨rfl, hgd, hbel⟩
    have HB := hidV hbel
    clear hbel HP
    go_wp2_with (first | (refine wpList_store_mid (by rfl) 41 _ _ (by rfl) w1.heap.size 0 (pv R.p) (by rfl) (by rfl) (Blk.there (Blk.new w1 _ _) (by rw [pv_size, hgd.1]; decide)) (size_rPoly hgd) (pv_one _) ?_))
    go_ret3
    refine ⟨rfl, ?_⟩
    exact Fr.below (bs := []) (Fr.setCells (Fr.alloc (Fr.of_below HB.out) _) _ _ _ (Or.inr HB.out.size)) (Nat.le_refl _) (by simp)

/-- The law. -/
theorem lawCanons_any (s : ByteArray) (w : World) (hg : ErrT w) (hm : s.size ≤ 140737488351232) :
    Calls Tryd.prog 3 #[.string s] w fun e w' => e = .returned (.bool true) ∧ Below w.heap.size w w' := by
  go_enter Tryd.func3, Tryd.ntmps3
  go_wp2_with fail
  refine (pCanon_any s _ hg hm).mono ?_
  rintro e w1 ⟨rfl, hb1⟩
  go_wp2_with fail
  refine (rCanon_any s _ hm).mono ?_
  rintro e w2 ⟨rfl, hb2⟩
  generalize bs (cv s) = V at *
  generalize vb s = B at *
  generalize rd s = R at *
  have HB1 := hidV hb1
  have HB2 := hidV hb2
  clear hb1 hb2
  go_wp2
  go_ret
  exact ⟨rfl, Fr.below (bs := []) ((Fr.of_below HB1.out).trans (Fr.of_below (bs := []) (by exact HB2.out)) (by simp)) (Nat.le_refl _) (by simp)⟩
end Go.Proofs.YthlmgpllapccfaaDoor
/- ADDED: the statement's own functions: pick, digit, term. -/
namespace Go.Proofs.YthlmgpllapccfaaDoor
open Go.RowKit

/-- Which of n things. -/
def pck (c : Int) (n : Nat) : Nat := ((if c < 0 then -(c + 1) else c) % n).toNat
theorem pck_lt (c : Int) {n : Nat} (h : 0 < n) : pck c n < n := by
  unfold pck
  have h1 : (0 : Int) < n := by omega
  have := Int.emod_lt_of_pos (if c < 0 then -(c + 1) else c) h1
  have := Int.emod_nonneg (if c < 0 then -(c + 1) else c) (b := n) (by omega)
  omega
theorem pck_cast (c : Int) {n : Nat} (h : 0 < n) : (pck c n : Int) = Int.tmod (if c < 0 then -(c + 1) else c) n := by
  unfold pck
  have := Int.emod_nonneg (if c < 0 then -(c + 1) else c) (b := n) (by omega)
  rw [Int.toNat_of_nonneg this, Int.tmod_eq_emod_of_nonneg]
  split <;> omega
set_option maxRecDepth 100000 in
theorem kpick_any (c : Int) (n : Nat) (N : Int) (w : World) (hN : N = n) (h : 0 < n) (hn : n ≤ 100) (h1 : -9223372036854775808 ≤ c) (h2 : c ≤ 9223372036854775807) :
    Calls Tryd.prog 14 #[.int .i64 c, .int .i64 N] w fun e w' => e = .returned (.int .i64 (pck c n)) ∧ w' = w := by
  subst hN
  have hp := pck_cast c h
  have hl := pck_lt c h
  have hn0 : ¬ ((n : Int) = 0) := by omega
  have hn1 : ¬ ((n : Int) = -1) := by omega
  have HP := hidT hp
  clear hp
  by_cases hc : c < 0
  · rw [if_pos hc] at HP
    go_enter Tryd.func14, Tryd.ntmps14
    go_wp2
    go_ret
    exact ⟨by rw [HP.out, Int.neg_tmod]; rfl, rfl⟩
  · rw [if_neg hc] at HP
    go_enter Tryd.func14, Tryd.ntmps14
    go_wp2
    go_ret
    exact ⟨by rw [HP.out, Int.tmod_eq_emod_of_nonneg (by omega)]; rfl, rfl⟩
theorem kdigit_any (n : Nat) (N : Int) (w : World) (hN : N = n) (hn : n < 10) :
    Calls Tryd.prog 23 #[.int .i64 N] w fun e w' => e = .returned (.string (bs [dgt n])) ∧ Below w.heap.size w w' := by
  subst hN
  have hcv := fun (w' : World) => conv_new n hn w'
  go_enter Tryd.func23, Tryd.ntmps23
  go_wp2
  go_ret
  exact ⟨rfl, by go_grown⟩

theorem kpick_to (c : Int) (n : Nat) (C N : Int) (w : World) (hC : C = c) (hN : N = n) (h : 0 < n) (hn : n ≤ 100) (h1 : -9223372036854775808 ≤ c) (h2 : c ≤ 9223372036854775807) :
    Calls Tryd.prog 14 #[.int .i64 C, .int .i64 N] w fun e w' => e = .returned (.int .i64 (pck c n)) ∧ w' = w := by
  subst hC; exact kpick_any C n N w hN h hn h1 h2
theorem add_to0 (a : List UInt8) (A : ByteArray) (b c : List UInt8) (S : ByteArray) (hA : A = bs a) (hS : S = bs b) (hc : a ++ b = c) (ha : a.length ≤ 1000) (hb : b.length ≤ 1000) (w : World) : (Op.stringOp .add A S).run Tryd.prog w = .ok (.string (bs c)) w := by
  subst hA; exact add_to a b c S hS hc ha hb w
theorem tdiv_bd (v : Int) (k : Nat) (hk : 2 ≤ k) (h1 : -9223372036854775808 ≤ v) (h2 : v ≤ 9223372036854775807) : -9223372036854775808 ≤ Int.tdiv v k ∧ Int.tdiv v k ≤ 9223372036854775807 := by
  have h := Int.natAbs_tdiv v k
  have e : Nat.div v.natAbs (k : Int).natAbs = v.natAbs / k := rfl
  rw [e] at h
  have h3 : v.natAbs / k ≤ v.natAbs / 2 := Nat.div_le_div_left hk (by omega)
  omega
theorem bel2 {a b c : World} (h : Below a.heap.size a b) (k : Below b.heap.size b c) : Below a.heap.size a c :=
  Fr.below (bs := []) ((Fr.of_below h).trans (Fr.of_below (bs := []) k) (by simp)) (Nat.le_refl _) (by simp)
end Go.Proofs.YthlmgpllapccfaaDoor
/- AGAIN: the two fixed answers; the law. -/
namespace Go.Proofs.YthlmgpllapccfaaDoor
open Go.RowKit

theorem bs_toList (l : List UInt8) : (bs l).toList = l := by rw [ByteArray.toList_eq]; rfl
theorem pw_bad {f : Nat → Tok} {M : Nat} (hf : ∀ k, (f k).at' ≤ M) (bare : Bool) : ∀ (m k u x : Nat), (pw f bare m k u x).bad ≤ M := by
  intro m
  induction m with
  | zero => intro k u x; simp [pw]
  | succ m ih =>
    intro k u x
    have := hf k
    simp only [pw]
    split
    · split
      · exact ih _ _ _
      · exact this
    · split
      · split
        · exact this
        · split
          · exact ih _ _ _
          · exact this
      · simp
theorem tm_bad {f : Nat → Tok} {M : Nat} (hf : ∀ k, (f k).at' ≤ M) (bare : Bool) (N k : Nat) : (tm f bare N k).bad ≤ M := by
  unfold tm
  split
  · exact pw_bad hf _ _ _ _ _
  · split
    · exact pw_bad hf _ _ _ _ _
    · exact hf k
theorem pl_bad' {f : Nat → Tok} {M : Nat} (hf : ∀ k, (f k).at' ≤ M) (bare : Bool) (N : Nat) : ∀ (m k sg : Nat) (p : List Nat), (pl f bare N m k sg p).bad ≤ M := by
  intro m
  induction m with
  | zero => intro k sg p; simp [pl]
  | succ m ih =>
    intro k sg p
    simp only [pl]
    split
    · split
      · exact ih _ _ _
      · split
        · exact ih _ _ _
        · simp
    · exact tm_bad hf _ _ _
theorem rd_bad (s : ByteArray) : (rd s).bad ≤ s.size := by
  have hf : ∀ k, (tk s 0 k).at' ≤ s.size := fun k => (tk_facts (Nat.zero_le _) k).1
  unfold rd
  split
  · simp
  · split
    · split
      · simp
      · exact hf _
    · show (poly (tk s 0) false s.size 0).bad ≤ s.size
      unfold poly; split <;> exact pl_bad' hf _ _ _ _ _ _
theorem txt_len2 (p : List Nat) : (txt p).length ≤ 210 := by
  unfold txt; split
  · simp
  · exact wrt_len p 35
theorem cv_len (s : ByteArray) : (cv s).length ≤ 210 := by
  unfold cv; split
  · exact txt_len2 _
  · simp
theorem vv_lt (s : ByteArray) (u x : Int) : vv s u x < 7 := by
  unfold vv; split
  · exact horn_lt _ _ _ _
  · omega
set_option maxRecDepth 100000 in
theorem fix_c : cv ⟨#[51, 32, 43, 32, 120, 50, 117, 32, 45, 32, 49, 48, 120, 50, 32, 117, 43, 32, 50, 120, 120]⟩ = [53, 117, 120, 50, 43, 50, 120, 50, 43, 51] := by kernel_rfl
set_option maxRecDepth 100000 in
theorem fix_e : (rd ⟨#[51, 32, 43, 32, 120, 50, 117, 32, 45, 32, 49, 48, 120, 50, 32, 117, 43, 32, 50, 120, 120]⟩).e = 0 := by kernel_rfl
set_option maxRecDepth 100000 in
theorem fix_b : vb ⟨#[51, 32, 43, 32, 120, 50, 117, 32, 45, 32, 49, 48, 120, 50, 32, 117, 43, 32, 50, 120, 120]⟩ = 0 := by kernel_rfl
set_option maxRecDepth 100000 in
theorem fix_v : vv ⟨#[117, 120, 50, 45, 49]⟩ (-1) 8 = 5 := by kernel_rfl
set_option maxRecDepth 100000 in
theorem fix_f : (rd ⟨#[117, 120, 50, 45, 49]⟩).e = 0 := by kernel_rfl
set_option maxRecDepth 100000 in
theorem fix_p : vb ⟨#[117, 120, 50, 45, 49]⟩ = 0 := by kernel_rfl
theorem fixC (w : World) (hg : ErrT w) : Calls Tryd.prog 7 #[.string ⟨#[51, 32, 43, 32, 120, 50, 117, 32, 45, 32, 49, 48, 120, 50, 32, 117, 43, 32, 50, 120, 120]⟩] w fun e w' => e = .returned (.tuple #[.string (bs [53, 117, 120, 50, 43, 50, 120, 50, 43, 51]), .int .i64 0, .int .i64 0]) ∧ Below w.heap.size w w' := by
  have h := pCanon_any ⟨#[51, 32, 43, 32, 120, 50, 117, 32, 45, 32, 49, 48, 120, 50, 32, 117, 43, 32, 50, 120, 120]⟩ w hg (by decide)
  rw [fix_c, fix_e, fix_b] at h
  exact h
theorem fixV (w : World) (hg : ErrT w) : Calls Tryd.prog 9 #[.string ⟨#[117, 120, 50, 45, 49]⟩, .int .i64 (-1), .int .i64 8] w fun e w' => e = .returned (.tuple #[.int .i64 5, .int .i64 0, .int .i64 0]) ∧ Below w.heap.size w w' := by
  have h := pValue_any ⟨#[117, 120, 50, 45, 49]⟩ (-1) 8 w hg (by decide)
  rw [fix_v, fix_f, fix_p] at h
  exact h
set_option maxRecDepth 100000 in
theorem fixed_any (w : World) (hg : ErrT w) : Calls Tryd.prog 11 #[] w fun e w' => e = .returned (.bool true) ∧ Below w.heap.size w w' := by
  go_enter Tryd.func11, Tryd.ntmps11
  go_wp2_with fail
  refine (fixC w hg).mono ?_
  rintro e w1 ⟨rfl, hb1⟩
  have HB1 := hidV hb1
  have HG := hidV (hg.below hb1)
  clear hb1
  go_wp2_with fail
  refine (fixV _ HG.out).mono ?_
  rintro e w2 ⟨rfl, hb2⟩
  have HB2 := hidV hb2
  clear hb2
  have hq := bs_toList [53, 117, 120, 50, 43, 50, 120, 50, 43, 51]
  go_wp2
  go_ret
  exact ⟨rfl, Fr.below (bs := []) ((Fr.of_below HB1.out).trans (Fr.of_below (bs := []) (by exact HB2.out)) (by simp)) (Nat.le_refl _) (by simp)⟩

/-- What Again holds together. -/
theorem cv_bad {s : ByteArray} (h : (rd s).e ≠ 0) (u x : Int) : cv s = [] ∧ vv s u x = 0 := by
  unfold cv vv; rw [if_neg h, if_neg h]; exact ⟨rfl, rfl⟩
theorem vb_le (s : ByteArray) : vb s ≤ s.size := by
  unfold vb; split
  · omega
  · exact rd_bad s
theorem cv_again {s : ByteArray} (hg : Good (rd s).p) (h : (rd s).e = 0) (hl : (cv s).length ≤ 90) (u x : Int) : (rd (bs (cv s))).e = 0 ∧ cv (bs (cv s)) = cv s ∧ vv (bs (cv s)) u x = vv s u x := by
  have e : cv s = txt (rd s).p := by unfold cv; rw [if_pos h]
  rw [e] at hl
  have r := round_trip hg hl
  rw [e]
  refine ⟨by rw [r], ?_, ?_⟩
  · unfold cv; rw [r, if_pos rfl]
  · unfold vv; rw [r, if_pos rfl, if_pos h]
theorem rd_long {s : ByteArray} (h : 90 < s.size) : (rd s).e = 2 := by unfold rd; rw [if_pos h]
theorem pl_good (f : Nat → Tok) (bare : Bool) (N : Nat) : ∀ (m k sg : Nat) (p : List Nat), Good p → Good (pl f bare N m k sg p).p := by
  intro m
  induction m with
  | zero => intro k sg p h; simpa [pl] using h
  | succ m ih =>
    intro k sg p h
    simp only [pl]
    split
    · split
      · exact ih _ _ _ (plus_good h _ _ _)
      · split
        · exact ih _ _ _ (plus_good h _ _ _)
        · exact plus_good h _ _ _
    · exact h
theorem rd_good (s : ByteArray) : Good (rd s).p := by
  unfold rd
  split
  · exact zeros_good
  · split
    · split
      · show Good (poly (tk s 0) false s.size 0).p
        unfold poly; split <;> exact pl_good _ _ _ _ _ _ _ zeros_good
      · exact zeros_good
    · exact zeros_good
set_option maxRecDepth 100000 in
set_option maxHeartbeats 2000000 in
theorem lawAgain_any (s : ByteArray) (u x : Int) (w : World) (hg : ErrT w) (hm : s.size ≤ 140737488351232) :
    Calls Tryd.prog 5 #[.string s, .int .i64 u, .int .i64 x] w fun e w' => e = .returned (.bool true) ∧ Below w.heap.size w w' := by
  have HC := fun (w' : World) (h : ErrT w') => pCanon_any s w' h hm
  have HV := fun (w' : World) (h : ErrT w') => pValue_any s u x w' h hm
  have hcl := cv_len s
  have hbs : (bs (cv s)).size = (cv s).length := bs_size _
  have HC2 := fun (w' : World) (h : ErrT w') => pCanon_any (bs (cv s)) w' h (by omega)
  have HV2 := fun (w' : World) (h : ErrT w') => pValue_any (bs (cv s)) u x w' h (by omega)
  have hvlt := vv_lt s u x
  have hble := vb_le s
  have htl := bs_toList (cv s)
  by_cases he : (rd s).e = 0
  · have hb0 : vb s = 0 := by unfold vb; rw [if_pos he]
    rw [he] at HC HV
    rw [hb0] at HC HV
    by_cases hl : (cv s).length ≤ 90
    · obtain ⟨a1, a2, a3⟩ := cv_again (rd_good s) he hl u x
      have hb2 : vb (bs (cv s)) = 0 := by unfold vb; rw [if_pos a1]
      rw [a1, a2, hb2] at HC2
      rw [a1, a3, hb2] at HV2
      clear a1 a2 a3 hb2 he hb0 hble
      have hl' : ¬ ((bs (cv s)).size : Int) > 90 := by omega
      have HHC := hidV HC
      have HHV := hidV HV
      have HHC2 := hidV HC2
      have HHV2 := hidV HV2
      clear HC HV HC2 HV2 hl
      generalize cv s = C at *
      generalize vv s u x = V at *
      go_enter Tryd.func5, Tryd.ntmps5
      go_wp2_with fail
      refine (fixed_any _ hg).mono ?_
      rintro e w1 ⟨rfl, hb1⟩
      have HB1 := hidV hb1
      have G1 := hidV (hg.below hb1)
      clear hb1
      go_wp2_with fail
      refine (HHC.out _ G1.out).mono ?_
      rintro e w2 ⟨rfl, hb2⟩
      have HB2 := hidV hb2
      have G2 := hidV (G1.out.below hb2)
      clear hb2
      go_wp2_with fail
      refine (HHV.out _ G2.out).mono ?_
      rintro e w3 ⟨rfl, hb3⟩
      have HB3 := hidV hb3
      have G3 := hidV (G2.out.below hb3)
      clear hb3
      go_wp2_with fail
      refine (HHC2.out _ G3.out).mono ?_
      rintro e w4 ⟨rfl, hb4⟩
      have HB4 := hidV hb4
      have G4 := hidV (G3.out.below hb4)
      clear hb4
      go_wp2_with fail
      refine (HHV2.out _ G4.out).mono ?_
      rintro e w5 ⟨rfl, hb5⟩
      have HB5 := hidV hb5
      clear hb5
      go_wp2
      go_ret
      exact ⟨rfl, bel2 (bel2 (bel2 (bel2 HB1.out HB2.out) HB3.out) HB4.out) HB5.out⟩
    · have a1 := rd_long (s := bs (cv s)) (by omega)
      rw [a1] at HC2
      clear a1 he hb0 hble HV2 hvlt
      have hl' : ((bs (cv s)).size : Int) > 90 := by omega
      have HHC := hidV HC
      have HHV := hidV HV
      have HHC2 := hidV HC2
      clear HC HV HC2 hl
      generalize cv (bs (cv s)) = C2 at *
      generalize vb (bs (cv s)) = b2 at *
      generalize cv s = C at *
      generalize vv s u x = V at *
      go_enter Tryd.func5, Tryd.ntmps5
      go_wp2_with fail
      refine (fixed_any _ hg).mono ?_
      rintro e w1 ⟨rfl, hb1⟩
      have HB1 := hidV hb1
      have G1 := hidV (hg.below hb1)
      clear hb1
      go_wp2_with fail
      refine (HHC.out _ G1.out).mono ?_
      rintro e w2 ⟨rfl, hb2⟩
      have HB2 := hidV hb2
      have G2 := hidV (G1.out.below hb2)
      clear hb2
      go_wp2_with fail
      refine (HHV.out _ G2.out).mono ?_
      rintro e w3 ⟨rfl, hb3⟩
      have HB3 := hidV hb3
      have G3 := hidV (G2.out.below hb3)
      clear hb3
      go_wp2_with fail
      refine (HHC2.out _ G3.out).mono ?_
      rintro e w4 ⟨rfl, hb4⟩
      have HB4 := hidV hb4
      clear hb4
      go_wp2
      go_ret
      exact ⟨rfl, bel2 (bel2 (bel2 HB1.out HB2.out) HB3.out) HB4.out⟩
  · obtain ⟨a1, a2⟩ := cv_bad he u x
    have he' : ¬ (((rd s).e : Int) = 0) := by omega
    have hble' : ((vb s : Nat) : Int) ≤ (s.size : Int) := by omega
    have hb0 : (0 : Int) ≤ (vb s : Nat) := by omega
    have htn := bs_toList []
    rw [a1] at HC
    rw [a2] at HV
    clear HC2 HV2 hvlt hcl hbs htl a1 a2 he hble
    have HHC := hidV HC
    have HHV := hidV HV
    clear HC HV
    generalize vb s = b at *
    generalize (rd s).e = E at *
    go_enter Tryd.func5, Tryd.ntmps5
    go_wp2_with fail
    refine (fixed_any _ hg).mono ?_
    rintro e w1 ⟨rfl, hb1⟩
    have HB1 := hidV hb1
    have G1 := hidV (hg.below hb1)
    clear hb1
    go_wp2_with fail
    refine (HHC.out _ G1.out).mono ?_
    rintro e w2 ⟨rfl, hb2⟩
    have HB2 := hidV hb2
    have G2 := hidV (G1.out.below hb2)
    clear hb2
    go_wp2_with fail
    refine (HHV.out _ G2.out).mono ?_
    rintro e w3 ⟨rfl, hb3⟩
    have HB3 := hidV hb3
    have G3 := hidV (G2.out.below hb3)
    clear hb3
    go_wp2
    go_ret
    exact ⟨rfl, bel2 (bel2 HB1.out HB2.out) HB3.out⟩
end Go.Proofs.YthlmgpllapccfaaDoor
/- WHAT THE ROWS' CONDITION GIVES A WALK: errors.errorType's cell; a world that meets it. -/
namespace Go.Proofs.YthlmgpllapccfaaDoor
open Go.ChangeShapes Go.WideShapes Go.RowKit

theorem Tryd.own : ownKnob Tryd.prog.godebug = none := by kernel_rfl
theorem Tryd.et : Tryd.prog.globalNamed "errors.errorType" = some 0 := by kernel_rfl
theorem Tryd.rt : (Tryd.prog.cutTypes.find? (·.1 == "internal/reflectlite.rtype")).map (·.2) = some 118 := by kernel_rfl
theorem Tryd.oneRow : ((List.range Tryd.prog.types.size).filter fun t => Tryd.prog.rowNamed t [101, 114, 114, 111, 114]) = [77] := by kernel_rfl
theorem Tryd.hand : typeHandle Tryd.prog 77 = .pointer (some ⟨5, 77, none⟩) := by kernel_rfl

theorem errT_of_handle {W : World} (h : handlesMet Tryd.prog [("errors.errorType", Rows.laid_errors_errorType)] W) : ErrT W := by
  obtain ⟨name, u, ty, e1, e2, e3, e4, e5⟩ := h _ (List.mem_singleton.2 rfl)
  have en : name = [101, 114, 114, 111, 114] := (Option.some.inj e1).symm
  subst en
  obtain rfl := Option.some.inj (Tryd.rt.symm.trans e2)
  have hm : ty ∈ (List.range Tryd.prog.types.size).filter fun t => Tryd.prog.rowNamed t [101, 114, 114, 111, 114] := List.mem_filter.2 ⟨List.mem_range.2 e3, e4⟩
  rw [Tryd.oneRow] at hm
  obtain rfl := List.mem_singleton.1 hm
  rw [Tryd.hand] at e5
  unfold ErrT
  simpa using World.var?_cell Tryd.et e5 0

/-- A world that meets the condition: the settled one, the variable's cell laid. -/
noncomputable def laidWorld (os : Os) : World :=
  let w0 := World.holding Tryd.prog os ⟨#[], #[], []⟩
  { w0 with heap := w0.heap.modify 0 fun
      | .cells _ t frozen => .cells #[.iface 118 (.agg #[.pointer (some ⟨5, 77, none⟩)])] t frozen
      | o => o }
end Go.Proofs.YthlmgpllapccfaaDoor
/- THE FOUR LISTED VARIABLES: what the condition gives; a world that meets it. -/
namespace Go.Proofs.YthlmgpllapccfaaDoor
open Go.ChangeShapes Go.WideShapes Go.RowKit
theorem four_laid {W : World} (h : laidMetH Tryd.prog [("math/bits.deBruijn32tab", Rows.laid_math_bits_deBruijn32tab), ("math/bits.deBruijn64tab", Rows.laid_math_bits_deBruijn64tab), ("internal/strconv.uint64pow10", Rows.laid_internal_strconv_uint64pow10), ("errors.errorType", Rows.laid_errors_errorType)] W) : ErrT W := by
  have h' : laidMet Tryd.prog [("math/bits.deBruijn32tab", Rows.laid_math_bits_deBruijn32tab), ("math/bits.deBruijn64tab", Rows.laid_math_bits_deBruijn64tab), ("internal/strconv.uint64pow10", Rows.laid_internal_strconv_uint64pow10)] W ∧ handlesMet Tryd.prog [("errors.errorType", Rows.laid_errors_errorType)] W := h
  exact errT_of_handle h'.2
theorem four_world (os : Os) (args : Array Value) : laidMetH Tryd.prog [("math/bits.deBruijn32tab", Rows.laid_math_bits_deBruijn32tab), ("math/bits.deBruijn64tab", Rows.laid_math_bits_deBruijn64tab), ("internal/strconv.uint64pow10", Rows.laid_internal_strconv_uint64pow10), ("errors.errorType", Rows.laid_errors_errorType)] ((World.doorLaid Tryd.prog 4000 os).forCall (fun _ _ => 0) ⟨#[], args, []⟩).memory :=
  laidMetH_of_parts3 (fuel := 40) (laidMet_of_run' 40 (by kernel_rfl) (by kernel_rfl)) (by kernel_rfl) (by kernel_rfl)
end Go.Proofs.YthlmgpllapccfaaDoor
/- AGAIN: THE ROW, AND THE TIED CARD. -/
namespace Go.Proofs.YthlmgpllapccfaaDoor
open Go.ChangeShapes Go.WideShapes Go.ChangeAt Go.RowKit
open Go.ChangeMaps (open_string shut_string)

set_option maxRecDepth 100000 in
theorem again_lifted (os : Os) (started : os.Started) (H : Type) (enc : TypeId × Value → H) :
    ReturnsInHanded {} Tryd.checked os 5 .any (fun w args => (Rows.againSpec.pre enc Tryd.prog Tryd.f5 [] false w args ∧ laidMetH Tryd.prog [("math/bits.deBruijn32tab", Rows.laid_math_bits_deBruijn32tab), ("math/bits.deBruijn64tab", Rows.laid_math_bits_deBruijn64tab), ("internal/strconv.uint64pow10", Rows.laid_internal_strconv_uint64pow10), ("errors.errorType", Rows.laid_errors_errorType)] w) ∧ sizedMet enc Tryd.prog Tryd.f5 (OpenSpec.ofChange Rows.againSpec) false w args)
      (Rows.againSpec.post enc Tryd.prog Tryd.f5 false true false false) := by
  refine returnsInHanded_of_change_and (C := Tryd.checked) (X := fun w _ => laidMetH Tryd.prog [("math/bits.deBruijn32tab", Rows.laid_math_bits_deBruijn32tab), ("math/bits.deBruijn64tab", Rows.laid_math_bits_deBruijn64tab), ("internal/strconv.uint64pow10", Rows.laid_internal_strconv_uint64pow10), ("errors.errorType", Rows.laid_errors_errorType)] w) (fun _ _ _ hh h => h.of_heap hh) Tryd.own started (by kernel_rfl) Tryd.func5
    (ChangeSpec.witness_shaped (enc := enc) (C := Tryd.checked) (os := os) (X := fun w _ => laidMetH Tryd.prog [("math/bits.deBruijn32tab", Rows.laid_math_bits_deBruijn32tab), ("math/bits.deBruijn64tab", Rows.laid_math_bits_deBruijn64tab), ("internal/strconv.uint64pow10", Rows.laid_internal_strconv_uint64pow10), ("errors.errorType", Rows.laid_errors_errorType)] w) false (World.doorLaid Tryd.prog 4000 os) #[.string ByteArray.empty, .int .i64 0, .int .i64 0] 8 rfl (World.shaped_of_RefB (by kernel_rfl) (by kernel_rfl)) (by kernel_rfl) (by kernel_rfl) (by kernel_rfl) (four_world os _)) ?_
  intro W base args ds gs before hval0 hW _ hsz0 hL _
  have hval : ∀ (j : Nat) t v, Tryd.f5.params[j]? = some t → args[j]? = some v → Value.okWide Tryd.prog W .any base t v := hval0
  have hsz : (DataW.weightsEach Tryd.prog (Tryd.f5.params.toList ++ Rows.againSpec.plain.varTypes Tryd.prog) (ds ++ gs)).all (· ≤ reachBytes) = true := hsz0
  have hW' := hW
  obtain ⟨p, q, hA0, hV0, rfl, hfz, hnd⟩ := hW
  have hA : DataW.TrodAll enc Tryd.prog W 0 (fun _ => true) true Tryd.f5.params.toList args.toList ds p := hA0
  have hV : DataW.TrodVars enc Tryd.prog W (fun _ => true) [] gs q := hV0
  rw [Tryd.params5] at hA hval hsz
  obtain ⟨v0, v1, v2, d0, d1, d2, p0, p1, p2, rfl, rfl, rfl, h0, h1, h2⟩ := trodAll_three hA
  obtain ⟨s, rfl, rfl, rfl, ws⟩ := open_string Tryd.underlying9 (hval 0 9 v0 rfl rfl) h0
  obtain ⟨u, rfl, rfl, rfl, wu⟩ := open_int Tryd.underlying3 (hval 1 3 v1 rfl rfl) h1
  obtain ⟨x, rfl, rfl, rfl, wx⟩ := open_int Tryd.underlying3 (hval 2 3 v2 rfl rfl) h2
  have hg := four_laid hL
  obtain ⟨rfl, rfl⟩ : gs = [] ∧ q = [] := by
    cases gs with
    | nil => exact ⟨rfl, hV⟩
    | cons g r => exact absurd hV (by intro h; cases h)
  have hb : s.data.toList.length ≤ reachBytes := sized_string hsz (j := 0) (t := 9) rfl rfl
  have hm : s.size ≤ 140737488351232 := by
    have e : s.data.toList.length = s.size := by simp
    rw [e] at hb
    exact hb
  clear hA0 hval0 hsz0
  refine (lawAgain_any s u x W hg hm).mono fun e W' ⟨he, hw⟩ => ?_
  subst he
  refine ⟨_, rfl, _, _, _, [], [], [], hW', ?_, ?_, ?_, hw.frame _, fun h => by cases h⟩
  · exact trodAll_mk1 (shut_bool Tryd.underlying4 true)
  · exact trodAll_mk3 (shut_string Tryd.underlying9 ws) (shut_int Tryd.underlying3 wu) (shut_int Tryd.underlying3 wx)
  · rfl

theorem again_holds : Rows.AgainSaid :=
  OpenClaim.holds_of_wide 5 Tryd.f5 rfl rfl rfl rfl rfl rfl rfl ⟨rfl, rfl, rfl, rfl, rfl⟩ rfl rfl rfl rfl rfl (by kernel_rfl) Tryd.func5 (by kernel_rfl)
    (of_decide_eq_true (by kernel_rfl)) (by unfold Func.isWrapper; rw [if_neg (of_decide_eq_false (by kernel_rfl))]; exact ⟨rfl, rfl⟩)
    (fun os started H enc _ => again_lifted os started H enc)

theorem again_card : Rows.AgainCardSaid :=
  Claim7.holds_tied_plain_at .later [] [.data, .data, .data, .handle] true (true, "de91fc91640b9c987a08eeef19824d0f4cf06336a136806cba3f6f1c2bfd1efd") true
    again_holds (fun _ h => by cases h) (by kernel_rfl) (fun _ h => by cases h) again_row_tie rfl ⟨rfl, rfl⟩ (by kernel_rfl) rfl
    (fun f fn hf hfn => by
      obtain rfl : f = 5 := Option.some.inj ((show Tryd.prog.funcNamed "segments/segmentskeep.Again" = some 5 by kernel_rfl).symm.trans hf) |>.symm
      obtain rfl : fn = Tryd.f5 := (Option.some.inj (Tryd.func5.symm.trans hfn)).symm
      exact ⟨by kernel_rfl, fun j t ht => by
        rw [Tryd.params5] at ht
        rcases j with _ | _ | _ | j
        · obtain rfl : t = 9 := by simpa using ht.symm
          exact (show Tryd.prog.wantsStandIn 9 = false by kernel_rfl)
        · obtain rfl : t = 3 := by simpa using ht.symm
          exact (show Tryd.prog.wantsStandIn 3 = false by kernel_rfl)
        · obtain rfl : t = 3 := by simpa using ht.symm
          exact (show Tryd.prog.wantsStandIn 3 = false by kernel_rfl)
        · simp at ht⟩)
    (by kernel_rfl)
end Go.Proofs.YthlmgpllapccfaaDoor
