/- THE TWO Values, AND THE LAW. -/
import Derived.Test.YtaajdcaciofmaaaDoorVals3
import Derived.Test.YtaajdcaciofmaaaDoorPolyn
import Derived.Test.YtaajdcaciofmaaaDoorRead
namespace Go.Proofs.YtaajdcaciofmaaaDoor
open Go.RowKit

/-- What Value answers. -/
def vv (s : ByteArray) (u x : Int) : Nat := if (rd s).e = 0 then valP (rd s).p (u % 7).toNat (x % 7).toNat else 0
def vb (s : ByteArray) : Nat := if (rd s).e = 0 then 0 else (rd s).bad
theorem m7 (u : Int) : u % 7 = ((u % 7).toNat : Int) ∧ (u % 7).toNat < 7 := by omega
theorem lineR_len (p : List Nat) (u : Nat) : (lineR p u).length = 5 := rfl
theorem lineR_lt (p : List Nat) (u i : Nat) : (lineR p u).getD i 0 < 7 := by
  by_cases h : i < 5
  · rw [lineR_get _ _ _ h]; exact pows_lt _ _ _
  · rw [List.getD_eq_getElem?_getD, List.getElem?_eq_none (by rw [lineR_len]; omega)]; simp

set_option maxRecDepth 100000 in
set_option maxHeartbeats 2000000 in
theorem pValue_any (s : ByteArray) (u x : Int) (w : World) (hg : ErrT w) (hm : s.size ≤ 140737488351232) :
    Calls Tryd.prog 9 #[.string s, .int .i64 u, .int .i64 x] w fun e w' => e = .returned (.tuple #[.int .i64 (vv s u x), .int .i64 (rd s).e, .int .i64 (vb s)]) ∧ Below w.heap.size w w' := by
  have hu := m7 u
  have hx := m7 x
  have HU := hidV hu
  have HX := hidV hx
  clear hu hx
  have HP := hidV (Polynomial_any s w hg hm)
  clear hg hm
  unfold vv vb
  generalize rd s = R at *
  by_cases he : R.e = 0
  · rw [if_pos he, if_pos he]
    rw [he] at HP ⊢
    go_enter Tryd.func9, Tryd.ntmps9
    go_wp2_with fail
    refine HP.out.mono ?_
    rintro e w1 ⟨rfl, hgd, hbel⟩
    have HB := hidV hbel
    clear hbel HP
    go_wp2_with (first | (refine wpList_store_mid (by rfl) 37 _ _ (by rfl) w1.heap.size 0 (pv R.p) (by rfl) (by rfl) (Blk.there (Blk.new w1 _ _) (by rw [pv_size, hgd.1]; decide)) (size_poly hgd) (pv_one _) ?_) | (refine wpList_load_row (by rfl) 37 _ (by rfl) w1.heap.size (by rfl) 37 (pv R.p) (0, 0) _ (by exact Blk.setAll (Blk.new w1 _ _) _ (by rw [pv_size, hgd.1]; rfl)) Tryd.underlying37 (by rfl) (size_poly hgd) ?_))
    refine (pVal_any R.p u x _ _ _ hgd HU.out.1 HX.out.1 HU.out.2 HX.out.2).mono ?_
    rintro e w2 ⟨rfl, hbel2⟩
    have HB2 := hidV hbel2
    clear hbel2
    go_wp2
    go_ret3
    refine ⟨rfl, ?_⟩
    refine Fr.below (bs := []) ((Fr.setCells (Fr.alloc (Fr.of_below HB.out) _) _ _ _ (Or.inr HB.out.size)).trans (Fr.of_below (bs := []) (by exact HB2.out)) (by simp)) (Nat.le_refl _) (by simp)
  · rw [if_neg he, if_neg he]
    have he' : ((R.e : Int) != 0) = true := by rw [bne_iff_ne]; omega
    go_enter Tryd.func9, Tryd.ntmps9
    go_wp2_with fail
    refine HP.out.mono ?_
    rintro e w1 ⟨rfl, hgd, hbel⟩
    have HB := hidV hbel
    clear hbel HP
    go_wp2_with (first | (refine wpList_store_mid (by rfl) 37 _ _ (by rfl) w1.heap.size 0 (pv R.p) (by rfl) (by rfl) (Blk.there (Blk.new w1 _ _) (by rw [pv_size, hgd.1]; decide)) (size_poly hgd) (pv_one _) ?_))
    go_ret3
    refine ⟨rfl, ?_⟩
    exact Fr.below (bs := []) (Fr.setCells (Fr.alloc (Fr.of_below HB.out) _) _ _ _ (Or.inr HB.out.size)) (Nat.le_refl _) (by simp)

/-- The load of a whole polynomial, under a name that the walk does not open. -/
def ldPoly (x : Value) : Sem Value := Instr.loadAt 41 x
theorem ldPoly_eq (x : Value) : Instr.loadAt 41 x = ldPoly x := rfl
theorem run_ld (w : World) (b : Nat) (p : List Nat) (hp : Good p) (h : Blk w b (pv p) 41) : (ldPoly (.pointer (some ⟨b, 0, none⟩))).run Tryd.prog w = .ok (.agg (pv p)) w := by
  unfold ldPoly
  simp only [Instr.loadAt, Instr.sureAddr, Sem.run_bind, Sem.run_pure, Result.andThen_ok, run_loadVar_row w b 41 41 (pv p) (0, 0) _ h Tryd.underlying41 rfl (size_rPoly hp)]
section
attribute [local go_sem ↓] ldPoly_eq
set_option maxRecDepth 100000 in
set_option maxHeartbeats 2000000 in
theorem rValue_any (s : ByteArray) (u x : Int) (w : World) (hm : s.size ≤ 140737488351232) :
    Calls Tryd.prog 10 #[.string s, .int .i64 u, .int .i64 x] w fun e w' => e = .returned (.tuple #[.int .i64 (vv s u x), .int .i64 (rd s).e, .int .i64 (vb s)]) ∧ Below w.heap.size w w' := by
  have hu := m7 u
  have hx := m7 x
  have HU := hidV hu
  have HX := hidV hx
  clear hu hx
  have HP := hidV (read_any s w hm)
  clear hm
  unfold vv vb
  rw [← val_same]
  generalize rd s = R at *
  by_cases he : R.e = 0
  · rw [if_pos he, if_pos he]
    rw [he] at HP ⊢
    go_enter Tryd.func10, Tryd.ntmps10
    go_wp2_with fail
    refine HP.out.mono ?_
    rintro e w1 ⟨rfl, hgd, hbel⟩
    have HB := hidV hbel
    clear hbel HP
    go_wp2_with (first | (refine wpList_store_mid (by rfl) 41 _ _ (by rfl) w1.heap.size 0 (pv R.p) (by rfl) (by rfl) (Blk.there (Blk.new w1 _ _) (by rw [pv_size, hgd.1]; decide)) (size_rPoly hgd) (pv_one _) ?_) | (refine wpList_load_row (by rfl) 41 _ (by rfl) w1.heap.size (by rfl) 41 (pv R.p) (0, 0) _ (by exact Blk.setAll (Blk.new w1 _ _) _ (by rw [pv_size, hgd.1]; rfl)) Tryd.underlying41 (by rfl) (size_rPoly hgd) ?_))
    refine wp_forget (fun W => Blk W w1.heap.size (pv R.p) 41 ∧ Below w.heap.size w W) ⟨by exact Blk.setAll (Blk.new w1 _ _) _ (by rw [pv_size, hgd.1]; rfl), Fr.below (bs := []) (Fr.setCells (Fr.alloc (Fr.of_below HB.out) _) _ _ _ (Or.inr HB.out.size)) (Nat.le_refl _) (by simp)⟩ ?_
    rintro W ⟨bk, hbW⟩
    have HBW := hidV hbW
    have HBK := hidV bk
    clear hbW
    generalize w1.heap.size = g at *
    have hld := fun (w' : World) (h : Blk w' g (pv R.p) 41) => run_ld w' g R.p hgd h
    go_region_held3 (fun w' => Blk w' g (pv R.p) 41) (first | assumption | exact HBK.out) (first | (go_at_call 22; refine (modulo_any _ _).mono ?_; rintro e w2 ⟨rfl, rfl⟩) | (go_at_call 21; refine (at_any R.p (u % 7).toNat _ _ hgd HU.out.1 HU.out.2).mono ?_; rintro e w3 ⟨rfl, hb3⟩; have HB3 := hidV hb3; have bk3 : Blk w3 g (pv R.p) 41 := Blk.fr (by exact HBK.out) (Fr.of_below (bs := []) hb3) (by simp)) | (go_at_call 20; refine (worth_any (lineR R.p (u % 7).toNat) (x % 7).toNat _ _ (lineR_len _ _) (lineR_lt _ _) HX.out.1 HX.out.2).mono ?_; rintro e w4 ⟨rfl, hb4⟩; have HB4 := hidV hb4; have bk4 : Blk w4 g (pv R.p) 41 := Blk.fr (by exact bk3) (Fr.of_below (bs := []) hb4) (by simp)))
    go_wp2
    go_ret3
    refine ⟨rfl, ?_⟩
    exact Fr.below (bs := []) (((Fr.of_below HBW.out).drew.trans (Fr.of_below (bs := []) HB3.out) (by simp)).trans (Fr.of_below (bs := []) HB4.out) (by simp)) (Nat.le_refl _) (by simp)
  · rw [if_neg he, if_neg he]
    have he' : ((R.e : Int) != 0) = true := by rw [bne_iff_ne]; omega
    go_enter Tryd.func10, Tryd.ntmps10
    go_wp2_with fail
    refine HP.out.mono ?_
    rintro e w1 ⟨rfl, hgd, hbel⟩
    have HB := hidV hbel
    clear hbel HP
    go_wp2_with (first | (refine wpList_store_mid (by rfl) 41 _ _ (by rfl) w1.heap.size 0 (pv R.p) (by rfl) (by rfl) (Blk.there (Blk.new w1 _ _) (by rw [pv_size, hgd.1]; decide)) (size_rPoly hgd) (pv_one _) ?_))
    go_ret3
    refine ⟨rfl, ?_⟩
    exact Fr.below (bs := []) (Fr.setCells (Fr.alloc (Fr.of_below HB.out) _) _ _ _ (Or.inr HB.out.size)) (Nat.le_refl _) (by simp)
end

theorem ErrT.below {w w' : World} (h : ErrT w) (hb : Below w.heap.size w w') : ErrT w' := by
  unfold ErrT at *
  rw [← h]
  exact (Fr.of_below (bs := []) hb).cell 0 (ErrT.lt h) (by simp)

/-- The law. -/
theorem lawValues_any (s : ByteArray) (u x : Int) (w : World) (hg : ErrT w) (hm : s.size ≤ 140737488351232) :
    Calls Tryd.prog 4 #[.string s, .int .i64 u, .int .i64 x] w fun e w' => e = .returned (.bool true) ∧ Below w.heap.size w w' := by
  go_enter Tryd.func4, Tryd.ntmps4
  go_wp2_with fail
  refine (pValue_any s u x _ hg hm).mono ?_
  rintro e w1 ⟨rfl, hb1⟩
  go_wp2_with fail
  refine (rValue_any s u x _ hm).mono ?_
  rintro e w2 ⟨rfl, hb2⟩
  generalize vv s u x = V at *
  generalize vb s = B at *
  generalize rd s = R at *
  have HB1 := hidV hb1
  have HB2 := hidV hb2
  clear hb1 hb2
  go_wp2
  go_ret
  exact ⟨rfl, Fr.below (bs := []) ((Fr.of_below HB1.out).trans (Fr.of_below (bs := []) (by exact HB2.out)) (by simp)) (Nat.le_refl _) (by simp)⟩
end Go.Proofs.YtaajdcaciofmaaaDoor
