import Derived.Test.YthlmgpllapccfaaGreatDoorPack12
import Derived.Test.YthlmgpllapccfaaGreatDoorRows
import Derived.ChangeSame
import Derived.ChangeVars
import Derived.JoinedOf
import Derived.RowKit
import Derived.RowKitTokens
import Derived.LaidLaws
import Derived.LaidHandle
import Derived.SizedLaws
import Derived.Stop.Joined
/- PLAIN: ROOTED and PARTED: what their answers come to. -/
namespace Go.Proofs.YthlmgpllapccfaaGreatDoor
open Go.RowKit

theorem ktl_len : ∀ l : List (Nat × Nat), (ktl l).length ≤ 6 * l.length
  | [] => by simp [ktl]
  | (c, x) :: t => by
    rw [ktl, List.length_append, List.length_cons]
    have h1 := tmx_len c 0 x
    have h2 := ktl_len t
    split
    · simp only [List.length_nil]; omega
    · rw [List.length_cons]; omega
theorem trm_len (g : Nat → Nat) : ∀ x, (trm g x).length ≤ x
  | 0 => by simp [trm]
  | x + 1 => by
    rw [trm]
    have h := trm_len g x
    split
    · omega
    · rw [List.length_cons]; omega
theorem tml_len (g : Nat → Nat) : (tml g).length ≤ 5 := by
  unfold tml
  split
  · simp
  · exact trm_len g 5
theorem up_len (g : Nat → Nat) : (txt (upL g)).length ≤ 30 := by
  rw [txt_tml]
  have := ktl_len (tml g)
  have := tml_len g
  omega
/-- The text of a greatest common divisor is read as that. -/
theorem up_read {g : Nat → Nat} (hg : Vec g) : rd (bs (ktl (tml g))) = ⟨0, 0, upL g⟩ := by
  rw [← txt_tml]
  exact round_trip (upL_good fun i _ => (hg i).1) (by have := up_len g; omega)
/-- The values of x at which two polynomials, and their greatest common divisor, are 0. -/
theorem rooted_law (u : Nat) (P Q : List Nat) (x : Nat) : (pows (lnF u P) x 5 = 0 ∧ pows (lnF u Q) x 5 = 0) ↔ pows (gall [lnF u P, lnF u Q]) x 5 = 0 := by
  have hv : ∀ l ∈ [lnF u P, lnF u Q], Vec l := by
    intro l hl
    simp only [List.mem_cons, List.not_mem_nil, or_false] at hl
    rcases hl with rfl | rfl
    · exact lnF_vec u P
    · exact lnF_vec u Q
  rw [← gall_roots hv x]
  simp
theorem valP_pows (p : List Nat) (u x : Nat) : valP p u x = pows (lnF u p) x 5 := by rw [← val_same, ← lnF_lst, valL_lst]
theorem valP_up {g : Nat → Nat} (hg : Vec g) (u x : Nat) : valP (upL g) u x = pows g x 5 := by rw [valP_pows, lnF_up hg]
/-- A segment of Parted: the values of u with this degree (behind the last: with none). -/
theorem parted_in (of : Nat → Nat) (h : ∀ u, of u ≤ 5) (d u : Nat) (hd : d ≤ 5) : inSeg of d u = (decide ((of u : Int) - 1 = (d : Int)) || (decide (4 < (d : Int)) && decide ((of u : Int) - 1 < 0))) := by
  have h1 := h u
  unfold inSeg
  rw [Bool.eq_iff_iff, decide_eq_true_iff, Bool.or_eq_true, Bool.and_eq_true, decide_eq_true_iff, decide_eq_true_iff, decide_eq_true_iff]
  split <;> omega
theorem ofD_le (ps : List (List Nat)) (u : Nat) : ofD ps u ≤ 5 := dg_le _
end Go.Proofs.YthlmgpllapccfaaGreatDoor
/- THE STATEMENTS' own listed. -/
namespace Go.Proofs.YthlmgpllapccfaaGreatDoor
open Go.RowKit

set_option maxRecDepth 100000 in
set_option maxHeartbeats 1000000 in
theorem klisted_any (b : Nat → Bool) (w : World) :
    Calls Tryz.prog 23 #[.agg (bv b)] w fun e w' => e = .returned (.string (bs (lsd b 7))) ∧ Below w.heap.size w w' := by
  go_enter Tryz.func23, Tryz.ntmps23
  go_wp2
  refine wp_forget (fun W => Blk W w.heap.size (bv b) 45 ∧ Below w.heap.size w W) ⟨Blk.new w _ _, by go_grown⟩ ?_
  rintro W ⟨b1, hbel⟩
  have HH := hidV (And.intro b1 hbel)
  clear b1 hbel
  go_loopg [3, 4] 7 (fun gm v3 v4 wr => ∃ k : Nat, gm = 7 - k ∧ k ≤ 7 ∧ v4 = .int .i64 k ∧ v3 = .string (bs (lsd b k)) ∧ Hid (Blk wr w.heap.size (bv b) 45 ∧ Below w.heap.size w wr))
  case atStart => exact ⟨0, rfl, by omega, rfl, rfl, HH⟩
  case round =>
    obtain ⟨k, hgm, hk, rfl, rfl, HD⟩ := hrel
    clear HH W
    by_cases h7 : k < 7
    · have hc : wr.cell? ⟨w.heap.size, k, none⟩ = some (.bool (b k)) := by rw [HD.out.1.cell]; exact bv_get b h7
      have k0 : (0 : Int) ≤ (k : Int) := by omega
      have k1 : (k : Int) < 7 := by omega
      have HL := hidV (lsd_len b k)
      have HY := hidV (@lsd_yes b k)
      have HN := hidV (@lsd_no b k)
      generalize b k = bk at *
      cases bk with
      | false =>
        have HS := hidV (HN.out rfl)
        clear HN HY
        go_wp2
        go_roundg (7 - (k + 1))
        case measure => omega
        case rel => exact ⟨k + 1, rfl, by omega, by go_num, by rw [HS.out], HD⟩
      | true =>
        have HS := hidV (HY.out rfl)
        clear HN HY
        generalize hX : lsd b k = X at *
        have HX := hidV hX
        clear hX
        by_cases hE : X = []
        · have hE' : (bs X).toList.isEmpty = true := by rw [bs_empty, hE]; rfl
          rw [if_pos hE] at HS
          have HXE := hidV hE
          clear hE
          obtain ⟨Y, HYY⟩ : ∃ Y, Hid (X ++ [dgt k] = Y) := ⟨_, hidV rfl⟩
          have hadd := fun (w' : World) => add_to X [dgt k] Y (bs [dgt k]) rfl HYY.out (by have := HL.out; omega) (by simp) w'
          go_wp2_with (go_at_call 17; refine (kdigit_any k _ _ (by rfl) (by omega)).mono ?_; rintro e w1 ⟨rfl, hb1⟩; have HB1 := hidV hb1; clear hb1)
          go_roundg (7 - (k + 1))
          case measure => omega
          case rel => exact ⟨k + 1, rfl, by omega, by go_num, by rw [HS.out, ← HYY.out, HXE.out], HD.out.1.fr (Fr.of_below (bs := []) HB1.out) (by simp), bel2 HD.out.2 HB1.out⟩
        · have hE' : (bs X).toList.isEmpty = false := by rw [bs_empty]; cases X with | nil => exact absurd rfl hE | cons _ _ => rfl
          rw [if_neg hE] at HS
          clear hE
          obtain ⟨Y, HYY⟩ : ∃ Y, Hid (X ++ [32] = Y) := ⟨_, hidV rfl⟩
          have HLY : Hid (Y.length ≤ 2 * k + 1) := by unfold Hid; rw [← HYY.out, List.length_append]; have := HL.out; simp only [List.length_cons, List.length_nil]; omega
          have hadd := fun (w' : World) => add_to X [32] Y ⟨#[32]⟩ rfl HYY.out (by have := HL.out; omega) (by simp) w'
          obtain ⟨Z, HZ⟩ : ∃ Z, Hid (Y ++ [dgt k] = Z) := ⟨_, hidV rfl⟩
          have hadd2 := fun (w' : World) => add_to Y [dgt k] Z (bs [dgt k]) rfl HZ.out (by have := HLY.out; omega) (by simp) w'
          go_wp2_with (go_at_call 17; refine (kdigit_any k _ _ (by rfl) (by omega)).mono ?_; rintro e w1 ⟨rfl, hb1⟩; have HB1 := hidV hb1; clear hb1)
          go_roundg (7 - (k + 1))
          case measure => omega
          case rel => exact ⟨k + 1, rfl, by omega, by go_num, by rw [HS.out, HYY.out, HZ.out], HD.out.1.fr (Fr.of_below (bs := []) HB1.out) (by simp), bel2 HD.out.2 HB1.out⟩
    · have ek : k = 7 := by omega
      subst ek
      go_wp2
      go_ret
      exact ⟨rfl, HD.out.2⟩
end Go.Proofs.YthlmgpllapccfaaGreatDoor
/- ADDED: the statement's own function text. -/
namespace Go.Proofs.YthlmgpllapccfaaGreatDoor
open Go.RowKit
/-- The text behind k rounds. -/
def kP (xs : List Int) (k : Nat) : List UInt8 := if k = 0 then [] else kX (xs.take k)
theorem kP_len (xs : List Int) (k : Nat) : (kP xs k).length ≤ 27 := by
  unfold kP; split
  · simp
  · exact kX_len _
theorem kP_one {xs : List Int} {x : Int} (h : xs[0]? = some x) : kP xs 1 = ktx (kT 1 (Int.tdiv x 2) 4).n (kT 1 (Int.tdiv x 2) 4).u (kT 1 (Int.tdiv x 2) 4).x := by
  cases xs with
  | nil => simp at h
  | cons y ys =>
    simp at h; subst h
    simp [kP, kX, kF, kR, its]
theorem kP_more {xs : List Int} {k : Nat} {x : Int} (h : xs[k]? = some x) (h0 : 0 < k) (h2 : k ≤ 2) : kP xs (k + 1) = kP xs k ++ (kI x).sep ++ ktx (kI x).t.n (kI x).t.u (kI x).t.x := by
  obtain ⟨k, rfl⟩ : ∃ j, k = j + 1 := ⟨k - 1, by omega⟩
  cases xs with
  | nil => simp at h
  | cons y ys =>
    have h' : ys[k]? = some x := by simpa using h
    unfold kP
    rw [if_neg (by omega), if_neg (by omega)]
    simp only [List.take_succ_cons, kX, kF, kR]
    rw [List.take_take, List.take_take, show min 2 (k + 1) = k + 1 by omega, show min 2 k = k by omega, List.take_add_one, h', List.map_append, its_append]
    simp [its]
theorem kP_end {xs : List Int} {k : Nat} (h : k = min xs.length 3) (h0 : 0 < k) : kP xs k = kX xs := by
  unfold kP
  rw [if_neg (by omega)]
  cases xs with
  | nil => simp at h; omega
  | cons y ys =>
    obtain ⟨j, rfl⟩ : ∃ j, k = j + 1 := ⟨k - 1, by omega⟩
    simp only [List.length_cons] at h
    simp only [List.take_succ_cons, kX, kF, kR]
    rw [List.take_take]
    by_cases hl : ys.length < 2
    · rw [List.take_of_length_le (by omega), List.take_of_length_le (by omega)]
    · rw [show min 2 j = 2 by omega]
end Go.Proofs.YthlmgpllapccfaaGreatDoor
/- ADDED: the statement's own function text, walked. -/
namespace Go.Proofs.YthlmgpllapccfaaGreatDoor
open Go.RowKit
set_option maxRecDepth 100000 in
set_option maxHeartbeats 2000000 in
theorem ktext_nil (a : Option Addr) (cap : Nat) (w : World) : Calls Tryz.prog 21 #[.slice a 0 cap, .int .i64 4] w fun e w' => e = .returned (.string (bs (kX []))) ∧ Below w.heap.size w w' := by
  have e : kX [] = [48] := by decide +kernel
  rw [e]
  go_enter Tryz.func21, Tryz.ntmps21
  go_wp2
  go_loopg [5, 6] 1 (fun gm v4 v5 wr => gm = 1 ∧ v4 = .string ⟨#[]⟩ ∧ v5 = .int .i64 0 ∧ wr = w)
  case atStart => exact ⟨rfl, rfl, rfl, rfl⟩
  case round =>
    obtain ⟨_, rfl, rfl, rfl⟩ := hrel
    go_wp2
    go_ret
    exact ⟨rfl, Below.refl _ _⟩
theorem add_block (a : Addr) (j : Nat) : (a.add j).block = a.block := by unfold Addr.add; split <;> rfl
set_option maxRecDepth 100000 in
set_option maxHeartbeats 2000000 in
theorem ktext_some (xs : List Int) (ad : Addr) (cap : Nat) (w : World) (hne : 0 < xs.length) (hcells : ∀ j x, xs[j]? = some x → w.cell? (ad.add j) = some (.int .i64 x) ∧ -9223372036854775808 ≤ x ∧ x ≤ 9223372036854775807) (hb : ad.block < w.heap.size) (hl : xs.length ≤ 9223372036854775807) :
    Calls Tryz.prog 21 #[.slice (some ad) xs.length cap, .int .i64 4] w fun e w' => e = .returned (.string (bs (kX xs))) ∧ Below w.heap.size w w' := by
  have HC := hidT hcells
  clear hcells
  go_enter Tryz.func21, Tryz.ntmps21
  go_wp2
  go_loopg [5, 6] 3 (fun gm v4 v5 wr => ∃ k : Nat, gm = 3 - k ∧ k ≤ 3 ∧ k ≤ xs.length ∧ v5 = .int .i64 k ∧ v4 = .string (bs (kP xs k)) ∧ Hid (Below w.heap.size w wr))
  case atStart => exact ⟨0, rfl, by omega, by omega, rfl, rfl, Below.refl _ _⟩
  case round =>
    obtain ⟨k, hgm, hk3, hkl, rfl, rfl, HB⟩ := hrel
    by_cases hlt : k < xs.length ∧ k < 3
    · obtain ⟨x, hx⟩ : ∃ x, xs[k]? = some x := ⟨_, List.getElem?_eq_getElem hlt.1⟩
      obtain ⟨c1, c2, c3⟩ := HC.out k x hx
      have c4 : wr.cell? (ad.add k) = some (.int .i64 x) := by
        rw [← c1]
        exact World.cell?_of_block (by rw [add_block]; exact HB.out.block _ hb)
      have d1 := tdiv_bd x 2 (by omega) c2 c3
      have d1' : -9223372036854775808 ≤ Int.tdiv x 2 ∧ Int.tdiv x 2 ≤ 9223372036854775807 := d1
      have hk0 : (0 : Int) ≤ (k : Int) := by omega
      have hkx : (k : Int) < (xs.length : Int) := by omega
      have hk3' : (k : Int) < 3 := by omega
      have HL := hidT (kP_len xs k)
      clear d1 c1
      by_cases h0 : k = 0
      · subst h0
        have HP := hidT (kP_one hx)
        have hE : kP xs 0 = [] := rfl
        rw [hE]
        obtain ⟨Y, HY⟩ : ∃ Y, Hid (ktx (kT 1 (Int.tdiv x 2) 4).n (kT 1 (Int.tdiv x 2) 4).u (kT 1 (Int.tdiv x 2) 4).x = Y) := ⟨_, hidT rfl⟩
        have HK := fun (w' : World) => kterm_any 1 (Int.tdiv x 2) 4 4 w' rfl (by omega) d1'.1 d1'.2
        rw [HY.out] at HK HP
        have HHK := hidT HK
        clear HK
        have hadd := fun (w' : World) => add_to [] Y Y (bs Y) rfl (by simp) (by simp) (by rw [← HY.out]; have := ktx_le (kT 1 (Int.tdiv x 2) 4).n (kT 1 (Int.tdiv x 2) 4).u (kT 1 (Int.tdiv x 2) 4).x; omega) w'
        have c5 : wr.cell? ad = some (.int .i64 x) := by simpa [Addr.add] using c4
        simp only [Int.natCast_zero] at *
        go_wp2_with (go_at_call 32; refine (HHK.out _).mono ?_; rintro e w1 ⟨rfl, hb1⟩; have HB1 := hidT hb1)
        go_roundg (3 - 1)
        case measure => omega
        case rel => exact ⟨1, rfl, by omega, by omega, rfl, by rw [HP.out], bel2 HB.out HB1.out⟩
      · by_cases hp : pck x 2 = 0
        · have HP : Hid (kP xs (k + 1) = kP xs k ++ [32, 45, 32] ++ ktx (kT 6 (Int.tdiv x 2) 4).n (kT 6 (Int.tdiv x 2) 4).u (kT 6 (Int.tdiv x 2) 4).x) := by
            unfold Hid
            rw [kP_more hx (by omega) (by omega)]
            unfold kI
            rw [if_pos hp]
          obtain ⟨Y, HY⟩ : ∃ Y, Hid (ktx (kT 6 (Int.tdiv x 2) 4).n (kT 6 (Int.tdiv x 2) 4).u (kT 6 (Int.tdiv x 2) 4).x = Y) := ⟨_, hidT rfl⟩
          have HK := fun (w' : World) => kterm_any 6 (Int.tdiv x 2) 4 4 w' rfl (by omega) d1'.1 d1'.2
          have HYL : Hid (Y.length ≤ 7) := by unfold Hid; rw [← HY.out]; exact ktx_le _ _ _
          rw [HY.out] at HK HP
          have HHK := hidT HK
          clear HK
          generalize hX : kP xs k = X at *
          have HX := hidT hX
          clear hX
          obtain ⟨Y1, HY1⟩ : ∃ Y', Hid (X ++ [32, 45, 32] = Y') := ⟨_, hidT rfl⟩
          have HL1 : Hid (Y1.length ≤ 30) := by unfold Hid; rw [← HY1.out, List.length_append]; have := HL.out; simp; omega
          obtain ⟨Y2, HY2⟩ : ∃ Y', Hid (Y1 ++ Y = Y') := ⟨_, hidT rfl⟩
          have hadd1 := fun (w' : World) => add_to X [32, 45, 32] Y1 ⟨#[32, 45, 32]⟩ rfl HY1.out (by have := HL.out; omega) (by simp) w'
          have hadd2 := fun (w' : World) => add_to Y1 Y Y2 (bs Y) rfl HY2.out (by have := HL1.out; omega) (by have := HYL.out; omega) w'
          have hk1 : (0 : Int) < (k : Int) := by omega
          have hpq : (pck x 2 : Int) = 0 := by omega
          go_wp2_with (first | (go_at_call 12; refine (kpick_to x 2 _ _ _ (by rfl) (by rfl) (by omega) (by omega) c2 c3).mono ?_; rintro e w0 ⟨rfl, rfl⟩) | (go_at_call 32; refine (HHK.out _).mono ?_; rintro e w1 ⟨rfl, hb1⟩; have HB1 := hidT hb1))
          go_roundg (3 - (k + 1))
          case measure => omega
          case rel => exact ⟨k + 1, rfl, by omega, by omega, by go_num, by rw [HP.out, HY1.out, HY2.out], bel2 HB.out HB1.out⟩
        · have HP : Hid (kP xs (k + 1) = kP xs k ++ [43] ++ ktx (kT 1 (Int.tdiv x 2) 4).n (kT 1 (Int.tdiv x 2) 4).u (kT 1 (Int.tdiv x 2) 4).x) := by
            unfold Hid
            rw [kP_more hx (by omega) (by omega)]
            unfold kI
            rw [if_neg hp]
          obtain ⟨Y, HY⟩ : ∃ Y, Hid (ktx (kT 1 (Int.tdiv x 2) 4).n (kT 1 (Int.tdiv x 2) 4).u (kT 1 (Int.tdiv x 2) 4).x = Y) := ⟨_, hidT rfl⟩
          have HK := fun (w' : World) => kterm_any 1 (Int.tdiv x 2) 4 4 w' rfl (by omega) d1'.1 d1'.2
          have HYL : Hid (Y.length ≤ 7) := by unfold Hid; rw [← HY.out]; exact ktx_le _ _ _
          rw [HY.out] at HK HP
          have HHK := hidT HK
          clear HK
          generalize hX : kP xs k = X at *
          have HX := hidT hX
          clear hX
          obtain ⟨Y1, HY1⟩ : ∃ Y', Hid (X ++ [43] = Y') := ⟨_, hidT rfl⟩
          have HL1 : Hid (Y1.length ≤ 30) := by unfold Hid; rw [← HY1.out, List.length_append]; have := HL.out; simp; omega
          obtain ⟨Y2, HY2⟩ : ∃ Y', Hid (Y1 ++ Y = Y') := ⟨_, hidT rfl⟩
          have hadd1 := fun (w' : World) => add_to X [43] Y1 ⟨#[43]⟩ rfl HY1.out (by have := HL.out; omega) (by simp) w'
          have hadd2 := fun (w' : World) => add_to Y1 Y Y2 (bs Y) rfl HY2.out (by have := HL1.out; omega) (by have := HYL.out; omega) w'
          have hk1 : (0 : Int) < (k : Int) := by omega
          have hpq : ¬ ((pck x 2 : Int) = 0) := by omega
          go_wp2_with (first | (go_at_call 12; refine (kpick_to x 2 _ _ _ (by rfl) (by rfl) (by omega) (by omega) c2 c3).mono ?_; rintro e w0 ⟨rfl, rfl⟩) | (go_at_call 32; refine (HHK.out _).mono ?_; rintro e w1 ⟨rfl, hb1⟩; have HB1 := hidT hb1))
          go_roundg (3 - (k + 1))
          case measure => omega
          case rel => exact ⟨k + 1, rfl, by omega, by omega, by go_num, by rw [HP.out, HY1.out, HY2.out], bel2 HB.out HB1.out⟩
    · have hke := kP_end (xs := xs) (k := k) (by omega) (by omega)
      rw [hke]
      have hpos : kX xs ≠ [] := fun q => by
        have := ktx_pos (kF xs).n (kF xs).u (kF xs).x
        unfold kX at q
        rw [List.append_eq_nil_iff] at q
        rw [q.1] at this
        simp at this
      have hE : (bs (kX xs)).toList.isEmpty = false := by rw [bs_empty]; simp [hpos]
      by_cases h1 : k < xs.length
      · have e1 : (k : Int) < (xs.length : Int) := by omega
        have e2 : ¬ ((k : Int) < 3) := by omega
        clear hpos hke
        go_wp2
        go_ret
        exact ⟨rfl, HB.out⟩
      · have e1 : ¬ ((k : Int) < (xs.length : Int)) := by omega
        clear hpos hke
        go_wp2
        go_ret
        exact ⟨rfl, HB.out⟩
end Go.Proofs.YthlmgpllapccfaaGreatDoor
/- WHAT Common, Rooted AND Parted SHARE. -/
namespace Go.Proofs.YthlmgpllapccfaaGreatDoor
open Go.RowKit

theorem os_let (n : Nat) (T : List UInt8) : oSets (bs (letL n T)) = false := by
  unfold oSets
  rw [(let_word n T).2.2]
  decide
theorem os_gcd {n d : Nat} (hn : n < 26) (hd : d < 10) : oSets (bs (qG n d)) = false := by
  have h := List.all_eq_true.1 (List.all_eq_true.1 chG_all n (List.mem_range.2 hn)) d (List.mem_range.2 hd)
  simp only [chG, Bool.and_eq_true, beq_iff_eq] at h
  unfold oSets
  rw [h.1.1.1.1.2]
  decide
theorem os_roots {n d : Nat} (hn : n < 26) (hd : d < 10) : oSets (bs (qR n d)) = false := by
  have h := List.all_eq_true.1 (List.all_eq_true.1 chR_all n (List.mem_range.2 hn)) d (List.mem_range.2 hd)
  simp only [chR, Bool.and_eq_true, beq_iff_eq] at h
  unfold oSets
  rw [h.1.1.1.1.2]
  decide
theorem os_split {n : Nat} (hn : n < 26) : oSets (bs (qS n)) = false := by
  have h := List.all_eq_true.1 chS_all n (List.mem_range.2 hn)
  simp only [chS, Bool.and_eq_true, beq_iff_eq] at h
  unfold oSets
  rw [h.1.1.2]
  decide
/-- 35 numbers without u, out of their text. -/
theorem kplain_to (g : Nat → Nat) (hg : Vec g) (S : ByteArray) (w : World) (hS : S = bs (ktl (tml g))) :
    Calls Tryz.prog 18 #[.string S] w fun e w' => e = .returned (.tuple #[.agg #[.int .i64 (g 0 : Nat), .int .i64 (g 1 : Nat), .int .i64 (g 2 : Nat), .int .i64 (g 3 : Nat), .int .i64 (g 4 : Nat)], .bool true]) ∧ Below w.heap.size w w' := by
  have h := kplain_any S (tml g) w (tml_ne g) (by rw [hS]; exact At.start _) (tml_ok g fun n _ => (hg n).1) (by rw [hS, bs_size]; have := ktl_len (tml g); have := tml_len g; omega)
  rw [tml_put] at h
  exact h
theorem kdegree_to (g : Nat → Nat) (X : Array Value) (w : World) (hX : X = #[.int .i64 (g 0 : Nat), .int .i64 (g 1 : Nat), .int .i64 (g 2 : Nat), .int .i64 (g 3 : Nat), .int .i64 (g 4 : Nat)]) :
    Calls Tryz.prog 19 #[.agg X] w fun e w' => e = .returned (.int .i64 ((dg g : Int) - 1)) ∧ Below w.heap.size w w' := by
  subst hX
  exact kdegree_any g w
def zv7 (c : Nat → Int) : Array Value := #[.int .i64 (c 0), .int .i64 (c 1), .int .i64 (c 2), .int .i64 (c 3), .int .i64 (c 4), .int .i64 (c 5), .int .i64 (c 6)]
theorem zv7_get (c : Nat → Int) {x : Nat} (h : x < 7) : (zv7 c)[x]? = some (.int .i64 (c x)) := by
  match x, h with
  | 0, _ => rfl
  | 1, _ => rfl
  | 2, _ => rfl
  | 3, _ => rfl
  | 4, _ => rfl
  | 5, _ => rfl
  | 6, _ => rfl
theorem zv7_upd (c : Nat → Int) (n : Int) {x : Nat} (h : x < 7) : (zv7 c).setIfInBounds x (.int .i64 n) = zv7 (fun j => if j = x then n else c j) := by
  match x, h with
  | 0, _ => rfl
  | 1, _ => rfl
  | 2, _ => rfl
  | 3, _ => rfl
  | 4, _ => rfl
  | 5, _ => rfl
  | 6, _ => rfl

end Go.Proofs.YthlmgpllapccfaaGreatDoor
/- A REGION THAT DRAWS ITS ORDER, WHOSE FIRST m OPERATIONS YIELD THE SAME IN EVERY WORLD OF A CLASS, OPERATION m TAKES A NEW BLOCK (AT ANY TIME AMONG THEM), THE REST FORCED BEHIND: one walk in the text's order serves every order. -/
namespace Go.Proofs.YthlmgpllapccfaaGreatDoor
open Go
section
variable {P : Program} {ops : Array Oper} {md : Region.Mode} {D : World → Prop} {E : Nat → World → Prop}

/-- One value, in every world of D (the new block not yet taken) and of each E b (taken at b). -/
def quietF (P : Program) (D : World → Prop) (E : Nat → World → Prop) (o : Oper) (a : Act) (next : Act → Prop) : Prop :=
  ∃ v, (∀ w, D w → o.quietAt P a D w v) ∧ (∀ b w, E b w → o.quietAt P a (E b) w v) ∧ next (a.put o.dst v)
def walkF (P : Program) (D : World → Prop) (E : Nat → World → Prop) (Q : Act → Prop) : List Oper → Act → Prop
  | [], a => Q a
  | o :: rest, a => o.guard = none ∧ quietF P D E o a (walkF P D E Q rest)

/-- f operations more come up, one of them m, the others quiet; then L. -/
def headX (P : Program) (md : Region.Mode) (ops : Array Oper) (D : World → Prop) (E : Nat → World → Prop) (n m : Nat) (dm : Option Tmp) (pt : Nat → Value) (L : Nat → Array Bool → Act → Prop) : Nat → Array Bool → Act → Prop
  | 0, _, _ => False
  | f + 1, listed, a => Region.ready md ops listed ≠ [] ∧ ∀ i ∈ Region.ready md ops listed, i < n ∧
      ((i = m ∧ ∀ b, headQ P md ops (E b) n (L b) f (listed.setIfInBounds m true) (a.put dm (pt b))) ∨ (i ≠ m ∧ qOp P ops D i (headX P md ops D E n m dm pt L f (listed.setIfInBounds i true)) a))

theorem any_of_headX {n m g : Nat} {om : Oper} {pt : Nat → Value} {L : Nat → Array Bool → Act → Prop} {Q : Exit → Act → World → Prop} (hom : ops[m]? = some om) (hgd : om.guard = none)
    (hrun : ∀ (a : Act) w, D w → ∃ b w', (execOp a.eval om).run P w = .ok (.value (pt b)) w' ∧ E b w')
    (hL : ∀ b listed a w, E b w → L b listed a → wpAny P md ops Q g listed a w) :
    ∀ (f : Nat) (listed : Array Bool) (a : Act) (w : World), D w → headX P md ops D E n m om.dst pt L f listed a → wpAny P md ops Q (f + g) listed a w := by
  intro f
  induction f with
  | zero => intro listed a w hw h; exact h.elim
  | succ f ih =>
    intro listed a w hw h
    rw [Nat.add_right_comm]
    refine ⟨fun e => absurd e h.1, fun i hi => ?_⟩
    rcases (h.2 i hi).2 with ⟨rfl, h2⟩ | ⟨_, h2⟩
    · unfold wpOp
      simp only [hom]
      rw [if_pos (by unfold Region.wanted; rw [hgd])]
      obtain ⟨b, w', hr, he⟩ := hrun a w hw
      refine .inl ?_
      unfold Oper.wp
      rw [hr]
      exact any_of_headQ (hL b) f _ _ _ he (h2 b)
    · exact wpOp_of_qOp hw (fun a' w' hw' h' => ih _ a' w' hw' h') h2

theorem headX_first {n m i : Nat} {oi om : Oper} {v : Value} {pt : Nat → Value} {L : Nat → Array Bool → Act → Prop} (hi : ops[i]? = some oi) (hom : ops[m]? = some om) (him : i ≠ m) (hsel : ∀ (j : Nat) (o : Oper) cs b, ops[j]? = some o → o.op ≠ .select cs b)
    (hs : Region.sinkB md ops n = true) (hc : Region.chainB md ops n = true) (hn : n < ops.size) (hin : i < n) (hdone : ∀ b listed a, L b listed a → ∀ j ∈ Region.ready md ops listed, n ≤ j) :
    ∀ (f : Nat) (listed : Array Bool) (a : Act), HeadInv md ops n listed →
      (∀ j oj, ops[j]? = some oj → j ≠ i → listed.getD j true = false → (∀ e ∈ oj.after, Region.binds md e = true → e.on ≠ i) → oi.apart ops oj = true) →
      i ∈ Region.ready md ops listed → YieldsIn P ops D oi v a → (∀ b, YieldsIn P ops (E b) oi v a) →
      headX P md ops D E n m om.dst pt L f (listed.setIfInBounds i true) (a.put oi.dst v) → headX P md ops D E n m om.dst pt L (f + 1) listed a := by
  intro f
  induction f with
  | zero => intro listed a inv hfree hr hy hyE H; exact H.elim
  | succ f ih =>
    intro listed a inv hfree hr hy hyE H
    have hun := (mem_ready.1 hr).1
    refine ⟨List.ne_nil_of_mem hr, fun j hj => ?_⟩
    have hjn : j < n := Nat.lt_of_not_le fun h => tail_waits hs hc hn inv _ i rfl hin hun j h hj
    refine ⟨hjn, ?_⟩
    obtain ⟨hjun, oj, hoj, hall⟩ := mem_ready.1 hj
    by_cases hji : j = i
    · refine .inr ⟨by rw [hji]; exact him, ?_⟩
      rw [hji]; exact hy.qOp hi H
    · have hno : ∀ e ∈ oj.after, Region.binds md e = true → e.on ≠ i := fun e he hb heq => by
        have := hall e he hb
        rw [heq, getD_both hun] at this
        exact Bool.false_ne_true this
      have hap := hfree j oj hoj hji hjun hno
      have hfree' : ∀ k ok, ops[k]? = some ok → k ≠ i → (listed.setIfInBounds j true).getD k true = false → (∀ e ∈ ok.after, Region.binds md e = true → e.on ≠ i) → oi.apart ops ok = true :=
        fun k ok hk hki hunk hnk => hfree k ok hk hki (by
          by_cases hjk : j = k
          · rw [← hjk]; exact hjun
          · rw [getD_set_ne true hjk] at hunk; exact hunk) hnk
      have h1 := (H.2 j (ready_mono hj hji)).2
      by_cases hjm : j = m
      · refine .inl ⟨hjm, fun b => ?_⟩
        have hojm : oj = om := Option.some.inj (hoj.symm.trans (by rw [hjm]; exact hom))
        rcases h1 with ⟨_, h1⟩ | ⟨h1, _⟩
        · obtain ⟨p1, p2, p3⟩ := Oper.apart_spec hap
          have hyb : YieldsIn P ops (E b) oi v (a.put om.dst (pt b)) := (hyE b).of_same (execOp_put oi (fun cs b => hsel i oi cs b hi) a om.dst (pt b) (by rw [← hojm]; exact p3)) (wanted_put oi a om.dst (pt b) (by rw [← hojm]; exact p3))
          refine headQ_first hi hsel hs hc hn hin (hdone b) f (listed.setIfInBounds m true) (a.put om.dst (pt b)) ?_ ?_ ?_ hyb ?_
          · rw [← hjm]; exact inv.set hj hjn
          · rw [← hjm]; exact hfree'
          · rw [← hjm]; exact ready_mono hr (Ne.symm hji)
          · rw [← hojm, ← hjm, Array.setIfInBounds_comm _ _ hji, ← Act.put_comm a v (pt b) p2, hojm, hjm]
            exact h1 b
        · exact absurd hjm h1
      · refine .inr ⟨hjm, ?_⟩
        rcases h1 with ⟨h1, _⟩ | ⟨_, h1⟩
        · exact absurd h1 hjm
        · have hsi : ∀ cs b, oi.op ≠ .select cs b := fun cs b => hsel i oi cs b hi
          have hsj : ∀ cs b, oj.op ≠ .select cs b := fun cs b => hsel j oj cs b hoj
          obtain ⟨p1, p2, p3⟩ := Oper.apart_spec hap
          have h2 := qOp_put hoj hap hsi hsj hy h1
          obtain ⟨u, hu, h3, h4⟩ := yieldsIn_of_qOp hoj h2
          refine hu.qOp hoj (ih (listed.setIfInBounds j true) _ (inv.set hj hjn) hfree' (ready_mono hr (Ne.symm hji)) h3 (fun b => (hyE b).of_same (execOp_put oi hsi a oj.dst u p3) (wanted_put oi a oj.dst u p3)) ?_)
          rw [Array.setIfInBounds_comm _ _ hji]; exact h4

theorem headX_lex {n m g : Nat} {om : Oper} {pt : Nat → Value} {Lq : Nat → Act → Prop} (hsel : Region.noSelect ops = true) (hs : Region.sinkB md ops n = true) (hc : Region.chainB md ops n = true) (hn : n < ops.size) (hmn : m + 1 = n) (hom : ops[m]? = some om) :
    ∀ (l : List Oper) (k : Nat) (listed : Array Bool) (a : Act), (∀ j, j < l.length → l[j]? = ops[k + j]?) → k + l.length = m → HeadInv md ops n listed →
    Region.lexHead md ops g (l.length + 1) k listed = true → walkF P D E (fun a' => ∀ b, Lq b (a'.put om.dst (pt b))) l a →
    headX P md ops D E n m om.dst pt (fun b listed' a' => Region.seqB md ops g n listed' = true ∧ Lq b a') (l.length + 1) listed a := by
  intro l
  induction l with
  | nil =>
    intro k listed a _ hk inv hB h
    have e : k = m := by simpa using hk
    subst e
    simp only [List.length_nil, Region.lexHead, Bool.and_eq_true] at hB
    have hr : k ∈ Region.ready md ops listed := by simpa using hB.1.1
    have hsq : Region.seqB md ops g n (listed.setIfInBounds k true) = true := by rw [← hmn]; exact hB.2
    have hun := (mem_ready.1 hr).1
    refine ⟨List.ne_nil_of_mem hr, fun i hi => ?_⟩
    have hin : i < n := Nat.lt_of_not_le fun h' => tail_waits hs hc hn inv _ k rfl (by omega) hun i h' hi
    refine ⟨hin, ?_⟩
    by_cases hik : i = k
    · exact .inl ⟨hik, fun b => ⟨hsq, h b⟩⟩
    · have := seqB_ready hsq i (ready_mono hi hik)
      omega
  | cons o l ih =>
    intro k listed a hl hk inv hB h
    have h0 : ops[k]? = some o := by simpa using (hl 0 (by simp)).symm
    rw [List.length_cons, Region.lexHead] at hB
    simp only [Bool.and_eq_true] at hB
    simp only [List.length_cons] at hk
    have hr : k ∈ Region.ready md ops listed := by simpa using hB.1.1
    obtain ⟨hgd, v, hD, hE, hK⟩ := h
    have hw : Region.wanted o (yielded ops a.tmps) = true := by unfold Region.wanted; rw [hgd]
    refine headX_first h0 hom (by omega) (Region.noSelect_spec hsel) hs hc hn (by omega) (fun b listed' a' hL => seqB_ready hL.1) (l.length + 1) listed a inv (Region.free_spec h0 hB.1.2) hr (.inl ⟨hw, hD⟩) (fun b => .inl ⟨hw, hE b⟩) ?_
    refine ih (k + 1) _ _ (fun j hj => ?_) (by omega) (inv.set hr (by omega)) hB.2 hK
    have := hl (j + 1) (by simp; omega)
    rw [show k + 1 + j = k + (j + 1) by omega, ← this]; simp

/-- THE LAW. -/
theorem region_alloc_tail {id : Nat} {Q : Exit → Act → World → Prop} {a : Act} {w : World} {l : List Oper} (D : World → Prop) (E : Nat → World → Prop) (pt : Nat → Value) (m : Nat) (om : Oper) (hD : D w.drew) (hm : P.follows .mixedOrders = true) (hB : Region.lexTailB .any l.toArray (m + 1) = true)
    (hom : l.toArray[m]? = some om) (hgd : om.guard = none) (hrun : ∀ (a : Act) w, D w → ∃ b w', (execOp a.eval om).run P w = .ok (.value (pt b)) w' ∧ E b w')
    (h : walkF P D E (fun a' => ∀ b w', E b w' → wpList P l.toArray Q (l.drop (m + 1)) (a'.put om.dst (pt b)) w') (l.take m) a) : (Code.region id l.toArray true).wp P Q a w := by
  simp only [Region.lexTailB, Bool.and_eq_true, decide_eq_true_eq] at hB
  obtain ⟨⟨⟨⟨hsel, hn⟩, hs⟩, hc⟩, hlex⟩ := hB
  have htl : (l.take m).length = m := by simp only [List.size_toArray] at hn; simp; omega
  have hdl : (l.drop (m + 1)).length = l.toArray.size - (m + 1) := by simp
  have H := headX_lex (md := .any) (pt := pt) (Lq := fun b a' => ∀ w', E b w' → wpList P l.toArray Q (l.drop (m + 1)) a' w') (g := l.toArray.size - (m + 1)) hsel hs hc hn rfl hom (l.take m) 0 (Array.replicate l.toArray.size false) a (fun j hj => by
      rw [htl] at hj
      simp [hj]) (by omega)
    ⟨by simp, fun j oj _ hl => by rw [getD_replicate_false] at hl; exact absurd hl Bool.false_ne_true, fun t _ ht => getD_in (by simpa using ht) (getD_replicate_false _ _)⟩
    (by rw [htl]; exact hlex) h
  refine wp_region_any hm ?_
  have K := any_of_headX (Q := Q) (g := l.toArray.size - (m + 1)) hom hgd hrun (fun b listed a' w' hw' hL => by
    have := wpAny_of_seq (md := .any) (Q' := Q) (l.drop (m + 1)) (m + 1) listed a' w' (fun j => by simp [List.getElem?_drop]) (by rw [hdl]; exact hL.1) (hL.2 w' hw')
    rwa [hdl] at this) _ _ _ { w with drawn := w.drawn + 1 } hD H
  rw [htl, show m + 1 + (l.toArray.size - (m + 1)) = l.toArray.size by omega] at K
  exact K
end
end Go.Proofs.YthlmgpllapccfaaGreatDoor
/- A REGION THAT TAKES A BLOCK AMONG ITS CALLS: the classes of worlds that keep all old blocks. -/
namespace Go.Proofs.YthlmgpllapccfaaGreatDoor
open Go.RowKit
variable {P : Program} {V : World} {cs : Array Value} {t : TypeId} {Q : Act → Prop} {a : Act} {o : Oper} {rest : List Oper}

def DF (V : World) (w : World) : Prop := Fr [] V w
def EF (V : World) (cs : Array Value) (t : TypeId) (b : Nat) (w : World) : Prop := V.heap.size ≤ b ∧ Blk w b cs t ∧ Fr [] V w
theorem quietAt_mono {C C' : World → Prop} {w : World} {v : Value} (h : ∀ w', C w' → C' w') (hq : o.quietAt P a C w v) : o.quietAt P a C' w v := by
  unfold Oper.quietAt at *
  generalize (execOp a.eval o).run P w = r at *
  cases r with
  | ok n w' =>
    cases n <;> simp only [Oper.quietUpon] at hq ⊢
    case value u => exact hq
    case skip => exact hq
    case enter f args => exact ⟨hq.1, hq.2.mono fun e w'' hh => ⟨hh.1, h _ hh.2⟩⟩
  | halt x w' => simp only [Oper.quietUpon] at hq
theorem walkF_step (hgd : o.guard = none) (v : Value) (hq : ∀ w, Fr [] V w → o.quietAt P a (fun w'' => Fr [] w w'') w v) (h : walkF P (DF V) (EF V cs t) Q rest (a.put o.dst v)) : walkF P (DF V) (EF V cs t) Q (o :: rest) a :=
  ⟨hgd, v, fun w hw => quietAt_mono (fun w'' hh => Fr.trans hw hh (by simp)) (hq w hw), fun _ w hw => quietAt_mono (fun w'' hh => ⟨hw.1, hw.2.1.fr hh (by simp), hw.2.2.trans hh (by simp)⟩) (hq w hw.2.2), h⟩
theorem walkF_val (hgd : o.guard = none) (v : Value) (hr : ∀ w, Fr [] V w → (execOp a.eval o).run P w = .ok (.value v) w) (h : walkF P (DF V) (EF V cs t) Q rest (a.put o.dst v)) : walkF P (DF V) (EF V cs t) Q (o :: rest) a :=
  walkF_step hgd v (fun w hw => by
    unfold Oper.quietAt
    rw [hr w hw]
    exact ⟨rfl, rfl⟩) h
theorem walkF_calls (hgd : o.guard = none) (f : FuncId) (vs : Array Value) (v : Value) (hr : ∀ w, (execOp a.eval o).run P w = .ok (.enter f vs) w)
    (hc : ∀ w, Fr [] V w → Calls P f vs w (fun e w' => e = .returned v ∧ Fr [] w w')) (h : walkF P (DF V) (EF V cs t) Q rest (a.put o.dst v)) : walkF P (DF V) (EF V cs t) Q (o :: rest) a :=
  walkF_step hgd v (fun w hw => by
    unfold Oper.quietAt
    rw [hr w]
    exact ⟨rfl, hc w hw⟩) h
theorem walkF_ld (hgd : o.guard = none) (ty : TypeId) (x : Operand) (ho : o.op = .load ty x) (b : Nat) (hx : a.eval x = .pointer (some ⟨b, 0, none⟩)) (xs : Array Value) (d : TypeDesc) (hC : ∀ w, Fr [] V w → w.heap[b]? = some (.cells xs ty (0, 0)))
    (hu : P.underlying ty = some d) (hd : d.isRow = true) (hi : (P.info? ty).map (·.size) = some xs.size) (h : walkF P (DF V) (EF V cs t) Q rest (a.put o.dst (.agg xs))) : walkF P (DF V) (EF V cs t) Q (o :: rest) a :=
  walkF_step hgd (.agg xs) (fun w hw => by
    have hl := run_loadAt_mid (P := P) w b 0 ty xs.toList d (fun j v hv => by rw [Nat.zero_add, cell_of_row w b j xs ty (0, 0) (hC w hw)]; simpa using hv) hu hd (by rw [Array.length_toList]; exact hi)
    unfold Oper.quietAt execOp
    simp only [ho, hx, Sem.run_bind, hl, Result.andThen_ok, Sem.run_pure, Array.toArray_toList]
    exact ⟨rfl, rfl⟩) h
theorem walkF_nil (h : Q a) : walkF P (DF V) (EF V cs t) Q [] a := h
end Go.Proofs.YthlmgpllapccfaaGreatDoor
/- COMMON: what its walk needs. -/
namespace Go.Proofs.YthlmgpllapccfaaGreatDoor
open Go.RowKit

def tri (a b c : Nat) : Nat → Nat := fun n => if n = 0 then a else if n = 1 then b else if n = 2 then c else 0
theorem tri_vec {a b c : Nat} (ha : a < 7) (hb : b < 7) (hc : c < 7) : Vec (tri a b c) := by
  intro n
  unfold tri
  refine ⟨?_, fun hn => ?_⟩
  · split
    · exact ha
    · split
      · exact hb
      · split
        · exact hc
        · omega
  · rw [if_neg (by omega), if_neg (by omega), if_neg (by omega)]
theorem tri_top (a b c n : Nat) (h : 3 ≤ n) : tri a b c n = 0 := by
  unfold tri
  rw [if_neg (by omega), if_neg (by omega), if_neg (by omega)]
theorem tri_mon1 {a : Nat} (ha : a < 7) : Mon (tri a 1 0) 1 := ⟨by omega, tri_vec ha (by omega) (by omega), rfl, fun n hn => by unfold tri; rw [if_neg (by omega), if_neg (by omega)]; split <;> rfl⟩
theorem tri_mon2 {a b : Nat} (ha : a < 7) (hb : b < 7) : Mon (tri a b 1) 2 := ⟨by omega, tri_vec ha hb (by omega), rfl, fun n hn => by unfold tri; rw [if_neg (by omega), if_neg (by omega), if_neg (by omega)]⟩
def ar5 (g : Nat → Nat) : Array Value := #[.int .i64 (g 0 : Nat), .int .i64 (g 1 : Nat), .int .i64 (g 2 : Nat), .int .i64 (g 3 : Nat), .int .i64 (g 4 : Nat)]
theorem ar5_eq (g : Nat → Nat) : pv (lst g) = ar5 g := rfl
theorem ktimes_to (p q : Nat → Nat) (X Y : Array Value) (T : Nat → Nat) (w : World) (hX : X = ar5 p) (hY : Y = ar5 q) (hT : Hid (tim p q = T)) (hp : Vec p) (hq : Vec q) :
    Calls Tryz.prog 13 #[.agg X, .agg Y] w fun e w' => e = .returned (.agg #[.int .i64 (T 0 : Nat), .int .i64 (T 1 : Nat), .int .i64 (T 2 : Nat), .int .i64 (T 3 : Nat), .int .i64 (T 4 : Nat)]) ∧ Below w.heap.size w w' := by
  subst hX hY
  rw [← hT.out]
  exact ktimes_any p q w hp hq
theorem Fr.set5 {V w : World} (h : Fr [] V w) (b : Nat) (hb : V.heap.size ≤ b) (v0 v1 v2 v3 v4 : Value) : Fr [] V (((((w.setCell ⟨b, 0, none⟩ v0).setCell ⟨b, 1, none⟩ v1).setCell ⟨b, 2, none⟩ v2).setCell ⟨b, 3, none⟩ v3).setCell ⟨b, 4, none⟩ v4) :=
  ((((h.setCell _ _ (Or.inr hb)).setCell _ _ (Or.inr hb)).setCell _ _ (Or.inr hb)).setCell _ _ (Or.inr hb)).setCell _ _ (Or.inr hb)
theorem Blk.set5 {w : World} {b : Nat} {x0 x1 x2 x3 x4 : Value} {t : TypeId} (h : Blk w b #[x0, x1, x2, x3, x4] t) (v0 v1 v2 v3 v4 : Value) : Blk (((((w.setCell ⟨b, 0, none⟩ v0).setCell ⟨b, 1, none⟩ v1).setCell ⟨b, 2, none⟩ v2).setCell ⟨b, 3, none⟩ v3).setCell ⟨b, 4, none⟩ v4) b #[v0, v1, v2, v3, v4] t :=
  ((((h.set 0 v0).set 1 v1).set 2 v2).set 3 v3).set 4 v4
/-- What Common's two products read. -/
structure C1 (V : World) (db pb : Nat) (D : Nat → Nat) (x y z : Int) : Prop where
  d : Blk V db (ar5 D) 30
  p : Blk V pb #[.int .i64 x, .int .i64 y, .int .i64 z] 25
theorem row5 {w : World} {b : Nat} {g : Nat → Nat} {t : TypeId} (h : Blk w b (ar5 g) t) : w.cell? ⟨b, 0, none⟩ = some (.int .i64 (g 0 : Nat)) ∧ w.cell? ⟨b, 1, none⟩ = some (.int .i64 (g 1 : Nat)) ∧ w.cell? ⟨b, 2, none⟩ = some (.int .i64 (g 2 : Nat)) ∧ w.cell? ⟨b, 3, none⟩ = some (.int .i64 (g 3 : Nat)) ∧ w.cell? ⟨b, 4, none⟩ = some (.int .i64 (g 4 : Nat)) :=
  ⟨h.cell 0, h.cell 1, h.cell 2, h.cell 3, h.cell 4⟩
theorem ar5_get (g : Nat → Nat) {m : Nat} (h : m < 5) : (ar5 g)[m]? = some (.int .i64 (g m : Nat)) := by
  match m, h with
  | 0, _ => rfl
  | 1, _ => rfl
  | 2, _ => rfl
  | 3, _ => rfl
  | 4, _ => rfl
theorem kdiv_to (p q : Nat → Nat) (d : Nat) (X Y : Array Value) (w : World) (hX : X = ar5 p) (hY : Y = ar5 q) (hp : Mon p d) (hq : Vec q) (h : dg (dv p d q (5 - d)) = 0) :
    Calls Tryz.prog 20 #[.agg X, .agg Y] w fun e w' => e = .returned (.bool true) ∧ Below w.heap.size w w' := by
  subst hX hY
  have k := kdivides_any p q d w hp hq
  rw [h] at k
  exact k
/-- What Common has behind its two products. -/
def C2 (W w : World) (B db b1 b2 sb bm : Nat) (D T1 T2 : Nat → Nat) (st : Nat → Mng) : Prop := Blk w db (ar5 D) 30 ∧ Blk w b1 (ar5 T1) 30 ∧ Blk w b2 (ar5 T2) 30 ∧ Fr [] W w ∧ Sess B w [bm] sb bm st
theorem C2.fr {W w w' : World} {B db b1 b2 sb bm : Nat} {D T1 T2 : Nat → Nat} {st : Nat → Mng} (h : C2 W w B db b1 b2 sb bm D T1 T2 st) (hf : Fr [] w w') : C2 W w' B db b1 b2 sb bm D T1 T2 st :=
  ⟨h.1.fr hf (by simp), h.2.1.fr hf (by simp), h.2.2.1.fr hf (by simp), h.2.2.2.1.trans hf (by simp), h.2.2.2.2.fr hf⟩
theorem C2.on {W w w' : World} {B db b1 b2 sb bm : Nat} {D T1 T2 : Nat → Nat} {st st' : Nat → Mng} (h : C2 W w B db b1 b2 sb bm D T1 T2 st) (hB : W.heap.size ≤ B) (hf : Fr [bm] w w') (s : Sess B w' [bm] sb bm st') : C2 W w' B db b1 b2 sb bm D T1 T2 st' :=
  ⟨h.1.fr hf (by simp; exact h.2.2.2.2.ne h.1), h.2.1.fr hf (by simp; exact h.2.2.2.2.ne h.2.1), h.2.2.1.fr hf (by simp; exact h.2.2.2.2.ne h.2.2.1), h.2.2.2.1.trans hf (by simp; have := h.2.2.2.2.lo; omega), s⟩
end Go.Proofs.YthlmgpllapccfaaGreatDoor
/- THE PROGRAM's Value. -/
namespace Go.Proofs.YthlmgpllapccfaaGreatDoor
open Go.RowKit

/-- What Value answers. -/
def vv (s : ByteArray) (u x : Int) : Nat := if (rd s).e = 0 then valP (rd s).p (u % 7).toNat (x % 7).toNat else 0
def vb (s : ByteArray) : Nat := if (rd s).e = 0 then 0 else (rd s).bad
theorem m7 (u : Int) : u % 7 = ((u % 7).toNat : Int) ∧ (u % 7).toNat < 7 := by omega
set_option maxRecDepth 100000 in
set_option maxHeartbeats 2000000 in
theorem pValue_any (s : ByteArray) (u x : Int) (w : World) (hg : ErrT w) (hm : s.size ≤ 140737488351232) :
    Calls Tryz.prog 22 #[.string s, .int .i64 u, .int .i64 x] w fun e w' => e = .returned (.tuple #[.int .i64 (vv s u x), .int .i64 (rd s).e, .int .i64 (vb s)]) ∧ Below w.heap.size w w' := by
  have hu := m7 u
  have hx := m7 x
  have HU := hidV hu
  have HX := hidV hx
  clear hu hx
  have HP := hidV (Polynomial_any s w hg hm)
  clear hg hm
  unfold vv vb
  generalize rd s = R at *
  by_cases he : R.e = 0
  · rw [if_pos he, if_pos he]
    rw [he] at HP ⊢
    go_enter Tryz.func22, Tryz.ntmps22
    go_wp2_with fail
    refine HP.out.mono ?_
    rintro e w1 ⟨rfl, hgd, hbel⟩
    have HB := hidV hbel
    clear hbel HP
    go_wp2_with (first | (refine wpList_store_mid (by rfl) 76 _ _ (by rfl) w1.heap.size 0 (pv R.p) (by rfl) (by rfl) (Blk.there (Blk.new w1 _ _) (by rw [pv_size, hgd.1]; decide)) (size_poly hgd) (pv_one _) ?_) | (refine wpList_load_row (by rfl) 76 _ (by rfl) w1.heap.size (by rfl) 76 (pv R.p) (0, 0) _ (by exact Blk.setAll (Blk.new w1 _ _) _ (by rw [pv_size, hgd.1]; rfl)) Tryz.underlying76 (by rfl) (size_poly hgd) ?_))
    refine (pVal_any R.p u x _ _ _ hgd HU.out.1 HX.out.1 HU.out.2 HX.out.2).mono ?_
    rintro e w2 ⟨rfl, hbel2⟩
    have HB2 := hidV hbel2
    clear hbel2
    go_wp2
    go_ret3
    refine ⟨rfl, ?_⟩
    refine Fr.below (bs := []) ((Fr.setCells (Fr.alloc (Fr.of_below HB.out) _) _ _ _ (Or.inr HB.out.size)).trans (Fr.of_below (bs := []) (by exact HB2.out)) (by simp)) (Nat.le_refl _) (by simp)
  · rw [if_neg he, if_neg he]
    have he' : ((R.e : Int) != 0) = true := by rw [bne_iff_ne]; omega
    go_enter Tryz.func22, Tryz.ntmps22
    go_wp2_with fail
    refine HP.out.mono ?_
    rintro e w1 ⟨rfl, hgd, hbel⟩
    have HB := hidV hbel
    clear hbel HP
    go_wp2_with (first | (refine wpList_store_mid (by rfl) 76 _ _ (by rfl) w1.heap.size 0 (pv R.p) (by rfl) (by rfl) (Blk.there (Blk.new w1 _ _) (by rw [pv_size, hgd.1]; decide)) (size_poly hgd) (pv_one _) ?_))
    go_ret3
    refine ⟨rfl, ?_⟩
    exact Fr.below (bs := []) (Fr.setCells (Fr.alloc (Fr.of_below HB.out) _) _ _ _ (Or.inr HB.out.size)) (Nat.le_refl _) (by simp)
theorem pV_at {s : ByteArray} {p : List Nat} (h : rd s = ⟨0, 0, p⟩) (hs : s.size ≤ 1000) (u x : Nat) {V : Nat} (hV : valP p (u % 7) (x % 7) = V) (S : ByteArray) (U X : Int) (w : World) (hg : ErrT w) (hS : S = s) (hU : U = u) (hX : X = x) :
    Calls Tryz.prog 22 #[.string S, .int .i64 U, .int .i64 X] w fun e w' => e = .returned (.tuple #[.int .i64 V, .int .i64 0, .int .i64 0]) ∧ Below w.heap.size w w' := by
  subst hS hU hX
  have k := pValue_any S u x w hg (by omega)
  have e1 : ((u : Int) % 7).toNat = u % 7 := by omega
  have e2 : ((x : Int) % 7).toNat = x % 7 := by omega
  unfold vv vb at k
  rw [h] at k
  simp only [if_true, e1, e2] at k
  rw [hV] at k
  exact k
end Go.Proofs.YthlmgpllapccfaaGreatDoor
/- ROOTED: THE WALK. -/
namespace Go.Proofs.YthlmgpllapccfaaGreatDoor
open Go.RowKit

theorem wpQuiet_val {P : Program} {ops : Array Oper} {C : World → Prop} {Q : Act → Prop} {a : Act} {o : Oper} {rest : List Oper} (hgd : o.guard = none) (v : Value) (hr : ∀ w, (execOp a.eval o).run P w = .ok (.value v) w)
    (h : wpQuiet P ops C Q rest (a.put o.dst v)) : wpQuiet P ops C Q (o :: rest) a :=
  BigFrame.wpQuiet_want (by unfold Region.wanted; rw [hgd]) (fun K hK => ⟨v, fun w _ => by
    unfold Oper.quietAt
    rw [hr w]
    exact ⟨rfl, rfl⟩, hK _ h⟩)

set_option maxRecDepth 100000 in
set_option maxHeartbeats 2000000 in
theorem lawRooted_any (x y : Value) (u : Int) (xs ys : List Int) (W : World) (hg : ErrT W) (hu : -9223372036854775808 ≤ u ∧ u ≤ 9223372036854775807)
    (hX : ∀ w', Below W.heap.size W w' → Calls Tryz.prog 21 #[x, .int .i64 4] w' fun e w'' => e = .returned (.string (bs (kX xs))) ∧ Below w'.heap.size w' w'')
    (hY : ∀ w', Below W.heap.size W w' → Calls Tryz.prog 21 #[y, .int .i64 4] w' fun e w'' => e = .returned (.string (bs (kX ys))) ∧ Below w'.heap.size w' w'') :
    Calls Tryz.prog 5 #[x, y, .int .i64 u] W fun e w' => e = .returned (.bool true) ∧ Below W.heap.size W w' := by
  have HG := hidV hg
  have HX := hidT hX
  have HY := hidT hY
  clear hg hX hY
  have HLX := hidV (kX_len xs)
  have HLY := hidV (kX_len ys)
  have HLET := hidV (raw_let st1 (n := 25) (by omega) xs ys [32, 44, 32] (Or.inr rfl) (by unfold letL; simp only [List.length_append, List.length_cons, List.length_nil]; have := HLX.out; have := HLY.out; omega))
  have HOS := hidV (os_let 25 (kX xs ++ ([32, 44, 32] ++ kX ys)))
  obtain ⟨P, HP⟩ : ∃ P, Hid (sumP (kTs xs) = P) := ⟨_, rfl⟩
  obtain ⟨Q, HQ⟩ : ∃ Q, Hid (sumP (kTs ys) = Q) := ⟨_, rfl⟩
  rw [HP.out, HQ.out] at HLET
  obtain ⟨S2, HS2⟩ : ∃ S, Hid (upd st1 25 (.sys [P, Q]) = S) := ⟨_, rfl⟩
  rw [HS2.out] at HLET
  obtain ⟨n, HN⟩ : ∃ n, Hid (pck u 10 = n) := ⟨_, hidV rfl⟩
  have hn : n < 10 := by rw [← HN.out]; exact pck_lt _ (by omega)
  have HGC := hidV (raw_gcd st1 (n := 25) (by omega) hn P Q)
  have HRT := hidV (raw_roots st1 (n := 25) (by omega) hn P Q)
  rw [HS2.out] at HGC HRT
  have HRX : Hid (rd (bs (kX xs)) = ⟨0, 0, P⟩) := by unfold Hid; rw [← HP.out]; exact rd_one xs
  have HRY : Hid (rd (bs (kX ys)) = ⟨0, 0, Q⟩) := by unfold Hid; rw [← HQ.out]; exact rd_one ys
  have HGV : Hid (Vec (gall [lnF (n % 7) P, lnF (n % 7) Q])) := (gall_any _ (by intro l hl; simp only [List.mem_cons, List.not_mem_nil, or_false] at hl; rcases hl with e | e <;> (rw [e]; exact lnF_vec _ _))).1
  have HLAW := hidV (rooted_law (n % 7) P Q)
  obtain ⟨G, HGG⟩ : ∃ G, Hid (gall [lnF (n % 7) P, lnF (n % 7) Q] = G) := ⟨_, hidV rfl⟩
  rw [HGG.out] at HGC HGV HLAW
  obtain ⟨I, HI⟩ : ∃ I, Hid (rts [lnF (n % 7) P, lnF (n % 7) Q] = I) := ⟨_, hidV rfl⟩
  rw [HI.out] at HRT
  have HIN : Hid (∀ z, I z = (decide (pows (lnF (n % 7) P) z 5 = 0) && decide (pows (lnF (n % 7) Q) z 5 = 0))) := by
    unfold Hid
    intro z
    rw [← HI.out]
    unfold rts
    simp
  have HOG := hidV (os_gcd (n := 25) (by omega) hn)
  have HOR := hidV (os_roots (n := 25) (by omega) hn)
  obtain ⟨LG, HLG⟩ : ∃ L, Hid (qG 25 n = L) := ⟨_, hidV rfl⟩
  obtain ⟨LR, HLR⟩ : ∃ L, Hid (qR 25 n = L) := ⟨_, hidV rfl⟩
  have HLG' : Hid ([103, 99, 100, 32, 90, 32] ++ [dgt n] = LG) := HLG.out
  have HLR' : Hid ([114, 111, 111, 116, 115, 32, 90, 32] ++ [dgt n] = LR) := HLR.out
  have hl7 : LG.length = 7 := by rw [← HLG.out]; rfl
  have hl9 : LR.length = 9 := by rw [← HLR.out]; rfl
  rw [HLG.out] at HGC HOG
  rw [HLR.out] at HRT HOR
  obtain ⟨T, HT⟩ : ∃ T, Hid (ktl (tml G) = T) := ⟨_, hidV rfl⟩
  have HTR : Hid (rd (bs T) = ⟨0, 0, upL G⟩) := by unfold Hid; rw [← HT.out]; exact up_read HGV.out
  have HTL : Hid (T.length ≤ 30) := by unfold Hid; rw [← HT.out, ← txt_tml]; exact up_len G
  rw [HT.out] at HGC
  generalize kX xs = X at *
  generalize kX ys = Y at *
  obtain ⟨Z1, HZ1⟩ : ∃ Z, Hid ([108, 101, 116, 32, 90, 32, 61, 32] ++ X = Z) := ⟨_, hidV rfl⟩
  obtain ⟨Z2, HZ2⟩ : ∃ Z, Hid (Z1 ++ [32, 44, 32] = Z) := ⟨_, hidV rfl⟩
  obtain ⟨Z3, HZ3⟩ : ∃ Z, Hid (Z2 ++ Y = Z) := ⟨_, hidV rfl⟩
  have HZE : Hid (letL 25 (X ++ ([32, 44, 32] ++ Y)) = Z3) := by unfold Hid; rw [← HZ3.out, ← HZ2.out, ← HZ1.out]; unfold letL; simp only [List.append_assoc]; rfl
  have HZ1L : Hid (Z1.length ≤ 35) := by unfold Hid; rw [← HZ1.out]; simp only [List.length_append, List.length_cons, List.length_nil]; have := HLX.out; omega
  have HZ2L : Hid (Z2.length ≤ 38) := by unfold Hid; rw [← HZ2.out]; simp only [List.length_append, List.length_cons, List.length_nil]; have := HZ1L.out; omega
  have HZ3L : Hid (Z3.length ≤ 65) := by unfold Hid; rw [← HZ3.out]; simp only [List.length_append]; have := HZ2L.out; have := HLY.out; omega
  rw [HZE.out] at HLET HOS
  have ha1 := fun (w' : World) => add_to0 [108, 101, 116, 32, 90, 32, 61, 32] ⟨#[108, 101, 116, 32, 90, 32, 61, 32]⟩ X Z1 (bs X) rfl rfl HZ1.out (by simp) (by have := HLX.out; omega) w'
  have ha2 := fun (w' : World) => add_to Z1 [32, 44, 32] Z2 ⟨#[32, 44, 32]⟩ rfl HZ2.out (by have := HZ1L.out; omega) (by simp) w'
  have ha3 := fun (w' : World) => add_to Z2 Y Z3 (bs Y) rfl HZ3.out (by have := HZ2L.out; omega) (by have := HLY.out; omega) w'
  have hB : 0 < W.heap.size := HG.out.lt
  have ha4 := fun (w' : World) => add_to0 [103, 99, 100, 32, 90, 32] ⟨#[103, 99, 100, 32, 90, 32]⟩ [dgt n] LG (bs [dgt n]) rfl rfl HLG'.out (by simp) (by simp) w'
  have ha5 := fun (w' : World) => add_to0 [114, 111, 111, 116, 115, 32, 90, 32] ⟨#[114, 111, 111, 116, 115, 32, 90, 32]⟩ [dgt n] LR (bs [dgt n]) rfl rfl HLR'.out (by simp) (by simp) w'
  go_enter Tryz.func5, Tryz.ntmps5
  go_wp2_with fail
  refine (begun_any W HG.out).mono ?_
  rintro e w1 ⟨sb, bm, rfl, s1, f1⟩
  have HS1 := hidV s1
  have HF1 := hidV f1
  clear s1 f1
  go_wp2_with fail
  refine (HX.out w1 (HF1.out.below (Nat.le_refl _) (by simp))).mono ?_
  rintro e w2 ⟨rfl, b2⟩
  have HF2 : Hid (Fr [] W w2 ∧ Sess W.heap.size w2 [bm] sb bm st1) := ⟨HF1.out.trans (Fr.of_below (bs := []) b2) (by simp), HS1.out.fr (Fr.of_below b2)⟩
  clear b2 HF1 HS1
  go_wp2_with fail
  refine (HY.out w2 (HF2.out.1.below (Nat.le_refl _) (by simp))).mono ?_
  rintro e w3 ⟨rfl, b3⟩
  have HF3 : Hid (Fr [] W w3 ∧ Sess W.heap.size w3 [bm] sb bm st1) := ⟨HF2.out.1.trans (Fr.of_below (bs := []) b3) (by simp), HF2.out.2.fr (Fr.of_below b3)⟩
  clear b3 HF2
  go_wp2_with fail
  have HPK := hidV (kpick_to u 10 u 10 w3 rfl rfl (by omega) (by omega) hu.1 hu.2)
  rw [HN.out] at HPK
  refine HPK.out.mono ?_
  rintro e w ⟨rfl, rfl⟩
  clear HPK
  go_wp2_with fail
  refine (HF3.out.2.says hB (bs Z3) _ S2 [] (by rw [bs_size]; have := HZ3L.out; omega) HOS.out HLET.out rfl).mono ?_
  rintro e w4 ⟨rfl, s4, f4⟩
  have HF4 : Hid (Fr [] W w4 ∧ Sess W.heap.size w4 [bm] sb bm S2) := ⟨HF3.out.1.trans f4 (by simp; exact HF3.out.2.lo), s4⟩
  clear s4 f4 HF3 ha1 ha2 ha3
  go_wp2_with fail
  refine (kdigit_any n _ _ (by rfl) hn).mono ?_
  rintro e w5 ⟨rfl, b5⟩
  have HF5 : Hid (Fr [] W w5 ∧ Sess W.heap.size w5 [bm] sb bm S2) := ⟨HF4.out.1.trans (Fr.of_below (bs := []) b5) (by simp), HF4.out.2.fr (Fr.of_below b5)⟩
  clear b5 HF4
  go_wp2_with fail
  refine (HF5.out.2.does hB (bs LG) S2 _ (by rw [bs_size]; omega) HOG.out HGC.out).mono ?_
  rintro e w6 ⟨rfl, s6, f6⟩
  have HF6 : Hid (Fr [] W w6 ∧ Sess W.heap.size w6 [bm] sb bm S2) := ⟨HF5.out.1.trans f6 (by simp; exact HF5.out.2.lo), s6⟩
  clear s6 f6 HF5
  go_wp2
  refine wp_forget (fun V => Blk V w6.heap.size (bv fun _ => false) 45 ∧ Fr [] W V ∧ Sess W.heap.size V [w6.heap.size, bm] sb bm S2) ⟨Blk.new w6 _ _, HF6.out.1.alloc _, HF6.out.2.alloc _⟩ ?_
  rintro V ⟨b1, b2, b3⟩
  have HV := hidV (And.intro b1 (And.intro b2 b3))
  have hob : W.heap.size ≤ w6.heap.size := HF6.out.1.size
  clear b1 b2 b3 HF6
  generalize w6.heap.size = ob at *
  go_loopg [16] 7 (fun gm v16 wr => ∃ z : Nat, ∃ c : Nat → Bool, gm = 7 - z ∧ z ≤ 7 ∧ v16 = .int .i64 z ∧ Hid (∀ v, v < z → c v = I v) ∧ Hid (Blk wr ob (bv c) 45 ∧ Fr [] W wr ∧ Sess W.heap.size wr [ob, bm] sb bm S2))
  case atStart => exact ⟨0, _, rfl, by omega, rfl, fun v hv => by omega, HV⟩
  case round =>
    obtain ⟨z, c, hgm, hz, rfl, HC, HD⟩ := hrel
    clear HV V
    by_cases hz7 : z < 7
    · have z0 : (0 : Int) ≤ (z : Int) := by omega
      have z1 : (z : Int) < 7 := by omega
      obtain ⟨A, HA⟩ : ∃ A, Hid (pows (lnF (n % 7) P) z 5 = A) := ⟨_, hidV rfl⟩
      obtain ⟨E, HE⟩ : ∃ A, Hid (pows (lnF (n % 7) Q) z 5 = A) := ⟨_, hidV rfl⟩
      obtain ⟨C, HCC⟩ : ∃ A, Hid (pows G z 5 = A) := ⟨_, hidV rfl⟩
      have hlaw : (A = 0 ∧ E = 0) ↔ C = 0 := by rw [← HA.out, ← HE.out, ← HCC.out]; exact HLAW.out z
      have HIX : Hid (I z = (decide (A = 0) && decide (E = 0))) := by unfold Hid; rw [← HA.out, ← HE.out]; exact HIN.out z
      have HVA := hidV (fun S U X w h a b c => pV_at HRX.out (by rw [bs_size]; have := HLX.out; omega) n z (V := A) (by rw [show z % 7 = z by omega, valP_pows]; exact HA.out) S U X w h a b c)
      have HVE := hidV (fun S U X w h a b c => pV_at HRY.out (by rw [bs_size]; have := HLY.out; omega) n z (V := E) (by rw [show z % 7 = z by omega, valP_pows]; exact HE.out) S U X w h a b c)
      have HVC := hidV (fun S U X w h a b c => pV_at HTR.out (by rw [bs_size]; have := HTL.out; omega) 0 z (V := C) (by rw [show z % 7 = z by omega, valP_up HGV.out]; exact HCC.out) S U X w h a b c)
      go_wp2_with fail
      refine (HVA.out _ _ _ _ HD.out.2.2.err rfl rfl rfl).mono ?_
      rintro e w1 ⟨rfl, b1⟩
      have HD1 : Hid (Blk w1 ob (bv c) 45 ∧ Fr [] W w1 ∧ Sess W.heap.size w1 [ob, bm] sb bm S2) := ⟨HD.out.1.fr (Fr.of_below (bs := []) b1) (by simp), HD.out.2.1.trans (Fr.of_below (bs := []) b1) (by simp), HD.out.2.2.fr (Fr.of_below b1)⟩
      clear b1 HD
      go_wp2_with fail
      refine (HVE.out _ _ _ _ HD1.out.2.2.err rfl rfl rfl).mono ?_
      rintro e w2 ⟨rfl, b2⟩
      have HD2 : Hid (Blk w2 ob (bv c) 45 ∧ Fr [] W w2 ∧ Sess W.heap.size w2 [ob, bm] sb bm S2) := ⟨HD1.out.1.fr (Fr.of_below (bs := []) b2) (by simp), HD1.out.2.1.trans (Fr.of_below (bs := []) b2) (by simp), HD1.out.2.2.fr (Fr.of_below b2)⟩
      clear b2 HD1
      go_wp2_with fail
      refine (HVC.out _ _ _ _ HD2.out.2.2.err rfl rfl rfl).mono ?_
      rintro e w3 ⟨rfl, b3⟩
      have HD3 : Hid (Blk w3 ob (bv c) 45 ∧ Fr [] W w3 ∧ Sess W.heap.size w3 [ob, bm] sb bm S2) := ⟨HD2.out.1.fr (Fr.of_below (bs := []) b3) (by simp), HD2.out.2.1.trans (Fr.of_below (bs := []) b3) (by simp), HD2.out.2.2.fr (Fr.of_below b3)⟩
      clear b3 HD2
      have hc2 : w3.cell? ⟨ob, z, none⟩ = some (.bool (c z)) := by rw [HD3.out.1.cell]; exact bv_get c hz7
      have hc3 : w3.frozen? ⟨ob, z, none⟩ = false := HD3.out.1.frozen _
      generalize c z = dz at hc2
      have key : ∀ v : Bool, v = I z → Hid (∃ c'' : Nat → Bool, (∀ u, u < z + 1 → c'' u = I u) ∧ Blk (w3.setCell ⟨ob, z, none⟩ (.bool v)) ob (bv c'') 45 ∧ Fr [] W (w3.setCell ⟨ob, z, none⟩ (.bool v)) ∧ Sess W.heap.size (w3.setCell ⟨ob, z, none⟩ (.bool v)) [ob, bm] sb bm S2) := by
        intro v hv
        have f9 : Fr [ob] w3 (w3.setCell ⟨ob, z, none⟩ (.bool v)) := Fr.setCell (Fr.refl _ _) _ _ (Or.inl (by simp))
        refine ⟨fun j => if j = z then v else c j, fun u hu => ?_, ?_, ?_, ?_⟩
        · dsimp only
          by_cases e : u = z
          · rw [if_pos e, e, hv]
          · rw [if_neg e]; exact HC.out u (by omega)
        · rw [← bv_upd c v hz7]; exact HD3.out.1.set _ _
        · exact HD3.out.2.1.trans f9 (by simp; omega)
        · exact HD3.out.2.2.frs hB f9 (by intro k hk; simp at hk; subst hk; exact ⟨by simp, HD3.out.2.2.ne HD3.out.1⟩)
      by_cases hA : A = 0
      · have hA' : ((A : Int) == 0) = true := by rw [beq_iff_eq]; omega
        by_cases hB2 : E = 0
        · have hE' : ((E : Int) == 0) = true := by rw [beq_iff_eq]; omega
          have hC' : ((C : Int) == 0) = true := by rw [beq_iff_eq]; have := hlaw.1 ⟨hA, hB2⟩; omega
          have KEY := key true (by rw [HIX.out]; simp [hA, hB2])
          clear key
          obtain ⟨c'', k1, k2⟩ := KEY
          have K1 := hidV k1
          have K2 := hidV k2
          clear k1 k2
          go_wp2
          go_roundg (7 - (z + 1))
          case measure => omega
          case rel => exact ⟨z + 1, c'', rfl, by omega, by go_num, K1, K2⟩
        · have hE' : ((E : Int) == 0) = false := by rw [beq_eq_false_iff_ne]; omega
          have hC' : ((C : Int) == 0) = false := by rw [beq_eq_false_iff_ne]; intro q; exact hB2 (hlaw.2 (by omega)).2
          have KEY := key false (by rw [HIX.out]; simp [hA, hB2])
          clear key
          obtain ⟨c'', k1, k2⟩ := KEY
          have K1 := hidV k1
          have K2 := hidV k2
          clear k1 k2
          go_wp2
          go_roundg (7 - (z + 1))
          case measure => omega
          case rel => exact ⟨z + 1, c'', rfl, by omega, by go_num, K1, K2⟩
      · have hA' : ((A : Int) == 0) = false := by rw [beq_eq_false_iff_ne]; omega
        have hC' : ((C : Int) == 0) = false := by rw [beq_eq_false_iff_ne]; intro q; exact hA (hlaw.2 (by omega)).1
        have KEY := key false (by rw [HIX.out]; simp [hA])
        clear key
        obtain ⟨c'', k1, k2⟩ := KEY
        have K1 := hidV k1
        have K2 := hidV k2
        clear k1 k2
        go_wp2
        go_roundg (7 - (z + 1))
        case measure => omega
        case rel => exact ⟨z + 1, c'', rfl, by omega, by go_num, K1, K2⟩
    · have ez : z = 7 := by omega
      subst ez
      have HLI := hidV (klisted_any c)
      rw [lsd_congr 7 HC.out] at HLI
      generalize hYL : lsd I 7 = YL at HLI HRT
      clear hYL
      have hsz := size_bool7 c
      obtain ⟨y, HYY⟩ : ∃ y, Hid (bv c = y) := ⟨_, hidV rfl⟩
      rw [HYY.out] at HLI HD hsz
      go_wp2_with fail
      refine region_class_tail (fun w' => Fr [] wr w') ((Fr.refl [] wr).drew) 6 (by kernel_rfl) (by kernel_rfl) ?_
      simp only [List.take_succ_cons, List.take_zero, List.drop_succ_cons, List.drop_zero]
      refine wpQuiet_mv (by rfl) _ (by rfl) ?_
      go_frame
      refine wpQuiet_mv (by rfl) _ (by rfl) ?_
      go_frame
      refine wpQuiet_calls (by rfl) 17 #[.int .i64 n] (.string (bs [dgt n])) (fun w' => by go_simp) (fun w' hw' => (kdigit_any n _ w' (by rfl) hn).mono (fun e w'' h => ⟨h.1, hw'.trans (Fr.of_below (bs := []) h.2) (by simp)⟩)) ?_
      go_frame
      refine wpQuiet_val (by rfl) (.string (bs LR)) (fun w' => by go_simp) ?_
      go_frame
      refine wpQuiet_ld (by rfl) 45 _ (by rfl) ob (by rfl) y _ (fun w' hw' => HD.out.1.fr hw' (by simp)) Tryz.underlying45 rfl hsz ?_
      go_frame
      refine wpQuiet_calls (by rfl) 23 #[.agg y] (.string (bs YL)) (fun w' => by go_simp) (fun w' hw' => (HLI.out w').mono (fun e w'' h => ⟨h.1, hw'.trans (Fr.of_below (bs := []) h.2) (by simp)⟩)) ?_
      go_frame
      refine wpQuiet_nil ?_
      intro w5 hw5
      have HD5 : Hid (Fr [] W w5 ∧ Sess W.heap.size w5 [ob, bm] sb bm S2) := ⟨HD.out.2.1.trans hw5 (by simp), HD.out.2.2.fr hw5⟩
      clear hw5
      go_wp2_with fail
      refine (HD5.out.2.says hB (bs LR) _ S2 _ (by rw [bs_size]; omega) HOR.out HRT.out rfl).mono ?_
      rintro e w6 ⟨rfl, s6, f6⟩
      have HE : Hid (Fr [] W w6) := HD5.out.1.trans f6 (by simp; exact HD5.out.2.lo)
      clear s6 f6
      go_wp2
      go_ret
      exact ⟨rfl, HE.out.below (Nat.le_refl _) (by simp)⟩
end Go.Proofs.YthlmgpllapccfaaGreatDoor
/- COMMON: THE WALK. -/
namespace Go.Proofs.YthlmgpllapccfaaGreatDoor
open Go.RowKit

set_option maxRecDepth 100000 in
set_option maxHeartbeats 4000000 in
theorem lawCommon_any (a b : Int) (sq : Bool) (p0 p1 p2 q0 q1 q2 u : Int) (W : World) (hg : ErrT W)
    (ha : -9223372036854775808 ≤ a ∧ a ≤ 9223372036854775807) (hb : -9223372036854775808 ≤ b ∧ b ≤ 9223372036854775807)
    (hp0 : -9223372036854775808 ≤ p0 ∧ p0 ≤ 9223372036854775807) (hp1 : -9223372036854775808 ≤ p1 ∧ p1 ≤ 9223372036854775807) (hp2 : -9223372036854775808 ≤ p2 ∧ p2 ≤ 9223372036854775807)
    (hq0 : -9223372036854775808 ≤ q0 ∧ q0 ≤ 9223372036854775807) (hq1 : -9223372036854775808 ≤ q1 ∧ q1 ≤ 9223372036854775807) (hq2 : -9223372036854775808 ≤ q2 ∧ q2 ≤ 9223372036854775807)
    (hu : -9223372036854775808 ≤ u ∧ u ≤ 9223372036854775807) :
    Calls Tryz.prog 4 #[.int .i64 a, .int .i64 b, .bool sq, .agg #[.int .i64 p0, .int .i64 p1, .int .i64 p2], .agg #[.int .i64 q0, .int .i64 q1, .int .i64 q2], .int .i64 u] W fun e w' => e = .returned (.bool true) ∧ Below W.heap.size W w' := by
  have HG := hidV hg
  clear hg
  have ends : ∃ D e, Hid (Mon D e ∧ e ≤ 2 ∧ D = if sq = true then tri (pck a 7) (pck b 7) 1 else tri (pck a 7) 1 0) := by
    cases sq
    · exact ⟨_, 1, tri_mon1 (pck_lt a (by omega)), by omega, rfl⟩
    · exact ⟨_, 2, tri_mon2 (pck_lt a (by omega)) (pck_lt b (by omega)), by omega, rfl⟩
  obtain ⟨D, ed, HD⟩ := ends
  have HP : Hid (Vec (tri (pck p0 7) (pck p1 7) (pck p2 7))) := tri_vec (pck_lt _ (by omega)) (pck_lt _ (by omega)) (pck_lt _ (by omega))
  have HQ : Hid (Vec (tri (pck q0 7) (pck q1 7) (pck q2 7))) := tri_vec (pck_lt _ (by omega)) (pck_lt _ (by omega)) (pck_lt _ (by omega))
  have HLAW := hidV (common_law HD.out.1 HD.out.2.1 (tri_top (pck p0 7) (pck p1 7) (pck p2 7)) (tri_top (pck q0 7) (pck q1 7) (pck q2 7)))
  have HV1 := hidV (tim_vec D (tri (pck p0 7) (pck p1 7) (pck p2 7)))
  have HV2 := hidV (tim_vec D (tri (pck q0 7) (pck q1 7) (pck q2 7)))
  obtain ⟨T1, HT1⟩ : ∃ T, Hid (tim D (tri (pck p0 7) (pck p1 7) (pck p2 7)) = T) := ⟨_, rfl⟩
  obtain ⟨T2, HT2⟩ : ∃ T, Hid (tim D (tri (pck q0 7) (pck q1 7) (pck q2 7)) = T) := ⟨_, rfl⟩
  rw [HT1.out] at HLAW HV1
  rw [HT2.out] at HLAW HV2
  dsimp only at HLAW
  obtain ⟨n, HN⟩ : ∃ n, Hid (pck u 10 = n) := ⟨_, hidV rfl⟩
  have hn : n < 10 := by rw [← HN.out]; exact pck_lt _ (by omega)
  have HLET := hidV (two_let st1 (n := 1) (by omega) HV1.out HV2.out)
  have HGC := hidV (two_gcd st1 (n := 1) (by omega) hn HV1.out HV2.out)
  have HOS := hidV (os_let 1 (ktw T1 4 ++ ([44] ++ ktw T2 4)))
  have HOG := hidV (os_gcd (n := 1) (by omega) hn)
  obtain ⟨S2, HS2⟩ : ∃ S, Hid (upd st1 1 (.sys [upL T1, upL T2]) = S) := ⟨_, rfl⟩
  rw [HS2.out] at HLET HGC
  obtain ⟨G, HGG⟩ : ∃ G, Hid (gall [T1, T2] = G) := ⟨_, hidV rfl⟩
  rw [HGG.out] at HLAW HGC
  obtain ⟨LG, HLG⟩ : ∃ L, Hid (qG 1 n = L) := ⟨_, hidV rfl⟩
  have HLG' : Hid ([103, 99, 100, 32, 66, 32] ++ [dgt n] = LG) := HLG.out
  have hl7 : LG.length = 7 := by rw [← HLG.out]; rfl
  rw [HLG.out] at HGC HOG
  obtain ⟨T, HT⟩ : ∃ T, Hid (ktl (tml G) = T) := ⟨_, hidV rfl⟩
  rw [HT.out] at HGC
  have HKP := hidV (fun w => kplain_to G HLAW.out.1 (bs T) w (by rw [HT.out]))
  have HLX : Hid ((ktw T1 4).length ≤ 17) := by unfold Hid; rw [ktw_len]; omega
  have HLY : Hid ((ktw T2 4).length ≤ 17) := by unfold Hid; rw [ktw_len]; omega
  have HW1 := hidV (fun w => kwritten_any T1 w HV1.out)
  have HW2 := hidV (fun w => kwritten_any T2 w HV2.out)
  rw [ar5_eq] at HW1 HW2
  generalize ktw T1 4 = X at *
  generalize ktw T2 4 = Y at *
  obtain ⟨Z1, HZ1⟩ : ∃ Z, Hid ([108, 101, 116, 32, 66, 32, 61, 32] ++ X = Z) := ⟨_, hidV rfl⟩
  obtain ⟨Z2, HZ2⟩ : ∃ Z, Hid (Z1 ++ [44] = Z) := ⟨_, hidV rfl⟩
  obtain ⟨Z3, HZ3⟩ : ∃ Z, Hid (Z2 ++ Y = Z) := ⟨_, hidV rfl⟩
  have HZE : Hid (letL 1 (X ++ ([44] ++ Y)) = Z3) := by unfold Hid; rw [← HZ3.out, ← HZ2.out, ← HZ1.out]; unfold letL; simp only [List.append_assoc]; rfl
  have HZ1L : Hid (Z1.length ≤ 25) := by unfold Hid; rw [← HZ1.out]; simp only [List.length_append, List.length_cons, List.length_nil]; have := HLX.out; omega
  have HZ2L : Hid (Z2.length ≤ 26) := by unfold Hid; rw [← HZ2.out]; simp only [List.length_append, List.length_cons, List.length_nil]; have := HZ1L.out; omega
  have HZ3L : Hid (Z3.length ≤ 43) := by unfold Hid; rw [← HZ3.out]; simp only [List.length_append]; have := HZ2L.out; have := HLY.out; omega
  rw [HZE.out] at HLET HOS
  have HA1 := hidV (fun (w' : World) => add_to0 [108, 101, 116, 32, 66, 32, 61, 32] ⟨#[108, 101, 116, 32, 66, 32, 61, 32]⟩ X Z1 (bs X) rfl rfl HZ1.out (by simp) (by have := HLX.out; omega) w')
  have HA2 := hidV (fun (w' : World) => add_to Z1 [44] Z2 ⟨#[44]⟩ rfl HZ2.out (by have := HZ1L.out; omega) (by simp) w')
  have HA3 := hidV (fun (w' : World) => add_to Z2 Y Z3 (bs Y) rfl HZ3.out (by have := HZ2L.out; omega) (by have := HLY.out; omega) w')
  have HA4 := hidV (fun (w' : World) => add_to0 [103, 99, 100, 32, 66, 32] ⟨#[103, 99, 100, 32, 66, 32]⟩ [dgt n] LG (bs [dgt n]) rfl rfl HLG'.out (by simp) (by simp) w')
  have hB : 0 < W.heap.size := HG.out.lt
  go_enter Tryz.func4, Tryz.ntmps4
  go_wp2_with fail
  generalize hW0 : (W.alloc (.cells #[.int .i64 p0, .int .i64 p1, .int .i64 p2] 25)).alloc (.cells #[.int .i64 q0, .int .i64 q1, .int .i64 q2] 25) = W0
  have HW0 : Hid (Blk W0 W.heap.size #[.int .i64 p0, .int .i64 p1, .int .i64 p2] 25 ∧ Blk W0 (W.heap.size + 1) #[.int .i64 q0, .int .i64 q1, .int .i64 q2] 25 ∧ Fr [] W W0) := by
    subst hW0
    exact ⟨(Blk.new _ _ _).alloc _, Blk.newAt _ _ _ (by simp), ((Fr.refl [] W).alloc _).alloc _⟩
  have hn0 : W0.heap.size = W.heap.size + 2 := by subst hW0; simp
  clear hW0
  refine (begun_any W0 (HG.out.fr HW0.out.2.2 (by simp))).mono ?_
  rintro e w1 ⟨sb, bm, rfl, s1, f1⟩
  have HF1 : Hid (Blk w1 W.heap.size #[.int .i64 p0, .int .i64 p1, .int .i64 p2] 25 ∧ Blk w1 (W.heap.size + 1) #[.int .i64 q0, .int .i64 q1, .int .i64 q2] 25 ∧ Fr [] W w1 ∧ Sess W0.heap.size w1 [bm] sb bm st1) := ⟨HW0.out.1.fr f1 (by simp), HW0.out.2.1.fr f1 (by simp), HW0.out.2.2.trans f1 (by simp), s1⟩
  clear s1 f1 HW0 HG
  cases sq
  case' true =>
    go_wp2_with fail
    refine (kpick_to a 7 _ _ _ rfl rfl (by omega) (by omega) ha.1 ha.2).mono ?_
    rintro e w ⟨rfl, rfl⟩
    go_wp2_with fail
    refine (kpick_to a 7 _ _ _ rfl rfl (by omega) (by omega) ha.1 ha.2).mono ?_
    rintro e w' ⟨rfl, rfl⟩
    go_wp2_with fail
    refine (kpick_to b 7 _ _ _ rfl rfl (by omega) (by omega) hb.1 hb.2).mono ?_
    rintro e w' ⟨rfl, rfl⟩
    go_wp2_with fail
    generalize hV : w.alloc (.cells #[.int .i64 (pck a 7 : Nat), .int .i64 (pck b 7 : Nat), .int .i64 1, .int .i64 0, .int .i64 0] 30) = V
    have HV : Hid (Blk V w.heap.size (ar5 D) 30 ∧ Fr [] w V) := by
      subst hV
      rw [show ar5 D = #[.int .i64 (pck a 7 : Nat), .int .i64 (pck b 7 : Nat), .int .i64 1, .int .i64 0, .int .i64 0] by rw [HD.out.2.2]; rfl]
      exact ⟨Blk.new _ _ _, (Fr.refl _ _).alloc _⟩
    generalize w.heap.size = db at *
    clear hV
    have HC : Hid (C1 V db W.heap.size D p0 p1 p2 ∧ C1 V db (W.heap.size + 1) D q0 q1 q2 ∧ Fr [] W V ∧ Sess W0.heap.size V [bm] sb bm st1) := ⟨⟨HV.out.1, HF1.out.1.fr HV.out.2 (by simp)⟩, ⟨HV.out.1, HF1.out.2.1.fr HV.out.2 (by simp)⟩, HF1.out.2.2.1.trans HV.out.2 (by simp), HF1.out.2.2.2.fr HV.out.2⟩
    clear HV HF1
  case' false =>
    go_wp2_with fail
    refine (kpick_to a 7 _ _ _ rfl rfl (by omega) (by omega) ha.1 ha.2).mono ?_
    rintro e w ⟨rfl, rfl⟩
    go_wp2_with fail
    generalize hV : w.alloc (.cells #[.int .i64 (pck a 7 : Nat), .int .i64 1, .int .i64 0, .int .i64 0, .int .i64 0] 30) = V
    have HV : Hid (Blk V w.heap.size (ar5 D) 30 ∧ Fr [] w V) := by
      subst hV
      rw [show ar5 D = #[.int .i64 (pck a 7 : Nat), .int .i64 1, .int .i64 0, .int .i64 0, .int .i64 0] by rw [HD.out.2.2]; rfl]
      exact ⟨Blk.new _ _ _, (Fr.refl _ _).alloc _⟩
    generalize w.heap.size = db at *
    clear hV
    have HC : Hid (C1 V db W.heap.size D p0 p1 p2 ∧ C1 V db (W.heap.size + 1) D q0 q1 q2 ∧ Fr [] W V ∧ Sess W0.heap.size V [bm] sb bm st1) := ⟨⟨HV.out.1, HF1.out.1.fr HV.out.2 (by simp)⟩, ⟨HV.out.1, HF1.out.2.1.fr HV.out.2 (by simp)⟩, HF1.out.2.2.1.trans HV.out.2 (by simp), HF1.out.2.2.2.fr HV.out.2⟩
    clear HV HF1
  all_goals
    refine region_alloc_tail (DF V) (EF V #[.int .i64 0, .int .i64 0, .int .i64 0, .int .i64 0, .int .i64 0] 30) (fun b => .pointer (some ⟨b, 0, none⟩)) 12 { dst := some 15, op := .alloc 30, type := 0, pos := "sessions.go:134", after := #[], guard := none } ((Fr.refl [] V).drew) (by kernel_rfl) (by kernel_rfl) (by rfl) (by rfl) (fun a w hw => ⟨w.heap.size, w.alloc (.cells #[.int .i64 0, .int .i64 0, .int .i64 0, .int .i64 0, .int .i64 0] 30), by go_simp, Fr.size hw, Blk.new _ _ _, Fr.alloc hw _⟩) ?_
    simp only [List.take_succ_cons, List.take_zero, List.drop_succ_cons, List.drop_zero]
    refine walkF_ld (by rfl) 30 _ (by rfl) db (by rfl) (ar5 D) _ (fun w hw => HC.out.1.d.fr hw (by simp)) Tryz.underlying30 rfl (by kernel_rfl) ?_
    go_frame
    refine walkF_val (by rfl) (.pointer (some ⟨W.heap.size, 0, none⟩)) (fun w _ => by go_simp) ?_
    go_frame
    refine walkF_val (by rfl) (.int .i64 p0) (fun w hw => by have c : w.cell? ⟨W.heap.size, 0, none⟩ = some (.int .i64 p0) := (HC.out.1.p.fr hw (by simp)).cell 0
                                                             go_simp) ?_
    go_frame
    refine walkF_calls (by rfl) 12 #[.int .i64 p0, .int .i64 7] (.int .i64 (pck p0 7 : Nat)) (fun w => by go_simp) (fun w _ => (kpick_to p0 7 _ _ w (by rfl) (by rfl) (by omega) (by omega) hp0.1 hp0.2).mono (by rintro e w' ⟨rfl, rfl⟩; exact ⟨rfl, Fr.refl _ _⟩)) ?_
    go_frame
    refine walkF_val (by rfl) (.pointer (some ⟨W.heap.size, 1, none⟩)) (fun w _ => by go_simp) ?_
    go_frame
    refine walkF_val (by rfl) (.int .i64 p1) (fun w hw => by have c : w.cell? ⟨W.heap.size, 1, none⟩ = some (.int .i64 p1) := (HC.out.1.p.fr hw (by simp)).cell 1
                                                             go_simp) ?_
    go_frame
    refine walkF_calls (by rfl) 12 #[.int .i64 p1, .int .i64 7] (.int .i64 (pck p1 7 : Nat)) (fun w => by go_simp) (fun w _ => (kpick_to p1 7 _ _ w (by rfl) (by rfl) (by omega) (by omega) hp1.1 hp1.2).mono (by rintro e w' ⟨rfl, rfl⟩; exact ⟨rfl, Fr.refl _ _⟩)) ?_
    go_frame
    refine walkF_val (by rfl) (.pointer (some ⟨W.heap.size, 2, none⟩)) (fun w _ => by go_simp) ?_
    go_frame
    refine walkF_val (by rfl) (.int .i64 p2) (fun w hw => by have c : w.cell? ⟨W.heap.size, 2, none⟩ = some (.int .i64 p2) := (HC.out.1.p.fr hw (by simp)).cell 2
                                                             go_simp) ?_
    go_frame
    refine walkF_calls (by rfl) 12 #[.int .i64 p2, .int .i64 7] (.int .i64 (pck p2 7 : Nat)) (fun w => by go_simp) (fun w _ => (kpick_to p2 7 _ _ w (by rfl) (by rfl) (by omega) (by omega) hp2.1 hp2.2).mono (by rintro e w' ⟨rfl, rfl⟩; exact ⟨rfl, Fr.refl _ _⟩)) ?_
    go_frame
    refine walkF_val (by rfl) (.agg #[.int .i64 (pck p0 7 : Nat), .int .i64 (pck p1 7 : Nat), .int .i64 (pck p2 7 : Nat), .int .i64 0, .int .i64 0]) (fun w _ => by go_simp) ?_
    go_frame
    refine walkF_calls (by rfl) 13 #[.agg (ar5 D), .agg #[.int .i64 (pck p0 7 : Nat), .int .i64 (pck p1 7 : Nat), .int .i64 (pck p2 7 : Nat), .int .i64 0, .int .i64 0]] (.agg (ar5 T1)) (fun w => by go_simp) (fun w _ => (ktimes_to D (tri (pck p0 7) (pck p1 7) (pck p2 7)) _ _ T1 w (by rfl) (by rfl) HT1 HD.out.1.vec HP.out).mono (fun e w' h => ⟨h.1, Fr.of_below h.2⟩)) ?_
    go_frame
    refine walkF_nil ?_
    intro b1 v1 hE
    obtain ⟨hb1, hk1, hf1⟩ := hE
    have HE1 : Hid (Blk v1 b1 #[.int .i64 0, .int .i64 0, .int .i64 0, .int .i64 0, .int .i64 0] 30 ∧ Fr [] V v1) := ⟨hk1, hf1⟩
    have c0 : v1.cell? ⟨b1, 0, none⟩ = some (.int .i64 0) := hk1.cell 0
    have c1 : v1.cell? ⟨b1, 1, none⟩ = some (.int .i64 0) := hk1.cell 1
    have c2 : v1.cell? ⟨b1, 2, none⟩ = some (.int .i64 0) := hk1.cell 2
    have c3 : v1.cell? ⟨b1, 3, none⟩ = some (.int .i64 0) := hk1.cell 3
    have c4 : v1.cell? ⟨b1, 4, none⟩ = some (.int .i64 0) := hk1.cell 4
    have z0 := hk1.frozen 0
    have z1 := hk1.frozen 1
    have z2 := hk1.frozen 2
    have z3 := hk1.frozen 3
    have z4 := hk1.frozen 4
    clear hk1 hf1
    unfold ar5
    go_wp2_with fail
    refine wp_forget (fun V1 => C1 V1 db (W.heap.size + 1) D q0 q1 q2 ∧ Blk V1 b1 (ar5 T1) 30 ∧ Fr [] W V1 ∧ Sess W0.heap.size V1 [bm] sb bm st1) ?_ ?_
    · have f9 := HE1.out.2.set5 b1 hb1 (.int .i64 (T1 0 : Nat)) (.int .i64 (T1 1 : Nat)) (.int .i64 (T1 2 : Nat)) (.int .i64 (T1 3 : Nat)) (.int .i64 (T1 4 : Nat))
      exact ⟨⟨HC.out.2.1.d.fr f9 (by simp), HC.out.2.1.p.fr f9 (by simp)⟩, HE1.out.1.set5 _ _ _ _ _, HC.out.2.2.1.trans f9 (by simp), HC.out.2.2.2.fr f9⟩
    rintro V1 g1
    have HC1 := hidV g1
    clear g1 HE1 HC c0 c1 c2 c3 c4 z0 z1 z2 z3 z4 hb1 v1
    refine region_alloc_tail (DF V1) (EF V1 #[.int .i64 0, .int .i64 0, .int .i64 0, .int .i64 0, .int .i64 0] 30) (fun b => .pointer (some ⟨b, 0, none⟩)) 12 { dst := some 16, op := .alloc 30, type := 0, pos := "sessions.go:135", after := #[], guard := none } ((Fr.refl [] V1).drew) (by kernel_rfl) (by kernel_rfl) (by rfl) (by rfl) (fun a w hw => ⟨w.heap.size, w.alloc (.cells #[.int .i64 0, .int .i64 0, .int .i64 0, .int .i64 0, .int .i64 0] 30), by go_simp, Fr.size hw, Blk.new _ _ _, Fr.alloc hw _⟩) ?_
    simp only [List.take_succ_cons, List.take_zero, List.drop_succ_cons, List.drop_zero]
    refine walkF_ld (by rfl) 30 _ (by rfl) db (by rfl) (ar5 D) _ (fun w hw => HC1.out.1.d.fr hw (by simp)) Tryz.underlying30 rfl (by kernel_rfl) ?_
    go_frame
    refine walkF_val (by rfl) (.pointer (some ⟨W.heap.size + 1, 0, none⟩)) (fun w _ => by go_simp) ?_
    go_frame
    refine walkF_val (by rfl) (.int .i64 q0) (fun w hw => by have c : w.cell? ⟨W.heap.size + 1, 0, none⟩ = some (.int .i64 q0) := (HC1.out.1.p.fr hw (by simp)).cell 0
                                                             go_simp) ?_
    go_frame
    refine walkF_calls (by rfl) 12 #[.int .i64 q0, .int .i64 7] (.int .i64 (pck q0 7 : Nat)) (fun w => by go_simp) (fun w _ => (kpick_to q0 7 _ _ w (by rfl) (by rfl) (by omega) (by omega) hq0.1 hq0.2).mono (by rintro e w' ⟨rfl, rfl⟩; exact ⟨rfl, Fr.refl _ _⟩)) ?_
    go_frame
    refine walkF_val (by rfl) (.pointer (some ⟨W.heap.size + 1, 1, none⟩)) (fun w _ => by go_simp) ?_
    go_frame
    refine walkF_val (by rfl) (.int .i64 q1) (fun w hw => by have c : w.cell? ⟨W.heap.size + 1, 1, none⟩ = some (.int .i64 q1) := (HC1.out.1.p.fr hw (by simp)).cell 1
                                                             go_simp) ?_
    go_frame
    refine walkF_calls (by rfl) 12 #[.int .i64 q1, .int .i64 7] (.int .i64 (pck q1 7 : Nat)) (fun w => by go_simp) (fun w _ => (kpick_to q1 7 _ _ w (by rfl) (by rfl) (by omega) (by omega) hq1.1 hq1.2).mono (by rintro e w' ⟨rfl, rfl⟩; exact ⟨rfl, Fr.refl _ _⟩)) ?_
    go_frame
    refine walkF_val (by rfl) (.pointer (some ⟨W.heap.size + 1, 2, none⟩)) (fun w _ => by go_simp) ?_
    go_frame
    refine walkF_val (by rfl) (.int .i64 q2) (fun w hw => by have c : w.cell? ⟨W.heap.size + 1, 2, none⟩ = some (.int .i64 q2) := (HC1.out.1.p.fr hw (by simp)).cell 2
                                                             go_simp) ?_
    go_frame
    refine walkF_calls (by rfl) 12 #[.int .i64 q2, .int .i64 7] (.int .i64 (pck q2 7 : Nat)) (fun w => by go_simp) (fun w _ => (kpick_to q2 7 _ _ w (by rfl) (by rfl) (by omega) (by omega) hq2.1 hq2.2).mono (by rintro e w' ⟨rfl, rfl⟩; exact ⟨rfl, Fr.refl _ _⟩)) ?_
    go_frame
    refine walkF_val (by rfl) (.agg #[.int .i64 (pck q0 7 : Nat), .int .i64 (pck q1 7 : Nat), .int .i64 (pck q2 7 : Nat), .int .i64 0, .int .i64 0]) (fun w _ => by go_simp) ?_
    go_frame
    refine walkF_calls (by rfl) 13 #[.agg (ar5 D), .agg #[.int .i64 (pck q0 7 : Nat), .int .i64 (pck q1 7 : Nat), .int .i64 (pck q2 7 : Nat), .int .i64 0, .int .i64 0]] (.agg (ar5 T2)) (fun w => by go_simp) (fun w _ => (ktimes_to D (tri (pck q0 7) (pck q1 7) (pck q2 7)) _ _ T2 w (by rfl) (by rfl) HT2 HD.out.1.vec HQ.out).mono (fun e w' h => ⟨h.1, Fr.of_below h.2⟩)) ?_
    go_frame
    refine walkF_nil ?_
    intro b2 v2 hE
    obtain ⟨hb2, hk2, hf2⟩ := hE
    have HE2 : Hid (Blk v2 b2 #[.int .i64 0, .int .i64 0, .int .i64 0, .int .i64 0, .int .i64 0] 30 ∧ Fr [] V1 v2) := ⟨hk2, hf2⟩
    have c0 : v2.cell? ⟨b2, 0, none⟩ = some (.int .i64 0) := hk2.cell 0
    have c1 : v2.cell? ⟨b2, 1, none⟩ = some (.int .i64 0) := hk2.cell 1
    have c2 : v2.cell? ⟨b2, 2, none⟩ = some (.int .i64 0) := hk2.cell 2
    have c3 : v2.cell? ⟨b2, 3, none⟩ = some (.int .i64 0) := hk2.cell 3
    have c4 : v2.cell? ⟨b2, 4, none⟩ = some (.int .i64 0) := hk2.cell 4
    have z0 := hk2.frozen 0
    have z1 := hk2.frozen 1
    have z2 := hk2.frozen 2
    have z3 := hk2.frozen 3
    have z4 := hk2.frozen 4
    clear hk2 hf2
    unfold ar5
    go_wp2_with fail
    refine wp_forget (fun V2 => C2 W V2 W0.heap.size db b1 b2 sb bm D T1 T2 st1) ?_ ?_
    · have f9 := HE2.out.2.set5 b2 hb2 (.int .i64 (T2 0 : Nat)) (.int .i64 (T2 1 : Nat)) (.int .i64 (T2 2 : Nat)) (.int .i64 (T2 3 : Nat)) (.int .i64 (T2 4 : Nat))
      exact ⟨HC1.out.1.d.fr f9 (by simp), HC1.out.2.1.fr f9 (by simp), HE2.out.1.set5 _ _ _ _ _, HC1.out.2.2.1.trans f9 (by simp), HC1.out.2.2.2.fr f9⟩
    rintro V2 g2
    have HC2 := hidV g2
    clear g2 HE2 HC1 c0 c1 c2 c3 c4 z0 z1 z2 z3 z4 hb2 v2 V1 V
    refine region_class_tail (fun w' => Fr [] V2 w') ((Fr.refl [] V2).drew) 7 (by kernel_rfl) (by kernel_rfl) ?_
    simp only [List.take_succ_cons, List.take_zero, List.drop_succ_cons, List.drop_zero]
    refine wpQuiet_ld (by rfl) 30 _ (by rfl) b1 (by rfl) (ar5 T1) _ (fun w' hw' => HC2.out.2.1.fr hw' (by simp)) Tryz.underlying30 rfl (by kernel_rfl) ?_
    go_frame
    refine wpQuiet_calls (by rfl) 14 #[.agg (ar5 T1)] (.string (bs X)) (fun w' => by go_simp) (fun w' hw' => (HW1.out w').mono (fun e w'' h => ⟨h.1, hw'.trans (Fr.of_below (bs := []) h.2) (by simp)⟩)) ?_
    go_frame
    refine wpQuiet_val (by rfl) (.string (bs Z1)) (fun w' => by have ha1 := HA1.out w'
                                                                go_simp) ?_
    go_frame
    refine wpQuiet_val (by rfl) (.string (bs Z2)) (fun w' => by have ha2 := HA2.out w'
                                                                go_simp) ?_
    go_frame
    refine wpQuiet_ld (by rfl) 30 _ (by rfl) b2 (by rfl) (ar5 T2) _ (fun w' hw' => HC2.out.2.2.1.fr hw' (by simp)) Tryz.underlying30 rfl (by kernel_rfl) ?_
    go_frame
    refine wpQuiet_calls (by rfl) 14 #[.agg (ar5 T2)] (.string (bs Y)) (fun w' => by go_simp) (fun w' hw' => (HW2.out w').mono (fun e w'' h => ⟨h.1, hw'.trans (Fr.of_below (bs := []) h.2) (by simp)⟩)) ?_
    go_frame
    refine wpQuiet_val (by rfl) (.string (bs Z3)) (fun w' => by have ha3 := HA3.out w'
                                                                go_simp) ?_
    go_frame
    refine wpQuiet_nil ?_
    intro w5 hw5
    have HC3 := hidV (HC2.out.fr hw5)
    clear hw5 HC2 V2
    go_wp2_with fail
    refine (HC3.out.2.2.2.2.says (by omega) (bs Z3) _ S2 [] (by rw [bs_size]; have := HZ3L.out; omega) HOS.out HLET.out rfl).mono ?_
    rintro e w6 ⟨rfl, s6, f6⟩
    have HC4 := hidV (HC3.out.on (by omega) f6 s6)
    clear s6 f6 HC3 w5
    go_wp2_with fail
    have HPK := hidV (kpick_to u 10 u 10 w6 rfl rfl (by omega) (by omega) hu.1 hu.2)
    rw [HN.out] at HPK
    refine HPK.out.mono ?_
    rintro e w ⟨rfl, rfl⟩
    clear HPK
    go_wp2_with fail
    refine (kdigit_any n _ _ (by rfl) hn).mono ?_
    rintro e w7 ⟨rfl, b7⟩
    have HC5 := hidV (HC4.out.fr (Fr.of_below b7))
    clear b7 HC4
    have ha4 := HA4.out
    go_wp2_with fail
    refine (HC5.out.2.2.2.2.does (by omega) (bs LG) S2 _ (by rw [bs_size]; omega) HOG.out HGC.out).mono ?_
    rintro e w8 ⟨rfl, s8, f8⟩
    have HC6 := hidV (HC5.out.on (by omega) f8 s8)
    clear s8 f8 HC5 ha4
    go_wp2_with fail
    refine (HKP.out _).mono ?_
    rintro e w9 ⟨rfl, b9⟩
    have HC7 := hidV (HC6.out.fr (Fr.of_below b9))
    clear b9 HC6 w8 w7
    go_wp2_with fail
    have HDG := hidV (kdegree_to G)
    obtain ⟨eg, HEG⟩ : ∃ e, Hid (dg G = e) := ⟨_, hidV rfl⟩
    rw [HEG.out] at HDG
    refine (HDG.out _ _ (by rfl)).mono ?_
    rintro e w10 ⟨rfl, b10⟩
    have f10 : Fr [] w9 w10 := ((Fr.refl [] w9).alloc _).trans (Fr.of_below (bs := []) b10) (by simp)
    have HC8 : Hid (C2 W w10 W0.heap.size db b1 b2 sb bm D T1 T2 S2 ∧ Blk w10 w9.heap.size (ar5 G) 30) := ⟨HC7.out.fr f10, (Blk.new w9 _ _).fr (Fr.of_below (bs := []) b10) (by simp)⟩
    clear b10 f10 HC7
    generalize w9.heap.size = gb at *
    obtain ⟨c0, c1, c2, c3, c4⟩ := row5 HC8.out.1.2.1
    have HDG1 := hidV (kdegree_to T1)
    have HDG2 := hidV (kdegree_to T2)
    obtain ⟨e1, HE1⟩ : ∃ e, Hid (dg T1 = e) := ⟨_, hidV rfl⟩
    obtain ⟨e2, HE2⟩ : ∃ e, Hid (dg T2 = e) := ⟨_, hidV rfl⟩
    rw [HE1.out] at HDG1
    rw [HE2.out] at HDG2
    have key : ¬ (e1 = 0 ∧ e2 = 0) → Hid (∃ m, dg G = m + 1 ∧ m ≤ 4 ∧ Mon G m ∧ dg (dv G m T1 (5 - m)) = 0 ∧ dg (dv G m T2 (5 - m)) = 0 ∧ dg (dv D ed G (5 - ed)) = 0) := fun hne => by
      rw [← HE1.out, ← HE2.out] at hne
      obtain ⟨k1, k2, k3, k4, k5⟩ := HLAW.out.2.2 hne
      exact ⟨dg G - 1, by omega, k2.le, k2, k3, k4, k5⟩
    by_cases h1 : e1 = 0
    · have hd1 : (e1 : Int) - 1 < 0 := by omega
      go_wp2_with fail
      refine (HDG1.out _ _ (by rfl)).mono ?_
      rintro e w11 ⟨rfl, b11⟩
      have HC9 : Hid (C2 W w11 W0.heap.size db b1 b2 sb bm D T1 T2 S2 ∧ Blk w11 gb (ar5 G) 30) := ⟨HC8.out.1.fr (Fr.of_below b11), HC8.out.2.fr (Fr.of_below (bs := []) b11) (by simp)⟩
      clear b11 HC8 c0 c1 c2 c3 c4
      obtain ⟨c0, c1, c2, c3, c4⟩ := row5 HC9.out.1.2.2.1
      by_cases h2 : e2 = 0
      · have hd2 : (e2 : Int) - 1 < 0 := by omega
        have HTT : Hid (T = [48]) := by unfold Hid; rw [← HT.out, HLAW.out.2.1 ⟨by rw [HE1.out]; exact h1, by rw [HE2.out]; exact h2⟩]; rfl
        go_wp2_with fail
        refine (HDG2.out _ _ (by rfl)).mono ?_
        rintro e w12 ⟨rfl, b12⟩
        have HCE : Hid (Fr [] W w12) := HC9.out.1.2.2.2.1.trans (Fr.of_below (bs := []) b12) (by simp)
        rw [HTT.out]
        have h48 : ((bs [48]).toList == [48]) = true := by rw [ByteArray.toList_eq]; rfl
        go_wp2
        go_ret
        exact ⟨rfl, HCE.out.below (Nat.le_refl _) (by simp)⟩
      · have hd2 : ¬ (e2 : Int) - 1 < 0 := by omega
        go_wp2_with fail
        refine (HDG2.out _ _ (by rfl)).mono ?_
        rintro e w12 ⟨rfl, b12⟩
        have HCA : Hid (C2 W w12 W0.heap.size db b1 b2 sb bm D T1 T2 S2 ∧ Blk w12 gb (ar5 G) 30) := ⟨HC9.out.1.fr (Fr.of_below b12), HC9.out.2.fr (Fr.of_below (bs := []) b12) (by simp)⟩
        clear b12 HC9 c0 c1 c2 c3 c4
        obtain ⟨m, km, hm4, kM, k1, k2, k3⟩ := key (by omega)
        have em : ((eg : Int) - 1) = (m : Int) := by rw [← HEG.out]; omega
        rw [em]
        have cm : w12.cell? ⟨gb, m, none⟩ = some (.int .i64 1) := by rw [HCA.out.2.cell, ar5_get G (by omega), kM.one]; rfl
        have m0 : (0 : Int) ≤ (m : Int) := by omega
        have m1 : (m : Int) < 5 := by omega
        have mn : ¬ (m : Int) < 0 := by omega
        go_wp2_with (first | (refine wpList_load_row (by rfl) 30 _ (by rfl) gb (by rfl) 30 (ar5 G) (0, 0) _ HCA.out.2 Tryz.underlying30 (by rfl) (by kernel_rfl) ?_) | (refine wpList_load_row (by rfl) 30 _ (by rfl) b1 (by rfl) 30 (ar5 T1) (0, 0) _ HCA.out.1.2.1 Tryz.underlying30 (by rfl) (by kernel_rfl) ?_))
        refine (kdiv_to G T1 m _ _ _ (by rfl) (by rfl) kM HV1.out k1).mono ?_
        rintro e x1 ⟨rfl, y1⟩
        have HX1 : Hid (C2 W x1 W0.heap.size db b1 b2 sb bm D T1 T2 S2 ∧ Blk x1 gb (ar5 G) 30) := ⟨HCA.out.1.fr (Fr.of_below y1), HCA.out.2.fr (Fr.of_below (bs := []) y1) (by simp)⟩
        clear y1 cm
        go_wp2_with (first | (refine wpList_load_row (by rfl) 30 _ (by rfl) gb (by rfl) 30 (ar5 G) (0, 0) _ HX1.out.2 Tryz.underlying30 (by rfl) (by kernel_rfl) ?_) | (refine wpList_load_row (by rfl) 30 _ (by rfl) b2 (by rfl) 30 (ar5 T2) (0, 0) _ HX1.out.1.2.2.1 Tryz.underlying30 (by rfl) (by kernel_rfl) ?_))
        refine (kdiv_to G T2 m _ _ _ (by rfl) (by rfl) kM HV2.out k2).mono ?_
        rintro e x2 ⟨rfl, y2⟩
        have HX2 : Hid (C2 W x2 W0.heap.size db b1 b2 sb bm D T1 T2 S2 ∧ Blk x2 gb (ar5 G) 30) := ⟨HX1.out.1.fr (Fr.of_below y2), HX1.out.2.fr (Fr.of_below (bs := []) y2) (by simp)⟩
        clear y2 HX1
        go_wp2_with (first | (refine wpList_load_row (by rfl) 30 _ (by rfl) gb (by rfl) 30 (ar5 G) (0, 0) _ HX2.out.2 Tryz.underlying30 (by rfl) (by kernel_rfl) ?_) | (refine wpList_load_row (by rfl) 30 _ (by rfl) db (by rfl) 30 (ar5 D) (0, 0) _ HX2.out.1.1 Tryz.underlying30 (by rfl) (by kernel_rfl) ?_))
        refine (kdiv_to D G ed _ _ _ (by rfl) (by rfl) HD.out.1 HLAW.out.1 k3).mono ?_
        rintro e x3 ⟨rfl, y3⟩
        have HX3 : Hid (Fr [] W x3) := HX2.out.1.2.2.2.1.trans (Fr.of_below (bs := []) y3) (by simp)
        clear y3 HX2
        go_wp2
        go_ret
        exact ⟨rfl, HX3.out.below (Nat.le_refl _) (by simp)⟩
    · have hd1 : ¬ (e1 : Int) - 1 < 0 := by omega
      go_wp2_with fail
      refine (HDG1.out _ _ (by rfl)).mono ?_
      rintro e w11 ⟨rfl, b11⟩
      have HC9 : Hid (C2 W w11 W0.heap.size db b1 b2 sb bm D T1 T2 S2 ∧ Blk w11 gb (ar5 G) 30) := ⟨HC8.out.1.fr (Fr.of_below b11), HC8.out.2.fr (Fr.of_below (bs := []) b11) (by simp)⟩
      clear b11 HC8 c0 c1 c2 c3 c4
      obtain ⟨m, km, hm4, kM, k1, k2, k3⟩ := key (by omega)
      have em : ((eg : Int) - 1) = (m : Int) := by rw [← HEG.out]; omega
      rw [em]
      have cm : w11.cell? ⟨gb, m, none⟩ = some (.int .i64 1) := by rw [HC9.out.2.cell, ar5_get G (by omega), kM.one]; rfl
      have m0 : (0 : Int) ≤ (m : Int) := by omega
      have m1 : (m : Int) < 5 := by omega
      have mn : ¬ (m : Int) < 0 := by omega
      go_wp2_with (first | (refine wpList_load_row (by rfl) 30 _ (by rfl) gb (by rfl) 30 (ar5 G) (0, 0) _ HC9.out.2 Tryz.underlying30 (by rfl) (by kernel_rfl) ?_) | (refine wpList_load_row (by rfl) 30 _ (by rfl) b1 (by rfl) 30 (ar5 T1) (0, 0) _ HC9.out.1.2.1 Tryz.underlying30 (by rfl) (by kernel_rfl) ?_))
      refine (kdiv_to G T1 m _ _ _ (by rfl) (by rfl) kM HV1.out k1).mono ?_
      rintro e x1 ⟨rfl, y1⟩
      have HX1 : Hid (C2 W x1 W0.heap.size db b1 b2 sb bm D T1 T2 S2 ∧ Blk x1 gb (ar5 G) 30) := ⟨HC9.out.1.fr (Fr.of_below y1), HC9.out.2.fr (Fr.of_below (bs := []) y1) (by simp)⟩
      clear y1 cm
      go_wp2_with (first | (refine wpList_load_row (by rfl) 30 _ (by rfl) gb (by rfl) 30 (ar5 G) (0, 0) _ HX1.out.2 Tryz.underlying30 (by rfl) (by kernel_rfl) ?_) | (refine wpList_load_row (by rfl) 30 _ (by rfl) b2 (by rfl) 30 (ar5 T2) (0, 0) _ HX1.out.1.2.2.1 Tryz.underlying30 (by rfl) (by kernel_rfl) ?_))
      refine (kdiv_to G T2 m _ _ _ (by rfl) (by rfl) kM HV2.out k2).mono ?_
      rintro e x2 ⟨rfl, y2⟩
      have HX2 : Hid (C2 W x2 W0.heap.size db b1 b2 sb bm D T1 T2 S2 ∧ Blk x2 gb (ar5 G) 30) := ⟨HX1.out.1.fr (Fr.of_below y2), HX1.out.2.fr (Fr.of_below (bs := []) y2) (by simp)⟩
      clear y2 HX1
      go_wp2_with (first | (refine wpList_load_row (by rfl) 30 _ (by rfl) gb (by rfl) 30 (ar5 G) (0, 0) _ HX2.out.2 Tryz.underlying30 (by rfl) (by kernel_rfl) ?_) | (refine wpList_load_row (by rfl) 30 _ (by rfl) db (by rfl) 30 (ar5 D) (0, 0) _ HX2.out.1.1 Tryz.underlying30 (by rfl) (by kernel_rfl) ?_))
      refine (kdiv_to D G ed _ _ _ (by rfl) (by rfl) HD.out.1 HLAW.out.1 k3).mono ?_
      rintro e x3 ⟨rfl, y3⟩
      have HX3 : Hid (Fr [] W x3) := HX2.out.1.2.2.2.1.trans (Fr.of_below (bs := []) y3) (by simp)
      clear y3 HX2
      go_wp2
      go_ret
      exact ⟨rfl, HX3.out.below (Nat.le_refl _) (by simp)⟩
end Go.Proofs.YthlmgpllapccfaaGreatDoor
/- WHAT THE ROWS' CONDITION GIVES A WALK: errors.errorType's cell; a world that meets it. -/
namespace Go.Proofs.YthlmgpllapccfaaGreatDoor
open Go.ChangeShapes Go.WideShapes Go.RowKit

theorem Tryz.own : ownKnob Tryz.prog.godebug = none := by kernel_rfl
theorem Tryz.et : Tryz.prog.globalNamed "errors.errorType" = some 0 := by kernel_rfl
theorem Tryz.rt : (Tryz.prog.cutTypes.find? (·.1 == "internal/reflectlite.rtype")).map (·.2) = some 195 := by kernel_rfl
theorem Tryz.oneRow : ((List.range Tryz.prog.types.size).filter fun t => Tryz.prog.rowNamed t [101, 114, 114, 111, 114]) = [127] := by kernel_rfl
theorem Tryz.hand : typeHandle Tryz.prog 127 = .pointer (some ⟨5, 127, none⟩) := by kernel_rfl

theorem errT_of_handle {W : World} (h : handlesMet Tryz.prog [("errors.errorType", Rows.laid_errors_errorType)] W) : ErrT W := by
  obtain ⟨name, u, ty, e1, e2, e3, e4, e5⟩ := h _ (List.mem_singleton.2 rfl)
  have en : name = [101, 114, 114, 111, 114] := (Option.some.inj e1).symm
  subst en
  obtain rfl := Option.some.inj (Tryz.rt.symm.trans e2)
  have hm : ty ∈ (List.range Tryz.prog.types.size).filter fun t => Tryz.prog.rowNamed t [101, 114, 114, 111, 114] := List.mem_filter.2 ⟨List.mem_range.2 e3, e4⟩
  rw [Tryz.oneRow] at hm
  obtain rfl := List.mem_singleton.1 hm
  rw [Tryz.hand] at e5
  unfold ErrT
  simpa using World.var?_cell Tryz.et e5 0

/-- A world that meets the condition: the settled one, the variable's cell laid. -/
noncomputable def laidWorld (os : Os) : World :=
  let w0 := World.holding Tryz.prog os ⟨#[], #[], []⟩
  { w0 with heap := w0.heap.modify 0 fun
      | .cells _ t frozen => .cells #[.iface 195 (.agg #[.pointer (some ⟨5, 127, none⟩)])] t frozen
      | o => o }
end Go.Proofs.YthlmgpllapccfaaGreatDoor
