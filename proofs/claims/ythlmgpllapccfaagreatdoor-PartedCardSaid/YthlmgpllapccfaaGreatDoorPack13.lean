import Derived.Test.YthlmgpllapccfaaGreatDoorPack12
import Derived.Test.YthlmgpllapccfaaGreatDoorRows
import Derived.ChangeSame
import Derived.ChangeVars
import Derived.JoinedOf
import Derived.RowKit
import Derived.RowKitTokens
import Derived.LaidLaws
import Derived.LaidHandle
import Derived.SizedLaws
import Derived.Stop.Joined
import Derived.SevenTiedAt
import Derived.ProofKit
import Derived.ChangeMaps5
import Derived.ChangeSlices
import Derived.Test.YthlmgpllapccfaaGreatDoorTie
import Derived.Test.YthlmgpllapccfaaGreatDoorCards
/- PLAIN: ROOTED and PARTED: what their answers come to. -/
namespace Go.Proofs.YthlmgpllapccfaaGreatDoor
open Go.RowKit

theorem ktl_len : ∀ l : List (Nat × Nat), (ktl l).length ≤ 6 * l.length
  | [] => by simp [ktl]
  | (c, x) :: t => by
    rw [ktl, List.length_append, List.length_cons]
    have h1 := tmx_len c 0 x
    have h2 := ktl_len t
    split
    · simp only [List.length_nil]; omega
    · rw [List.length_cons]; omega
theorem trm_len (g : Nat → Nat) : ∀ x, (trm g x).length ≤ x
  | 0 => by simp [trm]
  | x + 1 => by
    rw [trm]
    have h := trm_len g x
    split
    · omega
    · rw [List.length_cons]; omega
theorem tml_len (g : Nat → Nat) : (tml g).length ≤ 5 := by
  unfold tml
  split
  · simp
  · exact trm_len g 5
theorem up_len (g : Nat → Nat) : (txt (upL g)).length ≤ 30 := by
  rw [txt_tml]
  have := ktl_len (tml g)
  have := tml_len g
  omega
/-- The text of a greatest common divisor is read as that. -/
theorem up_read {g : Nat → Nat} (hg : Vec g) : rd (bs (ktl (tml g))) = ⟨0, 0, upL g⟩ := by
  rw [← txt_tml]
  exact round_trip (upL_good fun i _ => (hg i).1) (by have := up_len g; omega)
/-- The values of x at which two polynomials, and their greatest common divisor, are 0. -/
theorem rooted_law (u : Nat) (P Q : List Nat) (x : Nat) : (pows (lnF u P) x 5 = 0 ∧ pows (lnF u Q) x 5 = 0) ↔ pows (gall [lnF u P, lnF u Q]) x 5 = 0 := by
  have hv : ∀ l ∈ [lnF u P, lnF u Q], Vec l := by
    intro l hl
    simp only [List.mem_cons, List.not_mem_nil, or_false] at hl
    rcases hl with rfl | rfl
    · exact lnF_vec u P
    · exact lnF_vec u Q
  rw [← gall_roots hv x]
  simp
theorem valP_pows (p : List Nat) (u x : Nat) : valP p u x = pows (lnF u p) x 5 := by rw [← val_same, ← lnF_lst, valL_lst]
theorem valP_up {g : Nat → Nat} (hg : Vec g) (u x : Nat) : valP (upL g) u x = pows g x 5 := by rw [valP_pows, lnF_up hg]
/-- A segment of Parted: the values of u with this degree (behind the last: with none). -/
theorem parted_in (of : Nat → Nat) (h : ∀ u, of u ≤ 5) (d u : Nat) (hd : d ≤ 5) : inSeg of d u = (decide ((of u : Int) - 1 = (d : Int)) || (decide (4 < (d : Int)) && decide ((of u : Int) - 1 < 0))) := by
  have h1 := h u
  unfold inSeg
  rw [Bool.eq_iff_iff, decide_eq_true_iff, Bool.or_eq_true, Bool.and_eq_true, decide_eq_true_iff, decide_eq_true_iff, decide_eq_true_iff]
  split <;> omega
theorem ofD_le (ps : List (List Nat)) (u : Nat) : ofD ps u ≤ 5 := dg_le _
end Go.Proofs.YthlmgpllapccfaaGreatDoor
/- THE STATEMENTS' own listed. -/
namespace Go.Proofs.YthlmgpllapccfaaGreatDoor
open Go.RowKit

set_option maxRecDepth 100000 in
set_option maxHeartbeats 1000000 in
theorem klisted_any (b : Nat → Bool) (w : World) :
    Calls Tryz.prog 23 #[.agg (bv b)] w fun e w' => e = .returned (.string (bs (lsd b 7))) ∧ Below w.heap.size w w' := by
  go_enter Tryz.func23, Tryz.ntmps23
  go_wp2
  refine wp_forget (fun W => Blk W w.heap.size (bv b) 45 ∧ Below w.heap.size w W) ⟨Blk.new w _ _, by go_grown⟩ ?_
  rintro W ⟨b1, hbel⟩
  have HH := hidV (And.intro b1 hbel)
  clear b1 hbel
  go_loopg [3, 4] 7 (fun gm v3 v4 wr => ∃ k : Nat, gm = 7 - k ∧ k ≤ 7 ∧ v4 = .int .i64 k ∧ v3 = .string (bs (lsd b k)) ∧ Hid (Blk wr w.heap.size (bv b) 45 ∧ Below w.heap.size w wr))
  case atStart => exact ⟨0, rfl, by omega, rfl, rfl, HH⟩
  case round =>
    obtain ⟨k, hgm, hk, rfl, rfl, HD⟩ := hrel
    clear HH W
    by_cases h7 : k < 7
    · have hc : wr.cell? ⟨w.heap.size, k, none⟩ = some (.bool (b k)) := by rw [HD.out.1.cell]; exact bv_get b h7
      have k0 : (0 : Int) ≤ (k : Int) := by omega
      have k1 : (k : Int) < 7 := by omega
      have HL := hidV (lsd_len b k)
      have HY := hidV (@lsd_yes b k)
      have HN := hidV (@lsd_no b k)
      generalize b k = bk at *
      cases bk with
      | false =>
        have HS := hidV (HN.out rfl)
        clear HN HY
        go_wp2
        go_roundg (7 - (k + 1))
        case measure => omega
        case rel => exact ⟨k + 1, rfl, by omega, by go_num, by rw [HS.out], HD⟩
      | true =>
        have HS := hidV (HY.out rfl)
        clear HN HY
        generalize hX : lsd b k = X at *
        have HX := hidV hX
        clear hX
        by_cases hE : X = []
        · have hE' : (bs X).toList.isEmpty = true := by rw [bs_empty, hE]; rfl
          rw [if_pos hE] at HS
          have HXE := hidV hE
          clear hE
          obtain ⟨Y, HYY⟩ : ∃ Y, Hid (X ++ [dgt k] = Y) := ⟨_, hidV rfl⟩
          have hadd := fun (w' : World) => add_to X [dgt k] Y (bs [dgt k]) rfl HYY.out (by have := HL.out; omega) (by simp) w'
          go_wp2_with (go_at_call 17; refine (kdigit_any k _ _ (by rfl) (by omega)).mono ?_; rintro e w1 ⟨rfl, hb1⟩; have HB1 := hidV hb1; clear hb1)
          go_roundg (7 - (k + 1))
          case measure => omega
          case rel => exact ⟨k + 1, rfl, by omega, by go_num, by rw [HS.out, ← HYY.out, HXE.out], HD.out.1.fr (Fr.of_below (bs := []) HB1.out) (by simp), bel2 HD.out.2 HB1.out⟩
        · have hE' : (bs X).toList.isEmpty = false := by rw [bs_empty]; cases X with | nil => exact absurd rfl hE | cons _ _ => rfl
          rw [if_neg hE] at HS
          clear hE
          obtain ⟨Y, HYY⟩ : ∃ Y, Hid (X ++ [32] = Y) := ⟨_, hidV rfl⟩
          have HLY : Hid (Y.length ≤ 2 * k + 1) := by unfold Hid; rw [← HYY.out, List.length_append]; have := HL.out; simp only [List.length_cons, List.length_nil]; omega
          have hadd := fun (w' : World) => add_to X [32] Y ⟨#[32]⟩ rfl HYY.out (by have := HL.out; omega) (by simp) w'
          obtain ⟨Z, HZ⟩ : ∃ Z, Hid (Y ++ [dgt k] = Z) := ⟨_, hidV rfl⟩
          have hadd2 := fun (w' : World) => add_to Y [dgt k] Z (bs [dgt k]) rfl HZ.out (by have := HLY.out; omega) (by simp) w'
          go_wp2_with (go_at_call 17; refine (kdigit_any k _ _ (by rfl) (by omega)).mono ?_; rintro e w1 ⟨rfl, hb1⟩; have HB1 := hidV hb1; clear hb1)
          go_roundg (7 - (k + 1))
          case measure => omega
          case rel => exact ⟨k + 1, rfl, by omega, by go_num, by rw [HS.out, HYY.out, HZ.out], HD.out.1.fr (Fr.of_below (bs := []) HB1.out) (by simp), bel2 HD.out.2 HB1.out⟩
    · have ek : k = 7 := by omega
      subst ek
      go_wp2
      go_ret
      exact ⟨rfl, HD.out.2⟩
end Go.Proofs.YthlmgpllapccfaaGreatDoor
/- ADDED: the statement's own function text. -/
namespace Go.Proofs.YthlmgpllapccfaaGreatDoor
open Go.RowKit
/-- The text behind k rounds. -/
def kP (xs : List Int) (k : Nat) : List UInt8 := if k = 0 then [] else kX (xs.take k)
theorem kP_len (xs : List Int) (k : Nat) : (kP xs k).length ≤ 27 := by
  unfold kP; split
  · simp
  · exact kX_len _
theorem kP_one {xs : List Int} {x : Int} (h : xs[0]? = some x) : kP xs 1 = ktx (kT 1 (Int.tdiv x 2) 4).n (kT 1 (Int.tdiv x 2) 4).u (kT 1 (Int.tdiv x 2) 4).x := by
  cases xs with
  | nil => simp at h
  | cons y ys =>
    simp at h; subst h
    simp [kP, kX, kF, kR, its]
theorem kP_more {xs : List Int} {k : Nat} {x : Int} (h : xs[k]? = some x) (h0 : 0 < k) (h2 : k ≤ 2) : kP xs (k + 1) = kP xs k ++ (kI x).sep ++ ktx (kI x).t.n (kI x).t.u (kI x).t.x := by
  obtain ⟨k, rfl⟩ : ∃ j, k = j + 1 := ⟨k - 1, by omega⟩
  cases xs with
  | nil => simp at h
  | cons y ys =>
    have h' : ys[k]? = some x := by simpa using h
    unfold kP
    rw [if_neg (by omega), if_neg (by omega)]
    simp only [List.take_succ_cons, kX, kF, kR]
    rw [List.take_take, List.take_take, show min 2 (k + 1) = k + 1 by omega, show min 2 k = k by omega, List.take_add_one, h', List.map_append, its_append]
    simp [its]
theorem kP_end {xs : List Int} {k : Nat} (h : k = min xs.length 3) (h0 : 0 < k) : kP xs k = kX xs := by
  unfold kP
  rw [if_neg (by omega)]
  cases xs with
  | nil => simp at h; omega
  | cons y ys =>
    obtain ⟨j, rfl⟩ : ∃ j, k = j + 1 := ⟨k - 1, by omega⟩
    simp only [List.length_cons] at h
    simp only [List.take_succ_cons, kX, kF, kR]
    rw [List.take_take]
    by_cases hl : ys.length < 2
    · rw [List.take_of_length_le (by omega), List.take_of_length_le (by omega)]
    · rw [show min 2 j = 2 by omega]
end Go.Proofs.YthlmgpllapccfaaGreatDoor
/- ADDED: the statement's own function text, walked. -/
namespace Go.Proofs.YthlmgpllapccfaaGreatDoor
open Go.RowKit
set_option maxRecDepth 100000 in
set_option maxHeartbeats 2000000 in
theorem ktext_nil (a : Option Addr) (cap : Nat) (w : World) : Calls Tryz.prog 21 #[.slice a 0 cap, .int .i64 4] w fun e w' => e = .returned (.string (bs (kX []))) ∧ Below w.heap.size w w' := by
  have e : kX [] = [48] := by decide +kernel
  rw [e]
  go_enter Tryz.func21, Tryz.ntmps21
  go_wp2
  go_loopg [5, 6] 1 (fun gm v4 v5 wr => gm = 1 ∧ v4 = .string ⟨#[]⟩ ∧ v5 = .int .i64 0 ∧ wr = w)
  case atStart => exact ⟨rfl, rfl, rfl, rfl⟩
  case round =>
    obtain ⟨_, rfl, rfl, rfl⟩ := hrel
    go_wp2
    go_ret
    exact ⟨rfl, Below.refl _ _⟩
theorem add_block (a : Addr) (j : Nat) : (a.add j).block = a.block := by unfold Addr.add; split <;> rfl
set_option maxRecDepth 100000 in
set_option maxHeartbeats 2000000 in
theorem ktext_some (xs : List Int) (ad : Addr) (cap : Nat) (w : World) (hne : 0 < xs.length) (hcells : ∀ j x, xs[j]? = some x → w.cell? (ad.add j) = some (.int .i64 x) ∧ -9223372036854775808 ≤ x ∧ x ≤ 9223372036854775807) (hb : ad.block < w.heap.size) (hl : xs.length ≤ 9223372036854775807) :
    Calls Tryz.prog 21 #[.slice (some ad) xs.length cap, .int .i64 4] w fun e w' => e = .returned (.string (bs (kX xs))) ∧ Below w.heap.size w w' := by
  have HC := hidT hcells
  clear hcells
  go_enter Tryz.func21, Tryz.ntmps21
  go_wp2
  go_loopg [5, 6] 3 (fun gm v4 v5 wr => ∃ k : Nat, gm = 3 - k ∧ k ≤ 3 ∧ k ≤ xs.length ∧ v5 = .int .i64 k ∧ v4 = .string (bs (kP xs k)) ∧ Hid (Below w.heap.size w wr))
  case atStart => exact ⟨0, rfl, by omega, by omega, rfl, rfl, Below.refl _ _⟩
  case round =>
    obtain ⟨k, hgm, hk3, hkl, rfl, rfl, HB⟩ := hrel
    by_cases hlt : k < xs.length ∧ k < 3
    · obtain ⟨x, hx⟩ : ∃ x, xs[k]? = some x := ⟨_, List.getElem?_eq_getElem hlt.1⟩
      obtain ⟨c1, c2, c3⟩ := HC.out k x hx
      have c4 : wr.cell? (ad.add k) = some (.int .i64 x) := by
        rw [← c1]
        exact World.cell?_of_block (by rw [add_block]; exact HB.out.block _ hb)
      have d1 := tdiv_bd x 2 (by omega) c2 c3
      have d1' : -9223372036854775808 ≤ Int.tdiv x 2 ∧ Int.tdiv x 2 ≤ 9223372036854775807 := d1
      have hk0 : (0 : Int) ≤ (k : Int) := by omega
      have hkx : (k : Int) < (xs.length : Int) := by omega
      have hk3' : (k : Int) < 3 := by omega
      have HL := hidT (kP_len xs k)
      clear d1 c1
      by_cases h0 : k = 0
      · subst h0
        have HP := hidT (kP_one hx)
        have hE : kP xs 0 = [] := rfl
        rw [hE]
        obtain ⟨Y, HY⟩ : ∃ Y, Hid (ktx (kT 1 (Int.tdiv x 2) 4).n (kT 1 (Int.tdiv x 2) 4).u (kT 1 (Int.tdiv x 2) 4).x = Y) := ⟨_, hidT rfl⟩
        have HK := fun (w' : World) => kterm_any 1 (Int.tdiv x 2) 4 4 w' rfl (by omega) d1'.1 d1'.2
        rw [HY.out] at HK HP
        have HHK := hidT HK
        clear HK
        have hadd := fun (w' : World) => add_to [] Y Y (bs Y) rfl (by simp) (by simp) (by rw [← HY.out]; have := ktx_le (kT 1 (Int.tdiv x 2) 4).n (kT 1 (Int.tdiv x 2) 4).u (kT 1 (Int.tdiv x 2) 4).x; omega) w'
        have c5 : wr.cell? ad = some (.int .i64 x) := by simpa [Addr.add] using c4
        simp only [Int.natCast_zero] at *
        go_wp2_with (go_at_call 32; refine (HHK.out _).mono ?_; rintro e w1 ⟨rfl, hb1⟩; have HB1 := hidT hb1)
        go_roundg (3 - 1)
        case measure => omega
        case rel => exact ⟨1, rfl, by omega, by omega, rfl, by rw [HP.out], bel2 HB.out HB1.out⟩
      · by_cases hp : pck x 2 = 0
        · have HP : Hid (kP xs (k + 1) = kP xs k ++ [32, 45, 32] ++ ktx (kT 6 (Int.tdiv x 2) 4).n (kT 6 (Int.tdiv x 2) 4).u (kT 6 (Int.tdiv x 2) 4).x) := by
            unfold Hid
            rw [kP_more hx (by omega) (by omega)]
            unfold kI
            rw [if_pos hp]
          obtain ⟨Y, HY⟩ : ∃ Y, Hid (ktx (kT 6 (Int.tdiv x 2) 4).n (kT 6 (Int.tdiv x 2) 4).u (kT 6 (Int.tdiv x 2) 4).x = Y) := ⟨_, hidT rfl⟩
          have HK := fun (w' : World) => kterm_any 6 (Int.tdiv x 2) 4 4 w' rfl (by omega) d1'.1 d1'.2
          have HYL : Hid (Y.length ≤ 7) := by unfold Hid; rw [← HY.out]; exact ktx_le _ _ _
          rw [HY.out] at HK HP
          have HHK := hidT HK
          clear HK
          generalize hX : kP xs k = X at *
          have HX := hidT hX
          clear hX
          obtain ⟨Y1, HY1⟩ : ∃ Y', Hid (X ++ [32, 45, 32] = Y') := ⟨_, hidT rfl⟩
          have HL1 : Hid (Y1.length ≤ 30) := by unfold Hid; rw [← HY1.out, List.length_append]; have := HL.out; simp; omega
          obtain ⟨Y2, HY2⟩ : ∃ Y', Hid (Y1 ++ Y = Y') := ⟨_, hidT rfl⟩
          have hadd1 := fun (w' : World) => add_to X [32, 45, 32] Y1 ⟨#[32, 45, 32]⟩ rfl HY1.out (by have := HL.out; omega) (by simp) w'
          have hadd2 := fun (w' : World) => add_to Y1 Y Y2 (bs Y) rfl HY2.out (by have := HL1.out; omega) (by have := HYL.out; omega) w'
          have hk1 : (0 : Int) < (k : Int) := by omega
          have hpq : (pck x 2 : Int) = 0 := by omega
          go_wp2_with (first | (go_at_call 12; refine (kpick_to x 2 _ _ _ (by rfl) (by rfl) (by omega) (by omega) c2 c3).mono ?_; rintro e w0 ⟨rfl, rfl⟩) | (go_at_call 32; refine (HHK.out _).mono ?_; rintro e w1 ⟨rfl, hb1⟩; have HB1 := hidT hb1))
          go_roundg (3 - (k + 1))
          case measure => omega
          case rel => exact ⟨k + 1, rfl, by omega, by omega, by go_num, by rw [HP.out, HY1.out, HY2.out], bel2 HB.out HB1.out⟩
        · have HP : Hid (kP xs (k + 1) = kP xs k ++ [43] ++ ktx (kT 1 (Int.tdiv x 2) 4).n (kT 1 (Int.tdiv x 2) 4).u (kT 1 (Int.tdiv x 2) 4).x) := by
            unfold Hid
            rw [kP_more hx (by omega) (by omega)]
            unfold kI
            rw [if_neg hp]
          obtain ⟨Y, HY⟩ : ∃ Y, Hid (ktx (kT 1 (Int.tdiv x 2) 4).n (kT 1 (Int.tdiv x 2) 4).u (kT 1 (Int.tdiv x 2) 4).x = Y) := ⟨_, hidT rfl⟩
          have HK := fun (w' : World) => kterm_any 1 (Int.tdiv x 2) 4 4 w' rfl (by omega) d1'.1 d1'.2
          have HYL : Hid (Y.length ≤ 7) := by unfold Hid; rw [← HY.out]; exact ktx_le _ _ _
          rw [HY.out] at HK HP
          have HHK := hidT HK
          clear HK
          generalize hX : kP xs k = X at *
          have HX := hidT hX
          clear hX
          obtain ⟨Y1, HY1⟩ : ∃ Y', Hid (X ++ [43] = Y') := ⟨_, hidT rfl⟩
          have HL1 : Hid (Y1.length ≤ 30) := by unfold Hid; rw [← HY1.out, List.length_append]; have := HL.out; simp; omega
          obtain ⟨Y2, HY2⟩ : ∃ Y', Hid (Y1 ++ Y = Y') := ⟨_, hidT rfl⟩
          have hadd1 := fun (w' : World) => add_to X [43] Y1 ⟨#[43]⟩ rfl HY1.out (by have := HL.out; omega) (by simp) w'
          have hadd2 := fun (w' : World) => add_to Y1 Y Y2 (bs Y) rfl HY2.out (by have := HL1.out; omega) (by have := HYL.out; omega) w'
          have hk1 : (0 : Int) < (k : Int) := by omega
          have hpq : ¬ ((pck x 2 : Int) = 0) := by omega
          go_wp2_with (first | (go_at_call 12; refine (kpick_to x 2 _ _ _ (by rfl) (by rfl) (by omega) (by omega) c2 c3).mono ?_; rintro e w0 ⟨rfl, rfl⟩) | (go_at_call 32; refine (HHK.out _).mono ?_; rintro e w1 ⟨rfl, hb1⟩; have HB1 := hidT hb1))
          go_roundg (3 - (k + 1))
          case measure => omega
          case rel => exact ⟨k + 1, rfl, by omega, by omega, by go_num, by rw [HP.out, HY1.out, HY2.out], bel2 HB.out HB1.out⟩
    · have hke := kP_end (xs := xs) (k := k) (by omega) (by omega)
      rw [hke]
      have hpos : kX xs ≠ [] := fun q => by
        have := ktx_pos (kF xs).n (kF xs).u (kF xs).x
        unfold kX at q
        rw [List.append_eq_nil_iff] at q
        rw [q.1] at this
        simp at this
      have hE : (bs (kX xs)).toList.isEmpty = false := by rw [bs_empty]; simp [hpos]
      by_cases h1 : k < xs.length
      · have e1 : (k : Int) < (xs.length : Int) := by omega
        have e2 : ¬ ((k : Int) < 3) := by omega
        clear hpos hke
        go_wp2
        go_ret
        exact ⟨rfl, HB.out⟩
      · have e1 : ¬ ((k : Int) < (xs.length : Int)) := by omega
        clear hpos hke
        go_wp2
        go_ret
        exact ⟨rfl, HB.out⟩
end Go.Proofs.YthlmgpllapccfaaGreatDoor
/- PARTED: THE WALK. -/
namespace Go.Proofs.YthlmgpllapccfaaGreatDoor
open Go.RowKit

theorem os_let (n : Nat) (T : List UInt8) : oSets (bs (letL n T)) = false := by
  unfold oSets
  rw [(let_word n T).2.2]
  decide
theorem os_gcd {n d : Nat} (hn : n < 26) (hd : d < 10) : oSets (bs (qG n d)) = false := by
  have h := List.all_eq_true.1 (List.all_eq_true.1 chG_all n (List.mem_range.2 hn)) d (List.mem_range.2 hd)
  simp only [chG, Bool.and_eq_true, beq_iff_eq] at h
  unfold oSets
  rw [h.1.1.1.1.2]
  decide
theorem os_roots {n d : Nat} (hn : n < 26) (hd : d < 10) : oSets (bs (qR n d)) = false := by
  have h := List.all_eq_true.1 (List.all_eq_true.1 chR_all n (List.mem_range.2 hn)) d (List.mem_range.2 hd)
  simp only [chR, Bool.and_eq_true, beq_iff_eq] at h
  unfold oSets
  rw [h.1.1.1.1.2]
  decide
theorem os_split {n : Nat} (hn : n < 26) : oSets (bs (qS n)) = false := by
  have h := List.all_eq_true.1 chS_all n (List.mem_range.2 hn)
  simp only [chS, Bool.and_eq_true, beq_iff_eq] at h
  unfold oSets
  rw [h.1.1.2]
  decide
/-- 35 numbers without u, out of their text. -/
theorem kplain_to (g : Nat → Nat) (hg : Vec g) (S : ByteArray) (w : World) (hS : S = bs (ktl (tml g))) :
    Calls Tryz.prog 18 #[.string S] w fun e w' => e = .returned (.tuple #[.agg #[.int .i64 (g 0 : Nat), .int .i64 (g 1 : Nat), .int .i64 (g 2 : Nat), .int .i64 (g 3 : Nat), .int .i64 (g 4 : Nat)], .bool true]) ∧ Below w.heap.size w w' := by
  have h := kplain_any S (tml g) w (tml_ne g) (by rw [hS]; exact At.start _) (tml_ok g fun n _ => (hg n).1) (by rw [hS, bs_size]; have := ktl_len (tml g); have := tml_len g; omega)
  rw [tml_put] at h
  exact h
theorem kdegree_to (g : Nat → Nat) (X : Array Value) (w : World) (hX : X = #[.int .i64 (g 0 : Nat), .int .i64 (g 1 : Nat), .int .i64 (g 2 : Nat), .int .i64 (g 3 : Nat), .int .i64 (g 4 : Nat)]) :
    Calls Tryz.prog 19 #[.agg X] w fun e w' => e = .returned (.int .i64 ((dg g : Int) - 1)) ∧ Below w.heap.size w w' := by
  subst hX
  exact kdegree_any g w
def zv7 (c : Nat → Int) : Array Value := #[.int .i64 (c 0), .int .i64 (c 1), .int .i64 (c 2), .int .i64 (c 3), .int .i64 (c 4), .int .i64 (c 5), .int .i64 (c 6)]
theorem zv7_get (c : Nat → Int) {x : Nat} (h : x < 7) : (zv7 c)[x]? = some (.int .i64 (c x)) := by
  match x, h with
  | 0, _ => rfl
  | 1, _ => rfl
  | 2, _ => rfl
  | 3, _ => rfl
  | 4, _ => rfl
  | 5, _ => rfl
  | 6, _ => rfl
theorem zv7_upd (c : Nat → Int) (n : Int) {x : Nat} (h : x < 7) : (zv7 c).setIfInBounds x (.int .i64 n) = zv7 (fun j => if j = x then n else c j) := by
  match x, h with
  | 0, _ => rfl
  | 1, _ => rfl
  | 2, _ => rfl
  | 3, _ => rfl
  | 4, _ => rfl
  | 5, _ => rfl
  | 6, _ => rfl

set_option maxRecDepth 100000 in
set_option maxHeartbeats 2000000 in
theorem lawParted_any (x y : Value) (xs ys : List Int) (W : World) (hg : ErrT W)
    (hX : ∀ w', Below W.heap.size W w' → Calls Tryz.prog 21 #[x, .int .i64 4] w' fun e w'' => e = .returned (.string (bs (kX xs))) ∧ Below w'.heap.size w' w'')
    (hY : ∀ w', Below W.heap.size W w' → Calls Tryz.prog 21 #[y, .int .i64 4] w' fun e w'' => e = .returned (.string (bs (kX ys))) ∧ Below w'.heap.size w' w'') :
    Calls Tryz.prog 6 #[x, y] W fun e w' => e = .returned (.bool true) ∧ Below W.heap.size W w' := by
  have HG := hidV hg
  have HX := hidT hX
  have HY := hidT hY
  clear hg hX hY
  have HLX := hidV (kX_len xs)
  have HLY := hidV (kX_len ys)
  have HLET := hidV (raw_let st1 (n := 15) (by omega) xs ys [44] (Or.inl rfl) (by unfold letL; simp only [List.length_append, List.length_cons, List.length_nil]; have := HLX.out; have := HLY.out; omega))
  have HOS := hidV (os_let 15 (kX xs ++ ([44] ++ kX ys)))
  obtain ⟨P, HP⟩ : ∃ P, Hid (sumP (kTs xs) = P) := ⟨_, rfl⟩
  obtain ⟨Q, HQ⟩ : ∃ Q, Hid (sumP (kTs ys) = Q) := ⟨_, rfl⟩
  rw [HP.out, HQ.out] at HLET
  obtain ⟨S2, HS2⟩ : ∃ S, Hid (upd st1 15 (.sys [P, Q]) = S) := ⟨_, rfl⟩
  rw [HS2.out] at HLET
  have HGC := hidV (fun (d : Nat) (hd : d < 7) => raw_gcd st1 (n := 15) (by omega) (show d < 10 by omega) P Q)
  have HSP := hidV (raw_split st1 (n := 15) (by omega) P Q)
  rw [HS2.out] at HGC HSP
  generalize kX xs = X at *
  generalize kX ys = Y at *
  obtain ⟨Z1, HZ1⟩ : ∃ Z, Hid ([108, 101, 116, 32, 80, 32, 61, 32] ++ X = Z) := ⟨_, hidV rfl⟩
  obtain ⟨Z2, HZ2⟩ : ∃ Z, Hid (Z1 ++ [44] = Z) := ⟨_, hidV rfl⟩
  obtain ⟨Z3, HZ3⟩ : ∃ Z, Hid (Z2 ++ Y = Z) := ⟨_, hidV rfl⟩
  have HZE : Hid (letL 15 (X ++ ([44] ++ Y)) = Z3) := by unfold Hid; rw [← HZ3.out, ← HZ2.out, ← HZ1.out]; unfold letL; simp only [List.append_assoc]; rfl
  have HZ1L : Hid (Z1.length ≤ 35) := by unfold Hid; rw [← HZ1.out]; simp only [List.length_append, List.length_cons, List.length_nil]; have := HLX.out; omega
  have HZ2L : Hid (Z2.length ≤ 36) := by unfold Hid; rw [← HZ2.out]; simp only [List.length_append, List.length_cons, List.length_nil]; have := HZ1L.out; omega
  have HZ3L : Hid (Z3.length ≤ 63) := by unfold Hid; rw [← HZ3.out]; simp only [List.length_append]; have := HZ2L.out; have := HLY.out; omega
  rw [HZE.out] at HLET HOS
  have ha1 := fun (w' : World) => add_to0 [108, 101, 116, 32, 80, 32, 61, 32] ⟨#[108, 101, 116, 32, 80, 32, 61, 32]⟩ X Z1 (bs X) rfl rfl HZ1.out (by simp) (by have := HLX.out; omega) w'
  have ha2 := fun (w' : World) => add_to Z1 [44] Z2 ⟨#[44]⟩ rfl HZ2.out (by have := HZ1L.out; omega) (by simp) w'
  have ha3 := fun (w' : World) => add_to Z2 Y Z3 (bs Y) rfl HZ3.out (by have := HZ2L.out; omega) (by have := HLY.out; omega) w'
  have hB : 0 < W.heap.size := HG.out.lt
  go_enter Tryz.func6, Tryz.ntmps6
  go_wp2_with fail
  refine (begun_any W HG.out).mono ?_
  rintro e w1 ⟨sb, bm, rfl, s1, f1⟩
  have HS1 := hidV s1
  have HF1 := hidV f1
  clear s1 f1
  go_wp2_with fail
  refine (HX.out w1 (HF1.out.below (Nat.le_refl _) (by simp))).mono ?_
  rintro e w2 ⟨rfl, b2⟩
  have HF2 : Hid (Fr [] W w2 ∧ Sess W.heap.size w2 [bm] sb bm st1) := ⟨HF1.out.trans (Fr.of_below (bs := []) b2) (by simp), HS1.out.fr (Fr.of_below b2)⟩
  clear b2 HF1 HS1
  go_wp2_with fail
  refine (HY.out w2 (HF2.out.1.below (Nat.le_refl _) (by simp))).mono ?_
  rintro e w3 ⟨rfl, b3⟩
  have HF3 : Hid (Fr [] W w3 ∧ Sess W.heap.size w3 [bm] sb bm st1) := ⟨HF2.out.1.trans (Fr.of_below (bs := []) b3) (by simp), HF2.out.2.fr (Fr.of_below b3)⟩
  clear b3 HF2
  go_wp2_with fail
  refine (HF3.out.2.says hB (bs Z3) _ S2 [] (by rw [bs_size]; have := HZ3L.out; omega) HOS.out HLET.out rfl).mono ?_
  rintro e w4 ⟨rfl, s4, f4⟩
  have HF4 : Hid (Fr [] W w4 ∧ Sess W.heap.size w4 [bm] sb bm S2) := ⟨HF3.out.1.trans f4 (by simp; exact HF3.out.2.lo), s4⟩
  clear s4 f4 HF3 ha1 ha2 ha3
  go_wp2
  refine wp_forget (fun V => Blk V w4.heap.size (zv7 fun _ => 0) 50 ∧ Fr [] W V ∧ Sess W.heap.size V [w4.heap.size, bm] sb bm S2) ⟨Blk.new w4 _ _, HF4.out.1.alloc _, HF4.out.2.alloc _⟩ ?_
  rintro V ⟨b1, b2, b3⟩
  have HV := hidV (And.intro b1 (And.intro b2 b3))
  have hob : W.heap.size ≤ w4.heap.size := HF4.out.1.size
  clear b1 b2 b3 HF4
  generalize w4.heap.size = ob at *
  obtain ⟨F, HF⟩ : ∃ F, Hid (ofD [P, Q] = F) := ⟨_, hidV rfl⟩
  have HF5 : Hid (∀ a, F a ≤ 5) := by unfold Hid; intro a; rw [← HF.out]; exact dg_le _
  go_loopg [8] 7 (fun gm v8 wr => ∃ x : Nat, ∃ c : Nat → Int, gm = 7 - x ∧ x ≤ 7 ∧ v8 = .int .i64 x ∧ Hid (∀ v, v < x → c v = (F v : Int) - 1) ∧ Hid (Blk wr ob (zv7 c) 50 ∧ Fr [] W wr ∧ Sess W.heap.size wr [ob, bm] sb bm S2))
  case atStart => exact ⟨0, _, rfl, by omega, rfl, fun v hv => by omega, HV⟩
  case round =>
    obtain ⟨x, c, hgm, hx, rfl, HC, HD⟩ := hrel
    clear HV V
    by_cases hx7 : x < 7
    · have x0 : (0 : Int) ≤ (x : Int) := by omega
      have x1 : (x : Int) < 7 := by omega
      have HGX := hidV (HGC.out x hx7)
      rw [show x % 7 = x by omega] at HGX
      have HGV : Hid (Vec (gall [lnF x P, lnF x Q])) := (gall_any _ (by intro l hl; simp only [List.mem_cons, List.not_mem_nil, or_false] at hl; rcases hl with e | e <;> (rw [e]; exact lnF_vec _ _))).1
      have HFX : Hid (dg (gall [lnF x P, lnF x Q]) = F x) := by unfold Hid; rw [← HF.out]; rfl
      obtain ⟨G, HGG⟩ : ∃ G, Hid (gall [lnF x P, lnF x Q] = G) := ⟨_, hidV rfl⟩
      rw [HGG.out] at HGX HGV HFX
      have HDG := hidV (kdegree_to G)
      rw [HFX.out] at HDG
      have HOG := hidV (os_gcd (n := 15) (by omega) (show x < 10 by omega))
      obtain ⟨L, HL⟩ : ∃ L, Hid (qG 15 x = L) := ⟨_, hidV rfl⟩
      have HLL : Hid ([103, 99, 100, 32, 80, 32] ++ [dgt x] = L) := HL.out
      have hl7 : L.length = 7 := by rw [← HL.out]; rfl
      rw [HL.out] at HGX HOG
      have ha1 := fun (w' : World) => add_to0 [103, 99, 100, 32, 80, 32] ⟨#[103, 99, 100, 32, 80, 32]⟩ [dgt x] L (bs [dgt x]) rfl rfl HLL.out (by simp) (by simp) w'
      have hf3 : wr.frozen? ⟨ob, x, none⟩ = false := HD.out.1.frozen _
      go_wp2_with fail
      refine (kdigit_any x _ _ (by rfl) (by omega)).mono ?_
      rintro e w5 ⟨rfl, b5⟩
      have HD5 : Hid (Blk w5 ob (zv7 c) 50 ∧ Fr [] W w5 ∧ Sess W.heap.size w5 [ob, bm] sb bm S2) := ⟨HD.out.1.fr (Fr.of_below (bs := []) b5) (by simp), HD.out.2.1.trans (Fr.of_below (bs := []) b5) (by simp), HD.out.2.2.fr (Fr.of_below b5)⟩
      clear b5 HD
      go_wp2_with fail
      refine (HD5.out.2.2.does hB (bs L) S2 _ (by rw [bs_size]; omega) HOG.out HGX.out).mono ?_
      rintro e w6 ⟨rfl, s6, f6⟩
      have HD6 : Hid (Blk w6 ob (zv7 c) 50 ∧ Fr [] W w6 ∧ Sess W.heap.size w6 [ob, bm] sb bm S2) := ⟨HD5.out.1.fr f6 (by simp; exact HD5.out.2.2.ne HD5.out.1), HD5.out.2.1.trans f6 (by simp; exact HD5.out.2.2.lo), s6⟩
      clear s6 f6 HD5
      go_wp2_with fail
      refine (kplain_to G HGV.out _ _ rfl).mono ?_
      rintro e w7 ⟨rfl, b7⟩
      have HD7 : Hid (Blk w7 ob (zv7 c) 50 ∧ Fr [] W w7 ∧ Sess W.heap.size w7 [ob, bm] sb bm S2) := ⟨HD6.out.1.fr (Fr.of_below (bs := []) b7) (by simp), HD6.out.2.1.trans (Fr.of_below (bs := []) b7) (by simp), HD6.out.2.2.fr (Fr.of_below b7)⟩
      clear b7 HD6
      go_wp2_with fail
      refine (HDG.out _ _ (by rfl)).mono ?_
      rintro e w8 ⟨rfl, b8⟩
      have HD8 : Hid (Blk w8 ob (zv7 c) 50 ∧ Fr [] W w8 ∧ Sess W.heap.size w8 [ob, bm] sb bm S2) := by
        have f8 : Fr [] w7 w8 := ((Fr.refl [] w7).alloc _).trans (Fr.of_below (bs := []) b8) (by simp)
        exact ⟨HD7.out.1.fr f8 (by simp), HD7.out.2.1.trans f8 (by simp), HD7.out.2.2.fr f8⟩
      clear b8 HD7
      have hc8 : w8.cell? ⟨ob, x, none⟩ = some (.int .i64 (c x)) := by rw [HD8.out.1.cell]; exact zv7_get c hx7
      have hf8 : w8.frozen? ⟨ob, x, none⟩ = false := HD8.out.1.frozen _
      go_wp2
      go_roundg (7 - (x + 1))
      case measure => omega
      case rel =>
        have f9 : Fr [ob] w8 (w8.setCell ⟨ob, x, none⟩ (.int .i64 ((F x : Int) - 1))) := Fr.setCell (Fr.refl _ _) _ _ (Or.inl (by simp))
        refine ⟨x + 1, fun j => if j = x then (F x : Int) - 1 else c j, rfl, by omega, by go_num, ?_, ?_, ?_, ?_⟩
        · intro v hv
          dsimp only
          by_cases e : v = x
          · rw [if_pos e, e]
          · rw [if_neg e]; exact HC.out v (by omega)
        · rw [← zv7_upd c _ hx7]; exact HD8.out.1.set _ _
        · exact HD8.out.2.1.trans f9 (by simp; exact hob)
        · exact HD8.out.2.2.frs hB f9 (by intro k hk; simp at hk; subst hk; exact ⟨by simp, HD8.out.2.2.ne HD8.out.1⟩)
    · have ex : x = 7 := by omega
      subst ex
      clear HGC HLET hgm hx hx7
      have HFU : Hid (∀ v, v < 7 → c v = (F v : Int) - 1) := HC.out
      clear HC
      go_wp2
      go_loopg [14, 15] 6 (fun gm v14 v15 wr => ∃ d : Nat, gm = 6 - d ∧ d ≤ 6 ∧ v15 = .int .i64 d ∧ v14 = .string (bs (spl F d)) ∧ Hid (Blk wr ob (zv7 c) 50 ∧ Fr [] W wr ∧ Sess W.heap.size wr [ob, bm] sb bm S2))
      case atStart => exact ⟨0, rfl, by omega, rfl, rfl, HD⟩
      case round =>
        obtain ⟨d, hgm2, hd, rfl, rfl, HX⟩ := hrel
        clear HD
        by_cases hd6 : d < 6
        · have hd5 : (d : Int) ≤ 5 := by omega
          have HSK := hidV (spl_skip F d)
          have HSD := hidV (spl_add F d)
          have HLX : Hid ((spl F d).length ≤ 126) := by unfold Hid; have := spl_len F d; omega
          have HLO : Hid ((lsd (inSeg F d) 7).length ≤ 14) := lsd_len _ 7
          have HIN : Hid (∀ v, v < 7 → inSeg F d v = (decide (c v = (d : Int)) || (decide (4 < (d : Int)) && decide (c v < 0)))) := fun v hv => by rw [HFU.out v hv]; exact parted_in F HF5.out d v (by omega)
          have HLC := hidV (fun (c : Nat → Bool) (h : ∀ v, v < 7 → c v = inSeg F d v) => lsd_congr 7 h)
          have HLS := hidV klisted_any
          generalize inSeg F d = I at *
          generalize hXX : spl F d = X at *
          clear hXX
          go_wp2_with fail
          refine (kdigit_any d _ _ (by rfl) (by omega)).mono ?_
          rintro e w5 ⟨rfl, b5⟩
          have HY : Hid (Blk w5 wr.heap.size (bv (fun _ => false)) 45 ∧ Blk w5 ob (zv7 c) 50 ∧ Fr [] W w5 ∧ Sess W.heap.size w5 [wr.heap.size, ob, bm] sb bm S2) := by
            have f5 : Fr [] wr w5 := ((Fr.refl [] wr).alloc _).trans (Fr.of_below (bs := []) b5) (by simp)
            exact ⟨(Blk.new wr _ _).fr (Fr.of_below (bs := []) b5) (by simp), HX.out.1.fr f5 (by simp), HX.out.2.1.trans f5 (by simp), (HX.out.2.2.alloc _).fr (Fr.of_below b5)⟩
          have hBw : ob < wr.heap.size := HX.out.1.lt
          clear b5 HX
          generalize wr.heap.size = B at *
          go_wp2
          go_loopg [18] 7 (fun gm v18 wr => ∃ x : Nat, ∃ c' : Nat → Bool, gm = 7 - x ∧ x ≤ 7 ∧ v18 = .int .i64 x ∧ Hid (∀ v, v < x → c' v = I v) ∧ Hid (Blk wr B (bv c') 45 ∧ Blk wr ob (zv7 c) 50 ∧ Fr [] W wr ∧ Sess W.heap.size wr [B, ob, bm] sb bm S2))
          case atStart => exact ⟨0, _, rfl, by omega, rfl, fun v hv => by omega, HY⟩
          case round =>
            obtain ⟨x, c', hgm3, hx3, rfl, HC2, HX2⟩ := hrel
            clear HY w5
            by_cases hx7 : x < 7
            · have x0 : (0 : Int) ≤ (x : Int) := by omega
              have x1 : (x : Int) < 7 := by omega
              have hc1 : wr.cell? ⟨ob, x, none⟩ = some (.int .i64 (c x)) := by rw [HX2.out.2.1.cell]; exact zv7_get c hx7
              have hc2 : wr.cell? ⟨B, x, none⟩ = some (.bool (c' x)) := by rw [HX2.out.1.cell]; exact bv_get c' hx7
              have hc3 : wr.frozen? ⟨B, x, none⟩ = false := HX2.out.1.frozen _
              have hin := HIN.out x hx7
              generalize hcx : c x = cx at *
              generalize c' x = dx at *
              have key : ∀ v : Bool, v = I x → Hid (∃ c'' : Nat → Bool, (∀ u, u < x + 1 → c'' u = I u) ∧ Blk (wr.setCell ⟨B, x, none⟩ (.bool v)) B (bv c'') 45 ∧ Blk (wr.setCell ⟨B, x, none⟩ (.bool v)) ob (zv7 c) 50 ∧ Fr [] W (wr.setCell ⟨B, x, none⟩ (.bool v)) ∧ Sess W.heap.size (wr.setCell ⟨B, x, none⟩ (.bool v)) [B, ob, bm] sb bm S2) := by
                intro v hv
                have f9 : Fr [B] wr (wr.setCell ⟨B, x, none⟩ (.bool v)) := Fr.setCell (Fr.refl _ _) _ _ (Or.inl (by simp))
                refine ⟨fun j => if j = x then v else c' j, fun u hu => ?_, ?_, ?_, ?_, ?_⟩
                · dsimp only
                  by_cases e : u = x
                  · rw [if_pos e, e, hv]
                  · rw [if_neg e]; exact HC2.out u (by omega)
                · rw [← bv_upd c' v hx7]; exact HX2.out.1.set _ _
                · exact HX2.out.2.1.setOther _ _ (by show ¬ ob = B; omega)
                · exact HX2.out.2.2.1.trans f9 (by simp; omega)
                · exact HX2.out.2.2.2.frs hB f9 (by intro k hk; simp at hk; subst hk; exact ⟨by simp, HX2.out.2.2.2.ne HX2.out.1⟩)
              by_cases hq : cx = (d : Int)
              · have hq' : (cx == (d : Int)) = true := by rw [beq_iff_eq]; exact hq
                have KEY := key true (by rw [hin]; simp [hq])
                clear key hin
                obtain ⟨c'', k1, k2⟩ := KEY
                have K1 := hidV k1
                have K2 := hidV k2
                clear k1 k2
                go_wp2
                go_roundg (7 - (x + 1))
                case measure => omega
                case rel => exact ⟨x + 1, c'', rfl, by omega, by go_num, K1, K2⟩
              · have hq' : (cx == (d : Int)) = false := by rw [beq_eq_false_iff_ne]; exact hq
                by_cases h4 : (4 : Int) < (d : Int)
                · by_cases hn : cx < 0
                  · have KEY := key true (by rw [hin]; simp [hq, h4, hn])
                    clear key hin
                    obtain ⟨c'', k1, k2⟩ := KEY
                    have K1 := hidV k1
                    have K2 := hidV k2
                    clear k1 k2
                    go_wp2
                    go_roundg (7 - (x + 1))
                    case measure => omega
                    case rel => exact ⟨x + 1, c'', rfl, by omega, by go_num, K1, K2⟩
                  · have KEY := key false (by rw [hin]; simp [hq, h4, hn])
                    clear key hin
                    obtain ⟨c'', k1, k2⟩ := KEY
                    have K1 := hidV k1
                    have K2 := hidV k2
                    clear k1 k2
                    go_wp2
                    go_roundg (7 - (x + 1))
                    case measure => omega
                    case rel => exact ⟨x + 1, c'', rfl, by omega, by go_num, K1, K2⟩
                · have KEY := key false (by rw [hin]; simp [hq, h4])
                  clear key hin
                  obtain ⟨c'', k1, k2⟩ := KEY
                  have K1 := hidV k1
                  have K2 := hidV k2
                  clear k1 k2
                  go_wp2
                  go_roundg (7 - (x + 1))
                  case measure => omega
                  case rel => exact ⟨x + 1, c'', rfl, by omega, by go_num, K1, K2⟩
            · have ex : x = 7 := by omega
              subst ex
              have HLI := hidV (HLS.out c')
              rw [HLC.out c' HC2.out] at HLI
              clear HLS HLC HIN hgm3 hx3 hx7
              generalize hOO : lsd I 7 = O at *
              clear hOO
              have fin : ∀ w2, Below wr.heap.size wr w2 → Hid (Blk w2 ob (zv7 c) 50 ∧ Fr [] W w2 ∧ Sess W.heap.size w2 [ob, bm] sb bm S2) := fun w2 b2 =>
                ⟨HX2.out.2.1.fr (Fr.of_below (bs := []) b2) (by simp), HX2.out.2.2.1.trans (Fr.of_below (bs := []) b2) (by simp), (HX2.out.2.2.2.fr (Fr.of_below b2)).less (by simp) (by simp)⟩
              have FIN := hidV fin
              clear fin
              by_cases hO : O = []
              · have hO' : (bs O).toList.isEmpty = true := by rw [bs_empty, hO]; rfl
                have HSS := hidV (HSK.out hO)
                clear HSK HSD hO
                by_cases h4 : (4 : Int) < (d : Int)
                all_goals
                  go_wp2_with (first | (refine wpList_load_row (by rfl) 45 _ (by rfl) B (by rfl) 45 (bv c') (0, 0) _ (by exact HX2.out.1) Tryz.underlying45 (by rfl) (size_bool7 c') ?_) | (go_at_call 23; refine (HLI.out _).mono ?_; rintro e w2 ⟨rfl, hb2⟩; have HB2 := hidV hb2; clear hb2))
                  go_roundg (6 - (d + 1))
                  case measure => omega
                  case rel => exact ⟨d + 1, rfl, by omega, by go_num, by rw [HSS.out], FIN.out w2 HB2.out⟩
              · have hO' : (bs O).toList.isEmpty = false := by rw [bs_empty]; cases O with | nil => exact absurd rfl hO | cons _ _ => rfl
                have HSA := hidV (HSD.out hO)
                clear HSK HSD hO
                obtain ⟨LB, HLB⟩ : ∃ LB, Hid (lab d = LB) := ⟨_, hidV rfl⟩
                rw [HLB.out] at HSA
                have HLBL : Hid (LB.length ≤ 3) := by unfold Hid; rw [← HLB.out]; unfold lab; split <;> simp
                obtain ⟨X1, HX1⟩ : ∃ X1, Hid ((if X = [] then [] else X ++ [59, 32]) = X1) := ⟨_, hidV rfl⟩
                rw [HX1.out] at HSA
                have HX1L : Hid (X1.length ≤ 128) := by unfold Hid; rw [← HX1.out]; split; simp; simp only [List.length_append, List.length_cons, List.length_nil]; have := HLX.out; omega
                obtain ⟨Y2, HY2⟩ : ∃ Y, Hid (X1 ++ LB = Y) := ⟨_, hidV rfl⟩
                have HL2 : Hid (Y2.length ≤ 131) := by unfold Hid; rw [← HY2.out, List.length_append]; have := HX1L.out; have := HLBL.out; omega
                obtain ⟨Y4, HY4⟩ : ∃ Y, Hid (Y2 ++ [58, 32] = Y) := ⟨_, hidV rfl⟩
                have HL4 : Hid (Y4.length ≤ 133) := by unfold Hid; rw [← HY4.out, List.length_append]; have := HL2.out; simp only [List.length_cons, List.length_nil]; omega
                obtain ⟨Y3, HY3⟩ : ∃ Y, Hid (Y4 ++ O = Y) := ⟨_, hidV rfl⟩
                have HEND : Hid (spl F (d + 1) = Y3) := by unfold Hid; rw [HSA.out, ← HY3.out, ← HY4.out, ← HY2.out]; simp only [List.append_assoc]
                have hadd4 := fun (w' : World) => add_to Y2 [58, 32] Y4 ⟨#[58, 32]⟩ rfl HY4.out (by have := HL2.out; omega) (by simp) w'
                have hadd3 := fun (w' : World) => add_to Y4 O Y3 (bs O) rfl HY3.out (by have := HL4.out; omega) (by have := HLO.out; omega) w'
                by_cases hXE : X = []
                · have hE' : (bs X).toList.isEmpty = true := by rw [bs_empty, hXE]; rfl
                  have HXE : Hid (X = X1) := by unfold Hid; rw [← HX1.out, if_pos hXE]; exact hXE
                  clear hXE
                  by_cases h4 : (4 : Int) < (d : Int)
                  · have HLB' : Hid (LB = [97, 108, 108]) := by unfold Hid; rw [← HLB.out]; unfold lab; rw [if_pos (by omega)]
                    have hadd2 := fun (w' : World) => add_to X LB Y2 ⟨#[97, 108, 108]⟩ (by rw [HLB'.out]; rfl) (by rw [HXE.out]; exact HY2.out) (by have := HLX.out; omega) (by have := HLBL.out; omega) w'
                    go_wp2_with (first | (refine wpList_load_row (by rfl) 45 _ (by rfl) B (by rfl) 45 (bv c') (0, 0) _ (by exact HX2.out.1) Tryz.underlying45 (by rfl) (size_bool7 c') ?_) | (go_at_call 23; refine (HLI.out _).mono ?_; rintro e w2 ⟨rfl, hb2⟩; have HB2 := hidV hb2; clear hb2))
                    go_roundg (6 - (d + 1))
                    case measure => omega
                    case rel => exact ⟨d + 1, rfl, by omega, by go_num, by rw [HEND.out], FIN.out w2 HB2.out⟩
                  · have HLB' : Hid (LB = [dgt d]) := by unfold Hid; rw [← HLB.out]; unfold lab; rw [if_neg (by omega)]
                    have hadd2 := fun (w' : World) => add_to X LB Y2 (bs [dgt d]) (by rw [HLB'.out]) (by rw [HXE.out]; exact HY2.out) (by have := HLX.out; omega) (by have := HLBL.out; omega) w'
                    go_wp2_with (first | (refine wpList_load_row (by rfl) 45 _ (by rfl) B (by rfl) 45 (bv c') (0, 0) _ (by exact HX2.out.1) Tryz.underlying45 (by rfl) (size_bool7 c') ?_) | (go_at_call 23; refine (HLI.out _).mono ?_; rintro e w2 ⟨rfl, hb2⟩; have HB2 := hidV hb2; clear hb2))
                    go_roundg (6 - (d + 1))
                    case measure => omega
                    case rel => exact ⟨d + 1, rfl, by omega, by go_num, by rw [HEND.out], FIN.out w2 HB2.out⟩
                · have hE' : (bs X).toList.isEmpty = false := by rw [bs_empty]; cases X with | nil => exact absurd rfl hXE | cons _ _ => rfl
                  have HXE : Hid (X ++ [59, 32] = X1) := by unfold Hid; rw [← HX1.out, if_neg hXE]
                  clear hXE
                  have hadd1 := fun (w' : World) => add_to X [59, 32] X1 ⟨#[59, 32]⟩ rfl HXE.out (by have := HLX.out; omega) (by simp) w'
                  by_cases h4 : (4 : Int) < (d : Int)
                  · have HLB' : Hid (LB = [97, 108, 108]) := by unfold Hid; rw [← HLB.out]; unfold lab; rw [if_pos (by omega)]
                    have hadd2 := fun (w' : World) => add_to X1 LB Y2 ⟨#[97, 108, 108]⟩ (by rw [HLB'.out]; rfl) HY2.out (by have := HX1L.out; omega) (by have := HLBL.out; omega) w'
                    go_wp2_with (first | (refine wpList_load_row (by rfl) 45 _ (by rfl) B (by rfl) 45 (bv c') (0, 0) _ (by exact HX2.out.1) Tryz.underlying45 (by rfl) (size_bool7 c') ?_) | (go_at_call 23; refine (HLI.out _).mono ?_; rintro e w2 ⟨rfl, hb2⟩; have HB2 := hidV hb2; clear hb2))
                    go_roundg (6 - (d + 1))
                    case measure => omega
                    case rel => exact ⟨d + 1, rfl, by omega, by go_num, by rw [HEND.out], FIN.out w2 HB2.out⟩
                  · have HLB' : Hid (LB = [dgt d]) := by unfold Hid; rw [← HLB.out]; unfold lab; rw [if_neg (by omega)]
                    have hadd2 := fun (w' : World) => add_to X1 LB Y2 (bs [dgt d]) (by rw [HLB'.out]) HY2.out (by have := HX1L.out; omega) (by have := HLBL.out; omega) w'
                    go_wp2_with (first | (refine wpList_load_row (by rfl) 45 _ (by rfl) B (by rfl) 45 (bv c') (0, 0) _ (by exact HX2.out.1) Tryz.underlying45 (by rfl) (size_bool7 c') ?_) | (go_at_call 23; refine (HLI.out _).mono ?_; rintro e w2 ⟨rfl, hb2⟩; have HB2 := hidV hb2; clear hb2))
                    go_roundg (6 - (d + 1))
                    case measure => omega
                    case rel => exact ⟨d + 1, rfl, by omega, by go_num, by rw [HEND.out], FIN.out w2 HB2.out⟩
        · have ed : d = 6 := by omega
          subst ed
          have HOS2 := hidV (os_split (n := 15) (by omega))
          rw [HF.out] at HSP
          go_wp2_with fail
          refine (HX.out.2.2.says hB (bs (qS 15)) _ S2 _ (by rw [bs_size]; decide) HOS2.out HSP.out rfl).mono ?_
          rintro e w4 ⟨rfl, s4, f4⟩
          have HE : Hid (Fr [] W w4) := HX.out.2.1.trans f4 (by simp; exact HX.out.2.2.lo)
          clear s4 f4
          go_wp2
          go_ret
          exact ⟨rfl, HE.out.below (Nat.le_refl _) (by simp)⟩
end Go.Proofs.YthlmgpllapccfaaGreatDoor
/- WHAT THE ROWS' CONDITION GIVES A WALK: errors.errorType's cell; a world that meets it. -/
namespace Go.Proofs.YthlmgpllapccfaaGreatDoor
open Go.ChangeShapes Go.WideShapes Go.RowKit

theorem Tryz.own : ownKnob Tryz.prog.godebug = none := by kernel_rfl
theorem Tryz.et : Tryz.prog.globalNamed "errors.errorType" = some 0 := by kernel_rfl
theorem Tryz.rt : (Tryz.prog.cutTypes.find? (·.1 == "internal/reflectlite.rtype")).map (·.2) = some 195 := by kernel_rfl
theorem Tryz.oneRow : ((List.range Tryz.prog.types.size).filter fun t => Tryz.prog.rowNamed t [101, 114, 114, 111, 114]) = [127] := by kernel_rfl
theorem Tryz.hand : typeHandle Tryz.prog 127 = .pointer (some ⟨5, 127, none⟩) := by kernel_rfl

theorem errT_of_handle {W : World} (h : handlesMet Tryz.prog [("errors.errorType", Rows.laid_errors_errorType)] W) : ErrT W := by
  obtain ⟨name, u, ty, e1, e2, e3, e4, e5⟩ := h _ (List.mem_singleton.2 rfl)
  have en : name = [101, 114, 114, 111, 114] := (Option.some.inj e1).symm
  subst en
  obtain rfl := Option.some.inj (Tryz.rt.symm.trans e2)
  have hm : ty ∈ (List.range Tryz.prog.types.size).filter fun t => Tryz.prog.rowNamed t [101, 114, 114, 111, 114] := List.mem_filter.2 ⟨List.mem_range.2 e3, e4⟩
  rw [Tryz.oneRow] at hm
  obtain rfl := List.mem_singleton.1 hm
  rw [Tryz.hand] at e5
  unfold ErrT
  simpa using World.var?_cell Tryz.et e5 0

/-- A world that meets the condition: the settled one, the variable's cell laid. -/
noncomputable def laidWorld (os : Os) : World :=
  let w0 := World.holding Tryz.prog os ⟨#[], #[], []⟩
  { w0 with heap := w0.heap.modify 0 fun
      | .cells _ t frozen => .cells #[.iface 195 (.agg #[.pointer (some ⟨5, 127, none⟩)])] t frozen
      | o => o }
end Go.Proofs.YthlmgpllapccfaaGreatDoor
/- WHAT THE GREAT SEAT's ROWS SHARE: the condition on errors.errorType, slices of numbers. -/
namespace Go.Proofs.YthlmgpllapccfaaGreatDoor
open Go.ChangeShapes Go.WideShapes Go.ChangeAt Go.RowKit
open Go.ChangeMaps (open_string shut_string)

theorem err_laid {W : World} (h : laidMetH Tryz.prog [("errors.errorType", Rows.laid_errors_errorType)] W) : ErrT W := by
  have h' : laidMet Tryz.prog [] W ∧ handlesMet Tryz.prog [("errors.errorType", Rows.laid_errors_errorType)] W := h
  exact errT_of_handle h'.2
theorem err_world (os : Os) (args : Array Value) : laidMetH Tryz.prog [("errors.errorType", Rows.laid_errors_errorType)] ((laidWorld os).forCall (fun _ _ => 0) ⟨#[], args, []⟩).memory :=
  laidMetH_of_parts (laidMet_nil _ _) (by kernel_rfl)

theorem wf_bd64 {n : Int} (h : (Lit.int .i64 n).wf = true) : -9223372036854775808 ≤ n ∧ n ≤ 9223372036854775807 := by
  simp only [Lit.wf, Bool.and_eq_true, decide_eq_true_eq] at h
  exact ⟨h.1, h.2⟩

theorem text_of {H : Type} {enc : TypeId × Value → H} {W : World} {a : Option Addr} {len cap : Nat} {d : DataW H} {ps : List MemPlace} (h : DataW.Trod enc Tryz.prog W 0 (fun _ => true) true 43 (.slice a len cap) d ps) (hlt : ∀ y ∈ ps, y.block < W.heap.size) :
    ∃ xs : List Int, ∀ w', Below W.heap.size W w' → Calls Tryz.prog 21 #[.slice a len cap, .int .i64 4] w' fun e w'' => e = .returned (.string (bs (kX xs))) ∧ Below w'.heap.size w' w'' := by
  obtain ⟨fuel, hf⟩ := h
  rcases open_ints Tryz.underlying43 Tryz.underlying3 (by kernel_rfl) hf with ⟨hcs, _⟩ | ⟨ad, len', cap', zs, hcs, _, hl, hm, hz, hx, hcell, hwz⟩
  · simp [Value.cells] at hcs
    obtain ⟨rfl, rfl, rfl⟩ := hcs
    exact ⟨[], fun w' _ => ktext_nil _ _ w'⟩
  · simp [Value.cells] at hcs
    obtain ⟨rfl, rfl, rfl⟩ := hcs
    simp only [if_true] at hz
    by_cases h0 : len = 0
    · subst h0
      exact ⟨[], fun w' _ => ktext_nil _ _ w'⟩
    · have hlen : (zs.take len).length = len := by rw [List.length_take]; omega
      have hblk : ad.block < W.heap.size := by
        simp only [Prod.mk.injEq] at hx
        refine hlt (.cell ad.block ad.off) ?_
        rw [hx.2]
        simp [MemPlace.row]
        omega
      refine ⟨zs.take len, fun w' hb => ?_⟩
      have k := ktext_some (zs.take len) ad cap w' (by omega) (fun j x hj => ?_) (Nat.lt_of_lt_of_le hblk hb.size) (by unfold maxLen at hm; omega)
      · rw [hlen] at k; exact k
      · rw [List.getElem?_take] at hj
        split at hj
        · have hj' : j < zs.length := by omega
          have e : zs.getD j 0 = x := by rw [List.getD_eq_getElem?_getD, hj]; rfl
          have hc := hcell j hj'
          rw [e] at hc
          refine ⟨?_, wf_bd64 (hwz x (List.mem_of_getElem? hj))⟩
          rw [← hc]
          exact World.cell?_of_block (by rw [add_block]; exact hb.block _ hblk)
        · cases hj
end Go.Proofs.YthlmgpllapccfaaGreatDoor
/- PARTED: THE ROW, AND THE TIED CARD. -/
namespace Go.Proofs.YthlmgpllapccfaaGreatDoor
open Go.ChangeShapes Go.WideShapes Go.ChangeAt Go.RowKit
open Go.ChangeMaps (open_string shut_string)

set_option maxRecDepth 100000 in
theorem parted_lifted (os : Os) (started : os.Started) (H : Type) (enc : TypeId × Value → H) :
    ReturnsInHanded {} Tryz.checked os 6 .any (fun w args => (Rows.partedSpec.pre enc Tryz.prog Tryz.f6 [] false w args ∧ laidMetH Tryz.prog [("errors.errorType", Rows.laid_errors_errorType)] w) ∧ sizedMet enc Tryz.prog Tryz.f6 (OpenSpec.ofChange Rows.partedSpec) false w args)
      (Rows.partedSpec.post enc Tryz.prog Tryz.f6 false true false false) := by
  refine returnsInHanded_of_change_and (C := Tryz.checked) (X := fun w _ => laidMetH Tryz.prog [("errors.errorType", Rows.laid_errors_errorType)] w) (fun _ _ _ hh h => h.of_heap hh) Tryz.own started (by kernel_rfl) Tryz.func6
    (ChangeSpec.witness_at (enc := enc) (C := Tryz.checked) (os := os) (X := fun w _ => laidMetH Tryz.prog [("errors.errorType", Rows.laid_errors_errorType)] w) false (laidWorld os) #[.slice none 0 0, .slice none 0 0] 8 rfl (by kernel_rfl) (by kernel_rfl) (by kernel_rfl) (by kernel_rfl) (by kernel_rfl) (err_world os _)) ?_
  intro W base args ds gs before hval0 hW _ hsz0 hL _
  have hval : ∀ (j : Nat) t v, Tryz.f6.params[j]? = some t → args[j]? = some v → Value.okWide Tryz.prog W .any base t v := hval0
  have hsz : (DataW.weightsEach Tryz.prog (Tryz.f6.params.toList ++ Rows.partedSpec.plain.varTypes Tryz.prog) (ds ++ gs)).all (· ≤ reachBytes) = true := hsz0
  have hW' := hW
  obtain ⟨p, q, hA0, hV0, rfl, hfz, hnd⟩ := hW
  have hA : DataW.TrodAll enc Tryz.prog W 0 (fun _ => true) true Tryz.f6.params.toList args.toList ds p := hA0
  have hV : DataW.TrodVars enc Tryz.prog W (fun _ => true) [] gs q := hV0
  rw [Tryz.params6] at hA hval hsz
  obtain ⟨v0, v1, d0, d1, p0, p1, rfl, rfl, rfl, h0, h1⟩ := trodAll_two hA
  obtain ⟨a0, len0, cap0, rfl⟩ := okWide_slice Tryz.underlying43 (hval 0 43 v0 rfl rfl)
  obtain ⟨a1, len1, cap1, rfl⟩ := okWide_slice Tryz.underlying43 (hval 1 43 v1 rfl rfl)
  have hg := err_laid hL
  obtain ⟨rfl, rfl⟩ : gs = [] ∧ q = [] := by
    cases gs with
    | nil => exact ⟨rfl, hV⟩
    | cons g r => exact absurd hV (by intro h; cases h)
  have hlt : ∀ y ∈ p0 ++ p1 ++ [], y.block < W.heap.size := fun y hy => hW'.lt y (by simpa using hy)
  have args0 : ∀ (W' : World), Below W.heap.size W W' → DataW.Trod enc Tryz.prog W' 0 (fun b => decide (b < W.heap.size)) true 43 (.slice a0 len0 cap0) d0 p0 :=
    fun W' hn => Below.trod (by kernel_rfl) (by kernel_rfl) (of_decide_eq_true (by kernel_rfl)) h0 hn (fun y hy => hlt y (by simp [hy]))
  have args1 : ∀ (W' : World), Below W.heap.size W W' → DataW.Trod enc Tryz.prog W' 0 (fun b => decide (b < W.heap.size)) true 43 (.slice a1 len1 cap1) d1 p1 :=
    fun W' hn => Below.trod (by kernel_rfl) (by kernel_rfl) (of_decide_eq_true (by kernel_rfl)) h1 hn (fun y hy => hlt y (by simp [hy]))
  obtain ⟨xs, HX⟩ := text_of h0 (fun y hy => hlt y (by simp [hy]))
  obtain ⟨ys, HY⟩ := text_of h1 (fun y hy => hlt y (by simp [hy]))
  clear hA0 hval0 hsz0
  refine (lawParted_any _ _ xs ys W hg HX HY).mono fun e W' ⟨he, hw⟩ => ?_
  subst he
  refine ⟨_, rfl, _, _, _, [], p0 ++ p1, [], hW', ?_, ?_, ?_, hw.frame _, fun h => by cases h⟩
  · exact trodAll_mk1 (shut_bool Tryz.underlying4 true)
  · exact trodAll_mk2 (args0 _ hw) (args1 _ hw)
  · rfl

theorem parted_holds : Rows.PartedSaid :=
  OpenClaim.holds_of_wide 6 Tryz.f6 rfl rfl rfl rfl rfl rfl rfl ⟨rfl, rfl, rfl, rfl, rfl⟩ rfl rfl rfl rfl rfl (by kernel_rfl) Tryz.func6 (by kernel_rfl)
    (of_decide_eq_true (by kernel_rfl)) (by unfold Func.isWrapper; rw [if_neg (of_decide_eq_false (by kernel_rfl))]; exact ⟨rfl, rfl⟩)
    (fun os started H enc _ => parted_lifted os started H enc)

theorem parted_card : Rows.PartedCardSaid :=
  Claim7.holds_tied_plain_at .later [] [.handle] true (true, "96a46c333c484247801d0ce534cef77f3d94ac4f4b7b00cca2ade548cce1501e") true
    parted_holds (fun _ h => by cases h) (by kernel_rfl) (fun _ h => by cases h) parted_row_tie rfl ⟨rfl, rfl⟩ (by kernel_rfl) rfl
    (fun f fn hf hfn => by
      obtain rfl : f = 6 := Option.some.inj ((show Tryz.prog.funcNamed "segments/segmentskeep.Parted" = some 6 by kernel_rfl).symm.trans hf) |>.symm
      obtain rfl : fn = Tryz.f6 := (Option.some.inj (Tryz.func6.symm.trans hfn)).symm
      exact ⟨by kernel_rfl, fun j t ht => by
        rw [Tryz.params6] at ht
        rcases j with _ | _ | j
        · obtain rfl : t = 43 := by simpa using ht.symm
          exact (show Tryz.prog.wantsStandIn 43 = false by kernel_rfl)
        · obtain rfl : t = 43 := by simpa using ht.symm
          exact (show Tryz.prog.wantsStandIn 43 = false by kernel_rfl)
        · simp at ht⟩)
    (by kernel_rfl)
end Go.Proofs.YthlmgpllapccfaaGreatDoor
