import Derived.Test.YthlmgpllapccfaaGreatDoorPack12
import Derived.Test.YthlmgpllapccfaaGreatDoorRows
import Derived.ChangeSame
import Derived.ChangeVars
import Derived.JoinedOf
import Derived.RowKit
import Derived.RowKitTokens
import Derived.LaidLaws
import Derived.LaidHandle
import Derived.SizedLaws
import Derived.Stop.Joined
import Derived.SevenTiedAt
import Derived.ProofKit
import Derived.ChangeMaps5
import Derived.ChangeSlices
import Derived.Test.YthlmgpllapccfaaGreatDoorTie
import Derived.Test.YthlmgpllapccfaaGreatDoorCards
/- PLAIN: ROOTED and PARTED: what their answers come to. -/
namespace Go.Proofs.YthlmgpllapccfaaGreatDoor
open Go.RowKit

theorem ktl_len : ∀ l : List (Nat × Nat), (ktl l).length ≤ 6 * l.length
  | [] => by simp [ktl]
  | (c, x) :: t => by
    rw [ktl, List.length_append, List.length_cons]
    have h1 := tmx_len c 0 x
    have h2 := ktl_len t
    split
    · simp only [List.length_nil]; omega
    · rw [List.length_cons]; omega
theorem trm_len (g : Nat → Nat) : ∀ x, (trm g x).length ≤ x
  | 0 => by simp [trm]
  | x + 1 => by
    rw [trm]
    have h := trm_len g x
    split
    · omega
    · rw [List.length_cons]; omega
theorem tml_len (g : Nat → Nat) : (tml g).length ≤ 5 := by
  unfold tml
  split
  · simp
  · exact trm_len g 5
theorem up_len (g : Nat → Nat) : (txt (upL g)).length ≤ 30 := by
  rw [txt_tml]
  have := ktl_len (tml g)
  have := tml_len g
  omega
/-- The text of a greatest common divisor is read as that. -/
theorem up_read {g : Nat → Nat} (hg : Vec g) : rd (bs (ktl (tml g))) = ⟨0, 0, upL g⟩ := by
  rw [← txt_tml]
  exact round_trip (upL_good fun i _ => (hg i).1) (by have := up_len g; omega)
/-- The values of x at which two polynomials, and their greatest common divisor, are 0. -/
theorem rooted_law (u : Nat) (P Q : List Nat) (x : Nat) : (pows (lnF u P) x 5 = 0 ∧ pows (lnF u Q) x 5 = 0) ↔ pows (gall [lnF u P, lnF u Q]) x 5 = 0 := by
  have hv : ∀ l ∈ [lnF u P, lnF u Q], Vec l := by
    intro l hl
    simp only [List.mem_cons, List.not_mem_nil, or_false] at hl
    rcases hl with rfl | rfl
    · exact lnF_vec u P
    · exact lnF_vec u Q
  rw [← gall_roots hv x]
  simp
theorem valP_pows (p : List Nat) (u x : Nat) : valP p u x = pows (lnF u p) x 5 := by rw [← val_same, ← lnF_lst, valL_lst]
theorem valP_up {g : Nat → Nat} (hg : Vec g) (u x : Nat) : valP (upL g) u x = pows g x 5 := by rw [valP_pows, lnF_up hg]
/-- A segment of Parted: the values of u with this degree (behind the last: with none). -/
theorem parted_in (of : Nat → Nat) (h : ∀ u, of u ≤ 5) (d u : Nat) (hd : d ≤ 5) : inSeg of d u = (decide ((of u : Int) - 1 = (d : Int)) || (decide (4 < (d : Int)) && decide ((of u : Int) - 1 < 0))) := by
  have h1 := h u
  unfold inSeg
  rw [Bool.eq_iff_iff, decide_eq_true_iff, Bool.or_eq_true, Bool.and_eq_true, decide_eq_true_iff, decide_eq_true_iff, decide_eq_true_iff]
  split <;> omega
theorem ofD_le (ps : List (List Nat)) (u : Nat) : ofD ps u ≤ 5 := dg_le _
end Go.Proofs.YthlmgpllapccfaaGreatDoor
/- THE STATEMENTS' own listed. -/
namespace Go.Proofs.YthlmgpllapccfaaGreatDoor
open Go.RowKit

set_option maxRecDepth 100000 in
set_option maxHeartbeats 1000000 in
theorem klisted_any (b : Nat → Bool) (w : World) :
    Calls Tryz.prog 23 #[.agg (bv b)] w fun e w' => e = .returned (.string (bs (lsd b 7))) ∧ Below w.heap.size w w' := by
  go_enter Tryz.func23, Tryz.ntmps23
  go_wp2
  refine wp_forget (fun W => Blk W w.heap.size (bv b) 45 ∧ Below w.heap.size w W) ⟨Blk.new w _ _, by go_grown⟩ ?_
  rintro W ⟨b1, hbel⟩
  have HH := hidV (And.intro b1 hbel)
  clear b1 hbel
  go_loopg [3, 4] 7 (fun gm v3 v4 wr => ∃ k : Nat, gm = 7 - k ∧ k ≤ 7 ∧ v4 = .int .i64 k ∧ v3 = .string (bs (lsd b k)) ∧ Hid (Blk wr w.heap.size (bv b) 45 ∧ Below w.heap.size w wr))
  case atStart => exact ⟨0, rfl, by omega, rfl, rfl, HH⟩
  case round =>
    obtain ⟨k, hgm, hk, rfl, rfl, HD⟩ := hrel
    clear HH W
    by_cases h7 : k < 7
    · have hc : wr.cell? ⟨w.heap.size, k, none⟩ = some (.bool (b k)) := by rw [HD.out.1.cell]; exact bv_get b h7
      have k0 : (0 : Int) ≤ (k : Int) := by omega
      have k1 : (k : Int) < 7 := by omega
      have HL := hidV (lsd_len b k)
      have HY := hidV (@lsd_yes b k)
      have HN := hidV (@lsd_no b k)
      generalize b k = bk at *
      cases bk with
      | false =>
        have HS := hidV (HN.out rfl)
        clear HN HY
        go_wp2
        go_roundg (7 - (k + 1))
        case measure => omega
        case rel => exact ⟨k + 1, rfl, by omega, by go_num, by rw [HS.out], HD⟩
      | true =>
        have HS := hidV (HY.out rfl)
        clear HN HY
        generalize hX : lsd b k = X at *
        have HX := hidV hX
        clear hX
        by_cases hE : X = []
        · have hE' : (bs X).toList.isEmpty = true := by rw [bs_empty, hE]; rfl
          rw [if_pos hE] at HS
          have HXE := hidV hE
          clear hE
          obtain ⟨Y, HYY⟩ : ∃ Y, Hid (X ++ [dgt k] = Y) := ⟨_, hidV rfl⟩
          have hadd := fun (w' : World) => add_to X [dgt k] Y (bs [dgt k]) rfl HYY.out (by have := HL.out; omega) (by simp) w'
          go_wp2_with (go_at_call 17; refine (kdigit_any k _ _ (by rfl) (by omega)).mono ?_; rintro e w1 ⟨rfl, hb1⟩; have HB1 := hidV hb1; clear hb1)
          go_roundg (7 - (k + 1))
          case measure => omega
          case rel => exact ⟨k + 1, rfl, by omega, by go_num, by rw [HS.out, ← HYY.out, HXE.out], HD.out.1.fr (Fr.of_below (bs := []) HB1.out) (by simp), bel2 HD.out.2 HB1.out⟩
        · have hE' : (bs X).toList.isEmpty = false := by rw [bs_empty]; cases X with | nil => exact absurd rfl hE | cons _ _ => rfl
          rw [if_neg hE] at HS
          clear hE
          obtain ⟨Y, HYY⟩ : ∃ Y, Hid (X ++ [32] = Y) := ⟨_, hidV rfl⟩
          have HLY : Hid (Y.length ≤ 2 * k + 1) := by unfold Hid; rw [← HYY.out, List.length_append]; have := HL.out; simp only [List.length_cons, List.length_nil]; omega
          have hadd := fun (w' : World) => add_to X [32] Y ⟨#[32]⟩ rfl HYY.out (by have := HL.out; omega) (by simp) w'
          obtain ⟨Z, HZ⟩ : ∃ Z, Hid (Y ++ [dgt k] = Z) := ⟨_, hidV rfl⟩
          have hadd2 := fun (w' : World) => add_to Y [dgt k] Z (bs [dgt k]) rfl HZ.out (by have := HLY.out; omega) (by simp) w'
          go_wp2_with (go_at_call 17; refine (kdigit_any k _ _ (by rfl) (by omega)).mono ?_; rintro e w1 ⟨rfl, hb1⟩; have HB1 := hidV hb1; clear hb1)
          go_roundg (7 - (k + 1))
          case measure => omega
          case rel => exact ⟨k + 1, rfl, by omega, by go_num, by rw [HS.out, HYY.out, HZ.out], HD.out.1.fr (Fr.of_below (bs := []) HB1.out) (by simp), bel2 HD.out.2 HB1.out⟩
    · have ek : k = 7 := by omega
      subst ek
      go_wp2
      go_ret
      exact ⟨rfl, HD.out.2⟩
end Go.Proofs.YthlmgpllapccfaaGreatDoor
/- ADDED: the statement's own function text. -/
namespace Go.Proofs.YthlmgpllapccfaaGreatDoor
open Go.RowKit
/-- The text behind k rounds. -/
def kP (xs : List Int) (k : Nat) : List UInt8 := if k = 0 then [] else kX (xs.take k)
theorem kP_len (xs : List Int) (k : Nat) : (kP xs k).length ≤ 27 := by
  unfold kP; split
  · simp
  · exact kX_len _
theorem kP_one {xs : List Int} {x : Int} (h : xs[0]? = some x) : kP xs 1 = ktx (kT 1 (Int.tdiv x 2) 4).n (kT 1 (Int.tdiv x 2) 4).u (kT 1 (Int.tdiv x 2) 4).x := by
  cases xs with
  | nil => simp at h
  | cons y ys =>
    simp at h; subst h
    simp [kP, kX, kF, kR, its]
theorem kP_more {xs : List Int} {k : Nat} {x : Int} (h : xs[k]? = some x) (h0 : 0 < k) (h2 : k ≤ 2) : kP xs (k + 1) = kP xs k ++ (kI x).sep ++ ktx (kI x).t.n (kI x).t.u (kI x).t.x := by
  obtain ⟨k, rfl⟩ : ∃ j, k = j + 1 := ⟨k - 1, by omega⟩
  cases xs with
  | nil => simp at h
  | cons y ys =>
    have h' : ys[k]? = some x := by simpa using h
    unfold kP
    rw [if_neg (by omega), if_neg (by omega)]
    simp only [List.take_succ_cons, kX, kF, kR]
    rw [List.take_take, List.take_take, show min 2 (k + 1) = k + 1 by omega, show min 2 k = k by omega, List.take_add_one, h', List.map_append, its_append]
    simp [its]
theorem kP_end {xs : List Int} {k : Nat} (h : k = min xs.length 3) (h0 : 0 < k) : kP xs k = kX xs := by
  unfold kP
  rw [if_neg (by omega)]
  cases xs with
  | nil => simp at h; omega
  | cons y ys =>
    obtain ⟨j, rfl⟩ : ∃ j, k = j + 1 := ⟨k - 1, by omega⟩
    simp only [List.length_cons] at h
    simp only [List.take_succ_cons, kX, kF, kR]
    rw [List.take_take]
    by_cases hl : ys.length < 2
    · rw [List.take_of_length_le (by omega), List.take_of_length_le (by omega)]
    · rw [show min 2 j = 2 by omega]
end Go.Proofs.YthlmgpllapccfaaGreatDoor
/- ADDED: the statement's own function text, walked. -/
namespace Go.Proofs.YthlmgpllapccfaaGreatDoor
open Go.RowKit
set_option maxRecDepth 100000 in
set_option maxHeartbeats 2000000 in
theorem ktext_nil (a : Option Addr) (cap : Nat) (w : World) : Calls Tryz.prog 21 #[.slice a 0 cap, .int .i64 4] w fun e w' => e = .returned (.string (bs (kX []))) ∧ Below w.heap.size w w' := by
  have e : kX [] = [48] := by decide +kernel
  rw [e]
  go_enter Tryz.func21, Tryz.ntmps21
  go_wp2
  go_loopg [5, 6] 1 (fun gm v4 v5 wr => gm = 1 ∧ v4 = .string ⟨#[]⟩ ∧ v5 = .int .i64 0 ∧ wr = w)
  case atStart => exact ⟨rfl, rfl, rfl, rfl⟩
  case round =>
    obtain ⟨_, rfl, rfl, rfl⟩ := hrel
    go_wp2
    go_ret
    exact ⟨rfl, Below.refl _ _⟩
theorem add_block (a : Addr) (j : Nat) : (a.add j).block = a.block := by unfold Addr.add; split <;> rfl
set_option maxRecDepth 100000 in
set_option maxHeartbeats 2000000 in
theorem ktext_some (xs : List Int) (ad : Addr) (cap : Nat) (w : World) (hne : 0 < xs.length) (hcells : ∀ j x, xs[j]? = some x → w.cell? (ad.add j) = some (.int .i64 x) ∧ -9223372036854775808 ≤ x ∧ x ≤ 9223372036854775807) (hb : ad.block < w.heap.size) (hl : xs.length ≤ 9223372036854775807) :
    Calls Tryz.prog 21 #[.slice (some ad) xs.length cap, .int .i64 4] w fun e w' => e = .returned (.string (bs (kX xs))) ∧ Below w.heap.size w w' := by
  have HC := hidT hcells
  clear hcells
  go_enter Tryz.func21, Tryz.ntmps21
  go_wp2
  go_loopg [5, 6] 3 (fun gm v4 v5 wr => ∃ k : Nat, gm = 3 - k ∧ k ≤ 3 ∧ k ≤ xs.length ∧ v5 = .int .i64 k ∧ v4 = .string (bs (kP xs k)) ∧ Hid (Below w.heap.size w wr))
  case atStart => exact ⟨0, rfl, by omega, by omega, rfl, rfl, Below.refl _ _⟩
  case round =>
    obtain ⟨k, hgm, hk3, hkl, rfl, rfl, HB⟩ := hrel
    by_cases hlt : k < xs.length ∧ k < 3
    · obtain ⟨x, hx⟩ : ∃ x, xs[k]? = some x := ⟨_, List.getElem?_eq_getElem hlt.1⟩
      obtain ⟨c1, c2, c3⟩ := HC.out k x hx
      have c4 : wr.cell? (ad.add k) = some (.int .i64 x) := by
        rw [← c1]
        exact World.cell?_of_block (by rw [add_block]; exact HB.out.block _ hb)
      have d1 := tdiv_bd x 2 (by omega) c2 c3
      have d1' : -9223372036854775808 ≤ Int.tdiv x 2 ∧ Int.tdiv x 2 ≤ 9223372036854775807 := d1
      have hk0 : (0 : Int) ≤ (k : Int) := by omega
      have hkx : (k : Int) < (xs.length : Int) := by omega
      have hk3' : (k : Int) < 3 := by omega
      have HL := hidT (kP_len xs k)
      clear d1 c1
      by_cases h0 : k = 0
      · subst h0
        have HP := hidT (kP_one hx)
        have hE : kP xs 0 = [] := rfl
        rw [hE]
        obtain ⟨Y, HY⟩ : ∃ Y, Hid (ktx (kT 1 (Int.tdiv x 2) 4).n (kT 1 (Int.tdiv x 2) 4).u (kT 1 (Int.tdiv x 2) 4).x = Y) := ⟨_, hidT rfl⟩
        have HK := fun (w' : World) => kterm_any 1 (Int.tdiv x 2) 4 4 w' rfl (by omega) d1'.1 d1'.2
        rw [HY.out] at HK HP
        have HHK := hidT HK
        clear HK
        have hadd := fun (w' : World) => add_to [] Y Y (bs Y) rfl (by simp) (by simp) (by rw [← HY.out]; have := ktx_le (kT 1 (Int.tdiv x 2) 4).n (kT 1 (Int.tdiv x 2) 4).u (kT 1 (Int.tdiv x 2) 4).x; omega) w'
        have c5 : wr.cell? ad = some (.int .i64 x) := by simpa [Addr.add] using c4
        simp only [Int.natCast_zero] at *
        go_wp2_with (go_at_call 32; refine (HHK.out _).mono ?_; rintro e w1 ⟨rfl, hb1⟩; have HB1 := hidT hb1)
        go_roundg (3 - 1)
        case measure => omega
        case rel => exact ⟨1, rfl, by omega, by omega, rfl, by rw [HP.out], bel2 HB.out HB1.out⟩
      · by_cases hp : pck x 2 = 0
        · have HP : Hid (kP xs (k + 1) = kP xs k ++ [32, 45, 32] ++ ktx (kT 6 (Int.tdiv x 2) 4).n (kT 6 (Int.tdiv x 2) 4).u (kT 6 (Int.tdiv x 2) 4).x) := by
            unfold Hid
            rw [kP_more hx (by omega) (by omega)]
            unfold kI
            rw [if_pos hp]
          obtain ⟨Y, HY⟩ : ∃ Y, Hid (ktx (kT 6 (Int.tdiv x 2) 4).n (kT 6 (Int.tdiv x 2) 4).u (kT 6 (Int.tdiv x 2) 4).x = Y) := ⟨_, hidT rfl⟩
          have HK := fun (w' : World) => kterm_any 6 (Int.tdiv x 2) 4 4 w' rfl (by omega) d1'.1 d1'.2
          have HYL : Hid (Y.length ≤ 7) := by unfold Hid; rw [← HY.out]; exact ktx_le _ _ _
          rw [HY.out] at HK HP
          have HHK := hidT HK
          clear HK
          generalize hX : kP xs k = X at *
          have HX := hidT hX
          clear hX
          obtain ⟨Y1, HY1⟩ : ∃ Y', Hid (X ++ [32, 45, 32] = Y') := ⟨_, hidT rfl⟩
          have HL1 : Hid (Y1.length ≤ 30) := by unfold Hid; rw [← HY1.out, List.length_append]; have := HL.out; simp; omega
          obtain ⟨Y2, HY2⟩ : ∃ Y', Hid (Y1 ++ Y = Y') := ⟨_, hidT rfl⟩
          have hadd1 := fun (w' : World) => add_to X [32, 45, 32] Y1 ⟨#[32, 45, 32]⟩ rfl HY1.out (by have := HL.out; omega) (by simp) w'
          have hadd2 := fun (w' : World) => add_to Y1 Y Y2 (bs Y) rfl HY2.out (by have := HL1.out; omega) (by have := HYL.out; omega) w'
          have hk1 : (0 : Int) < (k : Int) := by omega
          have hpq : (pck x 2 : Int) = 0 := by omega
          go_wp2_with (first | (go_at_call 12; refine (kpick_to x 2 _ _ _ (by rfl) (by rfl) (by omega) (by omega) c2 c3).mono ?_; rintro e w0 ⟨rfl, rfl⟩) | (go_at_call 32; refine (HHK.out _).mono ?_; rintro e w1 ⟨rfl, hb1⟩; have HB1 := hidT hb1))
          go_roundg (3 - (k + 1))
          case measure => omega
          case rel => exact ⟨k + 1, rfl, by omega, by omega, by go_num, by rw [HP.out, HY1.out, HY2.out], bel2 HB.out HB1.out⟩
        · have HP : Hid (kP xs (k + 1) = kP xs k ++ [43] ++ ktx (kT 1 (Int.tdiv x 2) 4).n (kT 1 (Int.tdiv x 2) 4).u (kT 1 (Int.tdiv x 2) 4).x) := by
            unfold Hid
            rw [kP_more hx (by omega) (by omega)]
            unfold kI
            rw [if_neg hp]
          obtain ⟨Y, HY⟩ : ∃ Y, Hid (ktx (kT 1 (Int.tdiv x 2) 4).n (kT 1 (Int.tdiv x 2) 4).u (kT 1 (Int.tdiv x 2) 4).x = Y) := ⟨_, hidT rfl⟩
          have HK := fun (w' : World) => kterm_any 1 (Int.tdiv x 2) 4 4 w' rfl (by omega) d1'.1 d1'.2
          have HYL : Hid (Y.length ≤ 7) := by unfold Hid; rw [← HY.out]; exact ktx_le _ _ _
          rw [HY.out] at HK HP
          have HHK := hidT HK
          clear HK
          generalize hX : kP xs k = X at *
          have HX := hidT hX
          clear hX
          obtain ⟨Y1, HY1⟩ : ∃ Y', Hid (X ++ [43] = Y') := ⟨_, hidT rfl⟩
          have HL1 : Hid (Y1.length ≤ 30) := by unfold Hid; rw [← HY1.out, List.length_append]; have := HL.out; simp; omega
          obtain ⟨Y2, HY2⟩ : ∃ Y', Hid (Y1 ++ Y = Y') := ⟨_, hidT rfl⟩
          have hadd1 := fun (w' : World) => add_to X [43] Y1 ⟨#[43]⟩ rfl HY1.out (by have := HL.out; omega) (by simp) w'
          have hadd2 := fun (w' : World) => add_to Y1 Y Y2 (bs Y) rfl HY2.out (by have := HL1.out; omega) (by have := HYL.out; omega) w'
          have hk1 : (0 : Int) < (k : Int) := by omega
          have hpq : ¬ ((pck x 2 : Int) = 0) := by omega
          go_wp2_with (first | (go_at_call 12; refine (kpick_to x 2 _ _ _ (by rfl) (by rfl) (by omega) (by omega) c2 c3).mono ?_; rintro e w0 ⟨rfl, rfl⟩) | (go_at_call 32; refine (HHK.out _).mono ?_; rintro e w1 ⟨rfl, hb1⟩; have HB1 := hidT hb1))
          go_roundg (3 - (k + 1))
          case measure => omega
          case rel => exact ⟨k + 1, rfl, by omega, by omega, by go_num, by rw [HP.out, HY1.out, HY2.out], bel2 HB.out HB1.out⟩
    · have hke := kP_end (xs := xs) (k := k) (by omega) (by omega)
      rw [hke]
      have hpos : kX xs ≠ [] := fun q => by
        have := ktx_pos (kF xs).n (kF xs).u (kF xs).x
        unfold kX at q
        rw [List.append_eq_nil_iff] at q
        rw [q.1] at this
        simp at this
      have hE : (bs (kX xs)).toList.isEmpty = false := by rw [bs_empty]; simp [hpos]
      by_cases h1 : k < xs.length
      · have e1 : (k : Int) < (xs.length : Int) := by omega
        have e2 : ¬ ((k : Int) < 3) := by omega
        clear hpos hke
        go_wp2
        go_ret
        exact ⟨rfl, HB.out⟩
      · have e1 : ¬ ((k : Int) < (xs.length : Int)) := by omega
        clear hpos hke
        go_wp2
        go_ret
        exact ⟨rfl, HB.out⟩
end Go.Proofs.YthlmgpllapccfaaGreatDoor
/- WHAT Common, Rooted AND Parted SHARE. -/
namespace Go.Proofs.YthlmgpllapccfaaGreatDoor
open Go.RowKit

theorem os_let (n : Nat) (T : List UInt8) : oSets (bs (letL n T)) = false := by
  unfold oSets
  rw [(let_word n T).2.2]
  decide
theorem os_gcd {n d : Nat} (hn : n < 26) (hd : d < 10) : oSets (bs (qG n d)) = false := by
  have h := List.all_eq_true.1 (List.all_eq_true.1 chG_all n (List.mem_range.2 hn)) d (List.mem_range.2 hd)
  simp only [chG, Bool.and_eq_true, beq_iff_eq] at h
  unfold oSets
  rw [h.1.1.1.1.2]
  decide
theorem os_roots {n d : Nat} (hn : n < 26) (hd : d < 10) : oSets (bs (qR n d)) = false := by
  have h := List.all_eq_true.1 (List.all_eq_true.1 chR_all n (List.mem_range.2 hn)) d (List.mem_range.2 hd)
  simp only [chR, Bool.and_eq_true, beq_iff_eq] at h
  unfold oSets
  rw [h.1.1.1.1.2]
  decide
theorem os_split {n : Nat} (hn : n < 26) : oSets (bs (qS n)) = false := by
  have h := List.all_eq_true.1 chS_all n (List.mem_range.2 hn)
  simp only [chS, Bool.and_eq_true, beq_iff_eq] at h
  unfold oSets
  rw [h.1.1.2]
  decide
/-- 35 numbers without u, out of their text. -/
theorem kplain_to (g : Nat → Nat) (hg : Vec g) (S : ByteArray) (w : World) (hS : S = bs (ktl (tml g))) :
    Calls Tryz.prog 18 #[.string S] w fun e w' => e = .returned (.tuple #[.agg #[.int .i64 (g 0 : Nat), .int .i64 (g 1 : Nat), .int .i64 (g 2 : Nat), .int .i64 (g 3 : Nat), .int .i64 (g 4 : Nat)], .bool true]) ∧ Below w.heap.size w w' := by
  have h := kplain_any S (tml g) w (tml_ne g) (by rw [hS]; exact At.start _) (tml_ok g fun n _ => (hg n).1) (by rw [hS, bs_size]; have := ktl_len (tml g); have := tml_len g; omega)
  rw [tml_put] at h
  exact h
theorem kdegree_to (g : Nat → Nat) (X : Array Value) (w : World) (hX : X = #[.int .i64 (g 0 : Nat), .int .i64 (g 1 : Nat), .int .i64 (g 2 : Nat), .int .i64 (g 3 : Nat), .int .i64 (g 4 : Nat)]) :
    Calls Tryz.prog 19 #[.agg X] w fun e w' => e = .returned (.int .i64 ((dg g : Int) - 1)) ∧ Below w.heap.size w w' := by
  subst hX
  exact kdegree_any g w
def zv7 (c : Nat → Int) : Array Value := #[.int .i64 (c 0), .int .i64 (c 1), .int .i64 (c 2), .int .i64 (c 3), .int .i64 (c 4), .int .i64 (c 5), .int .i64 (c 6)]
theorem zv7_get (c : Nat → Int) {x : Nat} (h : x < 7) : (zv7 c)[x]? = some (.int .i64 (c x)) := by
  match x, h with
  | 0, _ => rfl
  | 1, _ => rfl
  | 2, _ => rfl
  | 3, _ => rfl
  | 4, _ => rfl
  | 5, _ => rfl
  | 6, _ => rfl
theorem zv7_upd (c : Nat → Int) (n : Int) {x : Nat} (h : x < 7) : (zv7 c).setIfInBounds x (.int .i64 n) = zv7 (fun j => if j = x then n else c j) := by
  match x, h with
  | 0, _ => rfl
  | 1, _ => rfl
  | 2, _ => rfl
  | 3, _ => rfl
  | 4, _ => rfl
  | 5, _ => rfl
  | 6, _ => rfl

end Go.Proofs.YthlmgpllapccfaaGreatDoor
/- THE PROGRAM's Value. -/
namespace Go.Proofs.YthlmgpllapccfaaGreatDoor
open Go.RowKit

/-- What Value answers. -/
def vv (s : ByteArray) (u x : Int) : Nat := if (rd s).e = 0 then valP (rd s).p (u % 7).toNat (x % 7).toNat else 0
def vb (s : ByteArray) : Nat := if (rd s).e = 0 then 0 else (rd s).bad
theorem m7 (u : Int) : u % 7 = ((u % 7).toNat : Int) ∧ (u % 7).toNat < 7 := by omega
set_option maxRecDepth 100000 in
set_option maxHeartbeats 2000000 in
theorem pValue_any (s : ByteArray) (u x : Int) (w : World) (hg : ErrT w) (hm : s.size ≤ 140737488351232) :
    Calls Tryz.prog 22 #[.string s, .int .i64 u, .int .i64 x] w fun e w' => e = .returned (.tuple #[.int .i64 (vv s u x), .int .i64 (rd s).e, .int .i64 (vb s)]) ∧ Below w.heap.size w w' := by
  have hu := m7 u
  have hx := m7 x
  have HU := hidV hu
  have HX := hidV hx
  clear hu hx
  have HP := hidV (Polynomial_any s w hg hm)
  clear hg hm
  unfold vv vb
  generalize rd s = R at *
  by_cases he : R.e = 0
  · rw [if_pos he, if_pos he]
    rw [he] at HP ⊢
    go_enter Tryz.func22, Tryz.ntmps22
    go_wp2_with fail
    refine HP.out.mono ?_
    rintro e w1 ⟨rfl, hgd, hbel⟩
    have HB := hidV hbel
    clear hbel HP
    go_wp2_with (first | (refine wpList_store_mid (by rfl) 76 _ _ (by rfl) w1.heap.size 0 (pv R.p) (by rfl) (by rfl) (Blk.there (Blk.new w1 _ _) (by rw [pv_size, hgd.1]; decide)) (size_poly hgd) (pv_one _) ?_) | (refine wpList_load_row (by rfl) 76 _ (by rfl) w1.heap.size (by rfl) 76 (pv R.p) (0, 0) _ (by exact Blk.setAll (Blk.new w1 _ _) _ (by rw [pv_size, hgd.1]; rfl)) Tryz.underlying76 (by rfl) (size_poly hgd) ?_))
    refine (pVal_any R.p u x _ _ _ hgd HU.out.1 HX.out.1 HU.out.2 HX.out.2).mono ?_
    rintro e w2 ⟨rfl, hbel2⟩
    have HB2 := hidV hbel2
    clear hbel2
    go_wp2
    go_ret3
    refine ⟨rfl, ?_⟩
    refine Fr.below (bs := []) ((Fr.setCells (Fr.alloc (Fr.of_below HB.out) _) _ _ _ (Or.inr HB.out.size)).trans (Fr.of_below (bs := []) (by exact HB2.out)) (by simp)) (Nat.le_refl _) (by simp)
  · rw [if_neg he, if_neg he]
    have he' : ((R.e : Int) != 0) = true := by rw [bne_iff_ne]; omega
    go_enter Tryz.func22, Tryz.ntmps22
    go_wp2_with fail
    refine HP.out.mono ?_
    rintro e w1 ⟨rfl, hgd, hbel⟩
    have HB := hidV hbel
    clear hbel HP
    go_wp2_with (first | (refine wpList_store_mid (by rfl) 76 _ _ (by rfl) w1.heap.size 0 (pv R.p) (by rfl) (by rfl) (Blk.there (Blk.new w1 _ _) (by rw [pv_size, hgd.1]; decide)) (size_poly hgd) (pv_one _) ?_))
    go_ret3
    refine ⟨rfl, ?_⟩
    exact Fr.below (bs := []) (Fr.setCells (Fr.alloc (Fr.of_below HB.out) _) _ _ _ (Or.inr HB.out.size)) (Nat.le_refl _) (by simp)
theorem pV_at {s : ByteArray} {p : List Nat} (h : rd s = ⟨0, 0, p⟩) (hs : s.size ≤ 1000) (u x : Nat) {V : Nat} (hV : valP p (u % 7) (x % 7) = V) (S : ByteArray) (U X : Int) (w : World) (hg : ErrT w) (hS : S = s) (hU : U = u) (hX : X = x) :
    Calls Tryz.prog 22 #[.string S, .int .i64 U, .int .i64 X] w fun e w' => e = .returned (.tuple #[.int .i64 V, .int .i64 0, .int .i64 0]) ∧ Below w.heap.size w w' := by
  subst hS hU hX
  have k := pValue_any S u x w hg (by omega)
  have e1 : ((u : Int) % 7).toNat = u % 7 := by omega
  have e2 : ((x : Int) % 7).toNat = x % 7 := by omega
  unfold vv vb at k
  rw [h] at k
  simp only [if_true, e1, e2] at k
  rw [hV] at k
  exact k
end Go.Proofs.YthlmgpllapccfaaGreatDoor
/- ROOTED: THE WALK. -/
namespace Go.Proofs.YthlmgpllapccfaaGreatDoor
open Go.RowKit

theorem wpQuiet_val {P : Program} {ops : Array Oper} {C : World → Prop} {Q : Act → Prop} {a : Act} {o : Oper} {rest : List Oper} (hgd : o.guard = none) (v : Value) (hr : ∀ w, (execOp a.eval o).run P w = .ok (.value v) w)
    (h : wpQuiet P ops C Q rest (a.put o.dst v)) : wpQuiet P ops C Q (o :: rest) a :=
  BigFrame.wpQuiet_want (by unfold Region.wanted; rw [hgd]) (fun K hK => ⟨v, fun w _ => by
    unfold Oper.quietAt
    rw [hr w]
    exact ⟨rfl, rfl⟩, hK _ h⟩)

set_option maxRecDepth 100000 in
set_option maxHeartbeats 2000000 in
theorem lawRooted_any (x y : Value) (u : Int) (xs ys : List Int) (W : World) (hg : ErrT W) (hu : -9223372036854775808 ≤ u ∧ u ≤ 9223372036854775807)
    (hX : ∀ w', Below W.heap.size W w' → Calls Tryz.prog 21 #[x, .int .i64 4] w' fun e w'' => e = .returned (.string (bs (kX xs))) ∧ Below w'.heap.size w' w'')
    (hY : ∀ w', Below W.heap.size W w' → Calls Tryz.prog 21 #[y, .int .i64 4] w' fun e w'' => e = .returned (.string (bs (kX ys))) ∧ Below w'.heap.size w' w'') :
    Calls Tryz.prog 5 #[x, y, .int .i64 u] W fun e w' => e = .returned (.bool true) ∧ Below W.heap.size W w' := by
  have HG := hidV hg
  have HX := hidT hX
  have HY := hidT hY
  clear hg hX hY
  have HLX := hidV (kX_len xs)
  have HLY := hidV (kX_len ys)
  have HLET := hidV (raw_let st1 (n := 25) (by omega) xs ys [32, 44, 32] (Or.inr rfl) (by unfold letL; simp only [List.length_append, List.length_cons, List.length_nil]; have := HLX.out; have := HLY.out; omega))
  have HOS := hidV (os_let 25 (kX xs ++ ([32, 44, 32] ++ kX ys)))
  obtain ⟨P, HP⟩ : ∃ P, Hid (sumP (kTs xs) = P) := ⟨_, rfl⟩
  obtain ⟨Q, HQ⟩ : ∃ Q, Hid (sumP (kTs ys) = Q) := ⟨_, rfl⟩
  rw [HP.out, HQ.out] at HLET
  obtain ⟨S2, HS2⟩ : ∃ S, Hid (upd st1 25 (.sys [P, Q]) = S) := ⟨_, rfl⟩
  rw [HS2.out] at HLET
  obtain ⟨n, HN⟩ : ∃ n, Hid (pck u 10 = n) := ⟨_, hidV rfl⟩
  have hn : n < 10 := by rw [← HN.out]; exact pck_lt _ (by omega)
  have HGC := hidV (raw_gcd st1 (n := 25) (by omega) hn P Q)
  have HRT := hidV (raw_roots st1 (n := 25) (by omega) hn P Q)
  rw [HS2.out] at HGC HRT
  have HRX : Hid (rd (bs (kX xs)) = ⟨0, 0, P⟩) := by unfold Hid; rw [← HP.out]; exact rd_one xs
  have HRY : Hid (rd (bs (kX ys)) = ⟨0, 0, Q⟩) := by unfold Hid; rw [← HQ.out]; exact rd_one ys
  have HGV : Hid (Vec (gall [lnF (n % 7) P, lnF (n % 7) Q])) := (gall_any _ (by intro l hl; simp only [List.mem_cons, List.not_mem_nil, or_false] at hl; rcases hl with e | e <;> (rw [e]; exact lnF_vec _ _))).1
  have HLAW := hidV (rooted_law (n % 7) P Q)
  obtain ⟨G, HGG⟩ : ∃ G, Hid (gall [lnF (n % 7) P, lnF (n % 7) Q] = G) := ⟨_, hidV rfl⟩
  rw [HGG.out] at HGC HGV HLAW
  obtain ⟨I, HI⟩ : ∃ I, Hid (rts [lnF (n % 7) P, lnF (n % 7) Q] = I) := ⟨_, hidV rfl⟩
  rw [HI.out] at HRT
  have HIN : Hid (∀ z, I z = (decide (pows (lnF (n % 7) P) z 5 = 0) && decide (pows (lnF (n % 7) Q) z 5 = 0))) := by
    unfold Hid
    intro z
    rw [← HI.out]
    unfold rts
    simp
  have HOG := hidV (os_gcd (n := 25) (by omega) hn)
  have HOR := hidV (os_roots (n := 25) (by omega) hn)
  obtain ⟨LG, HLG⟩ : ∃ L, Hid (qG 25 n = L) := ⟨_, hidV rfl⟩
  obtain ⟨LR, HLR⟩ : ∃ L, Hid (qR 25 n = L) := ⟨_, hidV rfl⟩
  have HLG' : Hid ([103, 99, 100, 32, 90, 32] ++ [dgt n] = LG) := HLG.out
  have HLR' : Hid ([114, 111, 111, 116, 115, 32, 90, 32] ++ [dgt n] = LR) := HLR.out
  have hl7 : LG.length = 7 := by rw [← HLG.out]; rfl
  have hl9 : LR.length = 9 := by rw [← HLR.out]; rfl
  rw [HLG.out] at HGC HOG
  rw [HLR.out] at HRT HOR
  obtain ⟨T, HT⟩ : ∃ T, Hid (ktl (tml G) = T) := ⟨_, hidV rfl⟩
  have HTR : Hid (rd (bs T) = ⟨0, 0, upL G⟩) := by unfold Hid; rw [← HT.out]; exact up_read HGV.out
  have HTL : Hid (T.length ≤ 30) := by unfold Hid; rw [← HT.out, ← txt_tml]; exact up_len G
  rw [HT.out] at HGC
  generalize kX xs = X at *
  generalize kX ys = Y at *
  obtain ⟨Z1, HZ1⟩ : ∃ Z, Hid ([108, 101, 116, 32, 90, 32, 61, 32] ++ X = Z) := ⟨_, hidV rfl⟩
  obtain ⟨Z2, HZ2⟩ : ∃ Z, Hid (Z1 ++ [32, 44, 32] = Z) := ⟨_, hidV rfl⟩
  obtain ⟨Z3, HZ3⟩ : ∃ Z, Hid (Z2 ++ Y = Z) := ⟨_, hidV rfl⟩
  have HZE : Hid (letL 25 (X ++ ([32, 44, 32] ++ Y)) = Z3) := by unfold Hid; rw [← HZ3.out, ← HZ2.out, ← HZ1.out]; unfold letL; simp only [List.append_assoc]; rfl
  have HZ1L : Hid (Z1.length ≤ 35) := by unfold Hid; rw [← HZ1.out]; simp only [List.length_append, List.length_cons, List.length_nil]; have := HLX.out; omega
  have HZ2L : Hid (Z2.length ≤ 38) := by unfold Hid; rw [← HZ2.out]; simp only [List.length_append, List.length_cons, List.length_nil]; have := HZ1L.out; omega
  have HZ3L : Hid (Z3.length ≤ 65) := by unfold Hid; rw [← HZ3.out]; simp only [List.length_append]; have := HZ2L.out; have := HLY.out; omega
  rw [HZE.out] at HLET HOS
  have ha1 := fun (w' : World) => add_to0 [108, 101, 116, 32, 90, 32, 61, 32] ⟨#[108, 101, 116, 32, 90, 32, 61, 32]⟩ X Z1 (bs X) rfl rfl HZ1.out (by simp) (by have := HLX.out; omega) w'
  have ha2 := fun (w' : World) => add_to Z1 [32, 44, 32] Z2 ⟨#[32, 44, 32]⟩ rfl HZ2.out (by have := HZ1L.out; omega) (by simp) w'
  have ha3 := fun (w' : World) => add_to Z2 Y Z3 (bs Y) rfl HZ3.out (by have := HZ2L.out; omega) (by have := HLY.out; omega) w'
  have hB : 0 < W.heap.size := HG.out.lt
  have ha4 := fun (w' : World) => add_to0 [103, 99, 100, 32, 90, 32] ⟨#[103, 99, 100, 32, 90, 32]⟩ [dgt n] LG (bs [dgt n]) rfl rfl HLG'.out (by simp) (by simp) w'
  have ha5 := fun (w' : World) => add_to0 [114, 111, 111, 116, 115, 32, 90, 32] ⟨#[114, 111, 111, 116, 115, 32, 90, 32]⟩ [dgt n] LR (bs [dgt n]) rfl rfl HLR'.out (by simp) (by simp) w'
  go_enter Tryz.func5, Tryz.ntmps5
  go_wp2_with fail
  refine (begun_any W HG.out).mono ?_
  rintro e w1 ⟨sb, bm, rfl, s1, f1⟩
  have HS1 := hidV s1
  have HF1 := hidV f1
  clear s1 f1
  go_wp2_with fail
  refine (HX.out w1 (HF1.out.below (Nat.le_refl _) (by simp))).mono ?_
  rintro e w2 ⟨rfl, b2⟩
  have HF2 : Hid (Fr [] W w2 ∧ Sess W.heap.size w2 [bm] sb bm st1) := ⟨HF1.out.trans (Fr.of_below (bs := []) b2) (by simp), HS1.out.fr (Fr.of_below b2)⟩
  clear b2 HF1 HS1
  go_wp2_with fail
  refine (HY.out w2 (HF2.out.1.below (Nat.le_refl _) (by simp))).mono ?_
  rintro e w3 ⟨rfl, b3⟩
  have HF3 : Hid (Fr [] W w3 ∧ Sess W.heap.size w3 [bm] sb bm st1) := ⟨HF2.out.1.trans (Fr.of_below (bs := []) b3) (by simp), HF2.out.2.fr (Fr.of_below b3)⟩
  clear b3 HF2
  go_wp2_with fail
  have HPK := hidV (kpick_to u 10 u 10 w3 rfl rfl (by omega) (by omega) hu.1 hu.2)
  rw [HN.out] at HPK
  refine HPK.out.mono ?_
  rintro e w ⟨rfl, rfl⟩
  clear HPK
  go_wp2_with fail
  refine (HF3.out.2.says hB (bs Z3) _ S2 [] (by rw [bs_size]; have := HZ3L.out; omega) HOS.out HLET.out rfl).mono ?_
  rintro e w4 ⟨rfl, s4, f4⟩
  have HF4 : Hid (Fr [] W w4 ∧ Sess W.heap.size w4 [bm] sb bm S2) := ⟨HF3.out.1.trans f4 (by simp; exact HF3.out.2.lo), s4⟩
  clear s4 f4 HF3 ha1 ha2 ha3
  go_wp2_with fail
  refine (kdigit_any n _ _ (by rfl) hn).mono ?_
  rintro e w5 ⟨rfl, b5⟩
  have HF5 : Hid (Fr [] W w5 ∧ Sess W.heap.size w5 [bm] sb bm S2) := ⟨HF4.out.1.trans (Fr.of_below (bs := []) b5) (by simp), HF4.out.2.fr (Fr.of_below b5)⟩
  clear b5 HF4
  go_wp2_with fail
  refine (HF5.out.2.does hB (bs LG) S2 _ (by rw [bs_size]; omega) HOG.out HGC.out).mono ?_
  rintro e w6 ⟨rfl, s6, f6⟩
  have HF6 : Hid (Fr [] W w6 ∧ Sess W.heap.size w6 [bm] sb bm S2) := ⟨HF5.out.1.trans f6 (by simp; exact HF5.out.2.lo), s6⟩
  clear s6 f6 HF5
  go_wp2
  refine wp_forget (fun V => Blk V w6.heap.size (bv fun _ => false) 45 ∧ Fr [] W V ∧ Sess W.heap.size V [w6.heap.size, bm] sb bm S2) ⟨Blk.new w6 _ _, HF6.out.1.alloc _, HF6.out.2.alloc _⟩ ?_
  rintro V ⟨b1, b2, b3⟩
  have HV := hidV (And.intro b1 (And.intro b2 b3))
  have hob : W.heap.size ≤ w6.heap.size := HF6.out.1.size
  clear b1 b2 b3 HF6
  generalize w6.heap.size = ob at *
  go_loopg [16] 7 (fun gm v16 wr => ∃ z : Nat, ∃ c : Nat → Bool, gm = 7 - z ∧ z ≤ 7 ∧ v16 = .int .i64 z ∧ Hid (∀ v, v < z → c v = I v) ∧ Hid (Blk wr ob (bv c) 45 ∧ Fr [] W wr ∧ Sess W.heap.size wr [ob, bm] sb bm S2))
  case atStart => exact ⟨0, _, rfl, by omega, rfl, fun v hv => by omega, HV⟩
  case round =>
    obtain ⟨z, c, hgm, hz, rfl, HC, HD⟩ := hrel
    clear HV V
    by_cases hz7 : z < 7
    · have z0 : (0 : Int) ≤ (z : Int) := by omega
      have z1 : (z : Int) < 7 := by omega
      obtain ⟨A, HA⟩ : ∃ A, Hid (pows (lnF (n % 7) P) z 5 = A) := ⟨_, hidV rfl⟩
      obtain ⟨E, HE⟩ : ∃ A, Hid (pows (lnF (n % 7) Q) z 5 = A) := ⟨_, hidV rfl⟩
      obtain ⟨C, HCC⟩ : ∃ A, Hid (pows G z 5 = A) := ⟨_, hidV rfl⟩
      have hlaw : (A = 0 ∧ E = 0) ↔ C = 0 := by rw [← HA.out, ← HE.out, ← HCC.out]; exact HLAW.out z
      have HIX : Hid (I z = (decide (A = 0) && decide (E = 0))) := by unfold Hid; rw [← HA.out, ← HE.out]; exact HIN.out z
      have HVA := hidV (fun S U X w h a b c => pV_at HRX.out (by rw [bs_size]; have := HLX.out; omega) n z (V := A) (by rw [show z % 7 = z by omega, valP_pows]; exact HA.out) S U X w h a b c)
      have HVE := hidV (fun S U X w h a b c => pV_at HRY.out (by rw [bs_size]; have := HLY.out; omega) n z (V := E) (by rw [show z % 7 = z by omega, valP_pows]; exact HE.out) S U X w h a b c)
      have HVC := hidV (fun S U X w h a b c => pV_at HTR.out (by rw [bs_size]; have := HTL.out; omega) 0 z (V := C) (by rw [show z % 7 = z by omega, valP_up HGV.out]; exact HCC.out) S U X w h a b c)
      go_wp2_with fail
      refine (HVA.out _ _ _ _ HD.out.2.2.err rfl rfl rfl).mono ?_
      rintro e w1 ⟨rfl, b1⟩
      have HD1 : Hid (Blk w1 ob (bv c) 45 ∧ Fr [] W w1 ∧ Sess W.heap.size w1 [ob, bm] sb bm S2) := ⟨HD.out.1.fr (Fr.of_below (bs := []) b1) (by simp), HD.out.2.1.trans (Fr.of_below (bs := []) b1) (by simp), HD.out.2.2.fr (Fr.of_below b1)⟩
      clear b1 HD
      go_wp2_with fail
      refine (HVE.out _ _ _ _ HD1.out.2.2.err rfl rfl rfl).mono ?_
      rintro e w2 ⟨rfl, b2⟩
      have HD2 : Hid (Blk w2 ob (bv c) 45 ∧ Fr [] W w2 ∧ Sess W.heap.size w2 [ob, bm] sb bm S2) := ⟨HD1.out.1.fr (Fr.of_below (bs := []) b2) (by simp), HD1.out.2.1.trans (Fr.of_below (bs := []) b2) (by simp), HD1.out.2.2.fr (Fr.of_below b2)⟩
      clear b2 HD1
      go_wp2_with fail
      refine (HVC.out _ _ _ _ HD2.out.2.2.err rfl rfl rfl).mono ?_
      rintro e w3 ⟨rfl, b3⟩
      have HD3 : Hid (Blk w3 ob (bv c) 45 ∧ Fr [] W w3 ∧ Sess W.heap.size w3 [ob, bm] sb bm S2) := ⟨HD2.out.1.fr (Fr.of_below (bs := []) b3) (by simp), HD2.out.2.1.trans (Fr.of_below (bs := []) b3) (by simp), HD2.out.2.2.fr (Fr.of_below b3)⟩
      clear b3 HD2
      have hc2 : w3.cell? ⟨ob, z, none⟩ = some (.bool (c z)) := by rw [HD3.out.1.cell]; exact bv_get c hz7
      have hc3 : w3.frozen? ⟨ob, z, none⟩ = false := HD3.out.1.frozen _
      generalize c z = dz at hc2
      have key : ∀ v : Bool, v = I z → Hid (∃ c'' : Nat → Bool, (∀ u, u < z + 1 → c'' u = I u) ∧ Blk (w3.setCell ⟨ob, z, none⟩ (.bool v)) ob (bv c'') 45 ∧ Fr [] W (w3.setCell ⟨ob, z, none⟩ (.bool v)) ∧ Sess W.heap.size (w3.setCell ⟨ob, z, none⟩ (.bool v)) [ob, bm] sb bm S2) := by
        intro v hv
        have f9 : Fr [ob] w3 (w3.setCell ⟨ob, z, none⟩ (.bool v)) := Fr.setCell (Fr.refl _ _) _ _ (Or.inl (by simp))
        refine ⟨fun j => if j = z then v else c j, fun u hu => ?_, ?_, ?_, ?_⟩
        · dsimp only
          by_cases e : u = z
          · rw [if_pos e, e, hv]
          · rw [if_neg e]; exact HC.out u (by omega)
        · rw [← bv_upd c v hz7]; exact HD3.out.1.set _ _
        · exact HD3.out.2.1.trans f9 (by simp; omega)
        · exact HD3.out.2.2.frs hB f9 (by intro k hk; simp at hk; subst hk; exact ⟨by simp, HD3.out.2.2.ne HD3.out.1⟩)
      by_cases hA : A = 0
      · have hA' : ((A : Int) == 0) = true := by rw [beq_iff_eq]; omega
        by_cases hB2 : E = 0
        · have hE' : ((E : Int) == 0) = true := by rw [beq_iff_eq]; omega
          have hC' : ((C : Int) == 0) = true := by rw [beq_iff_eq]; have := hlaw.1 ⟨hA, hB2⟩; omega
          have KEY := key true (by rw [HIX.out]; simp [hA, hB2])
          clear key
          obtain ⟨c'', k1, k2⟩ := KEY
          have K1 := hidV k1
          have K2 := hidV k2
          clear k1 k2
          go_wp2
          go_roundg (7 - (z + 1))
          case measure => omega
          case rel => exact ⟨z + 1, c'', rfl, by omega, by go_num, K1, K2⟩
        · have hE' : ((E : Int) == 0) = false := by rw [beq_eq_false_iff_ne]; omega
          have hC' : ((C : Int) == 0) = false := by rw [beq_eq_false_iff_ne]; intro q; exact hB2 (hlaw.2 (by omega)).2
          have KEY := key false (by rw [HIX.out]; simp [hA, hB2])
          clear key
          obtain ⟨c'', k1, k2⟩ := KEY
          have K1 := hidV k1
          have K2 := hidV k2
          clear k1 k2
          go_wp2
          go_roundg (7 - (z + 1))
          case measure => omega
          case rel => exact ⟨z + 1, c'', rfl, by omega, by go_num, K1, K2⟩
      · have hA' : ((A : Int) == 0) = false := by rw [beq_eq_false_iff_ne]; omega
        have hC' : ((C : Int) == 0) = false := by rw [beq_eq_false_iff_ne]; intro q; exact hA (hlaw.2 (by omega)).1
        have KEY := key false (by rw [HIX.out]; simp [hA])
        clear key
        obtain ⟨c'', k1, k2⟩ := KEY
        have K1 := hidV k1
        have K2 := hidV k2
        clear k1 k2
        go_wp2
        go_roundg (7 - (z + 1))
        case measure => omega
        case rel => exact ⟨z + 1, c'', rfl, by omega, by go_num, K1, K2⟩
    · have ez : z = 7 := by omega
      subst ez
      have HLI := hidV (klisted_any c)
      rw [lsd_congr 7 HC.out] at HLI
      generalize hYL : lsd I 7 = YL at HLI HRT
      clear hYL
      have hsz := size_bool7 c
      obtain ⟨y, HYY⟩ : ∃ y, Hid (bv c = y) := ⟨_, hidV rfl⟩
      rw [HYY.out] at HLI HD hsz
      go_wp2_with fail
      refine region_class_tail (fun w' => Fr [] wr w') ((Fr.refl [] wr).drew) 6 (by kernel_rfl) (by kernel_rfl) ?_
      simp only [List.take_succ_cons, List.take_zero, List.drop_succ_cons, List.drop_zero]
      refine wpQuiet_mv (by rfl) _ (by rfl) ?_
      go_frame
      refine wpQuiet_mv (by rfl) _ (by rfl) ?_
      go_frame
      refine wpQuiet_calls (by rfl) 17 #[.int .i64 n] (.string (bs [dgt n])) (fun w' => by go_simp) (fun w' hw' => (kdigit_any n _ w' (by rfl) hn).mono (fun e w'' h => ⟨h.1, hw'.trans (Fr.of_below (bs := []) h.2) (by simp)⟩)) ?_
      go_frame
      refine wpQuiet_val (by rfl) (.string (bs LR)) (fun w' => by go_simp) ?_
      go_frame
      refine wpQuiet_ld (by rfl) 45 _ (by rfl) ob (by rfl) y _ (fun w' hw' => HD.out.1.fr hw' (by simp)) Tryz.underlying45 rfl hsz ?_
      go_frame
      refine wpQuiet_calls (by rfl) 23 #[.agg y] (.string (bs YL)) (fun w' => by go_simp) (fun w' hw' => (HLI.out w').mono (fun e w'' h => ⟨h.1, hw'.trans (Fr.of_below (bs := []) h.2) (by simp)⟩)) ?_
      go_frame
      refine wpQuiet_nil ?_
      intro w5 hw5
      have HD5 : Hid (Fr [] W w5 ∧ Sess W.heap.size w5 [ob, bm] sb bm S2) := ⟨HD.out.2.1.trans hw5 (by simp), HD.out.2.2.fr hw5⟩
      clear hw5
      go_wp2_with fail
      refine (HD5.out.2.says hB (bs LR) _ S2 _ (by rw [bs_size]; omega) HOR.out HRT.out rfl).mono ?_
      rintro e w6 ⟨rfl, s6, f6⟩
      have HE : Hid (Fr [] W w6) := HD5.out.1.trans f6 (by simp; exact HD5.out.2.lo)
      clear s6 f6
      go_wp2
      go_ret
      exact ⟨rfl, HE.out.below (Nat.le_refl _) (by simp)⟩
end Go.Proofs.YthlmgpllapccfaaGreatDoor
/- WHAT THE ROWS' CONDITION GIVES A WALK: errors.errorType's cell; a world that meets it. -/
namespace Go.Proofs.YthlmgpllapccfaaGreatDoor
open Go.ChangeShapes Go.WideShapes Go.RowKit

theorem Tryz.own : ownKnob Tryz.prog.godebug = none := by kernel_rfl
theorem Tryz.et : Tryz.prog.globalNamed "errors.errorType" = some 0 := by kernel_rfl
theorem Tryz.rt : (Tryz.prog.cutTypes.find? (·.1 == "internal/reflectlite.rtype")).map (·.2) = some 195 := by kernel_rfl
theorem Tryz.oneRow : ((List.range Tryz.prog.types.size).filter fun t => Tryz.prog.rowNamed t [101, 114, 114, 111, 114]) = [127] := by kernel_rfl
theorem Tryz.hand : typeHandle Tryz.prog 127 = .pointer (some ⟨5, 127, none⟩) := by kernel_rfl

theorem errT_of_handle {W : World} (h : handlesMet Tryz.prog [("errors.errorType", Rows.laid_errors_errorType)] W) : ErrT W := by
  obtain ⟨name, u, ty, e1, e2, e3, e4, e5⟩ := h _ (List.mem_singleton.2 rfl)
  have en : name = [101, 114, 114, 111, 114] := (Option.some.inj e1).symm
  subst en
  obtain rfl := Option.some.inj (Tryz.rt.symm.trans e2)
  have hm : ty ∈ (List.range Tryz.prog.types.size).filter fun t => Tryz.prog.rowNamed t [101, 114, 114, 111, 114] := List.mem_filter.2 ⟨List.mem_range.2 e3, e4⟩
  rw [Tryz.oneRow] at hm
  obtain rfl := List.mem_singleton.1 hm
  rw [Tryz.hand] at e5
  unfold ErrT
  simpa using World.var?_cell Tryz.et e5 0

/-- A world that meets the condition: the settled one, the variable's cell laid. -/
noncomputable def laidWorld (os : Os) : World :=
  let w0 := World.holding Tryz.prog os ⟨#[], #[], []⟩
  { w0 with heap := w0.heap.modify 0 fun
      | .cells _ t frozen => .cells #[.iface 195 (.agg #[.pointer (some ⟨5, 127, none⟩)])] t frozen
      | o => o }
end Go.Proofs.YthlmgpllapccfaaGreatDoor
/- WHAT THE GREAT SEAT's ROWS SHARE: the condition on errors.errorType, slices of numbers. -/
namespace Go.Proofs.YthlmgpllapccfaaGreatDoor
open Go.ChangeShapes Go.WideShapes Go.ChangeAt Go.RowKit
open Go.ChangeMaps (open_string shut_string)

theorem err_laid {W : World} (h : laidMetH Tryz.prog [("errors.errorType", Rows.laid_errors_errorType)] W) : ErrT W := by
  have h' : laidMet Tryz.prog [] W ∧ handlesMet Tryz.prog [("errors.errorType", Rows.laid_errors_errorType)] W := h
  exact errT_of_handle h'.2
theorem err_world (os : Os) (args : Array Value) : laidMetH Tryz.prog [("errors.errorType", Rows.laid_errors_errorType)] ((laidWorld os).forCall (fun _ _ => 0) ⟨#[], args, []⟩).memory :=
  laidMetH_of_parts (laidMet_nil _ _) (by kernel_rfl)

theorem wf_bd64 {n : Int} (h : (Lit.int .i64 n).wf = true) : -9223372036854775808 ≤ n ∧ n ≤ 9223372036854775807 := by
  simp only [Lit.wf, Bool.and_eq_true, decide_eq_true_eq] at h
  exact ⟨h.1, h.2⟩

theorem text_of {H : Type} {enc : TypeId × Value → H} {W : World} {a : Option Addr} {len cap : Nat} {d : DataW H} {ps : List MemPlace} (h : DataW.Trod enc Tryz.prog W 0 (fun _ => true) true 43 (.slice a len cap) d ps) (hlt : ∀ y ∈ ps, y.block < W.heap.size) :
    ∃ xs : List Int, ∀ w', Below W.heap.size W w' → Calls Tryz.prog 21 #[.slice a len cap, .int .i64 4] w' fun e w'' => e = .returned (.string (bs (kX xs))) ∧ Below w'.heap.size w' w'' := by
  obtain ⟨fuel, hf⟩ := h
  rcases open_ints Tryz.underlying43 Tryz.underlying3 (by kernel_rfl) hf with ⟨hcs, _⟩ | ⟨ad, len', cap', zs, hcs, _, hl, hm, hz, hx, hcell, hwz⟩
  · simp [Value.cells] at hcs
    obtain ⟨rfl, rfl, rfl⟩ := hcs
    exact ⟨[], fun w' _ => ktext_nil _ _ w'⟩
  · simp [Value.cells] at hcs
    obtain ⟨rfl, rfl, rfl⟩ := hcs
    simp only [if_true] at hz
    by_cases h0 : len = 0
    · subst h0
      exact ⟨[], fun w' _ => ktext_nil _ _ w'⟩
    · have hlen : (zs.take len).length = len := by rw [List.length_take]; omega
      have hblk : ad.block < W.heap.size := by
        simp only [Prod.mk.injEq] at hx
        refine hlt (.cell ad.block ad.off) ?_
        rw [hx.2]
        simp [MemPlace.row]
        omega
      refine ⟨zs.take len, fun w' hb => ?_⟩
      have k := ktext_some (zs.take len) ad cap w' (by omega) (fun j x hj => ?_) (Nat.lt_of_lt_of_le hblk hb.size) (by unfold maxLen at hm; omega)
      · rw [hlen] at k; exact k
      · rw [List.getElem?_take] at hj
        split at hj
        · have hj' : j < zs.length := by omega
          have e : zs.getD j 0 = x := by rw [List.getD_eq_getElem?_getD, hj]; rfl
          have hc := hcell j hj'
          rw [e] at hc
          refine ⟨?_, wf_bd64 (hwz x (List.mem_of_getElem? hj))⟩
          rw [← hc]
          exact World.cell?_of_block (by rw [add_block]; exact hb.block _ hblk)
        · cases hj
end Go.Proofs.YthlmgpllapccfaaGreatDoor
/- ROOTED: THE ROW, AND THE TIED CARD. -/
namespace Go.Proofs.YthlmgpllapccfaaGreatDoor
open Go.ChangeShapes Go.WideShapes Go.ChangeAt Go.RowKit
open Go.ChangeMaps (open_string shut_string)

set_option maxRecDepth 100000 in
theorem rooted_lifted (os : Os) (started : os.Started) (H : Type) (enc : TypeId × Value → H) :
    ReturnsInHanded {} Tryz.checked os 5 .any (fun w args => (Rows.rootedSpec.pre enc Tryz.prog Tryz.f5 [] false w args ∧ laidMetH Tryz.prog [("errors.errorType", Rows.laid_errors_errorType)] w) ∧ sizedMet enc Tryz.prog Tryz.f5 (OpenSpec.ofChange Rows.rootedSpec) false w args)
      (Rows.rootedSpec.post enc Tryz.prog Tryz.f5 false true false false) := by
  refine returnsInHanded_of_change_and (C := Tryz.checked) (X := fun w _ => laidMetH Tryz.prog [("errors.errorType", Rows.laid_errors_errorType)] w) (fun _ _ _ hh h => h.of_heap hh) Tryz.own started (by kernel_rfl) Tryz.func5
    (ChangeSpec.witness_at (enc := enc) (C := Tryz.checked) (os := os) (X := fun w _ => laidMetH Tryz.prog [("errors.errorType", Rows.laid_errors_errorType)] w) false (laidWorld os) #[.slice none 0 0, .slice none 0 0, .int .i64 0] 8 rfl (by kernel_rfl) (by kernel_rfl) (by kernel_rfl) (by kernel_rfl) (by kernel_rfl) (err_world os _)) ?_
  intro W base args ds gs before hval0 hW _ hsz0 hL _
  have hval : ∀ (j : Nat) t v, Tryz.f5.params[j]? = some t → args[j]? = some v → Value.okWide Tryz.prog W .any base t v := hval0
  have hsz : (DataW.weightsEach Tryz.prog (Tryz.f5.params.toList ++ Rows.rootedSpec.plain.varTypes Tryz.prog) (ds ++ gs)).all (· ≤ reachBytes) = true := hsz0
  have hW' := hW
  obtain ⟨p, q, hA0, hV0, rfl, hfz, hnd⟩ := hW
  have hA : DataW.TrodAll enc Tryz.prog W 0 (fun _ => true) true Tryz.f5.params.toList args.toList ds p := hA0
  have hV : DataW.TrodVars enc Tryz.prog W (fun _ => true) [] gs q := hV0
  rw [Tryz.params5] at hA hval hsz
  obtain ⟨v0, v1, v2, d0, d1, d2, p0, p1, p2, rfl, rfl, rfl, h0, h1, h2⟩ := trodAll_three hA
  obtain ⟨a0, len0, cap0, rfl⟩ := okWide_slice Tryz.underlying43 (hval 0 43 v0 rfl rfl)
  obtain ⟨a1, len1, cap1, rfl⟩ := okWide_slice Tryz.underlying43 (hval 1 43 v1 rfl rfl)
  obtain ⟨u, rfl, rfl, rfl, wu⟩ := open_int Tryz.underlying3 (hval 2 3 v2 rfl rfl) h2
  have hg := err_laid hL
  obtain ⟨rfl, rfl⟩ : gs = [] ∧ q = [] := by
    cases gs with
    | nil => exact ⟨rfl, hV⟩
    | cons g r => exact absurd hV (by intro h; cases h)
  have hlt : ∀ y ∈ p0 ++ p1 ++ [] ++ [], y.block < W.heap.size := fun y hy => hW'.lt y (by simpa using hy)
  have args0 : ∀ (W' : World), Below W.heap.size W W' → DataW.Trod enc Tryz.prog W' 0 (fun b => decide (b < W.heap.size)) true 43 (.slice a0 len0 cap0) d0 p0 :=
    fun W' hn => Below.trod (by kernel_rfl) (by kernel_rfl) (of_decide_eq_true (by kernel_rfl)) h0 hn (fun y hy => hlt y (by simp [hy]))
  have args1 : ∀ (W' : World), Below W.heap.size W W' → DataW.Trod enc Tryz.prog W' 0 (fun b => decide (b < W.heap.size)) true 43 (.slice a1 len1 cap1) d1 p1 :=
    fun W' hn => Below.trod (by kernel_rfl) (by kernel_rfl) (of_decide_eq_true (by kernel_rfl)) h1 hn (fun y hy => hlt y (by simp [hy]))
  obtain ⟨xs, HX⟩ := text_of h0 (fun y hy => hlt y (by simp [hy]))
  obtain ⟨ys, HY⟩ := text_of h1 (fun y hy => hlt y (by simp [hy]))
  clear hA0 hval0 hsz0
  refine (lawRooted_any _ _ u xs ys W hg (wf_bd64 wu) HX HY).mono fun e W' ⟨he, hw⟩ => ?_
  subst he
  refine ⟨_, rfl, _, _, _, [], p0 ++ (p1 ++ []), [], hW', ?_, ?_, ?_, hw.frame _, fun h => by cases h⟩
  · exact trodAll_mk1 (shut_bool Tryz.underlying4 true)
  · exact trodAll_mk3 (args0 _ hw) (args1 _ hw) (shut_int Tryz.underlying3 wu)
  · rfl

theorem rooted_holds : Rows.RootedSaid :=
  OpenClaim.holds_of_wide 5 Tryz.f5 rfl rfl rfl rfl rfl rfl rfl ⟨rfl, rfl, rfl, rfl, rfl⟩ rfl rfl rfl rfl rfl (by kernel_rfl) Tryz.func5 (by kernel_rfl)
    (of_decide_eq_true (by kernel_rfl)) (by unfold Func.isWrapper; rw [if_neg (of_decide_eq_false (by kernel_rfl))]; exact ⟨rfl, rfl⟩)
    (fun os started H enc _ => rooted_lifted os started H enc)

theorem rooted_card : Rows.RootedCardSaid :=
  Claim7.holds_tied_plain_at .later [] [.handle] true (true, "96a46c333c484247801d0ce534cef77f3d94ac4f4b7b00cca2ade548cce1501e") true
    rooted_holds (fun _ h => by cases h) (by kernel_rfl) (fun _ h => by cases h) rooted_row_tie rfl ⟨rfl, rfl⟩ (by kernel_rfl) rfl
    (fun f fn hf hfn => by
      obtain rfl : f = 5 := Option.some.inj ((show Tryz.prog.funcNamed "segments/segmentskeep.Rooted" = some 5 by kernel_rfl).symm.trans hf) |>.symm
      obtain rfl : fn = Tryz.f5 := (Option.some.inj (Tryz.func5.symm.trans hfn)).symm
      exact ⟨by kernel_rfl, fun j t ht => by
        rw [Tryz.params5] at ht
        rcases j with _ | _ | _ | j
        · obtain rfl : t = 43 := by simpa using ht.symm
          exact (show Tryz.prog.wantsStandIn 43 = false by kernel_rfl)
        · obtain rfl : t = 43 := by simpa using ht.symm
          exact (show Tryz.prog.wantsStandIn 43 = false by kernel_rfl)
        · obtain rfl : t = 3 := by simpa using ht.symm
          exact (show Tryz.prog.wantsStandIn 3 = false by kernel_rfl)
        · simp at ht⟩)
    (by kernel_rfl)
end Go.Proofs.YthlmgpllapccfaaGreatDoor
