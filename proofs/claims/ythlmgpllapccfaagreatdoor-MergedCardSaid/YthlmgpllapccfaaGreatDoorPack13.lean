import Derived.Test.YthlmgpllapccfaaGreatDoorPack12
/- PLAIN: ROOTED and PARTED: what their answers come to. -/
namespace Go.Proofs.YthlmgpllapccfaaGreatDoor
open Go.RowKit

theorem ktl_len : ∀ l : List (Nat × Nat), (ktl l).length ≤ 6 * l.length
  | [] => by simp [ktl]
  | (c, x) :: t => by
    rw [ktl, List.length_append, List.length_cons]
    have h1 := tmx_len c 0 x
    have h2 := ktl_len t
    split
    · simp only [List.length_nil]; omega
    · rw [List.length_cons]; omega
theorem trm_len (g : Nat → Nat) : ∀ x, (trm g x).length ≤ x
  | 0 => by simp [trm]
  | x + 1 => by
    rw [trm]
    have h := trm_len g x
    split
    · omega
    · rw [List.length_cons]; omega
theorem tml_len (g : Nat → Nat) : (tml g).length ≤ 5 := by
  unfold tml
  split
  · simp
  · exact trm_len g 5
theorem up_len (g : Nat → Nat) : (txt (upL g)).length ≤ 30 := by
  rw [txt_tml]
  have := ktl_len (tml g)
  have := tml_len g
  omega
/-- The text of a greatest common divisor is read as that. -/
theorem up_read {g : Nat → Nat} (hg : Vec g) : rd (bs (ktl (tml g))) = ⟨0, 0, upL g⟩ := by
  rw [← txt_tml]
  exact round_trip (upL_good fun i _ => (hg i).1) (by have := up_len g; omega)
/-- The values of x at which two polynomials, and their greatest common divisor, are 0. -/
theorem rooted_law (u : Nat) (P Q : List Nat) (x : Nat) : (pows (lnF u P) x 5 = 0 ∧ pows (lnF u Q) x 5 = 0) ↔ pows (gall [lnF u P, lnF u Q]) x 5 = 0 := by
  have hv : ∀ l ∈ [lnF u P, lnF u Q], Vec l := by
    intro l hl
    simp only [List.mem_cons, List.not_mem_nil, or_false] at hl
    rcases hl with rfl | rfl
    · exact lnF_vec u P
    · exact lnF_vec u Q
  rw [← gall_roots hv x]
  simp
theorem valP_pows (p : List Nat) (u x : Nat) : valP p u x = pows (lnF u p) x 5 := by rw [← val_same, ← lnF_lst, valL_lst]
theorem valP_up {g : Nat → Nat} (hg : Vec g) (u x : Nat) : valP (upL g) u x = pows g x 5 := by rw [valP_pows, lnF_up hg]
/-- A segment of Parted: the values of u with this degree (behind the last: with none). -/
theorem parted_in (of : Nat → Nat) (h : ∀ u, of u ≤ 5) (d u : Nat) (hd : d ≤ 5) : inSeg of d u = (decide ((of u : Int) - 1 = (d : Int)) || (decide (4 < (d : Int)) && decide ((of u : Int) - 1 < 0))) := by
  have h1 := h u
  unfold inSeg
  rw [Bool.eq_iff_iff, decide_eq_true_iff, Bool.or_eq_true, Bool.and_eq_true, decide_eq_true_iff, decide_eq_true_iff, decide_eq_true_iff]
  split <;> omega
theorem ofD_le (ps : List (List Nat)) (u : Nat) : ofD ps u ≤ 5 := dg_le _
end Go.Proofs.YthlmgpllapccfaaGreatDoor
/- THE STATEMENTS' own listed. -/
namespace Go.Proofs.YthlmgpllapccfaaGreatDoor
open Go.RowKit

set_option maxRecDepth 100000 in
set_option maxHeartbeats 1000000 in
theorem klisted_any (b : Nat → Bool) (w : World) :
    Calls Tryz.prog 23 #[.agg (bv b)] w fun e w' => e = .returned (.string (bs (lsd b 7))) ∧ Below w.heap.size w w' := by
  go_enter Tryz.func23, Tryz.ntmps23
  go_wp2
  refine wp_forget (fun W => Blk W w.heap.size (bv b) 45 ∧ Below w.heap.size w W) ⟨Blk.new w _ _, by go_grown⟩ ?_
  rintro W ⟨b1, hbel⟩
  have HH := hidV (And.intro b1 hbel)
  clear b1 hbel
  go_loopg [3, 4] 7 (fun gm v3 v4 wr => ∃ k : Nat, gm = 7 - k ∧ k ≤ 7 ∧ v4 = .int .i64 k ∧ v3 = .string (bs (lsd b k)) ∧ Hid (Blk wr w.heap.size (bv b) 45 ∧ Below w.heap.size w wr))
  case atStart => exact ⟨0, rfl, by omega, rfl, rfl, HH⟩
  case round =>
    obtain ⟨k, hgm, hk, rfl, rfl, HD⟩ := hrel
    clear HH W
    by_cases h7 : k < 7
    · have hc : wr.cell? ⟨w.heap.size, k, none⟩ = some (.bool (b k)) := by rw [HD.out.1.cell]; exact bv_get b h7
      have k0 : (0 : Int) ≤ (k : Int) := by omega
      have k1 : (k : Int) < 7 := by omega
      have HL := hidV (lsd_len b k)
      have HY := hidV (@lsd_yes b k)
      have HN := hidV (@lsd_no b k)
      generalize b k = bk at *
      cases bk with
      | false =>
        have HS := hidV (HN.out rfl)
        clear HN HY
        go_wp2
        go_roundg (7 - (k + 1))
        case measure => omega
        case rel => exact ⟨k + 1, rfl, by omega, by go_num, by rw [HS.out], HD⟩
      | true =>
        have HS := hidV (HY.out rfl)
        clear HN HY
        generalize hX : lsd b k = X at *
        have HX := hidV hX
        clear hX
        by_cases hE : X = []
        · have hE' : (bs X).toList.isEmpty = true := by rw [bs_empty, hE]; rfl
          rw [if_pos hE] at HS
          have HXE := hidV hE
          clear hE
          obtain ⟨Y, HYY⟩ : ∃ Y, Hid (X ++ [dgt k] = Y) := ⟨_, hidV rfl⟩
          have hadd := fun (w' : World) => add_to X [dgt k] Y (bs [dgt k]) rfl HYY.out (by have := HL.out; omega) (by simp) w'
          go_wp2_with (go_at_call 17; refine (kdigit_any k _ _ (by rfl) (by omega)).mono ?_; rintro e w1 ⟨rfl, hb1⟩; have HB1 := hidV hb1; clear hb1)
          go_roundg (7 - (k + 1))
          case measure => omega
          case rel => exact ⟨k + 1, rfl, by omega, by go_num, by rw [HS.out, ← HYY.out, HXE.out], HD.out.1.fr (Fr.of_below (bs := []) HB1.out) (by simp), bel2 HD.out.2 HB1.out⟩
        · have hE' : (bs X).toList.isEmpty = false := by rw [bs_empty]; cases X with | nil => exact absurd rfl hE | cons _ _ => rfl
          rw [if_neg hE] at HS
          clear hE
          obtain ⟨Y, HYY⟩ : ∃ Y, Hid (X ++ [32] = Y) := ⟨_, hidV rfl⟩
          have HLY : Hid (Y.length ≤ 2 * k + 1) := by unfold Hid; rw [← HYY.out, List.length_append]; have := HL.out; simp only [List.length_cons, List.length_nil]; omega
          have hadd := fun (w' : World) => add_to X [32] Y ⟨#[32]⟩ rfl HYY.out (by have := HL.out; omega) (by simp) w'
          obtain ⟨Z, HZ⟩ : ∃ Z, Hid (Y ++ [dgt k] = Z) := ⟨_, hidV rfl⟩
          have hadd2 := fun (w' : World) => add_to Y [dgt k] Z (bs [dgt k]) rfl HZ.out (by have := HLY.out; omega) (by simp) w'
          go_wp2_with (go_at_call 17; refine (kdigit_any k _ _ (by rfl) (by omega)).mono ?_; rintro e w1 ⟨rfl, hb1⟩; have HB1 := hidV hb1; clear hb1)
          go_roundg (7 - (k + 1))
          case measure => omega
          case rel => exact ⟨k + 1, rfl, by omega, by go_num, by rw [HS.out, HYY.out, HZ.out], HD.out.1.fr (Fr.of_below (bs := []) HB1.out) (by simp), bel2 HD.out.2 HB1.out⟩
    · have ek : k = 7 := by omega
      subst ek
      go_wp2
      go_ret
      exact ⟨rfl, HD.out.2⟩
end Go.Proofs.YthlmgpllapccfaaGreatDoor
/- ADDED: the statement's own function text. -/
namespace Go.Proofs.YthlmgpllapccfaaGreatDoor
open Go.RowKit
/-- The text behind k rounds. -/
def kP (xs : List Int) (k : Nat) : List UInt8 := if k = 0 then [] else kX (xs.take k)
theorem kP_len (xs : List Int) (k : Nat) : (kP xs k).length ≤ 27 := by
  unfold kP; split
  · simp
  · exact kX_len _
theorem kP_one {xs : List Int} {x : Int} (h : xs[0]? = some x) : kP xs 1 = ktx (kT 1 (Int.tdiv x 2) 4).n (kT 1 (Int.tdiv x 2) 4).u (kT 1 (Int.tdiv x 2) 4).x := by
  cases xs with
  | nil => simp at h
  | cons y ys =>
    simp at h; subst h
    simp [kP, kX, kF, kR, its]
theorem kP_more {xs : List Int} {k : Nat} {x : Int} (h : xs[k]? = some x) (h0 : 0 < k) (h2 : k ≤ 2) : kP xs (k + 1) = kP xs k ++ (kI x).sep ++ ktx (kI x).t.n (kI x).t.u (kI x).t.x := by
  obtain ⟨k, rfl⟩ : ∃ j, k = j + 1 := ⟨k - 1, by omega⟩
  cases xs with
  | nil => simp at h
  | cons y ys =>
    have h' : ys[k]? = some x := by simpa using h
    unfold kP
    rw [if_neg (by omega), if_neg (by omega)]
    simp only [List.take_succ_cons, kX, kF, kR]
    rw [List.take_take, List.take_take, show min 2 (k + 1) = k + 1 by omega, show min 2 k = k by omega, List.take_add_one, h', List.map_append, its_append]
    simp [its]
theorem kP_end {xs : List Int} {k : Nat} (h : k = min xs.length 3) (h0 : 0 < k) : kP xs k = kX xs := by
  unfold kP
  rw [if_neg (by omega)]
  cases xs with
  | nil => simp at h; omega
  | cons y ys =>
    obtain ⟨j, rfl⟩ : ∃ j, k = j + 1 := ⟨k - 1, by omega⟩
    simp only [List.length_cons] at h
    simp only [List.take_succ_cons, kX, kF, kR]
    rw [List.take_take]
    by_cases hl : ys.length < 2
    · rw [List.take_of_length_le (by omega), List.take_of_length_le (by omega)]
    · rw [show min 2 j = 2 by omega]
end Go.Proofs.YthlmgpllapccfaaGreatDoor
/- ADDED: the statement's own function text, walked. -/
namespace Go.Proofs.YthlmgpllapccfaaGreatDoor
open Go.RowKit
set_option maxRecDepth 100000 in
set_option maxHeartbeats 2000000 in
theorem ktext_nil (a : Option Addr) (cap : Nat) (w : World) : Calls Tryz.prog 21 #[.slice a 0 cap, .int .i64 4] w fun e w' => e = .returned (.string (bs (kX []))) ∧ Below w.heap.size w w' := by
  have e : kX [] = [48] := by decide +kernel
  rw [e]
  go_enter Tryz.func21, Tryz.ntmps21
  go_wp2
  go_loopg [5, 6] 1 (fun gm v4 v5 wr => gm = 1 ∧ v4 = .string ⟨#[]⟩ ∧ v5 = .int .i64 0 ∧ wr = w)
  case atStart => exact ⟨rfl, rfl, rfl, rfl⟩
  case round =>
    obtain ⟨_, rfl, rfl, rfl⟩ := hrel
    go_wp2
    go_ret
    exact ⟨rfl, Below.refl _ _⟩
theorem add_block (a : Addr) (j : Nat) : (a.add j).block = a.block := by unfold Addr.add; split <;> rfl
set_option maxRecDepth 100000 in
set_option maxHeartbeats 2000000 in
theorem ktext_some (xs : List Int) (ad : Addr) (cap : Nat) (w : World) (hne : 0 < xs.length) (hcells : ∀ j x, xs[j]? = some x → w.cell? (ad.add j) = some (.int .i64 x) ∧ -9223372036854775808 ≤ x ∧ x ≤ 9223372036854775807) (hb : ad.block < w.heap.size) (hl : xs.length ≤ 9223372036854775807) :
    Calls Tryz.prog 21 #[.slice (some ad) xs.length cap, .int .i64 4] w fun e w' => e = .returned (.string (bs (kX xs))) ∧ Below w.heap.size w w' := by
  have HC := hidT hcells
  clear hcells
  go_enter Tryz.func21, Tryz.ntmps21
  go_wp2
  go_loopg [5, 6] 3 (fun gm v4 v5 wr => ∃ k : Nat, gm = 3 - k ∧ k ≤ 3 ∧ k ≤ xs.length ∧ v5 = .int .i64 k ∧ v4 = .string (bs (kP xs k)) ∧ Hid (Below w.heap.size w wr))
  case atStart => exact ⟨0, rfl, by omega, by omega, rfl, rfl, Below.refl _ _⟩
  case round =>
    obtain ⟨k, hgm, hk3, hkl, rfl, rfl, HB⟩ := hrel
    by_cases hlt : k < xs.length ∧ k < 3
    · obtain ⟨x, hx⟩ : ∃ x, xs[k]? = some x := ⟨_, List.getElem?_eq_getElem hlt.1⟩
      obtain ⟨c1, c2, c3⟩ := HC.out k x hx
      have c4 : wr.cell? (ad.add k) = some (.int .i64 x) := by
        rw [← c1]
        exact World.cell?_of_block (by rw [add_block]; exact HB.out.block _ hb)
      have d1 := tdiv_bd x 2 (by omega) c2 c3
      have d1' : -9223372036854775808 ≤ Int.tdiv x 2 ∧ Int.tdiv x 2 ≤ 9223372036854775807 := d1
      have hk0 : (0 : Int) ≤ (k : Int) := by omega
      have hkx : (k : Int) < (xs.length : Int) := by omega
      have hk3' : (k : Int) < 3 := by omega
      have HL := hidT (kP_len xs k)
      clear d1 c1
      by_cases h0 : k = 0
      · subst h0
        have HP := hidT (kP_one hx)
        have hE : kP xs 0 = [] := rfl
        rw [hE]
        obtain ⟨Y, HY⟩ : ∃ Y, Hid (ktx (kT 1 (Int.tdiv x 2) 4).n (kT 1 (Int.tdiv x 2) 4).u (kT 1 (Int.tdiv x 2) 4).x = Y) := ⟨_, hidT rfl⟩
        have HK := fun (w' : World) => kterm_any 1 (Int.tdiv x 2) 4 4 w' rfl (by omega) d1'.1 d1'.2
        rw [HY.out] at HK HP
        have HHK := hidT HK
        clear HK
        have hadd := fun (w' : World) => add_to [] Y Y (bs Y) rfl (by simp) (by simp) (by rw [← HY.out]; have := ktx_le (kT 1 (Int.tdiv x 2) 4).n (kT 1 (Int.tdiv x 2) 4).u (kT 1 (Int.tdiv x 2) 4).x; omega) w'
        have c5 : wr.cell? ad = some (.int .i64 x) := by simpa [Addr.add] using c4
        simp only [Int.natCast_zero] at *
        go_wp2_with (go_at_call 32; refine (HHK.out _).mono ?_; rintro e w1 ⟨rfl, hb1⟩; have HB1 := hidT hb1)
        go_roundg (3 - 1)
        case measure => omega
        case rel => exact ⟨1, rfl, by omega, by omega, rfl, by rw [HP.out], bel2 HB.out HB1.out⟩
      · by_cases hp : pck x 2 = 0
        · have HP : Hid (kP xs (k + 1) = kP xs k ++ [32, 45, 32] ++ ktx (kT 6 (Int.tdiv x 2) 4).n (kT 6 (Int.tdiv x 2) 4).u (kT 6 (Int.tdiv x 2) 4).x) := by
            unfold Hid
            rw [kP_more hx (by omega) (by omega)]
            unfold kI
            rw [if_pos hp]
          obtain ⟨Y, HY⟩ : ∃ Y, Hid (ktx (kT 6 (Int.tdiv x 2) 4).n (kT 6 (Int.tdiv x 2) 4).u (kT 6 (Int.tdiv x 2) 4).x = Y) := ⟨_, hidT rfl⟩
          have HK := fun (w' : World) => kterm_any 6 (Int.tdiv x 2) 4 4 w' rfl (by omega) d1'.1 d1'.2
          have HYL : Hid (Y.length ≤ 7) := by unfold Hid; rw [← HY.out]; exact ktx_le _ _ _
          rw [HY.out] at HK HP
          have HHK := hidT HK
          clear HK
          generalize hX : kP xs k = X at *
          have HX := hidT hX
          clear hX
          obtain ⟨Y1, HY1⟩ : ∃ Y', Hid (X ++ [32, 45, 32] = Y') := ⟨_, hidT rfl⟩
          have HL1 : Hid (Y1.length ≤ 30) := by unfold Hid; rw [← HY1.out, List.length_append]; have := HL.out; simp; omega
          obtain ⟨Y2, HY2⟩ : ∃ Y', Hid (Y1 ++ Y = Y') := ⟨_, hidT rfl⟩
          have hadd1 := fun (w' : World) => add_to X [32, 45, 32] Y1 ⟨#[32, 45, 32]⟩ rfl HY1.out (by have := HL.out; omega) (by simp) w'
          have hadd2 := fun (w' : World) => add_to Y1 Y Y2 (bs Y) rfl HY2.out (by have := HL1.out; omega) (by have := HYL.out; omega) w'
          have hk1 : (0 : Int) < (k : Int) := by omega
          have hpq : (pck x 2 : Int) = 0 := by omega
          go_wp2_with (first | (go_at_call 12; refine (kpick_to x 2 _ _ _ (by rfl) (by rfl) (by omega) (by omega) c2 c3).mono ?_; rintro e w0 ⟨rfl, rfl⟩) | (go_at_call 32; refine (HHK.out _).mono ?_; rintro e w1 ⟨rfl, hb1⟩; have HB1 := hidT hb1))
          go_roundg (3 - (k + 1))
          case measure => omega
          case rel => exact ⟨k + 1, rfl, by omega, by omega, by go_num, by rw [HP.out, HY1.out, HY2.out], bel2 HB.out HB1.out⟩
        · have HP : Hid (kP xs (k + 1) = kP xs k ++ [43] ++ ktx (kT 1 (Int.tdiv x 2) 4).n (kT 1 (Int.tdiv x 2) 4).u (kT 1 (Int.tdiv x 2) 4).x) := by
            unfold Hid
            rw [kP_more hx (by omega) (by omega)]
            unfold kI
            rw [if_neg hp]
          obtain ⟨Y, HY⟩ : ∃ Y, Hid (ktx (kT 1 (Int.tdiv x 2) 4).n (kT 1 (Int.tdiv x 2) 4).u (kT 1 (Int.tdiv x 2) 4).x = Y) := ⟨_, hidT rfl⟩
          have HK := fun (w' : World) => kterm_any 1 (Int.tdiv x 2) 4 4 w' rfl (by omega) d1'.1 d1'.2
          have HYL : Hid (Y.length ≤ 7) := by unfold Hid; rw [← HY.out]; exact ktx_le _ _ _
          rw [HY.out] at HK HP
          have HHK := hidT HK
          clear HK
          generalize hX : kP xs k = X at *
          have HX := hidT hX
          clear hX
          obtain ⟨Y1, HY1⟩ : ∃ Y', Hid (X ++ [43] = Y') := ⟨_, hidT rfl⟩
          have HL1 : Hid (Y1.length ≤ 30) := by unfold Hid; rw [← HY1.out, List.length_append]; have := HL.out; simp; omega
          obtain ⟨Y2, HY2⟩ : ∃ Y', Hid (Y1 ++ Y = Y') := ⟨_, hidT rfl⟩
          have hadd1 := fun (w' : World) => add_to X [43] Y1 ⟨#[43]⟩ rfl HY1.out (by have := HL.out; omega) (by simp) w'
          have hadd2 := fun (w' : World) => add_to Y1 Y Y2 (bs Y) rfl HY2.out (by have := HL1.out; omega) (by have := HYL.out; omega) w'
          have hk1 : (0 : Int) < (k : Int) := by omega
          have hpq : ¬ ((pck x 2 : Int) = 0) := by omega
          go_wp2_with (first | (go_at_call 12; refine (kpick_to x 2 _ _ _ (by rfl) (by rfl) (by omega) (by omega) c2 c3).mono ?_; rintro e w0 ⟨rfl, rfl⟩) | (go_at_call 32; refine (HHK.out _).mono ?_; rintro e w1 ⟨rfl, hb1⟩; have HB1 := hidT hb1))
          go_roundg (3 - (k + 1))
          case measure => omega
          case rel => exact ⟨k + 1, rfl, by omega, by omega, by go_num, by rw [HP.out, HY1.out, HY2.out], bel2 HB.out HB1.out⟩
    · have hke := kP_end (xs := xs) (k := k) (by omega) (by omega)
      rw [hke]
      have hpos : kX xs ≠ [] := fun q => by
        have := ktx_pos (kF xs).n (kF xs).u (kF xs).x
        unfold kX at q
        rw [List.append_eq_nil_iff] at q
        rw [q.1] at this
        simp at this
      have hE : (bs (kX xs)).toList.isEmpty = false := by rw [bs_empty]; simp [hpos]
      by_cases h1 : k < xs.length
      · have e1 : (k : Int) < (xs.length : Int) := by omega
        have e2 : ¬ ((k : Int) < 3) := by omega
        clear hpos hke
        go_wp2
        go_ret
        exact ⟨rfl, HB.out⟩
      · have e1 : ¬ ((k : Int) < (xs.length : Int)) := by omega
        clear hpos hke
        go_wp2
        go_ret
        exact ⟨rfl, HB.out⟩
end Go.Proofs.YthlmgpllapccfaaGreatDoor
/- WHAT Common, Rooted AND Parted SHARE. -/
namespace Go.Proofs.YthlmgpllapccfaaGreatDoor
open Go.RowKit

theorem os_let (n : Nat) (T : List UInt8) : oSets (bs (letL n T)) = false := by
  unfold oSets
  rw [(let_word n T).2.2]
  decide
theorem os_gcd {n d : Nat} (hn : n < 26) (hd : d < 10) : oSets (bs (qG n d)) = false := by
  have h := List.all_eq_true.1 (List.all_eq_true.1 chG_all n (List.mem_range.2 hn)) d (List.mem_range.2 hd)
  simp only [chG, Bool.and_eq_true, beq_iff_eq] at h
  unfold oSets
  rw [h.1.1.1.1.2]
  decide
theorem os_roots {n d : Nat} (hn : n < 26) (hd : d < 10) : oSets (bs (qR n d)) = false := by
  have h := List.all_eq_true.1 (List.all_eq_true.1 chR_all n (List.mem_range.2 hn)) d (List.mem_range.2 hd)
  simp only [chR, Bool.and_eq_true, beq_iff_eq] at h
  unfold oSets
  rw [h.1.1.1.1.2]
  decide
theorem os_split {n : Nat} (hn : n < 26) : oSets (bs (qS n)) = false := by
  have h := List.all_eq_true.1 chS_all n (List.mem_range.2 hn)
  simp only [chS, Bool.and_eq_true, beq_iff_eq] at h
  unfold oSets
  rw [h.1.1.2]
  decide
/-- 35 numbers without u, out of their text. -/
theorem kplain_to (g : Nat → Nat) (hg : Vec g) (S : ByteArray) (w : World) (hS : S = bs (ktl (tml g))) :
    Calls Tryz.prog 18 #[.string S] w fun e w' => e = .returned (.tuple #[.agg #[.int .i64 (g 0 : Nat), .int .i64 (g 1 : Nat), .int .i64 (g 2 : Nat), .int .i64 (g 3 : Nat), .int .i64 (g 4 : Nat)], .bool true]) ∧ Below w.heap.size w w' := by
  have h := kplain_any S (tml g) w (tml_ne g) (by rw [hS]; exact At.start _) (tml_ok g fun n _ => (hg n).1) (by rw [hS, bs_size]; have := ktl_len (tml g); have := tml_len g; omega)
  rw [tml_put] at h
  exact h
theorem kdegree_to (g : Nat → Nat) (X : Array Value) (w : World) (hX : X = #[.int .i64 (g 0 : Nat), .int .i64 (g 1 : Nat), .int .i64 (g 2 : Nat), .int .i64 (g 3 : Nat), .int .i64 (g 4 : Nat)]) :
    Calls Tryz.prog 19 #[.agg X] w fun e w' => e = .returned (.int .i64 ((dg g : Int) - 1)) ∧ Below w.heap.size w w' := by
  subst hX
  exact kdegree_any g w
def zv7 (c : Nat → Int) : Array Value := #[.int .i64 (c 0), .int .i64 (c 1), .int .i64 (c 2), .int .i64 (c 3), .int .i64 (c 4), .int .i64 (c 5), .int .i64 (c 6)]
theorem zv7_get (c : Nat → Int) {x : Nat} (h : x < 7) : (zv7 c)[x]? = some (.int .i64 (c x)) := by
  match x, h with
  | 0, _ => rfl
  | 1, _ => rfl
  | 2, _ => rfl
  | 3, _ => rfl
  | 4, _ => rfl
  | 5, _ => rfl
  | 6, _ => rfl
theorem zv7_upd (c : Nat → Int) (n : Int) {x : Nat} (h : x < 7) : (zv7 c).setIfInBounds x (.int .i64 n) = zv7 (fun j => if j = x then n else c j) := by
  match x, h with
  | 0, _ => rfl
  | 1, _ => rfl
  | 2, _ => rfl
  | 3, _ => rfl
  | 4, _ => rfl
  | 5, _ => rfl
  | 6, _ => rfl

end Go.Proofs.YthlmgpllapccfaaGreatDoor
/- THE PROGRAM's Value. -/
namespace Go.Proofs.YthlmgpllapccfaaGreatDoor
open Go.RowKit

/-- What Value answers. -/
def vv (s : ByteArray) (u x : Int) : Nat := if (rd s).e = 0 then valP (rd s).p (u % 7).toNat (x % 7).toNat else 0
def vb (s : ByteArray) : Nat := if (rd s).e = 0 then 0 else (rd s).bad
theorem m7 (u : Int) : u % 7 = ((u % 7).toNat : Int) ∧ (u % 7).toNat < 7 := by omega
set_option maxRecDepth 100000 in
set_option maxHeartbeats 2000000 in
theorem pValue_any (s : ByteArray) (u x : Int) (w : World) (hg : ErrT w) (hm : s.size ≤ 140737488351232) :
    Calls Tryz.prog 22 #[.string s, .int .i64 u, .int .i64 x] w fun e w' => e = .returned (.tuple #[.int .i64 (vv s u x), .int .i64 (rd s).e, .int .i64 (vb s)]) ∧ Below w.heap.size w w' := by
  have hu := m7 u
  have hx := m7 x
  have HU := hidV hu
  have HX := hidV hx
  clear hu hx
  have HP := hidV (Polynomial_any s w hg hm)
  clear hg hm
  unfold vv vb
  generalize rd s = R at *
  by_cases he : R.e = 0
  · rw [if_pos he, if_pos he]
    rw [he] at HP ⊢
    go_enter Tryz.func22, Tryz.ntmps22
    go_wp2_with fail
    refine HP.out.mono ?_
    rintro e w1 ⟨rfl, hgd, hbel⟩
    have HB := hidV hbel
    clear hbel HP
    go_wp2_with (first | (refine wpList_store_mid (by rfl) 76 _ _ (by rfl) w1.heap.size 0 (pv R.p) (by rfl) (by rfl) (Blk.there (Blk.new w1 _ _) (by rw [pv_size, hgd.1]; decide)) (size_poly hgd) (pv_one _) ?_) | (refine wpList_load_row (by rfl) 76 _ (by rfl) w1.heap.size (by rfl) 76 (pv R.p) (0, 0) _ (by exact Blk.setAll (Blk.new w1 _ _) _ (by rw [pv_size, hgd.1]; rfl)) Tryz.underlying76 (by rfl) (size_poly hgd) ?_))
    refine (pVal_any R.p u x _ _ _ hgd HU.out.1 HX.out.1 HU.out.2 HX.out.2).mono ?_
    rintro e w2 ⟨rfl, hbel2⟩
    have HB2 := hidV hbel2
    clear hbel2
    go_wp2
    go_ret3
    refine ⟨rfl, ?_⟩
    refine Fr.below (bs := []) ((Fr.setCells (Fr.alloc (Fr.of_below HB.out) _) _ _ _ (Or.inr HB.out.size)).trans (Fr.of_below (bs := []) (by exact HB2.out)) (by simp)) (Nat.le_refl _) (by simp)
  · rw [if_neg he, if_neg he]
    have he' : ((R.e : Int) != 0) = true := by rw [bne_iff_ne]; omega
    go_enter Tryz.func22, Tryz.ntmps22
    go_wp2_with fail
    refine HP.out.mono ?_
    rintro e w1 ⟨rfl, hgd, hbel⟩
    have HB := hidV hbel
    clear hbel HP
    go_wp2_with (first | (refine wpList_store_mid (by rfl) 76 _ _ (by rfl) w1.heap.size 0 (pv R.p) (by rfl) (by rfl) (Blk.there (Blk.new w1 _ _) (by rw [pv_size, hgd.1]; decide)) (size_poly hgd) (pv_one _) ?_))
    go_ret3
    refine ⟨rfl, ?_⟩
    exact Fr.below (bs := []) (Fr.setCells (Fr.alloc (Fr.of_below HB.out) _) _ _ _ (Or.inr HB.out.size)) (Nat.le_refl _) (by simp)
theorem pV_at {s : ByteArray} {p : List Nat} (h : rd s = ⟨0, 0, p⟩) (hs : s.size ≤ 1000) (u x : Nat) {V : Nat} (hV : valP p (u % 7) (x % 7) = V) (S : ByteArray) (U X : Int) (w : World) (hg : ErrT w) (hS : S = s) (hU : U = u) (hX : X = x) :
    Calls Tryz.prog 22 #[.string S, .int .i64 U, .int .i64 X] w fun e w' => e = .returned (.tuple #[.int .i64 V, .int .i64 0, .int .i64 0]) ∧ Below w.heap.size w w' := by
  subst hS hU hX
  have k := pValue_any S u x w hg (by omega)
  have e1 : ((u : Int) % 7).toNat = u % 7 := by omega
  have e2 : ((x : Int) % 7).toNat = x % 7 := by omega
  unfold vv vb at k
  rw [h] at k
  simp only [if_true, e1, e2] at k
  rw [hV] at k
  exact k
end Go.Proofs.YthlmgpllapccfaaGreatDoor
/- A QUIET OPERATION WITH A KNOWN VALUE. -/
namespace Go.Proofs.YthlmgpllapccfaaGreatDoor
open Go.RowKit

theorem wpQuiet_val {P : Program} {ops : Array Oper} {C : World → Prop} {Q : Act → Prop} {a : Act} {o : Oper} {rest : List Oper} (hgd : o.guard = none) (v : Value) (hr : ∀ w, (execOp a.eval o).run P w = .ok (.value v) w)
    (h : wpQuiet P ops C Q rest (a.put o.dst v)) : wpQuiet P ops C Q (o :: rest) a :=
  BigFrame.wpQuiet_want (by unfold Region.wanted; rw [hgd]) (fun K hK => ⟨v, fun w _ => by
    unfold Oper.quietAt
    rw [hr w]
    exact ⟨rfl, rfl⟩, hK _ h⟩)
end Go.Proofs.YthlmgpllapccfaaGreatDoor
/- ROOTED: THE WALK. -/
namespace Go.Proofs.YthlmgpllapccfaaGreatDoor
open Go.RowKit

set_option maxRecDepth 100000 in
set_option maxHeartbeats 2000000 in
theorem lawRooted_any (x y : Value) (u : Int) (xs ys : List Int) (W : World) (hg : ErrT W) (hu : -9223372036854775808 ≤ u ∧ u ≤ 9223372036854775807)
    (hX : ∀ w', Below W.heap.size W w' → Calls Tryz.prog 21 #[x, .int .i64 4] w' fun e w'' => e = .returned (.string (bs (kX xs))) ∧ Below w'.heap.size w' w'')
    (hY : ∀ w', Below W.heap.size W w' → Calls Tryz.prog 21 #[y, .int .i64 4] w' fun e w'' => e = .returned (.string (bs (kX ys))) ∧ Below w'.heap.size w' w'') :
    Calls Tryz.prog 5 #[x, y, .int .i64 u] W fun e w' => e = .returned (.bool true) ∧ Below W.heap.size W w' := by
  have HG := hidV hg
  have HX := hidT hX
  have HY := hidT hY
  clear hg hX hY
  have HLX := hidV (kX_len xs)
  have HLY := hidV (kX_len ys)
  have HLET := hidV (raw_let st1 (n := 25) (by omega) xs ys [32, 44, 32] (Or.inr rfl) (by unfold letL; simp only [List.length_append, List.length_cons, List.length_nil]; have := HLX.out; have := HLY.out; omega))
  have HOS := hidV (os_let 25 (kX xs ++ ([32, 44, 32] ++ kX ys)))
  obtain ⟨P, HP⟩ : ∃ P, Hid (sumP (kTs xs) = P) := ⟨_, rfl⟩
  obtain ⟨Q, HQ⟩ : ∃ Q, Hid (sumP (kTs ys) = Q) := ⟨_, rfl⟩
  rw [HP.out, HQ.out] at HLET
  obtain ⟨S2, HS2⟩ : ∃ S, Hid (upd st1 25 (.sys [P, Q]) = S) := ⟨_, rfl⟩
  rw [HS2.out] at HLET
  obtain ⟨n, HN⟩ : ∃ n, Hid (pck u 10 = n) := ⟨_, hidV rfl⟩
  have hn : n < 10 := by rw [← HN.out]; exact pck_lt _ (by omega)
  have HGC := hidV (raw_gcd st1 (n := 25) (by omega) hn P Q)
  have HRT := hidV (raw_roots st1 (n := 25) (by omega) hn P Q)
  rw [HS2.out] at HGC HRT
  have HRX : Hid (rd (bs (kX xs)) = ⟨0, 0, P⟩) := by unfold Hid; rw [← HP.out]; exact rd_one xs
  have HRY : Hid (rd (bs (kX ys)) = ⟨0, 0, Q⟩) := by unfold Hid; rw [← HQ.out]; exact rd_one ys
  have HGV : Hid (Vec (gall [lnF (n % 7) P, lnF (n % 7) Q])) := (gall_any _ (by intro l hl; simp only [List.mem_cons, List.not_mem_nil, or_false] at hl; rcases hl with e | e <;> (rw [e]; exact lnF_vec _ _))).1
  have HLAW := hidV (rooted_law (n % 7) P Q)
  obtain ⟨G, HGG⟩ : ∃ G, Hid (gall [lnF (n % 7) P, lnF (n % 7) Q] = G) := ⟨_, hidV rfl⟩
  rw [HGG.out] at HGC HGV HLAW
  obtain ⟨I, HI⟩ : ∃ I, Hid (rts [lnF (n % 7) P, lnF (n % 7) Q] = I) := ⟨_, hidV rfl⟩
  rw [HI.out] at HRT
  have HIN : Hid (∀ z, I z = (decide (pows (lnF (n % 7) P) z 5 = 0) && decide (pows (lnF (n % 7) Q) z 5 = 0))) := by
    unfold Hid
    intro z
    rw [← HI.out]
    unfold rts
    simp
  have HOG := hidV (os_gcd (n := 25) (by omega) hn)
  have HOR := hidV (os_roots (n := 25) (by omega) hn)
  obtain ⟨LG, HLG⟩ : ∃ L, Hid (qG 25 n = L) := ⟨_, hidV rfl⟩
  obtain ⟨LR, HLR⟩ : ∃ L, Hid (qR 25 n = L) := ⟨_, hidV rfl⟩
  have HLG' : Hid ([103, 99, 100, 32, 90, 32] ++ [dgt n] = LG) := HLG.out
  have HLR' : Hid ([114, 111, 111, 116, 115, 32, 90, 32] ++ [dgt n] = LR) := HLR.out
  have hl7 : LG.length = 7 := by rw [← HLG.out]; rfl
  have hl9 : LR.length = 9 := by rw [← HLR.out]; rfl
  rw [HLG.out] at HGC HOG
  rw [HLR.out] at HRT HOR
  obtain ⟨T, HT⟩ : ∃ T, Hid (ktl (tml G) = T) := ⟨_, hidV rfl⟩
  have HTR : Hid (rd (bs T) = ⟨0, 0, upL G⟩) := by unfold Hid; rw [← HT.out]; exact up_read HGV.out
  have HTL : Hid (T.length ≤ 30) := by unfold Hid; rw [← HT.out, ← txt_tml]; exact up_len G
  rw [HT.out] at HGC
  generalize kX xs = X at *
  generalize kX ys = Y at *
  obtain ⟨Z1, HZ1⟩ : ∃ Z, Hid ([108, 101, 116, 32, 90, 32, 61, 32] ++ X = Z) := ⟨_, hidV rfl⟩
  obtain ⟨Z2, HZ2⟩ : ∃ Z, Hid (Z1 ++ [32, 44, 32] = Z) := ⟨_, hidV rfl⟩
  obtain ⟨Z3, HZ3⟩ : ∃ Z, Hid (Z2 ++ Y = Z) := ⟨_, hidV rfl⟩
  have HZE : Hid (letL 25 (X ++ ([32, 44, 32] ++ Y)) = Z3) := by unfold Hid; rw [← HZ3.out, ← HZ2.out, ← HZ1.out]; unfold letL; simp only [List.append_assoc]; rfl
  have HZ1L : Hid (Z1.length ≤ 35) := by unfold Hid; rw [← HZ1.out]; simp only [List.length_append, List.length_cons, List.length_nil]; have := HLX.out; omega
  have HZ2L : Hid (Z2.length ≤ 38) := by unfold Hid; rw [← HZ2.out]; simp only [List.length_append, List.length_cons, List.length_nil]; have := HZ1L.out; omega
  have HZ3L : Hid (Z3.length ≤ 65) := by unfold Hid; rw [← HZ3.out]; simp only [List.length_append]; have := HZ2L.out; have := HLY.out; omega
  rw [HZE.out] at HLET HOS
  have ha1 := fun (w' : World) => add_to0 [108, 101, 116, 32, 90, 32, 61, 32] ⟨#[108, 101, 116, 32, 90, 32, 61, 32]⟩ X Z1 (bs X) rfl rfl HZ1.out (by simp) (by have := HLX.out; omega) w'
  have ha2 := fun (w' : World) => add_to Z1 [32, 44, 32] Z2 ⟨#[32, 44, 32]⟩ rfl HZ2.out (by have := HZ1L.out; omega) (by simp) w'
  have ha3 := fun (w' : World) => add_to Z2 Y Z3 (bs Y) rfl HZ3.out (by have := HZ2L.out; omega) (by have := HLY.out; omega) w'
  have hB : 0 < W.heap.size := HG.out.lt
  have ha4 := fun (w' : World) => add_to0 [103, 99, 100, 32, 90, 32] ⟨#[103, 99, 100, 32, 90, 32]⟩ [dgt n] LG (bs [dgt n]) rfl rfl HLG'.out (by simp) (by simp) w'
  have ha5 := fun (w' : World) => add_to0 [114, 111, 111, 116, 115, 32, 90, 32] ⟨#[114, 111, 111, 116, 115, 32, 90, 32]⟩ [dgt n] LR (bs [dgt n]) rfl rfl HLR'.out (by simp) (by simp) w'
  go_enter Tryz.func5, Tryz.ntmps5
  go_wp2_with fail
  refine (begun_any W HG.out).mono ?_
  rintro e w1 ⟨sb, bm, rfl, s1, f1⟩
  have HS1 := hidV s1
  have HF1 := hidV f1
  clear s1 f1
  go_wp2_with fail
  refine (HX.out w1 (HF1.out.below (Nat.le_refl _) (by simp))).mono ?_
  rintro e w2 ⟨rfl, b2⟩
  have HF2 : Hid (Fr [] W w2 ∧ Sess W.heap.size w2 [bm] sb bm st1) := ⟨HF1.out.trans (Fr.of_below (bs := []) b2) (by simp), HS1.out.fr (Fr.of_below b2)⟩
  clear b2 HF1 HS1
  go_wp2_with fail
  refine (HY.out w2 (HF2.out.1.below (Nat.le_refl _) (by simp))).mono ?_
  rintro e w3 ⟨rfl, b3⟩
  have HF3 : Hid (Fr [] W w3 ∧ Sess W.heap.size w3 [bm] sb bm st1) := ⟨HF2.out.1.trans (Fr.of_below (bs := []) b3) (by simp), HF2.out.2.fr (Fr.of_below b3)⟩
  clear b3 HF2
  go_wp2_with fail
  have HPK := hidV (kpick_to u 10 u 10 w3 rfl rfl (by omega) (by omega) hu.1 hu.2)
  rw [HN.out] at HPK
  refine HPK.out.mono ?_
  rintro e w ⟨rfl, rfl⟩
  clear HPK
  go_wp2_with fail
  refine (HF3.out.2.says hB (bs Z3) _ S2 [] (by rw [bs_size]; have := HZ3L.out; omega) HOS.out HLET.out rfl).mono ?_
  rintro e w4 ⟨rfl, s4, f4⟩
  have HF4 : Hid (Fr [] W w4 ∧ Sess W.heap.size w4 [bm] sb bm S2) := ⟨HF3.out.1.trans f4 (by simp; exact HF3.out.2.lo), s4⟩
  clear s4 f4 HF3 ha1 ha2 ha3
  go_wp2_with fail
  refine (kdigit_any n _ _ (by rfl) hn).mono ?_
  rintro e w5 ⟨rfl, b5⟩
  have HF5 : Hid (Fr [] W w5 ∧ Sess W.heap.size w5 [bm] sb bm S2) := ⟨HF4.out.1.trans (Fr.of_below (bs := []) b5) (by simp), HF4.out.2.fr (Fr.of_below b5)⟩
  clear b5 HF4
  go_wp2_with fail
  refine (HF5.out.2.does hB (bs LG) S2 _ (by rw [bs_size]; omega) HOG.out HGC.out).mono ?_
  rintro e w6 ⟨rfl, s6, f6⟩
  have HF6 : Hid (Fr [] W w6 ∧ Sess W.heap.size w6 [bm] sb bm S2) := ⟨HF5.out.1.trans f6 (by simp; exact HF5.out.2.lo), s6⟩
  clear s6 f6 HF5
  go_wp2
  refine wp_forget (fun V => Blk V w6.heap.size (bv fun _ => false) 45 ∧ Fr [] W V ∧ Sess W.heap.size V [w6.heap.size, bm] sb bm S2) ⟨Blk.new w6 _ _, HF6.out.1.alloc _, HF6.out.2.alloc _⟩ ?_
  rintro V ⟨b1, b2, b3⟩
  have HV := hidV (And.intro b1 (And.intro b2 b3))
  have hob : W.heap.size ≤ w6.heap.size := HF6.out.1.size
  clear b1 b2 b3 HF6
  generalize w6.heap.size = ob at *
  go_loopg [16] 7 (fun gm v16 wr => ∃ z : Nat, ∃ c : Nat → Bool, gm = 7 - z ∧ z ≤ 7 ∧ v16 = .int .i64 z ∧ Hid (∀ v, v < z → c v = I v) ∧ Hid (Blk wr ob (bv c) 45 ∧ Fr [] W wr ∧ Sess W.heap.size wr [ob, bm] sb bm S2))
  case atStart => exact ⟨0, _, rfl, by omega, rfl, fun v hv => by omega, HV⟩
  case round =>
    obtain ⟨z, c, hgm, hz, rfl, HC, HD⟩ := hrel
    clear HV V
    by_cases hz7 : z < 7
    · have z0 : (0 : Int) ≤ (z : Int) := by omega
      have z1 : (z : Int) < 7 := by omega
      obtain ⟨A, HA⟩ : ∃ A, Hid (pows (lnF (n % 7) P) z 5 = A) := ⟨_, hidV rfl⟩
      obtain ⟨E, HE⟩ : ∃ A, Hid (pows (lnF (n % 7) Q) z 5 = A) := ⟨_, hidV rfl⟩
      obtain ⟨C, HCC⟩ : ∃ A, Hid (pows G z 5 = A) := ⟨_, hidV rfl⟩
      have hlaw : (A = 0 ∧ E = 0) ↔ C = 0 := by rw [← HA.out, ← HE.out, ← HCC.out]; exact HLAW.out z
      have HIX : Hid (I z = (decide (A = 0) && decide (E = 0))) := by unfold Hid; rw [← HA.out, ← HE.out]; exact HIN.out z
      have HVA := hidV (fun S U X w h a b c => pV_at HRX.out (by rw [bs_size]; have := HLX.out; omega) n z (V := A) (by rw [show z % 7 = z by omega, valP_pows]; exact HA.out) S U X w h a b c)
      have HVE := hidV (fun S U X w h a b c => pV_at HRY.out (by rw [bs_size]; have := HLY.out; omega) n z (V := E) (by rw [show z % 7 = z by omega, valP_pows]; exact HE.out) S U X w h a b c)
      have HVC := hidV (fun S U X w h a b c => pV_at HTR.out (by rw [bs_size]; have := HTL.out; omega) 0 z (V := C) (by rw [show z % 7 = z by omega, valP_up HGV.out]; exact HCC.out) S U X w h a b c)
      go_wp2_with fail
      refine (HVA.out _ _ _ _ HD.out.2.2.err rfl rfl rfl).mono ?_
      rintro e w1 ⟨rfl, b1⟩
      have HD1 : Hid (Blk w1 ob (bv c) 45 ∧ Fr [] W w1 ∧ Sess W.heap.size w1 [ob, bm] sb bm S2) := ⟨HD.out.1.fr (Fr.of_below (bs := []) b1) (by simp), HD.out.2.1.trans (Fr.of_below (bs := []) b1) (by simp), HD.out.2.2.fr (Fr.of_below b1)⟩
      clear b1 HD
      go_wp2_with fail
      refine (HVE.out _ _ _ _ HD1.out.2.2.err rfl rfl rfl).mono ?_
      rintro e w2 ⟨rfl, b2⟩
      have HD2 : Hid (Blk w2 ob (bv c) 45 ∧ Fr [] W w2 ∧ Sess W.heap.size w2 [ob, bm] sb bm S2) := ⟨HD1.out.1.fr (Fr.of_below (bs := []) b2) (by simp), HD1.out.2.1.trans (Fr.of_below (bs := []) b2) (by simp), HD1.out.2.2.fr (Fr.of_below b2)⟩
      clear b2 HD1
      go_wp2_with fail
      refine (HVC.out _ _ _ _ HD2.out.2.2.err rfl rfl rfl).mono ?_
      rintro e w3 ⟨rfl, b3⟩
      have HD3 : Hid (Blk w3 ob (bv c) 45 ∧ Fr [] W w3 ∧ Sess W.heap.size w3 [ob, bm] sb bm S2) := ⟨HD2.out.1.fr (Fr.of_below (bs := []) b3) (by simp), HD2.out.2.1.trans (Fr.of_below (bs := []) b3) (by simp), HD2.out.2.2.fr (Fr.of_below b3)⟩
      clear b3 HD2
      have hc2 : w3.cell? ⟨ob, z, none⟩ = some (.bool (c z)) := by rw [HD3.out.1.cell]; exact bv_get c hz7
      have hc3 : w3.frozen? ⟨ob, z, none⟩ = false := HD3.out.1.frozen _
      generalize c z = dz at hc2
      have key : ∀ v : Bool, v = I z → Hid (∃ c'' : Nat → Bool, (∀ u, u < z + 1 → c'' u = I u) ∧ Blk (w3.setCell ⟨ob, z, none⟩ (.bool v)) ob (bv c'') 45 ∧ Fr [] W (w3.setCell ⟨ob, z, none⟩ (.bool v)) ∧ Sess W.heap.size (w3.setCell ⟨ob, z, none⟩ (.bool v)) [ob, bm] sb bm S2) := by
        intro v hv
        have f9 : Fr [ob] w3 (w3.setCell ⟨ob, z, none⟩ (.bool v)) := Fr.setCell (Fr.refl _ _) _ _ (Or.inl (by simp))
        refine ⟨fun j => if j = z then v else c j, fun u hu => ?_, ?_, ?_, ?_⟩
        · dsimp only
          by_cases e : u = z
          · rw [if_pos e, e, hv]
          · rw [if_neg e]; exact HC.out u (by omega)
        · rw [← bv_upd c v hz7]; exact HD3.out.1.set _ _
        · exact HD3.out.2.1.trans f9 (by simp; omega)
        · exact HD3.out.2.2.frs hB f9 (by intro k hk; simp at hk; subst hk; exact ⟨by simp, HD3.out.2.2.ne HD3.out.1⟩)
      by_cases hA : A = 0
      · have hA' : ((A : Int) == 0) = true := by rw [beq_iff_eq]; omega
        by_cases hB2 : E = 0
        · have hE' : ((E : Int) == 0) = true := by rw [beq_iff_eq]; omega
          have hC' : ((C : Int) == 0) = true := by rw [beq_iff_eq]; have := hlaw.1 ⟨hA, hB2⟩; omega
          have KEY := key true (by rw [HIX.out]; simp [hA, hB2])
          clear key
          obtain ⟨c'', k1, k2⟩ := KEY
          have K1 := hidV k1
          have K2 := hidV k2
          clear k1 k2
          go_wp2
          go_roundg (7 - (z + 1))
          case measure => omega
          case rel => exact ⟨z + 1, c'', rfl, by omega, by go_num, K1, K2⟩
        · have hE' : ((E : Int) == 0) = false := by rw [beq_eq_false_iff_ne]; omega
          have hC' : ((C : Int) == 0) = false := by rw [beq_eq_false_iff_ne]; intro q; exact hB2 (hlaw.2 (by omega)).2
          have KEY := key false (by rw [HIX.out]; simp [hA, hB2])
          clear key
          obtain ⟨c'', k1, k2⟩ := KEY
          have K1 := hidV k1
          have K2 := hidV k2
          clear k1 k2
          go_wp2
          go_roundg (7 - (z + 1))
          case measure => omega
          case rel => exact ⟨z + 1, c'', rfl, by omega, by go_num, K1, K2⟩
      · have hA' : ((A : Int) == 0) = false := by rw [beq_eq_false_iff_ne]; omega
        have hC' : ((C : Int) == 0) = false := by rw [beq_eq_false_iff_ne]; intro q; exact hA (hlaw.2 (by omega)).1
        have KEY := key false (by rw [HIX.out]; simp [hA])
        clear key
        obtain ⟨c'', k1, k2⟩ := KEY
        have K1 := hidV k1
        have K2 := hidV k2
        clear k1 k2
        go_wp2
        go_roundg (7 - (z + 1))
        case measure => omega
        case rel => exact ⟨z + 1, c'', rfl, by omega, by go_num, K1, K2⟩
    · have ez : z = 7 := by omega
      subst ez
      have HLI := hidV (klisted_any c)
      rw [lsd_congr 7 HC.out] at HLI
      generalize hYL : lsd I 7 = YL at HLI HRT
      clear hYL
      have hsz := size_bool7 c
      obtain ⟨y, HYY⟩ : ∃ y, Hid (bv c = y) := ⟨_, hidV rfl⟩
      rw [HYY.out] at HLI HD hsz
      go_wp2_with fail
      refine region_class_tail (fun w' => Fr [] wr w') ((Fr.refl [] wr).drew) 6 (by kernel_rfl) (by kernel_rfl) ?_
      simp only [List.take_succ_cons, List.take_zero, List.drop_succ_cons, List.drop_zero]
      refine wpQuiet_mv (by rfl) _ (by rfl) ?_
      go_frame
      refine wpQuiet_mv (by rfl) _ (by rfl) ?_
      go_frame
      refine wpQuiet_calls (by rfl) 17 #[.int .i64 n] (.string (bs [dgt n])) (fun w' => by go_simp) (fun w' hw' => (kdigit_any n _ w' (by rfl) hn).mono (fun e w'' h => ⟨h.1, hw'.trans (Fr.of_below (bs := []) h.2) (by simp)⟩)) ?_
      go_frame
      refine wpQuiet_val (by rfl) (.string (bs LR)) (fun w' => by go_simp) ?_
      go_frame
      refine wpQuiet_ld (by rfl) 45 _ (by rfl) ob (by rfl) y _ (fun w' hw' => HD.out.1.fr hw' (by simp)) Tryz.underlying45 rfl hsz ?_
      go_frame
      refine wpQuiet_calls (by rfl) 23 #[.agg y] (.string (bs YL)) (fun w' => by go_simp) (fun w' hw' => (HLI.out w').mono (fun e w'' h => ⟨h.1, hw'.trans (Fr.of_below (bs := []) h.2) (by simp)⟩)) ?_
      go_frame
      refine wpQuiet_nil ?_
      intro w5 hw5
      have HD5 : Hid (Fr [] W w5 ∧ Sess W.heap.size w5 [ob, bm] sb bm S2) := ⟨HD.out.2.1.trans hw5 (by simp), HD.out.2.2.fr hw5⟩
      clear hw5
      go_wp2_with fail
      refine (HD5.out.2.says hB (bs LR) _ S2 _ (by rw [bs_size]; omega) HOR.out HRT.out rfl).mono ?_
      rintro e w6 ⟨rfl, s6, f6⟩
      have HE : Hid (Fr [] W w6) := HD5.out.1.trans f6 (by simp; exact HD5.out.2.lo)
      clear s6 f6
      go_wp2
      go_ret
      exact ⟨rfl, HE.out.below (Nat.le_refl _) (by simp)⟩
end Go.Proofs.YthlmgpllapccfaaGreatDoor
/- THE PROGRAM: a line that is too long, however long it is. -/
namespace Go.Proofs.YthlmgpllapccfaaGreatDoor
open Go.RowKit
variable {M : Value} {D : Int} {O : Bool}

set_option maxHeartbeats 1000000 in
theorem begin_far (s : ByteArray) (b : Nat) (t : Tok) (w : World) (hr : Rd w b s M D O t) (h : 90 < s.size) (hm : s.size ≤ 1000000000000000) :
    Calls Tryz.prog 70 #[.pointer (some ⟨b, 0, none⟩)] w fun e w' => e = .panicked (faulty 2 0) ∧ w' = w := by
  have h' : ((s.size : Nat) : Int) > 90 := by omega
  obtain ⟨c0, c1, c2, c3, c4⟩ := hr.cells
  have hb : b < w.heap.size := Blk.lt hr
  clear hr
  go_enter Tryz.func70, Tryz.ntmps70
  go_wp2_with (go_at_call 78; refine (fail_any _ _ _).mono ?_; rintro e w2 ⟨rfl, rfl⟩)
  exact ⟨rfl, rfl, rfl⟩

set_option maxRecDepth 100000 in
set_option maxHeartbeats 1000000 in
theorem readCmd_far (s : ByteArray) (b : Nat) (M : Value) (t : Tok) (w : World) (hr : Rd w b s M 0 false t) (hg : ErrT w) (hl : 90 < s.size) (hm : s.size ≤ 1000000000000000) :
    Calls Tryz.prog 43 #[.pointer (some ⟨b, 0, none⟩), .func (.func 44) #[] #[]] w fun e w' => e = .returned (.tuple #[.nilIface, .int .i64 2, .int .i64 0]) ∧ Fr [b] w w' := by
  have hmf : ∀ (fn : Fn) (first cap : Array Value) (w : World), (Instr.makeFunc fn first cap).run Tryz.prog w = .ok (.func fn first cap) w := fun _ _ _ _ => rfl
  have HG := hidV hg
  have HR := hidV hr
  clear hg hr
  go_enter_defers Tryz.func43, Tryz.ntmps43
  go_wp2_with fail
  refine (begin_far s b t _ (by exact Blk.alloc (Blk.alloc (Blk.alloc HR.out _) _) _) hl hm).mono ?_
  rintro e w1 ⟨rfl, rfl⟩
  go_wp2
  exact caughtC b w _ _ .nilIface 2 0 _ rfl rfl rfl (three0C w) (HG.out.fr (bs := []) ((((Fr.refl [] w).alloc _).alloc _).alloc _) (by simp)) ((((Fr.refl [b] w).alloc _).alloc _).alloc _) (fun W' h => ⟨rfl, h⟩)

set_option maxRecDepth 100000 in
set_option maxHeartbeats 1000000 in
theorem LineRead_far (s : ByteArray) (bm : Nat) (w : World) (hg : ErrT w) (hl : 90 < s.size) (hm : s.size ≤ 1000000000000000) :
    Calls Tryz.prog 31 #[.string s, .map (some bm)] w fun e w' => e = .returned (.tuple #[.nilIface, .int .i64 2, .int .i64 0]) ∧ Fr [] w w' := by
  have HG := hidV hg
  clear hg
  go_enter Tryz.func31, Tryz.ntmps31
  go_wp2_with fail
  refine (readCmd_far s w.heap.size (.map (some bm)) ⟨0, 0, 0, 0⟩ _ (by exact Blk.new w _ _) (HG.out.fr (bs := []) ((Fr.refl [] w).alloc _) (by simp)) hl hm).mono ?_
  rintro e w1 ⟨rfl, hf1⟩
  go_wp2
  go_ret3
  exact ⟨rfl, ((Fr.refl [] w).alloc _).trans hf1 (by simp)⟩

theorem pDo_far (s : ByteArray) (b bm : Nat) (Ms : List Nat) (st : Nat → Mng) (w : World) (hP : Ps w Ms b bm st) (hg : ErrT w) (hl : 90 < s.size) (hm : s.size ≤ 1000000000000000) :
    Calls Tryz.prog 16 #[.pointer (some ⟨b, 0, none⟩), .string s] w (DoPost w Ms bm ⟨2, 0, [], st⟩) := by
  refine (pDo_bad s b bm 2 0 w hP.blk (by decide) (LineRead_far s bm w hg hl hm)).mono ?_
  rintro x w1 ⟨rfl, hf⟩
  exact ⟨rfl, hP.nm.fr hf (by simp) (by simp), hf.mono (by simp)⟩

end Go.Proofs.YthlmgpllapccfaaGreatDoor
/- THE READER: a name that means a set. -/
namespace Go.Proofs.YthlmgpllapccfaaGreatDoor
open Go.RowKit
variable {D : Int} {O : Bool}

theorem exit_forget {Q : Exit → Act → World → Prop} {e : Exit} {a : Act} {w : World} (I : World → Prop) (hI : I w) (h : ∀ W, I W → Q e a W) : Q e a w := h w hI
set_option maxRecDepth 100000 in
set_option maxHeartbeats 2000000 in
theorem namedSet_any (s : ByteArray) (f : Nat → Tok) (k b bm : Nat) (Ms : List Nat) (st : Nat → Mng) (ok : Nat → Bool) (w : World) (hs : s.size ≤ 1000) (ha : Str s f) (hn : Nam s f) (hr : Rd w b s (.map (some bm)) D O (f k)) (hm : Nm w Ms bm st) (hbm : b ≠ bm) (hbM : b ∈ Ms) (hok : ∀ a, ok a = decide ((st a).kd = 2)) :
    Calls Tryz.prog 77 #[.pointer (some ⟨b, 0, none⟩)] w (RP w b s (.map (some bm)) D O f (nmS f ok ⟨k, 0, 0⟩) (fun v w' => NV w' Ms (st ((f k).c - 69)) (some (.iface 155 v)))) := by
  have HR := hidV hr
  have HA := hidV ha
  have hb : b < w.heap.size := Blk.lt hr
  clear hr ha
  by_cases h1 : isN (f k) = true
  · rw [nm_eq h1, hok]
    have HPK : Hid (pk (f k).c = 4) := pk_4.2 ((isN_iff _).1 h1)
    have hci := (isN_iff _).1 h1
    obtain ⟨hby, hin⟩ := hn k h1
    have hbc := byt_cast hin
    have hbs := byt_small hin
    obtain ⟨a, HAA, ha26, hca⟩ : ∃ a, Hid ((f k).c - 69 = a) ∧ a < 26 ∧ byt s (f k).at' = a + 65 := ⟨_, hidV rfl, by omega, by omega⟩
    rw [HAA.out]
    rw [hca] at hbc
    obtain ⟨o, hnv, hlk⟩ := hm.look ha26
    have HM := hidV hm
    have HNV := hidV hnv
    have hbml := hm.lt
    clear hm hby hci
    obtain ⟨S, HS⟩ : ∃ S, Hid ((if decide ((st a).kd = 2) = true then (⟨k + 1, 0, 0⟩ : WS) else ⟨k, 6, (f k).at'⟩) = S) := ⟨_, hidV rfl⟩
    rw [HS.out]
    go_enter Tryz.func77, Tryz.ntmps77
    go_wp2_with fail
    refine (expect_ok s f k b 4 _ (by omega) HA.out (by exact Blk.alloc HR.out _) HPK.out).mono ?_
    rintro e w1 ⟨rfl, hr1, hf1⟩
    have HR1 := hidV hr1
    have HF1 : Hid (Fr [b] w w1 ∧ Blk w1 w.heap.size (bv fun _ => false) 155) := ⟨((Fr.refl [b] w).alloc _).trans hf1 (by simp), (Blk.new w _ _).fr hf1 (by simp; omega)⟩
    have hb1 : b < w1.heap.size := Blk.lt hr1
    have c0 := hr1.cells.1
    have c1 := hr1.more.1

    clear hr1 hf1 c0 c1 hnv
    have ta1 : ∀ (v : Value) (w : World), (Instr.typeAssert (.iface 155 v) 139 155 true).run Tryz.prog w = .ok (.tuple #[v, .bool true]) w := fun _ _ => by kernel_rfl
    have ta2 : ∀ (v : Value) (w : World), (Instr.typeAssert (.iface 136 v) 139 155 true).run Tryz.prog w = .ok (.tuple #[.agg #[.bool false, .bool false, .bool false, .bool false, .bool false, .bool false, .bool false], .bool false]) w := fun _ _ => by kernel_rfl
    have ta3 : ∀ (w : World), (Instr.typeAssert .nilIface 139 155 true).run Tryz.prog w = .ok (.tuple #[.agg #[.bool false, .bool false, .bool false, .bool false, .bool false, .bool false, .bool false], .bool false]) w := fun _ => by kernel_rfl
    go_wp2
    refine wp_forget (fun V => Rd V b s (.map (some bm)) D O (f (k + 1)) ∧ Blk V w1.heap.size #[.int .i64 4, .int .i64 (f k).at', .int .i64 (f k).to, .int .i64 (f k).v] 102 ∧ Fr [b] w V ∧ Blk V w.heap.size (bv fun _ => false) 155) ⟨Blk.alloc HR1.out _, Blk.new w1 _ _, HF1.out.1.alloc _, Blk.alloc HF1.out.2 _⟩ ?_
    rintro V ⟨hrV, hbV, hfV, hzV⟩
    have HZV := hidV hzV
    have hlV : ∀ w', Fr [] V w' → (Instr.lookup 69 (.map (some bm)) (.int .u8 ((a : Int) + 65)) false).run Tryz.prog w' = .ok (o.getD .nilIface) w' := fun w' hw' => by
      have := hlk w' (fun q hq => by subst hq; exact (hfV.trans hw' (by simp)).block _ hbml (by simp; exact fun q => hbm q.symm))
      rw [show ((a + 65 : Nat) : Int) = (a : Int) + 65 by omega] at this
      exact this
    have hSS : ∀ w', Fr [] V w' → (w'.cell? ⟨b, 0, none⟩ = some (.string s) ∧ w'.cell? ⟨b, 1, none⟩ = some (.map (some bm)) ∧ w'.cell? ⟨w1.heap.size, 1, none⟩ = some (.int .i64 (f k).at') ∧ (Instr.lookup 69 (.map (some bm)) (.int .u8 ((a : Int) + 65)) false).run Tryz.prog w' = .ok (o.getD .nilIface) w') := fun w' hw' =>
      ⟨(Rd.cells (D := D) (O := O) (Blk.fr hrV hw' (by simp))).1, (Rd.more (D := D) (O := O) (Blk.fr hrV hw' (by simp))).1, (hbV.fr hw' (by simp)).cell 1, hlV w' hw'⟩
    clear hlV
    have c0 := hrV.cells.1
    have c1 := hrV.more.1
    have t1 : V.cell? ⟨w1.heap.size, 1, none⟩ = some (.int .i64 (f k).at') := hbV.cell 1
    have HRV := hidV hrV
    have HFV := hidV hfV
    have HMV := hidV (HM.out.fr hfV (by simp; exact fun q => hbm q.symm) (by simp [hbM]))
    have HNVV := hidV (HNV.out.fr hfV (by simp [hbM]))
    generalize w1.heap.size = tb at *
    clear hlk HR1 HF1 hrV hbV hfV hzV hb1 HM HNV
    clear w1
    cases hst : st a with
    | set c =>
      rw [hst] at HNVV
      have ho : o = some (.iface 155 (.agg (bv c))) := HNVV.out
      subst ho
      dsimp only [Option.getD_some] at hSS
      have HSE : Hid (S = ⟨k + 1, 0, 0⟩) := by unfold Hid; rw [← HS.out, hst]; rfl
      have HSZ : Hid ((Tryz.prog.info? 155).map (·.size) = some (bv c).size) := size_bv c
      have HON : Hid ((bv c).all (·.oneCell') = true) := bv_one c
      have HSS : Hid (∀ w', Fr [] V w' → (w'.cell? ⟨b, 0, none⟩ = some (.string s) ∧ w'.cell? ⟨b, 1, none⟩ = some (.map (some bm)) ∧ w'.cell? ⟨tb, 1, none⟩ = some (.int .i64 (f k).at') ∧ (Instr.lookup 69 (.map (some bm)) (.int .u8 ((a : Int) + 65)) false).run Tryz.prog w' = .ok (.iface 155 (.agg #[.bool (c 0), .bool (c 1), .bool (c 2), .bool (c 3), .bool (c 4), .bool (c 5), .bool (c 6)])) w')) := hSS
      go_region_held3 (fun w' => w'.cell? ⟨b, 0, none⟩ = some (.string s) ∧ w'.cell? ⟨b, 1, none⟩ = some (.map (some bm)) ∧ w'.cell? ⟨tb, 1, none⟩ = some (.int .i64 (f k).at') ∧ (Instr.lookup 69 (.map (some bm)) (.int .u8 ((a : Int) + 65)) false).run Tryz.prog w' = .ok (.iface 155 (.agg #[.bool (c 0), .bool (c 1), .bool (c 2), .bool (c 3), .bool (c 4), .bool (c 5), .bool (c 6)])) w') (first | (refine HSS.out _ ?_; first | exact (Fr.refl [] V).drew | exact (Fr.refl [] V).drew.alloc _)) (first | fail)
      all_goals
        refine exit_forget (fun W => Blk W V.heap.size (bv c) 155 ∧ Blk W w.heap.size (bv fun _ => false) 155 ∧ Fr [] V W) ⟨by exact Blk.new V _ _, by exact Blk.alloc HZV.out _, ((Fr.refl [] V).alloc _).drew⟩ ?_
        rintro W g9
        have HW := hidV g9
        have HTH := hidV (Blk.there g9.2.1 (show (bv c).size ≤ (bv fun _ => false).size by exact Nat.le_refl _))
        have hwl : w.heap.size < W.heap.size := g9.2.1.lt
        clear g9 hSS HSS
        obtain ⟨y, HY⟩ : ∃ y, Hid (bv c = y) := ⟨_, hidV rfl⟩
        rw [HY.out] at HSZ HON HTH HW
        have HYS : Hid (y.size = (bv fun _ => false).size) := by unfold Hid; rw [← HY.out]; rfl
        clear ta1 ta2 ta3
        go_wp2_with (first | (refine wpList_load_row (by rfl) 155 _ (by rfl) V.heap.size (by rfl) 155 y (0, 0) _ HW.out.1 Tryz.underlying155 (by rfl) HSZ.out ?_) | (refine wpList_store_mid (by rfl) 155 _ _ (by rfl) w.heap.size 0 y (by rfl) (by rfl) HTH.out HSZ.out HON.out ?_))
        refine bodyPost_ret (results_cell_row Tryz.results77 _ _ w.heap.size 155 y (0, 0) _ (by rfl) (Blk.setAll HW.out.2.1 _ HYS.out) Tryz.underlying155 rfl HSZ.out) rfl ?_
        rw [HSE.out]
        have f9 : Fr [w.heap.size] V (W.setCells w.heap.size 0 y.toList) := Fr.setCells (HW.out.2.2.mono (by simp)) _ _ _ (Or.inl (by simp))
        refine Or.inl ⟨rfl, _, rfl, ?_, Blk.fr HRV.out f9 (by simp; omega), Fr.setCells (HFV.out.trans HW.out.2.2 (by simp)) _ _ _ (Or.inr (Nat.le_refl _))⟩
        show NV _ Ms (st a) _
        rw [hst, ← HY.out]
        exact rfl
    | non =>
      rw [hst] at HNVV
      have ho : o = none := HNVV.out
      subst ho
      dsimp only [Option.getD_none] at hSS
      have HSE : Hid (S = ⟨k, 6, (f k).at'⟩) := by unfold Hid; rw [← HS.out, hst]; rfl
      have HSS : Hid (∀ w', Fr [] V w' → (w'.cell? ⟨b, 0, none⟩ = some (.string s) ∧ w'.cell? ⟨b, 1, none⟩ = some (.map (some bm)) ∧ w'.cell? ⟨tb, 1, none⟩ = some (.int .i64 (f k).at') ∧ (Instr.lookup 69 (.map (some bm)) (.int .u8 ((a : Int) + 65)) false).run Tryz.prog w' = .ok (.nilIface) w')) := hSS
      go_region_held3 (fun w' => w'.cell? ⟨b, 0, none⟩ = some (.string s) ∧ w'.cell? ⟨b, 1, none⟩ = some (.map (some bm)) ∧ w'.cell? ⟨tb, 1, none⟩ = some (.int .i64 (f k).at') ∧ (Instr.lookup 69 (.map (some bm)) (.int .u8 ((a : Int) + 65)) false).run Tryz.prog w' = .ok (.nilIface) w') (first | (refine HSS.out _ ?_; first | exact (Fr.refl [] V).drew | exact (Fr.refl [] V).drew.alloc _)) (first | fail)
      all_goals
        go_wp2
        exact ⟨rfl, by rw [HSE.out]; exact Or.inr ⟨by simp, rfl, (HFV.out.alloc _).drew⟩⟩
    | sys ps =>
      rw [hst] at HNVV
      obtain ⟨g, cap, rfl, _⟩ := HNVV.out
      dsimp only [Option.getD_some] at hSS
      have HSE : Hid (S = ⟨k, 6, (f k).at'⟩) := by unfold Hid; rw [← HS.out, hst]; rfl
      have HSS : Hid (∀ w', Fr [] V w' → (w'.cell? ⟨b, 0, none⟩ = some (.string s) ∧ w'.cell? ⟨b, 1, none⟩ = some (.map (some bm)) ∧ w'.cell? ⟨tb, 1, none⟩ = some (.int .i64 (f k).at') ∧ (Instr.lookup 69 (.map (some bm)) (.int .u8 ((a : Int) + 65)) false).run Tryz.prog w' = .ok (.iface 136 (.slice (some ⟨g, 0, none⟩) ps.length cap)) w')) := hSS
      go_region_held3 (fun w' => w'.cell? ⟨b, 0, none⟩ = some (.string s) ∧ w'.cell? ⟨b, 1, none⟩ = some (.map (some bm)) ∧ w'.cell? ⟨tb, 1, none⟩ = some (.int .i64 (f k).at') ∧ (Instr.lookup 69 (.map (some bm)) (.int .u8 ((a : Int) + 65)) false).run Tryz.prog w' = .ok (.iface 136 (.slice (some ⟨g, 0, none⟩) ps.length cap)) w') (first | (refine HSS.out _ ?_; first | exact (Fr.refl [] V).drew | exact (Fr.refl [] V).drew.alloc _)) (first | fail)
      all_goals
        go_wp2
        exact ⟨rfl, by rw [HSE.out]; exact Or.inr ⟨by simp, rfl, (HFV.out.alloc _).drew⟩⟩
  · rw [nm_bad h1]
    have HPK : Hid (pk (f k).c ≠ 4) := fun q => h1 ((isN_iff _).2 (pk_4.1 q))
    go_enter Tryz.func77, Tryz.ntmps77
    go_wp2_with fail
    refine (expect_not s (f k) b 4 _ (by exact Blk.alloc HR.out _) HPK.out).mono ?_
    rintro e w2 ⟨rfl, hf2⟩
    go_wp2
    exact ⟨rfl, Or.inr ⟨by simp, rfl, ((Fr.refl [b] w).alloc _).trans hf2 (by simp)⟩⟩
end Go.Proofs.YthlmgpllapccfaaGreatDoor
/- PLAIN: the reading of a set: what is wrong, or the values that are in it. -/
namespace Go.Proofs.YthlmgpllapccfaaGreatDoor

/-- What the reading of a set comes to: the error (0: none), its place; the next token's number; the set. -/
structure StR where
  e : Nat
  bad : Nat
  k : Nat
  b : Nat → Bool
/-- One or more pieces: those behind the first. -/
def prF (f : Nat → Tok) (pc : Nat → StR) : Nat → Nat → (Nat → Bool) → StR
  | 0, k, b => ⟨0, 0, k, b⟩
  | m + 1, k, b =>
    if (f k).c = 42 then (if (pc (k + 1)).e = 0 then prF f pc m (pc (k + 1)).k (fun v => b v && (pc (k + 1)).b v) else pc (k + 1))
    else if (f k).c = 49 then (if (pc (k + 1)).e = 0 then prF f pc m (pc (k + 1)).k (fun v => b v && !(pc (k + 1)).b v) else pc (k + 1))
    else ⟨0, 0, k, b⟩
def prG (f : Nat → Tok) (pc : Nat → StR) (N k : Nat) : StR := if (pc k).e = 0 then prF f pc (N + 1) (pc k).k (pc k).b else pc k
/-- One or more parts: those behind the first. -/
def seF (f : Nat → Tok) (pt : Nat → StR) : Nat → Nat → (Nat → Bool) → StR
  | 0, k, b => ⟨0, 0, k, b⟩
  | m + 1, k, b => if (f k).c = 128 then (if (pt (k + 1)).e = 0 then seF f pt m (pt (k + 1)).k (fun v => b v || (pt (k + 1)).b v) else pt (k + 1)) else ⟨0, 0, k, b⟩
def seG (f : Nat → Tok) (pt : Nat → StR) (N k : Nat) : StR := if (pt k).e = 0 then seF f pt (N + 1) (pt k).k (pt k).b else pt k
def StR.neg (R : StR) : StR := ⟨R.e, R.bad, R.k, fun v => !R.b v⟩
def StR.wants (f : Nat → Tok) (c : Nat) (R : StR) : StR := if R.e = 0 then (if (f R.k).c = c then ⟨0, 0, R.k + 1, R.b⟩ else ⟨4, (f R.k).at', R.k, R.b⟩) else R
/-- The values at which a polynomial without x is 0. -/
def zrs (p : List Nat) (v : Nat) : Bool := decide ((lineR p v).getD 0 0 = 0)
def zrR (R : PlR) : StR := ⟨R.e, R.bad, R.k, zrs R.p⟩
def nmR (f : Nat → Tok) (st : Nat → Mng) (k : Nat) : StR :=
  if isN (f k) = true then (if (st ((f k).c - 69)).kd = 2 then ⟨0, 0, k + 1, (st ((f k).c - 69)).bit⟩ else ⟨6, (f k).at', k, fun _ => false⟩) else ⟨4, (f k).at', k, fun _ => false⟩
/-- A piece; d: so many things may still be opened. -/
def pcR (f : Nat → Tok) (N : Nat) (st : Nat → Mng) : Nat → Nat → StR
  | 0, k => if (f k).c = 130 ∨ (f k).c = 44 then ⟨8, (f k).at', k, fun _ => false⟩ else if (f k).c = 95 then StR.wants f 97 (zrR (poly f true N (k + 1))) else nmR f st k
  | d + 1, k => if (f k).c = 130 then StR.neg (pcR f N st d (k + 1)) else if (f k).c = 44 then StR.wants f 45 (seG f (prG f (pcR f N st d) N) N (k + 1))
    else if (f k).c = 95 then StR.wants f 97 (zrR (poly f true N (k + 1))) else nmR f st k
def ptR (f : Nat → Tok) (N : Nat) (st : Nat → Mng) (d k : Nat) : StR := prG f (pcR f N st d) N k
def stR (f : Nat → Tok) (N : Nat) (st : Nat → Mng) (d k : Nat) : StR := seG f (ptR f N st d) N k

theorem pl_grow (f : Nat → Tok) (bare : Bool) (N : Nat) : ∀ (m k sg : Nat) (p : List Nat), (pl f bare N m k sg p).e = 0 → k ≤ (pl f bare N m k sg p).k := by
  intro m
  induction m with
  | zero => intro k sg p h; simp [pl] at h
  | succ m ih =>
    intro k sg p h
    have ht := (tm_facts f bare N k).2.2.1
    unfold pl at h ⊢
    split at h
    · rename_i h1
      rw [if_pos h1]
      split at h
      · rename_i h2
        rw [if_pos h2]
        have := ih _ _ _ h; omega
      · rename_i h2
        rw [if_neg h2]
        split at h
        · rename_i h3
          rw [if_pos h3]
          have := ih _ _ _ h; omega
        · rename_i h3
          rw [if_neg h3]; exact ht
    · rename_i h1
      exact absurd h h1
theorem poly_grow {f : Nat → Tok} {bare : Bool} {N k : Nat} (h : (poly f bare N k).e = 0) : k ≤ (poly f bare N k).k := by
  unfold poly at h ⊢
  split at h
  · rename_i h1; rw [if_pos h1]; have := pl_grow _ _ _ _ _ _ _ h; omega
  · rename_i h1; rw [if_neg h1]; exact pl_grow _ _ _ _ _ _ _ h

theorem prF_and {f : Nat → Tok} {pc : Nat → StR} {m k : Nat} {b : Nat → Bool} (hm : 0 < m) (hc : (f k).c = 42) (h : (pc (k + 1)).e = 0) : prF f pc m k b = prF f pc (m - 1) (pc (k + 1)).k (fun v => b v && (pc (k + 1)).b v) := by
  obtain ⟨m, rfl⟩ : ∃ n, m = n + 1 := ⟨m - 1, by omega⟩
  rw [prF, if_pos hc, if_pos h]; rfl
theorem prF_not {f : Nat → Tok} {pc : Nat → StR} {m k : Nat} {b : Nat → Bool} (hm : 0 < m) (hc : (f k).c = 49) (h : (pc (k + 1)).e = 0) : prF f pc m k b = prF f pc (m - 1) (pc (k + 1)).k (fun v => b v && !(pc (k + 1)).b v) := by
  obtain ⟨m, rfl⟩ : ∃ n, m = n + 1 := ⟨m - 1, by omega⟩
  rw [prF, if_neg (by omega), if_pos hc, if_pos h]; rfl
theorem prF_bad {f : Nat → Tok} {pc : Nat → StR} {m k : Nat} {b : Nat → Bool} (hm : 0 < m) (hc : (f k).c = 42 ∨ (f k).c = 49) (h : (pc (k + 1)).e ≠ 0) : prF f pc m k b = pc (k + 1) := by
  obtain ⟨m, rfl⟩ : ∃ n, m = n + 1 := ⟨m - 1, by omega⟩
  rw [prF]
  rcases hc with hc | hc
  · rw [if_pos hc, if_neg h]
  · rw [if_neg (by omega), if_pos hc, if_neg h]
theorem prF_end {f : Nat → Tok} {pc : Nat → StR} {m k : Nat} {b : Nat → Bool} (h1 : (f k).c ≠ 42) (h2 : (f k).c ≠ 49) : prF f pc m k b = ⟨0, 0, k, b⟩ := by
  cases m with
  | zero => rfl
  | succ m => rw [prF, if_neg h1, if_neg h2]
theorem seF_or {f : Nat → Tok} {pt : Nat → StR} {m k : Nat} {b : Nat → Bool} (hm : 0 < m) (hc : (f k).c = 128) (h : (pt (k + 1)).e = 0) : seF f pt m k b = seF f pt (m - 1) (pt (k + 1)).k (fun v => b v || (pt (k + 1)).b v) := by
  obtain ⟨m, rfl⟩ : ∃ n, m = n + 1 := ⟨m - 1, by omega⟩
  rw [seF, if_pos hc, if_pos h]; rfl
theorem seF_bad {f : Nat → Tok} {pt : Nat → StR} {m k : Nat} {b : Nat → Bool} (hm : 0 < m) (hc : (f k).c = 128) (h : (pt (k + 1)).e ≠ 0) : seF f pt m k b = pt (k + 1) := by
  obtain ⟨m, rfl⟩ : ∃ n, m = n + 1 := ⟨m - 1, by omega⟩
  rw [seF, if_pos hc, if_neg h]
theorem seF_end {f : Nat → Tok} {pt : Nat → StR} {m k : Nat} {b : Nat → Bool} (h1 : (f k).c ≠ 128) : seF f pt m k b = ⟨0, 0, k, b⟩ := by
  cases m with
  | zero => rfl
  | succ m => rw [seF, if_neg h1]

/-- What is read goes on. -/
def Grow (pc : Nat → StR) : Prop := ∀ k, (pc k).e = 0 → k < (pc k).k
theorem prF_grow {f : Nat → Tok} {pc : Nat → StR} (hp : Grow pc) : ∀ (m k : Nat) (b : Nat → Bool), (prF f pc m k b).e = 0 → k ≤ (prF f pc m k b).k := by
  intro m
  induction m with
  | zero => intro k b _; exact Nat.le_refl _
  | succ m ih =>
    intro k b h
    by_cases h1 : (f k).c = 42
    · by_cases he : (pc (k + 1)).e = 0
      · rw [prF_and (by omega) h1 he, Nat.add_sub_cancel] at h ⊢
        have := ih _ _ h; have := hp _ he; omega
      · rw [prF_bad (by omega) (Or.inl h1) he] at h; exact absurd h he
    · by_cases h2 : (f k).c = 49
      · by_cases he : (pc (k + 1)).e = 0
        · rw [prF_not (by omega) h2 he, Nat.add_sub_cancel] at h ⊢
          have := ih _ _ h; have := hp _ he; omega
        · rw [prF_bad (by omega) (Or.inr h2) he] at h; exact absurd h he
      · rw [prF_end h1 h2]; exact Nat.le_refl _
theorem prG_grow {f : Nat → Tok} {pc : Nat → StR} (hp : Grow pc) (N : Nat) : Grow (prG f pc N) := by
  intro k h
  unfold prG at h ⊢
  split at h
  · rename_i h1
    rw [if_pos h1]
    have := prF_grow hp _ _ _ h; have := hp _ h1; omega
  · rename_i h1; exact absurd h h1
theorem seF_grow {f : Nat → Tok} {pc : Nat → StR} (hp : Grow pc) : ∀ (m k : Nat) (b : Nat → Bool), (seF f pc m k b).e = 0 → k ≤ (seF f pc m k b).k := by
  intro m
  induction m with
  | zero => intro k b _; exact Nat.le_refl _
  | succ m ih =>
    intro k b h
    by_cases h1 : (f k).c = 128
    · by_cases he : (pc (k + 1)).e = 0
      · rw [seF_or (by omega) h1 he, Nat.add_sub_cancel] at h ⊢
        have := ih _ _ h; have := hp _ he; omega
      · rw [seF_bad (by omega) h1 he] at h; exact absurd h he
    · rw [seF_end h1]; exact Nat.le_refl _
theorem seG_grow {f : Nat → Tok} {pc : Nat → StR} (hp : Grow pc) (N : Nat) : Grow (seG f pc N) := by
  intro k h
  unfold seG at h ⊢
  split at h
  · rename_i h1
    rw [if_pos h1]
    have := seF_grow hp _ _ _ h; have := hp _ h1; omega
  · rename_i h1; exact absurd h h1
theorem wants_grow {f : Nat → Tok} {c : Nat} {R : StR} (h : (StR.wants f c R).e = 0) : R.e = 0 ∧ (f R.k).c = c ∧ (StR.wants f c R).k = R.k + 1 ∧ (StR.wants f c R).b = R.b := by
  unfold StR.wants at h ⊢
  split at h
  · rename_i h1
    rw [if_pos h1]
    split at h
    · rename_i h2; rw [if_pos h2]; exact ⟨h1, h2, rfl, rfl⟩
    · simp at h
  · rename_i h1; exact absurd h h1
theorem nmR_grow (f : Nat → Tok) (st : Nat → Mng) : Grow (nmR f st) := by
  intro k h
  unfold nmR at h ⊢
  split at h
  · rename_i h1
    rw [if_pos h1]
    split at h
    · rename_i h2; rw [if_pos h2]; show k < k + 1; omega
    · simp at h
  · simp at h
theorem pcR_grow (f : Nat → Tok) (N : Nat) (st : Nat → Mng) : ∀ d, Grow (pcR f N st d) := by
  intro d
  induction d with
  | zero =>
    intro k h
    unfold pcR at h ⊢
    split at h
    · simp at h
    · rename_i h1
      rw [if_neg h1]
      split at h
      · rename_i h2
        rw [if_pos h2]
        obtain ⟨q1, q2, q3, _⟩ := wants_grow h
        have := poly_grow (f := f) (bare := true) (N := N) (k := k + 1) q1
        rw [q3]; show k < (poly f true N (k + 1)).k + 1; omega
      · rename_i h2
        rw [if_neg h2]; exact nmR_grow f st k h
  | succ d ih =>
    intro k h
    unfold pcR at h ⊢
    split at h
    · rename_i h1
      rw [if_pos h1]
      have := ih (k + 1) h
      show k < (pcR f N st d (k + 1)).k; omega
    · rename_i h1
      rw [if_neg h1]
      split at h
      · rename_i h2
        rw [if_pos h2]
        obtain ⟨q1, q2, q3, _⟩ := wants_grow h
        have := seG_grow (prG_grow ih N) N (f := f) (k + 1) q1
        rw [q3]; omega
      · rename_i h2
        rw [if_neg h2]
        split at h
        · rename_i h3
          rw [if_pos h3]
          obtain ⟨q1, q2, q3, _⟩ := wants_grow h
          have := poly_grow (f := f) (bare := true) (N := N) (k := k + 1) q1
          rw [q3]; show k < (poly f true N (k + 1)).k + 1; omega
        · rename_i h3
          rw [if_neg h3]; exact nmR_grow f st k h
theorem ptR_grow (f : Nat → Tok) (N : Nat) (st : Nat → Mng) (d : Nat) : Grow (ptR f N st d) := prG_grow (pcR_grow f N st d) N
theorem stR_grow (f : Nat → Tok) (N : Nat) (st : Nat → Mng) (d : Nat) : Grow (stR f N st d) := seG_grow (ptR_grow f N st d) N
theorem pcR_tilde {f : Nat → Tok} {N : Nat} {st : Nat → Mng} {d k : Nat} (h : (f k).c = 130) : pcR f N st (d + 1) k = StR.neg (pcR f N st d (k + 1)) := by rw [pcR, if_pos h]
theorem pcR_open {f : Nat → Tok} {N : Nat} {st : Nat → Mng} {d k : Nat} (h : (f k).c = 44) : pcR f N st (d + 1) k = StR.wants f 45 (stR f N st d (k + 1)) := by rw [pcR, if_neg (by omega), if_pos h]; rfl
theorem pcR_deep {f : Nat → Tok} {N : Nat} {st : Nat → Mng} {k : Nat} (h : (f k).c = 130 ∨ (f k).c = 44) : pcR f N st 0 k = ⟨8, (f k).at', k, fun _ => false⟩ := by rw [pcR, if_pos h]
theorem pcR_zeros {f : Nat → Tok} {N : Nat} {st : Nat → Mng} {d k : Nat} (h : (f k).c = 95) : pcR f N st d k = StR.wants f 97 (zrR (poly f true N (k + 1))) := by
  cases d with
  | zero => rw [pcR, if_neg (by omega), if_pos h]
  | succ d => rw [pcR, if_neg (by omega), if_neg (by omega), if_pos h]
theorem pcR_name {f : Nat → Tok} {N : Nat} {st : Nat → Mng} {d k : Nat} (h1 : (f k).c ≠ 130) (h2 : (f k).c ≠ 44) (h3 : (f k).c ≠ 95) : pcR f N st d k = nmR f st k := by
  cases d with
  | zero => rw [pcR, if_neg (by omega), if_neg h3]
  | succ d => rw [pcR, if_neg h1, if_neg h2, if_neg h3]
end Go.Proofs.YthlmgpllapccfaaGreatDoor
/- A REGION THAT DRAWS ITS ORDER, WHOSE FIRST m OPERATIONS YIELD THE SAME IN EVERY WORLD OF A CLASS, OPERATION m TAKES A NEW BLOCK (AT ANY TIME AMONG THEM), THE REST FORCED BEHIND: one walk in the text's order serves every order. -/
namespace Go.Proofs.YthlmgpllapccfaaGreatDoor
open Go
section
variable {P : Program} {ops : Array Oper} {md : Region.Mode} {D : World → Prop} {E : Nat → World → Prop}

/-- One value, in every world of D (the new block not yet taken) and of each E b (taken at b). -/
def quietF (P : Program) (D : World → Prop) (E : Nat → World → Prop) (o : Oper) (a : Act) (next : Act → Prop) : Prop :=
  ∃ v, (∀ w, D w → o.quietAt P a D w v) ∧ (∀ b w, E b w → o.quietAt P a (E b) w v) ∧ next (a.put o.dst v)
def walkF (P : Program) (D : World → Prop) (E : Nat → World → Prop) (Q : Act → Prop) : List Oper → Act → Prop
  | [], a => Q a
  | o :: rest, a => o.guard = none ∧ quietF P D E o a (walkF P D E Q rest)

/-- f operations more come up, one of them m, the others quiet; then L. -/
def headX (P : Program) (md : Region.Mode) (ops : Array Oper) (D : World → Prop) (E : Nat → World → Prop) (n m : Nat) (dm : Option Tmp) (pt : Nat → Value) (L : Nat → Array Bool → Act → Prop) : Nat → Array Bool → Act → Prop
  | 0, _, _ => False
  | f + 1, listed, a => Region.ready md ops listed ≠ [] ∧ ∀ i ∈ Region.ready md ops listed, i < n ∧
      ((i = m ∧ ∀ b, headQ P md ops (E b) n (L b) f (listed.setIfInBounds m true) (a.put dm (pt b))) ∨ (i ≠ m ∧ qOp P ops D i (headX P md ops D E n m dm pt L f (listed.setIfInBounds i true)) a))

theorem any_of_headX {n m g : Nat} {om : Oper} {pt : Nat → Value} {L : Nat → Array Bool → Act → Prop} {Q : Exit → Act → World → Prop} (hom : ops[m]? = some om) (hgd : om.guard = none)
    (hrun : ∀ (a : Act) w, D w → ∃ b w', (execOp a.eval om).run P w = .ok (.value (pt b)) w' ∧ E b w')
    (hL : ∀ b listed a w, E b w → L b listed a → wpAny P md ops Q g listed a w) :
    ∀ (f : Nat) (listed : Array Bool) (a : Act) (w : World), D w → headX P md ops D E n m om.dst pt L f listed a → wpAny P md ops Q (f + g) listed a w := by
  intro f
  induction f with
  | zero => intro listed a w hw h; exact h.elim
  | succ f ih =>
    intro listed a w hw h
    rw [Nat.add_right_comm]
    refine ⟨fun e => absurd e h.1, fun i hi => ?_⟩
    rcases (h.2 i hi).2 with ⟨rfl, h2⟩ | ⟨_, h2⟩
    · unfold wpOp
      simp only [hom]
      rw [if_pos (by unfold Region.wanted; rw [hgd])]
      obtain ⟨b, w', hr, he⟩ := hrun a w hw
      refine .inl ?_
      unfold Oper.wp
      rw [hr]
      exact any_of_headQ (hL b) f _ _ _ he (h2 b)
    · exact wpOp_of_qOp hw (fun a' w' hw' h' => ih _ a' w' hw' h') h2

theorem headX_first {n m i : Nat} {oi om : Oper} {v : Value} {pt : Nat → Value} {L : Nat → Array Bool → Act → Prop} (hi : ops[i]? = some oi) (hom : ops[m]? = some om) (him : i ≠ m) (hsel : ∀ (j : Nat) (o : Oper) cs b, ops[j]? = some o → o.op ≠ .select cs b)
    (hs : Region.sinkB md ops n = true) (hc : Region.chainB md ops n = true) (hn : n < ops.size) (hin : i < n) (hdone : ∀ b listed a, L b listed a → ∀ j ∈ Region.ready md ops listed, n ≤ j) :
    ∀ (f : Nat) (listed : Array Bool) (a : Act), HeadInv md ops n listed →
      (∀ j oj, ops[j]? = some oj → j ≠ i → listed.getD j true = false → (∀ e ∈ oj.after, Region.binds md e = true → e.on ≠ i) → oi.apart ops oj = true) →
      i ∈ Region.ready md ops listed → YieldsIn P ops D oi v a → (∀ b, YieldsIn P ops (E b) oi v a) →
      headX P md ops D E n m om.dst pt L f (listed.setIfInBounds i true) (a.put oi.dst v) → headX P md ops D E n m om.dst pt L (f + 1) listed a := by
  intro f
  induction f with
  | zero => intro listed a inv hfree hr hy hyE H; exact H.elim
  | succ f ih =>
    intro listed a inv hfree hr hy hyE H
    have hun := (mem_ready.1 hr).1
    refine ⟨List.ne_nil_of_mem hr, fun j hj => ?_⟩
    have hjn : j < n := Nat.lt_of_not_le fun h => tail_waits hs hc hn inv _ i rfl hin hun j h hj
    refine ⟨hjn, ?_⟩
    obtain ⟨hjun, oj, hoj, hall⟩ := mem_ready.1 hj
    by_cases hji : j = i
    · refine .inr ⟨by rw [hji]; exact him, ?_⟩
      rw [hji]; exact hy.qOp hi H
    · have hno : ∀ e ∈ oj.after, Region.binds md e = true → e.on ≠ i := fun e he hb heq => by
        have := hall e he hb
        rw [heq, getD_both hun] at this
        exact Bool.false_ne_true this
      have hap := hfree j oj hoj hji hjun hno
      have hfree' : ∀ k ok, ops[k]? = some ok → k ≠ i → (listed.setIfInBounds j true).getD k true = false → (∀ e ∈ ok.after, Region.binds md e = true → e.on ≠ i) → oi.apart ops ok = true :=
        fun k ok hk hki hunk hnk => hfree k ok hk hki (by
          by_cases hjk : j = k
          · rw [← hjk]; exact hjun
          · rw [getD_set_ne true hjk] at hunk; exact hunk) hnk
      have h1 := (H.2 j (ready_mono hj hji)).2
      by_cases hjm : j = m
      · refine .inl ⟨hjm, fun b => ?_⟩
        have hojm : oj = om := Option.some.inj (hoj.symm.trans (by rw [hjm]; exact hom))
        rcases h1 with ⟨_, h1⟩ | ⟨h1, _⟩
        · obtain ⟨p1, p2, p3⟩ := Oper.apart_spec hap
          have hyb : YieldsIn P ops (E b) oi v (a.put om.dst (pt b)) := (hyE b).of_same (execOp_put oi (fun cs b => hsel i oi cs b hi) a om.dst (pt b) (by rw [← hojm]; exact p3)) (wanted_put oi a om.dst (pt b) (by rw [← hojm]; exact p3))
          refine headQ_first hi hsel hs hc hn hin (hdone b) f (listed.setIfInBounds m true) (a.put om.dst (pt b)) ?_ ?_ ?_ hyb ?_
          · rw [← hjm]; exact inv.set hj hjn
          · rw [← hjm]; exact hfree'
          · rw [← hjm]; exact ready_mono hr (Ne.symm hji)
          · rw [← hojm, ← hjm, Array.setIfInBounds_comm _ _ hji, ← Act.put_comm a v (pt b) p2, hojm, hjm]
            exact h1 b
        · exact absurd hjm h1
      · refine .inr ⟨hjm, ?_⟩
        rcases h1 with ⟨h1, _⟩ | ⟨_, h1⟩
        · exact absurd h1 hjm
        · have hsi : ∀ cs b, oi.op ≠ .select cs b := fun cs b => hsel i oi cs b hi
          have hsj : ∀ cs b, oj.op ≠ .select cs b := fun cs b => hsel j oj cs b hoj
          obtain ⟨p1, p2, p3⟩ := Oper.apart_spec hap
          have h2 := qOp_put hoj hap hsi hsj hy h1
          obtain ⟨u, hu, h3, h4⟩ := yieldsIn_of_qOp hoj h2
          refine hu.qOp hoj (ih (listed.setIfInBounds j true) _ (inv.set hj hjn) hfree' (ready_mono hr (Ne.symm hji)) h3 (fun b => (hyE b).of_same (execOp_put oi hsi a oj.dst u p3) (wanted_put oi a oj.dst u p3)) ?_)
          rw [Array.setIfInBounds_comm _ _ hji]; exact h4

theorem headX_lex {n m g : Nat} {om : Oper} {pt : Nat → Value} {Lq : Nat → Act → Prop} (hsel : Region.noSelect ops = true) (hs : Region.sinkB md ops n = true) (hc : Region.chainB md ops n = true) (hn : n < ops.size) (hmn : m + 1 = n) (hom : ops[m]? = some om) :
    ∀ (l : List Oper) (k : Nat) (listed : Array Bool) (a : Act), (∀ j, j < l.length → l[j]? = ops[k + j]?) → k + l.length = m → HeadInv md ops n listed →
    Region.lexHead md ops g (l.length + 1) k listed = true → walkF P D E (fun a' => ∀ b, Lq b (a'.put om.dst (pt b))) l a →
    headX P md ops D E n m om.dst pt (fun b listed' a' => Region.seqB md ops g n listed' = true ∧ Lq b a') (l.length + 1) listed a := by
  intro l
  induction l with
  | nil =>
    intro k listed a _ hk inv hB h
    have e : k = m := by simpa using hk
    subst e
    simp only [List.length_nil, Region.lexHead, Bool.and_eq_true] at hB
    have hr : k ∈ Region.ready md ops listed := by simpa using hB.1.1
    have hsq : Region.seqB md ops g n (listed.setIfInBounds k true) = true := by rw [← hmn]; exact hB.2
    have hun := (mem_ready.1 hr).1
    refine ⟨List.ne_nil_of_mem hr, fun i hi => ?_⟩
    have hin : i < n := Nat.lt_of_not_le fun h' => tail_waits hs hc hn inv _ k rfl (by omega) hun i h' hi
    refine ⟨hin, ?_⟩
    by_cases hik : i = k
    · exact .inl ⟨hik, fun b => ⟨hsq, h b⟩⟩
    · have := seqB_ready hsq i (ready_mono hi hik)
      omega
  | cons o l ih =>
    intro k listed a hl hk inv hB h
    have h0 : ops[k]? = some o := by simpa using (hl 0 (by simp)).symm
    rw [List.length_cons, Region.lexHead] at hB
    simp only [Bool.and_eq_true] at hB
    simp only [List.length_cons] at hk
    have hr : k ∈ Region.ready md ops listed := by simpa using hB.1.1
    obtain ⟨hgd, v, hD, hE, hK⟩ := h
    have hw : Region.wanted o (yielded ops a.tmps) = true := by unfold Region.wanted; rw [hgd]
    refine headX_first h0 hom (by omega) (Region.noSelect_spec hsel) hs hc hn (by omega) (fun b listed' a' hL => seqB_ready hL.1) (l.length + 1) listed a inv (Region.free_spec h0 hB.1.2) hr (.inl ⟨hw, hD⟩) (fun b => .inl ⟨hw, hE b⟩) ?_
    refine ih (k + 1) _ _ (fun j hj => ?_) (by omega) (inv.set hr (by omega)) hB.2 hK
    have := hl (j + 1) (by simp; omega)
    rw [show k + 1 + j = k + (j + 1) by omega, ← this]; simp

/-- THE LAW. -/
theorem region_alloc_tail {id : Nat} {Q : Exit → Act → World → Prop} {a : Act} {w : World} {l : List Oper} (D : World → Prop) (E : Nat → World → Prop) (pt : Nat → Value) (m : Nat) (om : Oper) (hD : D w.drew) (hm : P.follows .mixedOrders = true) (hB : Region.lexTailB .any l.toArray (m + 1) = true)
    (hom : l.toArray[m]? = some om) (hgd : om.guard = none) (hrun : ∀ (a : Act) w, D w → ∃ b w', (execOp a.eval om).run P w = .ok (.value (pt b)) w' ∧ E b w')
    (h : walkF P D E (fun a' => ∀ b w', E b w' → wpList P l.toArray Q (l.drop (m + 1)) (a'.put om.dst (pt b)) w') (l.take m) a) : (Code.region id l.toArray true).wp P Q a w := by
  simp only [Region.lexTailB, Bool.and_eq_true, decide_eq_true_eq] at hB
  obtain ⟨⟨⟨⟨hsel, hn⟩, hs⟩, hc⟩, hlex⟩ := hB
  have htl : (l.take m).length = m := by simp only [List.size_toArray] at hn; simp; omega
  have hdl : (l.drop (m + 1)).length = l.toArray.size - (m + 1) := by simp
  have H := headX_lex (md := .any) (pt := pt) (Lq := fun b a' => ∀ w', E b w' → wpList P l.toArray Q (l.drop (m + 1)) a' w') (g := l.toArray.size - (m + 1)) hsel hs hc hn rfl hom (l.take m) 0 (Array.replicate l.toArray.size false) a (fun j hj => by
      rw [htl] at hj
      simp [hj]) (by omega)
    ⟨by simp, fun j oj _ hl => by rw [getD_replicate_false] at hl; exact absurd hl Bool.false_ne_true, fun t _ ht => getD_in (by simpa using ht) (getD_replicate_false _ _)⟩
    (by rw [htl]; exact hlex) h
  refine wp_region_any hm ?_
  have K := any_of_headX (Q := Q) (g := l.toArray.size - (m + 1)) hom hgd hrun (fun b listed a' w' hw' hL => by
    have := wpAny_of_seq (md := .any) (Q' := Q) (l.drop (m + 1)) (m + 1) listed a' w' (fun j => by simp [List.getElem?_drop]) (by rw [hdl]; exact hL.1) (hL.2 w' hw')
    rwa [hdl] at this) _ _ _ { w with drawn := w.drawn + 1 } hD H
  rw [htl, show m + 1 + (l.toArray.size - (m + 1)) = l.toArray.size by omega] at K
  exact K
end
end Go.Proofs.YthlmgpllapccfaaGreatDoor
