import Derived.Test.YthlmgpllapccfaaDoorPack6
import Derived.Test.YthlmgpllapccfaaDoorRows
import Derived.ChangeSame
import Derived.ChangeVars
import Derived.JoinedOf
import Derived.RowKit
import Derived.RowKitTokens
import Derived.LaidLaws
import Derived.LaidHandle
import Derived.SizedLaws
import Derived.Stop.Joined
import Derived.LaidMore
import Derived.Test.YthlmgpllapccfaaDoorTie
import Derived.Test.YthlmgpllapccfaaDoorCards
import Derived.SevenTiedAt
import Derived.ProofKit
import Derived.ChangeMaps5
import Derived.ChangeSlices
/- ADDED: the law. -/
namespace Go.Proofs.YthlmgpllapccfaaDoor
open Go.RowKit
theorem vv_of {s : ByteArray} {p : List Nat} (h : rd s = ⟨0, 0, p⟩) (u x : Int) : vv s u x = valP p (u % 7).toNat (x % 7).toNat ∧ (rd s).e = 0 ∧ vb s = 0 ∧ cv s = txt p := by
  unfold vv vb cv; rw [h]; exact ⟨rfl, rfl, rfl, rfl⟩
theorem pV_to {s : ByteArray} {p : List Nat} (h : rd s = ⟨0, 0, p⟩) (hs : s.size ≤ 1000) (u x : Int) {V : Nat} (hV : valP p (u % 7).toNat (x % 7).toNat = V) (S : ByteArray) (U X : Int) (w : World) (hg : ErrT w) (hS : S = s) (hU : U = u) (hX : X = x) :
    Calls Tryd.prog 9 #[.string S, .int .i64 U, .int .i64 X] w fun e w' => e = .returned (.tuple #[.int .i64 V, .int .i64 0, .int .i64 0]) ∧ Below w.heap.size w w' := by
  subst hS hU hX
  have k := pValue_any S U X w hg (by omega)
  obtain ⟨a, b, c, _⟩ := vv_of h U X
  rw [a, b, c, hV] at k
  exact k
theorem pC_to {s : ByteArray} {p : List Nat} (h : rd s = ⟨0, 0, p⟩) (hs : s.size ≤ 1000) {C : List UInt8} (hC : txt p = C) (S : ByteArray) (w : World) (hg : ErrT w) (hS : S = s) :
    Calls Tryd.prog 7 #[.string S] w fun e w' => e = .returned (.tuple #[.string (bs C), .int .i64 0, .int .i64 0]) ∧ Below w.heap.size w w' := by
  subst hS
  have k := pCanon_any S w hg (by omega)
  obtain ⟨_, b, c, d⟩ := vv_of h 0 0
  rw [b, c, d, hC] at k
  exact k
set_option maxRecDepth 100000 in
set_option maxHeartbeats 4000000 in
theorem lawAdded_any (xs ys : List Int) (sa sb : Value) (u x : Int) (w : World) (hg : ErrT w) (hu1 : -9223372036854775808 ≤ u) (hu2 : u ≤ 9223372036854775807) (hx1 : -9223372036854775808 ≤ x) (hx2 : x ≤ 9223372036854775807)
    (HA : ∀ w', Below w.heap.size w w' → Calls Tryd.prog 12 #[sa, .int .i64 4] w' fun e w'' => e = .returned (.string (bs (kX xs))) ∧ Below w'.heap.size w' w'')
    (HB : ∀ w', Below w.heap.size w w' → Calls Tryd.prog 12 #[sb, .int .i64 4] w' fun e w'' => e = .returned (.string (bs (kX ys))) ∧ Below w'.heap.size w' w'') :
    Calls Tryd.prog 6 #[sa, sb, .int .i64 u, .int .i64 x] w fun e w' => e = .returned (.bool true) ∧ Below w.heap.size w w' := by
  have HA' := hidT HA
  have HB' := hidT HB
  clear HA HB
  have lS := kX_len xs
  have lT := kX_len ys
  have t0 : ktx (kT 1 0 0).n (kT 1 0 0).u (kT 1 0 0).x = [48] := by decide +kernel
  have t0' : ktx 0 0 0 = [48] := by decide +kernel
  have HK := fun (w' : World) => kterm_any 1 0 0 0 w' rfl (by omega) (by omega) (by omega)
  rw [t0] at HK
  have r1 := rd_one xs
  have r2 := rd_one ys
  have r3 := rd_two xs ys [32, 43, 32] (Or.inr (Or.inl ⟨rfl, rfl⟩))
  have r4 := rd_two ys xs [43] (Or.inl ⟨rfl, rfl⟩)
  have r5 := rd_less xs
  have r6 := rd_two xs ys [43] (Or.inl ⟨rfl, rfl⟩)
  have r7 := rd_two ys xs [32, 43, 32] (Or.inr (Or.inl ⟨rfl, rfl⟩))
  rw [t0'] at r5
  have hcom := sumP_comm (kTs_ok xs) (kTs_ok ys)
  have hsum := sumP_val (kTs_ok xs) (kTs_ok ys) (u % 7).toNat (x % 7).toNat
  rw [← hcom] at r4 r7
  have hVl : valP (sumP (kTs xs)) (u % 7).toNat (x % 7).toNat < 7 := horn_lt _ _ _ _
  have hWl : valP (sumP (kTs ys)) (u % 7).toNat (x % 7).toNat < 7 := horn_lt _ _ _ _
  have pu := pck_lt u (n := 7) (by omega)
  have px := pck_lt x (n := 7) (by omega)
  generalize kX xs = S at *
  generalize kX ys = T at *
  generalize sumP (kTs xs ++ kTs ys) = PS at *
  generalize sumP (kTs xs) = PA at *
  generalize sumP (kTs ys) = PB at *
  obtain ⟨Y1, E1⟩ : ∃ Y, Hid (S ++ [32, 43, 32] = Y) := ⟨_, hidT rfl⟩
  obtain ⟨Y3, E3⟩ : ∃ Y, Hid (T ++ [43] = Y) := ⟨_, hidT rfl⟩
  obtain ⟨Y5, E5⟩ : ∃ Y, Hid (S ++ [45] = Y) := ⟨_, hidT rfl⟩
  obtain ⟨Y7, E7⟩ : ∃ Y, Hid (S ++ [43] = Y) := ⟨_, hidT rfl⟩
  obtain ⟨Y9, E9⟩ : ∃ Y, Hid (T ++ [32, 43, 32] = Y) := ⟨_, hidT rfl⟩
  rw [E1.out] at r3
  rw [E3.out] at r4
  rw [E5.out] at r5
  rw [E7.out] at r6
  rw [E9.out] at r7
  have l1 : Y1.length ≤ 30 := by rw [← E1.out, List.length_append]; simp; omega
  have l3 : Y3.length ≤ 30 := by rw [← E3.out, List.length_append]; simp; omega
  have l5 : Y5.length ≤ 30 := by rw [← E5.out, List.length_append]; simp; omega
  have l7 : Y7.length ≤ 30 := by rw [← E7.out, List.length_append]; simp; omega
  have l9 : Y9.length ≤ 30 := by rw [← E9.out, List.length_append]; simp; omega
  obtain ⟨Y2, E2⟩ : ∃ Y, Hid (Y1 ++ T = Y) := ⟨_, hidT rfl⟩
  obtain ⟨Y4, E4⟩ : ∃ Y, Hid (Y3 ++ S = Y) := ⟨_, hidT rfl⟩
  obtain ⟨Y6, E6⟩ : ∃ Y, Hid (Y5 ++ [48] = Y) := ⟨_, hidT rfl⟩
  obtain ⟨Y8, E8⟩ : ∃ Y, Hid (Y7 ++ T = Y) := ⟨_, hidT rfl⟩
  obtain ⟨Y10, E10⟩ : ∃ Y, Hid (Y9 ++ S = Y) := ⟨_, hidT rfl⟩
  rw [E2.out] at r3
  rw [E4.out] at r4
  rw [E6.out] at r5
  rw [E8.out] at r6
  rw [E10.out] at r7
  have l2 : Y2.length ≤ 60 := by rw [← E2.out, List.length_append]; omega
  have l4 : Y4.length ≤ 60 := by rw [← E4.out, List.length_append]; omega
  have l6 : Y6.length ≤ 60 := by rw [← E6.out, List.length_append]; simp; omega
  have l8 : Y8.length ≤ 60 := by rw [← E8.out, List.length_append]; omega
  have l10 : Y10.length ≤ 60 := by rw [← E10.out, List.length_append]; omega
  have a1 := fun (w' : World) => add_to S [32, 43, 32] Y1 ⟨#[32, 43, 32]⟩ rfl E1.out (by omega) (by simp) w'
  have a2 := fun (w' : World) => add_to Y1 T Y2 (bs T) rfl E2.out (by omega) (by omega) w'
  have a3 := fun (w' : World) => add_to T [43] Y3 ⟨#[43]⟩ rfl E3.out (by omega) (by simp) w'
  have a4 := fun (w' : World) => add_to Y3 S Y4 (bs S) rfl E4.out (by omega) (by omega) w'
  have a5 := fun (w' : World) => add_to S [45] Y5 ⟨#[45]⟩ rfl E5.out (by omega) (by simp) w'
  have a6 := fun (w' : World) => add_to Y5 [48] Y6 (bs [48]) rfl E6.out (by omega) (by simp) w'
  have a7 := fun (w' : World) => add_to S [43] Y7 ⟨#[43]⟩ rfl E7.out (by omega) (by simp) w'
  have a8 := fun (w' : World) => add_to Y7 T Y8 (bs T) rfl E8.out (by omega) (by omega) w'
  have a9 := fun (w' : World) => add_to T [32, 43, 32] Y9 ⟨#[32, 43, 32]⟩ rfl E9.out (by omega) (by simp) w'
  have a10 := fun (w' : World) => add_to Y9 S Y10 (bs S) rfl E10.out (by omega) (by omega) w'
  obtain ⟨V, HV⟩ : ∃ V, valP PA (u % 7).toNat (x % 7).toNat = V := ⟨_, rfl⟩
  obtain ⟨W, HW⟩ : ∃ V, valP PB (u % 7).toNat (x % 7).toNat = V := ⟨_, rfl⟩
  obtain ⟨Z, HZ⟩ : ∃ V, valP PS (u % 7).toNat (x % 7).toNat = V := ⟨_, rfl⟩
  obtain ⟨C, HC⟩ : ∃ C, txt PS = C := ⟨_, rfl⟩
  rw [HV, HW, HZ] at hsum
  rw [HV] at hVl
  rw [HW] at hWl
  generalize hpu : pck u 7 = p at *
  generalize hpx : pck x 7 = q at *
  obtain ⟨N, HN⟩ : ∃ V, valP PA ((p : Int) % 7).toNat ((q : Int) % 7).toNat = V := ⟨_, rfl⟩
  have HN2 : valP PA (((p : Int) + 7) % 7).toNat (((q : Int) - 70) % 7).toNat = N := by
    rw [← HN]; congr 2 <;> omega
  have c1 := hidT (fun (w' : World) (h : ErrT w') => pV_to r1 (by rw [bs_size]; omega) u x HV _ _ _ w' h rfl rfl rfl)
  have c2 := hidT (fun (w' : World) (h : ErrT w') => pV_to r2 (by rw [bs_size]; omega) u x HW _ _ _ w' h rfl rfl rfl)
  have c3 := hidT (fun (w' : World) (h : ErrT w') => pV_to r3 (by rw [bs_size]; omega) u x HZ _ _ _ w' h rfl rfl rfl)
  have c4 := hidT (fun (w' : World) (h : ErrT w') => pV_to r4 (by rw [bs_size]; omega) u x HZ _ _ _ w' h rfl rfl rfl)
  have c5 := hidT (fun (w' : World) (h : ErrT w') => pV_to r5 (by rw [bs_size]; omega) u x HV _ _ _ w' h rfl rfl rfl)
  have c6 := hidT (fun (w' : World) (h : ErrT w') => pC_to r6 (by rw [bs_size]; omega) HC _ w' h rfl)
  have c7 := hidT (fun (w' : World) (h : ErrT w') => pC_to r7 (by rw [bs_size]; omega) HC _ w' h rfl)
  have c8 := hidT (fun (w' : World) (h : ErrT w') => pV_to r1 (by rw [bs_size]; omega) ((p : Int) + 7) ((q : Int) - 70) HN2 _ _ _ w' h rfl rfl rfl)
  have c9 := hidT (fun (w' : World) (h : ErrT w') => pV_to r1 (by rw [bs_size]; omega) (p : Int) (q : Int) HN _ _ _ w' h rfl rfl rfl)
  have HHK := hidT HK
  have HPU := hidT hpu
  have HPX := hidT hpx
  have hCt := bs_toList C
  have hsum' : ((V : Int) + (W : Int)) % 7 = (Z : Int) := by omega
  have pn : (0 : Int) ≤ (p : Int) := by omega
  have qn : (0 : Int) ≤ (q : Int) := by omega
  clear hsum
  clear HK r1 r2 r3 r4 r5 r6 r7 HV HW HZ HC HN HN2 hcom hpu hpx t0 t0' l1 l2 l3 l4 l5 l6 l7 l8 l9 l10 lS lT
  clear E1 E2 E3 E4 E5 E6 E7 E8 E9 E10
  go_enter Tryd.func6, Tryd.ntmps6
  go_wp2_with fail
  refine (fixed_any _ hg).mono ?_
  rintro e w1 ⟨rfl, hb1⟩
  have P1 := hidT (hb1)
  have G1 := hidT (hg.below hb1)
  clear hb1
  go_wp2_with fail
  refine (HA'.out _ P1.out).mono ?_
  rintro e w2 ⟨rfl, hb2⟩
  have P2 := hidT (bel2 P1.out hb2)
  have G2 := hidT (G1.out.below hb2)
  clear hb2
  go_wp2_with fail
  refine (HB'.out _ P2.out).mono ?_
  rintro e w3 ⟨rfl, hb3⟩
  have P3 := hidT (bel2 P2.out hb3)
  have G3 := hidT (G2.out.below hb3)
  clear hb3
  go_wp2_with fail
  refine (c1.out _ G3.out).mono ?_
  rintro e w4 ⟨rfl, hb4⟩
  have P4 := hidT (bel2 P3.out hb4)
  have G4 := hidT (G3.out.below hb4)
  clear hb4
  go_wp2_with fail
  refine (c2.out _ G4.out).mono ?_
  rintro e w5 ⟨rfl, hb5⟩
  have P5 := hidT (bel2 P4.out hb5)
  have G5 := hidT (G4.out.below hb5)
  clear hb5
  go_wp2_with fail
  refine (c3.out _ G5.out).mono ?_
  rintro e w6 ⟨rfl, hb6⟩
  have P6 := hidT (bel2 P5.out hb6)
  have G6 := hidT (G5.out.below hb6)
  clear hb6
  go_wp2_with fail
  refine (c4.out _ G6.out).mono ?_
  rintro e w7 ⟨rfl, hb7⟩
  have P7 := hidT (bel2 P6.out hb7)
  have G7 := hidT (G6.out.below hb7)
  clear hb7
  go_wp2_with fail
  refine (HHK.out _).mono ?_
  rintro e w8 ⟨rfl, hb8⟩
  have P8 := hidT (bel2 P7.out hb8)
  have G8 := hidT (G7.out.below hb8)
  clear hb8
  go_wp2_with fail
  refine (c5.out _ G8.out).mono ?_
  rintro e w9 ⟨rfl, hb9⟩
  have P9 := hidT (bel2 P8.out hb9)
  have G9 := hidT (G8.out.below hb9)
  clear hb9
  go_wp2_with fail
  refine (c6.out _ G9.out).mono ?_
  rintro e w10 ⟨rfl, hb10⟩
  have P10 := hidT (bel2 P9.out hb10)
  have G10 := hidT (G9.out.below hb10)
  clear hb10
  go_wp2_with fail
  refine (c7.out _ G10.out).mono ?_
  rintro e w11 ⟨rfl, hb11⟩
  have P11 := hidT (bel2 P10.out hb11)
  have G11 := hidT (G10.out.below hb11)
  clear hb11
  go_wp2_with (go_at_call 14; first | (refine (kpick_to u 7 _ _ _ (by rfl) (by rfl) (by omega) (by omega) hu1 hu2).mono ?_; rintro e wp ⟨rfl, rfl⟩; rw [HPU.out]) | (refine (kpick_to x 7 _ _ _ (by rfl) (by rfl) (by omega) (by omega) hx1 hx2).mono ?_; rintro e wp ⟨rfl, rfl⟩; rw [HPX.out]))
  refine (c8.out _ G11.out).mono ?_
  rintro e w12 ⟨rfl, hb12⟩
  have P12 := hidT (bel2 P11.out hb12)
  have G12 := hidT (G11.out.below hb12)
  clear hb12
  go_wp2_with (go_at_call 14; first | (refine (kpick_to u 7 _ _ _ (by rfl) (by rfl) (by omega) (by omega) hu1 hu2).mono ?_; rintro e wp ⟨rfl, rfl⟩; rw [HPU.out]) | (refine (kpick_to x 7 _ _ _ (by rfl) (by rfl) (by omega) (by omega) hx1 hx2).mono ?_; rintro e wp ⟨rfl, rfl⟩; rw [HPX.out]))
  refine (c9.out _ G12.out).mono ?_
  rintro e w13 ⟨rfl, hb13⟩
  have P13 := hidT (bel2 P12.out hb13)
  have G13 := hidT (G12.out.below hb13)
  clear hb13
  go_wp2
  go_ret
  exact ⟨rfl, P13.out⟩
end Go.Proofs.YthlmgpllapccfaaDoor
/- WHAT THE ROWS' CONDITION GIVES A WALK: errors.errorType's cell; a world that meets it. -/
namespace Go.Proofs.YthlmgpllapccfaaDoor
open Go.ChangeShapes Go.WideShapes Go.RowKit

theorem Tryd.own : ownKnob Tryd.prog.godebug = none := by kernel_rfl
theorem Tryd.et : Tryd.prog.globalNamed "errors.errorType" = some 0 := by kernel_rfl
theorem Tryd.rt : (Tryd.prog.cutTypes.find? (·.1 == "internal/reflectlite.rtype")).map (·.2) = some 118 := by kernel_rfl
theorem Tryd.oneRow : ((List.range Tryd.prog.types.size).filter fun t => Tryd.prog.rowNamed t [101, 114, 114, 111, 114]) = [77] := by kernel_rfl
theorem Tryd.hand : typeHandle Tryd.prog 77 = .pointer (some ⟨5, 77, none⟩) := by kernel_rfl

theorem errT_of_handle {W : World} (h : handlesMet Tryd.prog [("errors.errorType", Rows.laid_errors_errorType)] W) : ErrT W := by
  obtain ⟨name, u, ty, e1, e2, e3, e4, e5⟩ := h _ (List.mem_singleton.2 rfl)
  have en : name = [101, 114, 114, 111, 114] := (Option.some.inj e1).symm
  subst en
  obtain rfl := Option.some.inj (Tryd.rt.symm.trans e2)
  have hm : ty ∈ (List.range Tryd.prog.types.size).filter fun t => Tryd.prog.rowNamed t [101, 114, 114, 111, 114] := List.mem_filter.2 ⟨List.mem_range.2 e3, e4⟩
  rw [Tryd.oneRow] at hm
  obtain rfl := List.mem_singleton.1 hm
  rw [Tryd.hand] at e5
  unfold ErrT
  simpa using World.var?_cell Tryd.et e5 0

/-- A world that meets the condition: the settled one, the variable's cell laid. -/
noncomputable def laidWorld (os : Os) : World :=
  let w0 := World.holding Tryd.prog os ⟨#[], #[], []⟩
  { w0 with heap := w0.heap.modify 0 fun
      | .cells _ t frozen => .cells #[.iface 118 (.agg #[.pointer (some ⟨5, 77, none⟩)])] t frozen
      | o => o }
end Go.Proofs.YthlmgpllapccfaaDoor
/- THE FOUR LISTED VARIABLES: what the condition gives; a world that meets it. -/
namespace Go.Proofs.YthlmgpllapccfaaDoor
open Go.ChangeShapes Go.WideShapes Go.RowKit
theorem four_laid {W : World} (h : laidMetH Tryd.prog [("math/bits.deBruijn32tab", Rows.laid_math_bits_deBruijn32tab), ("math/bits.deBruijn64tab", Rows.laid_math_bits_deBruijn64tab), ("internal/strconv.uint64pow10", Rows.laid_internal_strconv_uint64pow10), ("errors.errorType", Rows.laid_errors_errorType)] W) : ErrT W := by
  have h' : laidMet Tryd.prog [("math/bits.deBruijn32tab", Rows.laid_math_bits_deBruijn32tab), ("math/bits.deBruijn64tab", Rows.laid_math_bits_deBruijn64tab), ("internal/strconv.uint64pow10", Rows.laid_internal_strconv_uint64pow10)] W ∧ handlesMet Tryd.prog [("errors.errorType", Rows.laid_errors_errorType)] W := h
  exact errT_of_handle h'.2
theorem four_world (os : Os) (args : Array Value) : laidMetH Tryd.prog [("math/bits.deBruijn32tab", Rows.laid_math_bits_deBruijn32tab), ("math/bits.deBruijn64tab", Rows.laid_math_bits_deBruijn64tab), ("internal/strconv.uint64pow10", Rows.laid_internal_strconv_uint64pow10), ("errors.errorType", Rows.laid_errors_errorType)] ((World.doorLaid Tryd.prog 4000 os).forCall (fun _ _ => 0) ⟨#[], args, []⟩).memory :=
  laidMetH_of_parts3 (fuel := 40) (laidMet_of_run' 40 (by kernel_rfl) (by kernel_rfl)) (by kernel_rfl) (by kernel_rfl)
end Go.Proofs.YthlmgpllapccfaaDoor
/- ADDED: THE ROW, AND THE TIED CARD. -/
namespace Go.Proofs.YthlmgpllapccfaaDoor
open Go.ChangeShapes Go.WideShapes Go.ChangeAt Go.RowKit
open Go.ChangeMaps (open_string shut_string)

theorem wf_bd {n : Int} (h : (Lit.int .i64 n).wf = true) : -9223372036854775808 ≤ n ∧ n ≤ 9223372036854775807 := by
  simp only [Lit.wf, Bool.and_eq_true, decide_eq_true_eq] at h
  exact ⟨h.1, h.2⟩
theorem text_of {H : Type} {enc : TypeId × Value → H} {W : World} {a : Option Addr} {len cap : Nat} {d : DataW H} {ps : List MemPlace} (h : DataW.Trod enc Tryd.prog W 0 (fun _ => true) true 30 (.slice a len cap) d ps) (hlt : ∀ y ∈ ps, y.block < W.heap.size) :
    ∃ xs : List Int, ∀ w', Below W.heap.size W w' → Calls Tryd.prog 12 #[.slice a len cap, .int .i64 4] w' fun e w'' => e = .returned (.string (bs (kX xs))) ∧ Below w'.heap.size w' w'' := by
  obtain ⟨fuel, hf⟩ := h
  rcases open_ints Tryd.underlying30 Tryd.underlying3 (by kernel_rfl) hf with ⟨hcs, _⟩ | ⟨ad, len', cap', zs, hcs, _, hl, hm, hz, hx, hcell, hwz⟩
  · simp [Value.cells] at hcs
    obtain ⟨rfl, rfl, rfl⟩ := hcs
    exact ⟨[], fun w' _ => ktext_nil _ _ w'⟩
  · simp [Value.cells] at hcs
    obtain ⟨rfl, rfl, rfl⟩ := hcs
    simp only [if_true] at hz
    by_cases h0 : len = 0
    · subst h0
      exact ⟨[], fun w' _ => ktext_nil _ _ w'⟩
    · have hlen : (zs.take len).length = len := by rw [List.length_take]; omega
      have hblk : ad.block < W.heap.size := by
        simp only [Prod.mk.injEq] at hx
        refine hlt (.cell ad.block ad.off) ?_
        rw [hx.2]
        simp [MemPlace.row]
        omega
      refine ⟨zs.take len, fun w' hb => ?_⟩
      have k := ktext_some (zs.take len) ad cap w' (by omega) (fun j x hj => ?_) (Nat.lt_of_lt_of_le hblk hb.size) (by unfold maxLen at hm; omega)
      · rw [hlen] at k; exact k
      · rw [List.getElem?_take] at hj
        split at hj
        · have hj' : j < zs.length := by omega
          have e : zs.getD j 0 = x := by rw [List.getD_eq_getElem?_getD, hj]; rfl
          have hc := hcell j hj'
          rw [e] at hc
          refine ⟨?_, wf_bd (hwz x (List.mem_of_getElem? hj))⟩
          rw [← hc]
          exact World.cell?_of_block (by rw [add_block]; exact hb.block _ hblk)
        · cases hj
set_option maxRecDepth 100000 in
theorem added_lifted (os : Os) (started : os.Started) (H : Type) (enc : TypeId × Value → H) :
    ReturnsInHanded {} Tryd.checked os 6 .any (fun w args => (Rows.addedSpec.pre enc Tryd.prog Tryd.f6 [] false w args ∧ laidMetH Tryd.prog [("math/bits.deBruijn32tab", Rows.laid_math_bits_deBruijn32tab), ("math/bits.deBruijn64tab", Rows.laid_math_bits_deBruijn64tab), ("internal/strconv.uint64pow10", Rows.laid_internal_strconv_uint64pow10), ("errors.errorType", Rows.laid_errors_errorType)] w) ∧ sizedMet enc Tryd.prog Tryd.f6 (OpenSpec.ofChange Rows.addedSpec) false w args)
      (Rows.addedSpec.post enc Tryd.prog Tryd.f6 false true false false) := by
  refine returnsInHanded_of_change_and (C := Tryd.checked) (X := fun w _ => laidMetH Tryd.prog [("math/bits.deBruijn32tab", Rows.laid_math_bits_deBruijn32tab), ("math/bits.deBruijn64tab", Rows.laid_math_bits_deBruijn64tab), ("internal/strconv.uint64pow10", Rows.laid_internal_strconv_uint64pow10), ("errors.errorType", Rows.laid_errors_errorType)] w) (fun _ _ _ hh h => h.of_heap hh) Tryd.own started (by kernel_rfl) Tryd.func6
    (ChangeSpec.witness_shaped (enc := enc) (C := Tryd.checked) (os := os) (X := fun w _ => laidMetH Tryd.prog [("math/bits.deBruijn32tab", Rows.laid_math_bits_deBruijn32tab), ("math/bits.deBruijn64tab", Rows.laid_math_bits_deBruijn64tab), ("internal/strconv.uint64pow10", Rows.laid_internal_strconv_uint64pow10), ("errors.errorType", Rows.laid_errors_errorType)] w) false (World.doorLaid Tryd.prog 4000 os) #[.slice none 0 0, .slice none 0 0, .int .i64 0, .int .i64 0] 8 rfl (World.shaped_of_RefB (by kernel_rfl) (by kernel_rfl)) (by kernel_rfl) (by kernel_rfl) (by kernel_rfl) (four_world os _)) ?_
  intro W base args ds gs before hval0 hW _ hsz0 hL _
  have hval : ∀ (j : Nat) t v, Tryd.f6.params[j]? = some t → args[j]? = some v → Value.okWide Tryd.prog W .any base t v := hval0
  have hsz : (DataW.weightsEach Tryd.prog (Tryd.f6.params.toList ++ Rows.addedSpec.plain.varTypes Tryd.prog) (ds ++ gs)).all (· ≤ reachBytes) = true := hsz0
  have hW' := hW
  obtain ⟨p, q, hA0, hV0, rfl, hfz, hnd⟩ := hW
  have hA : DataW.TrodAll enc Tryd.prog W 0 (fun _ => true) true Tryd.f6.params.toList args.toList ds p := hA0
  have hV : DataW.TrodVars enc Tryd.prog W (fun _ => true) [] gs q := hV0
  rw [Tryd.params6] at hA hval hsz
  obtain ⟨v0, v1, v2, v3, d0, d1, d2, d3, p0, p1, p2, p3, rfl, rfl, rfl, h0, h1, h2, h3⟩ := trodAll_four hA
  obtain ⟨a0, len0, cap0, rfl⟩ := okWide_slice Tryd.underlying30 (hval 0 30 v0 rfl rfl)
  obtain ⟨a1, len1, cap1, rfl⟩ := okWide_slice Tryd.underlying30 (hval 1 30 v1 rfl rfl)
  obtain ⟨u, rfl, rfl, rfl, wu⟩ := open_int Tryd.underlying3 (hval 2 3 v2 rfl rfl) h2
  obtain ⟨x, rfl, rfl, rfl, wx⟩ := open_int Tryd.underlying3 (hval 3 3 v3 rfl rfl) h3
  have hg := four_laid hL
  obtain ⟨rfl, rfl⟩ : gs = [] ∧ q = [] := by
    cases gs with
    | nil => exact ⟨rfl, hV⟩
    | cons g r => exact absurd hV (by intro h; cases h)
  have hlt : ∀ y ∈ p0 ++ (p1 ++ ([] ++ ([] ++ []))) ++ [], y.block < W.heap.size := fun y hy => hW'.lt y (by simpa using hy)
  have args0 : ∀ (W' : World), Below W.heap.size W W' → DataW.Trod enc Tryd.prog W' 0 (fun b => decide (b < W.heap.size)) true 30 (.slice a0 len0 cap0) d0 p0 :=
    fun W' hn => Below.trod (by kernel_rfl) (by kernel_rfl) (of_decide_eq_true (by kernel_rfl)) h0 hn (fun y hy => hlt y (by simp [hy]))
  have args1 : ∀ (W' : World), Below W.heap.size W W' → DataW.Trod enc Tryd.prog W' 0 (fun b => decide (b < W.heap.size)) true 30 (.slice a1 len1 cap1) d1 p1 :=
    fun W' hn => Below.trod (by kernel_rfl) (by kernel_rfl) (of_decide_eq_true (by kernel_rfl)) h1 hn (fun y hy => hlt y (by simp [hy]))
  obtain ⟨xs, HX⟩ := text_of h0 (fun y hy => hlt y (by simp [hy]))
  obtain ⟨ys, HY⟩ := text_of h1 (fun y hy => hlt y (by simp [hy]))
  have bu := wf_bd wu
  have bx := wf_bd wx
  refine (lawAdded_any xs ys _ _ u x W hg bu.1 bu.2 bx.1 bx.2 HX HY).mono fun e W' ⟨he, hw⟩ => ?_
  subst he
  refine ⟨_, rfl, _, _, _, [], p0 ++ (p1 ++ ([] ++ [])), [], hW', ?_, ?_, ?_, hw.frame _, fun h => by cases h⟩
  · exact trodAll_mk1 (shut_bool Tryd.underlying4 true)
  · exact trodAll_mk4 (args0 _ hw) (args1 _ hw) (shut_int Tryd.underlying3 wu) (shut_int Tryd.underlying3 wx)
  · rfl

theorem added_holds : Rows.AddedSaid :=
  OpenClaim.holds_of_wide 6 Tryd.f6 rfl rfl rfl rfl rfl rfl rfl ⟨rfl, rfl, rfl, rfl, rfl⟩ rfl rfl rfl rfl rfl (by kernel_rfl) Tryd.func6 (by kernel_rfl)
    (of_decide_eq_true (by kernel_rfl)) (by unfold Func.isWrapper; rw [if_neg (of_decide_eq_false (by kernel_rfl))]; exact ⟨rfl, rfl⟩)
    (fun os started H enc _ => added_lifted os started H enc)

theorem added_card : Rows.AddedCardSaid :=
  Claim7.holds_tied_plain_at .later [] [.data, .data, .data, .handle] true (true, "de91fc91640b9c987a08eeef19824d0f4cf06336a136806cba3f6f1c2bfd1efd") true
    added_holds (fun _ h => by cases h) (by kernel_rfl) (fun _ h => by cases h) added_row_tie rfl ⟨rfl, rfl⟩ (by kernel_rfl) rfl
    (fun f fn hf hfn => by
      obtain rfl : f = 6 := Option.some.inj ((show Tryd.prog.funcNamed "segments/segmentskeep.Added" = some 6 by kernel_rfl).symm.trans hf) |>.symm
      obtain rfl : fn = Tryd.f6 := (Option.some.inj (Tryd.func6.symm.trans hfn)).symm
      exact ⟨by kernel_rfl, fun j t ht => by
        rw [Tryd.params6] at ht
        rcases j with _ | _ | _ | _ | j
        · obtain rfl : t = 30 := by simpa using ht.symm
          exact (show Tryd.prog.wantsStandIn 30 = false by kernel_rfl)
        · obtain rfl : t = 30 := by simpa using ht.symm
          exact (show Tryd.prog.wantsStandIn 30 = false by kernel_rfl)
        · obtain rfl : t = 3 := by simpa using ht.symm
          exact (show Tryd.prog.wantsStandIn 3 = false by kernel_rfl)
        · obtain rfl : t = 3 := by simpa using ht.symm
          exact (show Tryd.prog.wantsStandIn 3 = false by kernel_rfl)
        · simp at ht⟩)
    (by kernel_rfl)
end Go.Proofs.YthlmgpllapccfaaDoor
