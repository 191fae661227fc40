import Derived.Test.YthlmgpllapccfaaGreatDoorPack16
import Derived.Test.YthlmgpllapccfaaGreatDoorTie
import Derived.Test.YthlmgpllapccfaaGreatDoorCards
/- MERGED: THE ROW, AND THE TIED CARD. -/
namespace Go.Proofs.YthlmgpllapccfaaGreatDoor
open Go.ChangeShapes Go.WideShapes Go.ChangeAt Go.RowKit
open Go.ChangeMaps (open_string shut_string)

theorem ztext_of {H : Type} {enc : TypeId × Value → H} {W : World} {a : Option Addr} {len cap : Nat} {d : DataW H} {ps : List MemPlace} (h : DataW.Trod enc Tryz.prog W 0 (fun _ => true) true 43 (.slice a len cap) d ps) (hlt : ∀ y ∈ ps, y.block < W.heap.size) :
    ∃ xs : List Int, ∀ w', Below W.heap.size W w' → Calls Tryz.prog 21 #[.slice a len cap, .int .i64 0] w' fun e w'' => e = .returned (.string (bs (zX xs))) ∧ Below w'.heap.size w' w'' := by
  obtain ⟨fuel, hf⟩ := h
  rcases open_ints Tryz.underlying43 Tryz.underlying3 (by kernel_rfl) hf with ⟨hcs, _⟩ | ⟨ad, len', cap', zs, hcs, _, hl, hm, hz, hx, hcell, hwz⟩
  · simp [Value.cells] at hcs
    obtain ⟨rfl, rfl, rfl⟩ := hcs
    exact ⟨[], fun w' _ => ztext_nil _ _ w'⟩
  · simp [Value.cells] at hcs
    obtain ⟨rfl, rfl, rfl⟩ := hcs
    simp only [if_true] at hz
    by_cases h0 : len = 0
    · subst h0
      exact ⟨[], fun w' _ => ztext_nil _ _ w'⟩
    · have hlen : (zs.take len).length = len := by rw [List.length_take]; omega
      have hblk : ad.block < W.heap.size := by
        simp only [Prod.mk.injEq] at hx
        refine hlt (.cell ad.block ad.off) ?_
        rw [hx.2]
        simp [MemPlace.row]
        omega
      refine ⟨zs.take len, fun w' hb => ?_⟩
      have k := ztext_some (zs.take len) ad cap w' (by omega) (fun j x hj => ?_) (Nat.lt_of_lt_of_le hblk hb.size) (by unfold maxLen at hm; omega)
      · rw [hlen] at k; exact k
      · rw [List.getElem?_take] at hj
        split at hj
        · have hj' : j < zs.length := by omega
          have e : zs.getD j 0 = x := by rw [List.getD_eq_getElem?_getD, hj]; rfl
          have hc := hcell j hj'
          rw [e] at hc
          refine ⟨?_, wf_bd64 (hwz x (List.mem_of_getElem? hj))⟩
          rw [← hc]
          exact World.cell?_of_block (by rw [add_block]; exact hb.block _ hblk)
        · cases hj

set_option maxRecDepth 100000 in
theorem merged_lifted (os : Os) (started : os.Started) (H : Type) (enc : TypeId × Value → H) :
    ReturnsInHanded {} Tryz.checked os 7 .any (fun w args => (Rows.mergedSpec.pre enc Tryz.prog Tryz.f7 [] false w args ∧ laidMetH Tryz.prog [("errors.errorType", Rows.laid_errors_errorType)] w) ∧ sizedMet enc Tryz.prog Tryz.f7 (OpenSpec.ofChange Rows.mergedSpec) false w args)
      (Rows.mergedSpec.post enc Tryz.prog Tryz.f7 false true false false) := by
  refine returnsInHanded_of_change_and (C := Tryz.checked) (X := fun w _ => laidMetH Tryz.prog [("errors.errorType", Rows.laid_errors_errorType)] w) (fun _ _ _ hh h => h.of_heap hh) Tryz.own started (by kernel_rfl) Tryz.func7
    (ChangeSpec.witness_at (enc := enc) (C := Tryz.checked) (os := os) (X := fun w _ => laidMetH Tryz.prog [("errors.errorType", Rows.laid_errors_errorType)] w) false (laidWorld os) #[.slice none 0 0, .slice none 0 0, .int .i64 0] 8 rfl (by kernel_rfl) (by kernel_rfl) (by kernel_rfl) (by kernel_rfl) (by kernel_rfl) (err_world os _)) ?_
  intro W base args ds gs before hval0 hW _ hsz0 hL _
  have hval : ∀ (j : Nat) t v, Tryz.f7.params[j]? = some t → args[j]? = some v → Value.okWide Tryz.prog W .any base t v := hval0
  have hsz : (DataW.weightsEach Tryz.prog (Tryz.f7.params.toList ++ Rows.mergedSpec.plain.varTypes Tryz.prog) (ds ++ gs)).all (· ≤ reachBytes) = true := hsz0
  have hW' := hW
  obtain ⟨p, q, hA0, hV0, rfl, hfz, hnd⟩ := hW
  have hA : DataW.TrodAll enc Tryz.prog W 0 (fun _ => true) true Tryz.f7.params.toList args.toList ds p := hA0
  have hV : DataW.TrodVars enc Tryz.prog W (fun _ => true) [] gs q := hV0
  rw [Tryz.params7] at hA hval hsz
  obtain ⟨v0, v1, v2, d0, d1, d2, p0, p1, p2, rfl, rfl, rfl, h0, h1, h2⟩ := trodAll_three hA
  obtain ⟨a0, len0, cap0, rfl⟩ := okWide_slice Tryz.underlying43 (hval 0 43 v0 rfl rfl)
  obtain ⟨a1, len1, cap1, rfl⟩ := okWide_slice Tryz.underlying43 (hval 1 43 v1 rfl rfl)
  obtain ⟨u, rfl, rfl, rfl, wu⟩ := open_int Tryz.underlying3 (hval 2 3 v2 rfl rfl) h2
  have hg := err_laid hL
  obtain ⟨rfl, rfl⟩ : gs = [] ∧ q = [] := by
    cases gs with
    | nil => exact ⟨rfl, hV⟩
    | cons g r => exact absurd hV (by intro h; cases h)
  have hlt : ∀ y ∈ p0 ++ p1 ++ [] ++ [], y.block < W.heap.size := fun y hy => hW'.lt y (by simpa using hy)
  have args0 : ∀ (W' : World), Below W.heap.size W W' → DataW.Trod enc Tryz.prog W' 0 (fun b => decide (b < W.heap.size)) true 43 (.slice a0 len0 cap0) d0 p0 :=
    fun W' hn => Below.trod (by kernel_rfl) (by kernel_rfl) (of_decide_eq_true (by kernel_rfl)) h0 hn (fun y hy => hlt y (by simp [hy]))
  have args1 : ∀ (W' : World), Below W.heap.size W W' → DataW.Trod enc Tryz.prog W' 0 (fun b => decide (b < W.heap.size)) true 43 (.slice a1 len1 cap1) d1 p1 :=
    fun W' hn => Below.trod (by kernel_rfl) (by kernel_rfl) (of_decide_eq_true (by kernel_rfl)) h1 hn (fun y hy => hlt y (by simp [hy]))
  obtain ⟨xs, HX⟩ := ztext_of h0 (fun y hy => hlt y (by simp [hy]))
  obtain ⟨ys, HY⟩ := ztext_of h1 (fun y hy => hlt y (by simp [hy]))
  clear hA0 hval0 hsz0
  refine (lawMerged_any _ _ u xs ys W hg (wf_bd64 wu) HX HY).mono fun e W' ⟨he, hw⟩ => ?_
  subst he
  refine ⟨_, rfl, _, _, _, [], p0 ++ (p1 ++ []), [], hW', ?_, ?_, ?_, hw.frame _, fun h => by cases h⟩
  · exact trodAll_mk1 (shut_bool Tryz.underlying4 true)
  · exact trodAll_mk3 (args0 _ hw) (args1 _ hw) (shut_int Tryz.underlying3 wu)
  · rfl

theorem merged_holds : Rows.MergedSaid :=
  OpenClaim.holds_of_wide 7 Tryz.f7 rfl rfl rfl rfl rfl rfl rfl ⟨rfl, rfl, rfl, rfl, rfl⟩ rfl rfl rfl rfl rfl (by kernel_rfl) Tryz.func7 (by kernel_rfl)
    (of_decide_eq_true (by kernel_rfl)) (by unfold Func.isWrapper; rw [if_neg (of_decide_eq_false (by kernel_rfl))]; exact ⟨rfl, rfl⟩)
    (fun os started H enc _ => merged_lifted os started H enc)

theorem merged_card : Rows.MergedCardSaid :=
  Claim7.holds_tied_plain_at .later [] [.handle] true (true, "96a46c333c484247801d0ce534cef77f3d94ac4f4b7b00cca2ade548cce1501e") true
    merged_holds (fun _ h => by cases h) (by kernel_rfl) (fun _ h => by cases h) merged_row_tie rfl ⟨rfl, rfl⟩ (by kernel_rfl) rfl
    (fun f fn hf hfn => by
      obtain rfl : f = 7 := Option.some.inj ((show Tryz.prog.funcNamed "segments/segmentskeep.Merged" = some 7 by kernel_rfl).symm.trans hf) |>.symm
      obtain rfl : fn = Tryz.f7 := (Option.some.inj (Tryz.func7.symm.trans hfn)).symm
      exact ⟨by kernel_rfl, fun j t ht => by
        rw [Tryz.params7] at ht
        rcases j with _ | _ | _ | j
        · obtain rfl : t = 43 := by simpa using ht.symm
          exact (show Tryz.prog.wantsStandIn 43 = false by kernel_rfl)
        · obtain rfl : t = 43 := by simpa using ht.symm
          exact (show Tryz.prog.wantsStandIn 43 = false by kernel_rfl)
        · obtain rfl : t = 3 := by simpa using ht.symm
          exact (show Tryz.prog.wantsStandIn 3 = false by kernel_rfl)
        · simp at ht⟩)
    (by kernel_rfl)
end Go.Proofs.YthlmgpllapccfaaGreatDoor
