import Derived.Test.YthlmgpllapccfaaGreatDoorPack13
/- THE DOCUMENT's ANSWER: sets: parts out of pieces. -/
namespace Go.Proofs.YthlmgpllapccfaaGreatDoor
open Go.RowKit

set_option maxRecDepth 100000 in
set_option maxHeartbeats 2000000 in
theorem wpart_any (b g n cap N bd : Nat) (f : Nat → Tok) (op : Int) (D : World → Prop) (pc : Nat → StR) (hgr : Grow pc) (hDf : ∀ w w', D w → Fr [b] w w' → D w') (hpm : ∀ k, (f k).c = 49 → (pc k).e = 4 ∧ (pc k).bad = (f k).at')
    (s : WS) (hpc : ∀ s' w, (s.e ≠ 0 → s'.e ≠ 0) → WyS w b g n cap s' op → TkS w b g n N f → D w → Calls Tryz.prog 90 #[.pointer (some ⟨b, 0, none⟩), .pointer (some ⟨bd, 0, none⟩)] w (SP b g n cap pc s' op w))
    (w : World) (h : WyS w b g n cap s op) (ht : TkS w b g n N f) (hD : D w) :
    Calls Tryz.prog 67 #[.pointer (some ⟨b, 0, none⟩), .pointer (some ⟨bd, 0, none⟩)] w (SP b g n cap (prG f pc N) s op w) := by
  have hn : n ≤ N + 1 := ht.le
  have hN : N ≤ 1000 := ht.N
  have HP := hidV hpc
  have HDF := hidV hDf
  have HW := hidV h
  have HT := hidV ht
  have HD := hidV hD
  have hbl : b < w.heap.size := by rcases h with ⟨_, q, _⟩ | ⟨_, _, _, q⟩ <;> exact Blk.lt q
  clear hpc hDf h ht hD
  have HTF : Hid (∀ w', Fr [b] w w' → TkS w' b g n N f ∧ D w') := fun w' hf => ⟨HT.out.fr hf (by simp; exact fun q => HT.out.ne q.symm), HDF.out _ _ HD.out hf⟩
  obtain ⟨T, HTT⟩ : ∃ T, Hid (prG f pc N s.k = T) := ⟨_, hidV rfl⟩
  go_enter Tryz.func67, Tryz.ntmps67
  go_wp2_with fail
  have f0 : Fr [b] w (w.alloc (.cells #[.bool false, .bool false, .bool false, .bool false, .bool false, .bool false, .bool false] 45)) := (Fr.refl [b] w).alloc _
  refine (HP.out s _ (fun q => q) (HW.out.fr ((Fr.refl [] w).alloc _) (by simp)) (HTF.out _ f0).1 (HTF.out _ f0).2).mono ?_
  rintro e w1 ⟨⟨c, rfl, hcc⟩, hw1, hf1⟩
  have HI1 : Hid (WyS w1 b g n cap (afR pc s) op ∧ Fr [b] w w1 ∧ Blk w1 w.heap.size (bv fun _ => false) 45) := ⟨hw1, f0.trans hf1 (by simp), (Blk.new w _ _).fr hf1 (by simp; omega)⟩
  have HCC := hidV hcc
  clear hw1 hf1 hcc f0
  rw [bv_lit c]
  go_wp2_with fail
  refine wp_forget (fun V => Blk V w1.heap.size (bv c) 45 ∧ Blk V w.heap.size (bv fun _ => false) 45 ∧ WyS V b g n cap (afR pc s) op ∧ Fr [b] w V) ⟨Blk.new w1 _ _, Blk.alloc HI1.out.2.2 _, HI1.out.1.fr ((Fr.refl [] w1).alloc _) (by simp), HI1.out.2.1.alloc _⟩ ?_
  rintro V gV
  have HV := hidV gV
  have hib : w.heap.size < w1.heap.size := HI1.out.2.2.lt
  clear gV HI1
  generalize w1.heap.size = ib at *
  have HEND := hidV (SP_end (ib := ib) (g := g) (n := n) (cap := cap) (op := op) HTT hbl)
  by_cases hA : (afR pc s).e = 0
  · have hs0 : s.e = 0 := by
      unfold afR at hA
      split at hA
      · rename_i q; exact absurd hA q
      · rename_i q; omega
    have eaf : afR pc s = ⟨(pc s.k).k, (pc s.k).e, (pc s.k).bad⟩ := by unfold afR; rw [if_neg (by omega)]
    have hp0 : (pc s.k).e = 0 := by rw [eaf] at hA; exact hA
    have HT0 : Hid (T = prF f pc (N + 1) (afR pc s).k (pc s.k).b) := by unfold Hid; rw [← HTT.out, eaf]; unfold prG; rw [if_pos hp0]
    have hbb := HCC.out hs0 hp0
    rw [hbb] at HV
    clear hbb eaf hp0 HCC
    generalize (pc s.k).b = c0 at *
    obtain ⟨S0, HS0⟩ : ∃ S, Hid (afR pc s = S) := ⟨_, hidV rfl⟩
    rw [HS0.out] at HV hA HT0
    clear HS0
    go_loopg [6] (n + 1 - S0.k) (fun gm _ wr => ∃ S : WS, ∃ m : Nat, ∃ c : Nat → Bool, gm = (if S.e = 0 then n + 1 - S.k else 0) ∧ Hid ((S.e = 0 → T = prF f pc m S.k c ∧ N < S.k + m) ∧ (S.e ≠ 0 → S.e = T.e ∧ S.bad = T.bad)) ∧ Hid (Blk wr ib (bv c) 45 ∧ Blk wr w.heap.size (bv fun _ => false) 45 ∧ WyS wr b g n cap S op ∧ Fr [b] w wr))
    case atStart => exact ⟨S0, N + 1, c0, by rw [if_pos hA], ⟨fun _ => ⟨HT0.out, by omega⟩, fun q => absurd hA q⟩, HV⟩
    case round =>
      obtain ⟨S, m, c', hgm, HREL, HI⟩ := hrel
      clear HV HT0 hA
      have hwy := HI.out.2.2.1
      rcases hwy with ⟨k1, k2, k3⟩ | ⟨k1, k', hk', k2⟩
      · obtain ⟨hTS, hNm⟩ := HREL.out.1 k1
        have c2 := k2.cells.2.2.1
        have HK2 := hidV k2
        have HFR := hidV HI.out.2.2.2
        clear k2
        by_cases h42 : (f S.k).c = 42
        · have hk1 : S.k + 1 < n := HT.out.fin S.k k3 (by omega)
          have HPY := hidV (passes_yes b g n cap S.k f 38 0 op wr HK2.out (HTF.out _ HFR.out).1.tk k3 (by omega) (by omega) (by omega) (rk_38.2 h42))
          go_wp2_with fail
          refine HPY.out.mono ?_
          rintro e w2 ⟨rfl, hw2, hf2⟩
          have HI2 : Hid (Blk w2 ib (bv c') 45 ∧ Blk w2 w.heap.size (bv fun _ => false) 45 ∧ Wy w2 b g n cap (S.k + 1) 0 0 op ∧ Fr [b] w w2) := ⟨HI.out.1.fr hf2 (by simp; omega), HI.out.2.1.fr hf2 (by simp; omega), hw2, HFR.out.trans hf2 (by simp)⟩
          clear hw2 hf2 HPY c2
          by_cases h49 : (f (S.k + 1)).c = 49
          · have hk2 : S.k + 1 + 1 < n := HT.out.fin (S.k + 1) hk1 (by omega)
            have HPY2 := hidV (passes_yes b g n cap (S.k + 1) f 45 0 op w2 HI2.out.2.2.1 (HTF.out _ HI2.out.2.2.2).1.tk hk1 (by omega) (by omega) (by omega) (rk_45.2 h49))
            go_wp2_with fail
            refine HPY2.out.mono ?_
            rintro e w4 ⟨rfl, hw4, hf4⟩
            have HI4 : Hid (Blk w4 ib (bv c') 45 ∧ Blk w4 w.heap.size (bv fun _ => false) 45 ∧ Wy w4 b g n cap (S.k + 1 + 1) 0 0 op ∧ Fr [b] w w4) := ⟨HI2.out.1.fr hf4 (by simp; omega), HI2.out.2.1.fr hf4 (by simp; omega), hw4, HI2.out.2.2.2.trans hf4 (by simp)⟩
            obtain ⟨x0, x1, x2, x3, x4⟩ := hw4.cells
            obtain ⟨d0, d1, d2, d3⟩ := (HTF.out _ HI4.out.2.2.2).1.tk.cells hk1
            have i0 : (0 : Int) ≤ ((S.k + 1 : Nat) : Int) := by omega
            have i1 : ((S.k + 1 : Nat) : Int) < (n : Int) := by omega
            have e1 : ((S.k + 1 + 1 : Nat) : Int) = ((S.k + 1 : Nat) : Int) + 1 := by omega
            rw [e1] at x1
            have HWR := hidV (fun nr => wrong_first b g n cap (S.k + 1 + 1) 4 (f (S.k + 1)).at' 0 op (w4.drewN nr) (by exact hw4))
            have HK1 := hidV hk1
            have HPM := hidV (hpm (S.k + 1) h49)
            have HPE : Hid ((pc (S.k + 1)).e ≠ 0) := by unfold Hid; rw [HPM.out.1]; decide
            have HTE : Hid (T.e = 4 ∧ T.bad = (f (S.k + 1)).at') := by unfold Hid; rw [hTS, prF_bad (by omega) (Or.inl h42) HPE.out]; exact HPM.out
            obtain ⟨K1, HKK⟩ : ∃ K, Hid (S.k + 1 = K) := ⟨_, hidV rfl⟩
            rw [HKK.out] at x1 d0 d1 d2 d3 i0 i1 HWR HI4 HTE
            clear hw4 hf4 HPY2 HI2 e1
            go_wp2_with fail
            refine region_quiet_tail 13 (by kernel_rfl) (by kernel_rfl) ?_
            simp only [List.take_succ_cons, List.take_zero, List.drop_succ_cons, List.drop_zero]
            repeat (first | go_big_quiet_step ((fail)) | quiet_step ((fail)))
            refine wpQuiet_nil ?_
            rintro _ ⟨nr, rfl⟩
            go_wp2_with fail
            refine (HWR.out nr).mono ?_
            rintro e w5 ⟨rfl, hw5, hf5⟩
            have HI5 : Hid (Blk w5 ib (bv c') 45 ∧ Blk w5 w.heap.size (bv fun _ => false) 45 ∧ Wy w5 b g n cap (K1 + 1) 4 (f K1).at' op ∧ Fr [b] w w5) := ⟨HI4.out.1.fr (((Fr.refl [b] w4).drewN nr).trans hf5 (by simp)) (by simp; omega), HI4.out.2.1.fr (((Fr.refl [b] w4).drewN nr).trans hf5 (by simp)) (by simp; omega), hw5, HI4.out.2.2.2.trans (((Fr.refl [b] w4).drewN nr).trans hf5 (by simp)) (by simp)⟩
            clear hw5 hf5 HI4 x0 x1 x2 x3 x4 d0 d1 d2 d3 HWR
            have HPP := hidV (HP.out ⟨0, 4, (f K1).at'⟩ w5 (fun q => absurd hs0 q) (Or.inr ⟨by simp, K1 + 1, by rw [← HKK.out]; exact hk2, HI5.out.2.2.1⟩) (HTF.out _ HI5.out.2.2.2).1 (HTF.out _ HI5.out.2.2.2).2)
            go_wp2_with fail
            refine HPP.out.mono ?_
            rintro e w3 ⟨⟨c3, rfl, hc3⟩, hw3, hf3⟩
            have HS3 : Hid (afR pc ⟨0, 4, (f K1).at'⟩ = ⟨0, 4, (f K1).at'⟩) := by unfold Hid afR; rw [if_pos (by simp)]
            have HI3 : Hid (Blk w3 ib (bv c') 45 ∧ Blk w3 w.heap.size (bv fun _ => false) 45 ∧ WyS w3 b g n cap (afR pc ⟨0, 4, (f K1).at'⟩) op ∧ Fr [b] w w3) := ⟨HI5.out.1.fr hf3 (by simp; omega), HI5.out.2.1.fr hf3 (by simp; omega), hw3, HI5.out.2.2.2.trans hf3 (by simp)⟩
            have HFIN : Hid (∃ m2 : Nat, ∃ c2 : Nat → Bool, bv c2 = bv (fun j => c' j && (c3 j == true)) ∧ ((afR pc ⟨0, 4, (f K1).at'⟩).e = 0 → T = prF f pc m2 (afR pc ⟨0, 4, (f K1).at'⟩).k c2 ∧ N < (afR pc ⟨0, 4, (f K1).at'⟩).k + m2) ∧ ((afR pc ⟨0, 4, (f K1).at'⟩).e ≠ 0 → (afR pc ⟨0, 4, (f K1).at'⟩).e = T.e ∧ (afR pc ⟨0, 4, (f K1).at'⟩).bad = T.bad)) := by
              rw [HS3.out]
              exact ⟨0, _, rfl, fun q => by simp at q, fun _ => ⟨HTE.out.1.symm, HTE.out.2.symm⟩⟩
            have HM3 : Hid ((if (afR pc ⟨0, 4, (f K1).at'⟩).e = 0 then n + 1 - (afR pc ⟨0, 4, (f K1).at'⟩).k else 0) < gk) := by
              unfold Hid
              rw [HS3.out, hgm, if_pos k1, if_neg (by simp)]
              omega
            generalize afR pc ⟨0, 4, (f K1).at'⟩ = S3 at HI3 HFIN HM3
            clear hc3 hw3 hf3 HPP HI5 HS3
            rw [bv_lit c3]
            go_wp2_with fail
            refine wp_forget (fun X => Blk X ib (bv c') 45 ∧ Blk X w.heap.size (bv fun _ => false) 45 ∧ WyS X b g n cap S3 op ∧ Fr [b] w X ∧ Blk X w3.heap.size (bv c3) 45) ⟨Blk.alloc HI3.out.1 _, Blk.alloc HI3.out.2.1 _, HI3.out.2.2.1.fr ((Fr.refl [] w3).alloc _) (by simp), HI3.out.2.2.2.alloc _, Blk.new w3 _ _⟩ ?_
            rintro X gX
            have HX := hidV gX
            have hmb : w.heap.size < w3.heap.size ∧ ib < w3.heap.size := ⟨HI3.out.2.1.lt, HI3.out.1.lt⟩
            clear gX HI3
            generalize w3.heap.size = mb at *
            go_loopg [9] 7 (fun gm v9 ws => ∃ v : Nat, gm = 7 - v ∧ v ≤ 7 ∧ v9 = .int .i64 v ∧ Hid (Blk ws ib (bv fun j => if j < v then c' j && (c3 j == true) else c' j) 45 ∧ Blk ws w.heap.size (bv fun _ => false) 45 ∧ WyS ws b g n cap S3 op ∧ Fr [b] w ws ∧ Blk ws mb (bv c3) 45))
            case atStart => exact ⟨0, rfl, by omega, rfl, by rw [bv_congr (b := fun j => if j < 0 then c' j && (c3 j == true) else c' j) (c := c') (fun j _ => by rw [if_neg (by omega)])]; exact HX.out.1, HX.out.2⟩
            case round =>
              obtain ⟨v, hgv, hv, rfl, HY⟩ := hrel
              clear HX
              by_cases hv7 : v < 7
              · have v0 : (0 : Int) ≤ (v : Int) := by omega
                have v1 : (v : Int) < 7 := by omega
                have ci : wr.cell? ⟨ib, v, none⟩ = some (.bool (c' v)) := by rw [HY.out.1.cell, bv_get _ hv7, if_neg (by omega)]
                have cm : wr.cell? ⟨mb, v, none⟩ = some (.bool (c3 v)) := by rw [HY.out.2.2.2.2.cell, bv_get _ hv7]
                have fz : wr.frozen? ⟨ib, v, none⟩ = false := HY.out.1.frozen _
                have key : ∀ x : Bool, x = (c' v && (c3 v == true)) → Hid (Blk (wr.setCell ⟨ib, v, none⟩ (.bool x)) ib (bv fun j => if j < v + 1 then c' j && (c3 j == true) else c' j) 45 ∧ Blk (wr.setCell ⟨ib, v, none⟩ (.bool x)) w.heap.size (bv fun _ => false) 45 ∧ WyS (wr.setCell ⟨ib, v, none⟩ (.bool x)) b g n cap S3 op ∧ Fr [b] w (wr.setCell ⟨ib, v, none⟩ (.bool x)) ∧ Blk (wr.setCell ⟨ib, v, none⟩ (.bool x)) mb (bv c3) 45) := fun x hx => by
                  have f9 : Fr [ib] wr (wr.setCell ⟨ib, v, none⟩ (.bool x)) := Fr.setCell (Fr.refl _ _) _ _ (Or.inl (by simp))
                  refine ⟨?_, HY.out.2.1.setOther _ _ (by simp; omega), HY.out.2.2.1.fr f9 (by simp; omega), HY.out.2.2.2.1.setCell _ _ (Or.inr (by simp; omega)), HY.out.2.2.2.2.setOther _ _ (by simp; omega)⟩
                  have h9 := HY.out.1.set v (.bool x)
                  rw [bv_upd _ _ hv7] at h9
                  rw [bv_congr (b := fun j => if j < v + 1 then c' j && (c3 j == true) else c' j) (c := fun j => if j = v then x else if j < v then c' j && (c3 j == true) else c' j) (fun j hj => by
                    by_cases e1 : j = v
                    · rw [if_pos e1, if_pos (by omega), e1, hx]
                    · rw [if_neg e1]
                      by_cases e2 : j < v
                      · rw [if_pos e2, if_pos (by omega)]
                      · rw [if_neg e2, if_neg (by omega)])]
                  exact h9
                cases hcv : c' v with
                | true =>
                  rw [hcv] at ci
                  cases hc3v : c3 v with
                  | true =>
                    rw [hc3v] at cm
                    have KEY := key (true == true) (by rw [hcv, hc3v]; rfl)
                    clear key
                    go_wp2
                    go_roundg (7 - (v + 1))
                    case measure => omega
                    case rel => exact ⟨v + 1, rfl, by omega, by go_num, KEY⟩
                  | false =>
                    rw [hc3v] at cm
                    have KEY := key (false == true) (by rw [hcv, hc3v]; rfl)
                    clear key
                    go_wp2
                    go_roundg (7 - (v + 1))
                    case measure => omega
                    case rel => exact ⟨v + 1, rfl, by omega, by go_num, KEY⟩
                | false =>
                  rw [hcv] at ci
                  have KEY := key false (by rw [hcv]; rfl)
                  clear key
                  go_wp2
                  go_roundg (7 - (v + 1))
                  case measure => omega
                  case rel => exact ⟨v + 1, rfl, by omega, by go_num, KEY⟩
              · have ev : v = 7 := by omega
                subst ev
                go_wp2
                go_roundg (if S3.e = 0 then n + 1 - S3.k else 0)
                case measure => exact HM3.out
                case rel =>
                  obtain ⟨m2, c2, q1, q2, q3⟩ := HFIN.out
                  refine ⟨S3, m2, c2, rfl, ⟨q2, q3⟩, ?_, HY.out.2.1, HY.out.2.2.1, HY.out.2.2.2.1⟩
                  rw [q1, bv_congr (b := fun j => c' j && (c3 j == true)) (c := fun j => if j < 7 then c' j && (c3 j == true) else c' j) (fun j hj => by rw [if_pos hj])]
                  exact HY.out.1
          · have HPN := hidV (passes_no b g n cap (S.k + 1) f 45 0 op w2 HI2.out.2.2.1 (HTF.out _ HI2.out.2.2.2).1.tk hk1 (by omega) (by omega) (by omega) (fun q => h49 (rk_45.1 q)))
            have HJ2 := hidV HI2.out
            clear HI2
            go_wp2_with fail
            refine HPN.out.mono ?_
            rintro e w7 ⟨rfl, hw2, hf2⟩
            have HI2 : Hid (Blk w7 ib (bv c') 45 ∧ Blk w7 w.heap.size (bv fun _ => false) 45 ∧ Wy w7 b g n cap (S.k + 1) 0 0 op ∧ Fr [b] w w7) := ⟨HJ2.out.1.fr hf2 (by simp; omega), HJ2.out.2.1.fr hf2 (by simp; omega), hw2, HJ2.out.2.2.2.trans hf2 (by simp)⟩
            clear hw2 hf2 HPN HJ2
            have HPP := hidV (HP.out ⟨S.k + 1, 0, 0⟩ w7 (fun q => absurd hs0 q) (Or.inl ⟨rfl, HI2.out.2.2.1, hk1⟩) (HTF.out _ HI2.out.2.2.2).1 (HTF.out _ HI2.out.2.2.2).2)
            go_wp2_with fail
            refine HPP.out.mono ?_
            rintro e w3 ⟨⟨c3, rfl, hc3⟩, hw3, hf3⟩
            have HC3 := hidV (hc3 rfl)
            have HS3 : Hid (afR pc ⟨S.k + 1, 0, 0⟩ = ⟨(pc (S.k + 1)).k, (pc (S.k + 1)).e, (pc (S.k + 1)).bad⟩) := by unfold Hid afR; rw [if_neg (by simp)]
            have HI3 : Hid (Blk w3 ib (bv c') 45 ∧ Blk w3 w.heap.size (bv fun _ => false) 45 ∧ WyS w3 b g n cap (afR pc ⟨S.k + 1, 0, 0⟩) op ∧ Fr [b] w w3) := ⟨HI2.out.1.fr hf3 (by simp; omega), HI2.out.2.1.fr hf3 (by simp; omega), hw3, HI2.out.2.2.2.trans hf3 (by simp)⟩
            have HFIN : Hid (∃ m2 : Nat, ∃ c2 : Nat → Bool, bv c2 = bv (fun j => c' j && (c3 j == true)) ∧ ((afR pc ⟨S.k + 1, 0, 0⟩).e = 0 → T = prF f pc m2 (afR pc ⟨S.k + 1, 0, 0⟩).k c2 ∧ N < (afR pc ⟨S.k + 1, 0, 0⟩).k + m2) ∧ ((afR pc ⟨S.k + 1, 0, 0⟩).e ≠ 0 → (afR pc ⟨S.k + 1, 0, 0⟩).e = T.e ∧ (afR pc ⟨S.k + 1, 0, 0⟩).bad = T.bad)) := by
              rw [HS3.out]
              by_cases h3 : (pc (S.k + 1)).e = 0
              · have hb3 := bv_inj (HC3.out h3)
                have hg3 := hgr (S.k + 1) h3
                refine ⟨m - 1, _, bv_congr (fun j hj => ?_), fun _ => ⟨by rw [hTS, prF_and (by omega) h42 h3], by show N < (pc (S.k + 1)).k + (m - 1); omega⟩, fun q => absurd h3 q⟩
                rw [hb3 j hj]
                cases (pc (S.k + 1)).b j <;> rfl
              · exact ⟨0, _, rfl, fun q => absurd q h3, fun _ => by rw [hTS, prF_bad (by omega) (Or.inl h42) h3]; exact ⟨rfl, rfl⟩⟩
            have HM3 : Hid ((if (afR pc ⟨S.k + 1, 0, 0⟩).e = 0 then n + 1 - (afR pc ⟨S.k + 1, 0, 0⟩).k else 0) < gk) := by
              unfold Hid
              rw [HS3.out, hgm, if_pos k1]
              split
              · rename_i q; have := hgr (S.k + 1) q; show n + 1 - (pc (S.k + 1)).k < _; omega
              · omega
            generalize afR pc ⟨S.k + 1, 0, 0⟩ = S3 at HI3 HFIN HM3
            clear hc3 hw3 hf3 HPP HI2 HS3 HC3
            rw [bv_lit c3]
            go_wp2_with fail
            refine wp_forget (fun X => Blk X ib (bv c') 45 ∧ Blk X w.heap.size (bv fun _ => false) 45 ∧ WyS X b g n cap S3 op ∧ Fr [b] w X ∧ Blk X w3.heap.size (bv c3) 45) ⟨Blk.alloc HI3.out.1 _, Blk.alloc HI3.out.2.1 _, HI3.out.2.2.1.fr ((Fr.refl [] w3).alloc _) (by simp), HI3.out.2.2.2.alloc _, Blk.new w3 _ _⟩ ?_
            rintro X gX
            have HX := hidV gX
            have hmb : w.heap.size < w3.heap.size ∧ ib < w3.heap.size := ⟨HI3.out.2.1.lt, HI3.out.1.lt⟩
            clear gX HI3
            generalize w3.heap.size = mb at *
            go_loopg [9] 7 (fun gm v9 ws => ∃ v : Nat, gm = 7 - v ∧ v ≤ 7 ∧ v9 = .int .i64 v ∧ Hid (Blk ws ib (bv fun j => if j < v then c' j && (c3 j == true) else c' j) 45 ∧ Blk ws w.heap.size (bv fun _ => false) 45 ∧ WyS ws b g n cap S3 op ∧ Fr [b] w ws ∧ Blk ws mb (bv c3) 45))
            case atStart => exact ⟨0, rfl, by omega, rfl, by rw [bv_congr (b := fun j => if j < 0 then c' j && (c3 j == true) else c' j) (c := c') (fun j _ => by rw [if_neg (by omega)])]; exact HX.out.1, HX.out.2⟩
            case round =>
              obtain ⟨v, hgv, hv, rfl, HY⟩ := hrel
              clear HX
              by_cases hv7 : v < 7
              · have v0 : (0 : Int) ≤ (v : Int) := by omega
                have v1 : (v : Int) < 7 := by omega
                have ci : wr.cell? ⟨ib, v, none⟩ = some (.bool (c' v)) := by rw [HY.out.1.cell, bv_get _ hv7, if_neg (by omega)]
                have cm : wr.cell? ⟨mb, v, none⟩ = some (.bool (c3 v)) := by rw [HY.out.2.2.2.2.cell, bv_get _ hv7]
                have fz : wr.frozen? ⟨ib, v, none⟩ = false := HY.out.1.frozen _
                have key : ∀ x : Bool, x = (c' v && (c3 v == true)) → Hid (Blk (wr.setCell ⟨ib, v, none⟩ (.bool x)) ib (bv fun j => if j < v + 1 then c' j && (c3 j == true) else c' j) 45 ∧ Blk (wr.setCell ⟨ib, v, none⟩ (.bool x)) w.heap.size (bv fun _ => false) 45 ∧ WyS (wr.setCell ⟨ib, v, none⟩ (.bool x)) b g n cap S3 op ∧ Fr [b] w (wr.setCell ⟨ib, v, none⟩ (.bool x)) ∧ Blk (wr.setCell ⟨ib, v, none⟩ (.bool x)) mb (bv c3) 45) := fun x hx => by
                  have f9 : Fr [ib] wr (wr.setCell ⟨ib, v, none⟩ (.bool x)) := Fr.setCell (Fr.refl _ _) _ _ (Or.inl (by simp))
                  refine ⟨?_, HY.out.2.1.setOther _ _ (by simp; omega), HY.out.2.2.1.fr f9 (by simp; omega), HY.out.2.2.2.1.setCell _ _ (Or.inr (by simp; omega)), HY.out.2.2.2.2.setOther _ _ (by simp; omega)⟩
                  have h9 := HY.out.1.set v (.bool x)
                  rw [bv_upd _ _ hv7] at h9
                  rw [bv_congr (b := fun j => if j < v + 1 then c' j && (c3 j == true) else c' j) (c := fun j => if j = v then x else if j < v then c' j && (c3 j == true) else c' j) (fun j hj => by
                    by_cases e1 : j = v
                    · rw [if_pos e1, if_pos (by omega), e1, hx]
                    · rw [if_neg e1]
                      by_cases e2 : j < v
                      · rw [if_pos e2, if_pos (by omega)]
                      · rw [if_neg e2, if_neg (by omega)])]
                  exact h9
                cases hcv : c' v with
                | true =>
                  rw [hcv] at ci
                  cases hc3v : c3 v with
                  | true =>
                    rw [hc3v] at cm
                    have KEY := key (true == true) (by rw [hcv, hc3v]; rfl)
                    clear key
                    go_wp2
                    go_roundg (7 - (v + 1))
                    case measure => omega
                    case rel => exact ⟨v + 1, rfl, by omega, by go_num, KEY⟩
                  | false =>
                    rw [hc3v] at cm
                    have KEY := key (false == true) (by rw [hcv, hc3v]; rfl)
                    clear key
                    go_wp2
                    go_roundg (7 - (v + 1))
                    case measure => omega
                    case rel => exact ⟨v + 1, rfl, by omega, by go_num, KEY⟩
                | false =>
                  rw [hcv] at ci
                  have KEY := key false (by rw [hcv]; rfl)
                  clear key
                  go_wp2
                  go_roundg (7 - (v + 1))
                  case measure => omega
                  case rel => exact ⟨v + 1, rfl, by omega, by go_num, KEY⟩
              · have ev : v = 7 := by omega
                subst ev
                go_wp2
                go_roundg (if S3.e = 0 then n + 1 - S3.k else 0)
                case measure => exact HM3.out
                case rel =>
                  obtain ⟨m2, c2, q1, q2, q3⟩ := HFIN.out
                  refine ⟨S3, m2, c2, rfl, ⟨q2, q3⟩, ?_, HY.out.2.1, HY.out.2.2.1, HY.out.2.2.2.1⟩
                  rw [q1, bv_congr (b := fun j => c' j && (c3 j == true)) (c := fun j => if j < 7 then c' j && (c3 j == true) else c' j) (fun j hj => by rw [if_pos hj])]
                  exact HY.out.1
        · have HPN := hidV (passes_no b g n cap S.k f 38 0 op wr HK2.out (HTF.out _ HFR.out).1.tk k3 (by omega) (by omega) (by omega) (fun q => h42 (rk_38.1 q)))
          go_wp2_with fail
          refine HPN.out.mono ?_
          rintro e w6 ⟨rfl, hw6, hf6⟩
          have HJ2 : Hid (Blk w6 ib (bv c') 45 ∧ Blk w6 w.heap.size (bv fun _ => false) 45 ∧ Wy w6 b g n cap S.k 0 0 op ∧ Fr [b] w w6) := ⟨HI.out.1.fr hf6 (by simp; omega), HI.out.2.1.fr hf6 (by simp; omega), hw6, HFR.out.trans hf6 (by simp)⟩
          clear hw6 hf6 HPN c2
          by_cases h49 : (f S.k).c = 49
          · have hk1 : S.k + 1 < n := HT.out.fin S.k k3 (by omega)
            have HPY := hidV (passes_yes b g n cap S.k f 45 0 op w6 HJ2.out.2.2.1 (HTF.out _ HJ2.out.2.2.2).1.tk k3 (by omega) (by omega) (by omega) (rk_45.2 h49))
            go_wp2_with fail
            refine HPY.out.mono ?_
            rintro e w2 ⟨rfl, hw2, hf2⟩
            have HI2 : Hid (Blk w2 ib (bv c') 45 ∧ Blk w2 w.heap.size (bv fun _ => false) 45 ∧ Wy w2 b g n cap (S.k + 1) 0 0 op ∧ Fr [b] w w2) := ⟨HJ2.out.1.fr hf2 (by simp; omega), HJ2.out.2.1.fr hf2 (by simp; omega), hw2, HJ2.out.2.2.2.trans hf2 (by simp)⟩
            clear hw2 hf2 HPY HJ2
            have HPP := hidV (HP.out ⟨S.k + 1, 0, 0⟩ w2 (fun q => absurd hs0 q) (Or.inl ⟨rfl, HI2.out.2.2.1, hk1⟩) (HTF.out _ HI2.out.2.2.2).1 (HTF.out _ HI2.out.2.2.2).2)
            go_wp2_with fail
            refine HPP.out.mono ?_
            rintro e w3 ⟨⟨c3, rfl, hc3⟩, hw3, hf3⟩
            have HC3 := hidV (hc3 rfl)
            have HS3 : Hid (afR pc ⟨S.k + 1, 0, 0⟩ = ⟨(pc (S.k + 1)).k, (pc (S.k + 1)).e, (pc (S.k + 1)).bad⟩) := by unfold Hid afR; rw [if_neg (by simp)]
            have HI3 : Hid (Blk w3 ib (bv c') 45 ∧ Blk w3 w.heap.size (bv fun _ => false) 45 ∧ WyS w3 b g n cap (afR pc ⟨S.k + 1, 0, 0⟩) op ∧ Fr [b] w w3) := ⟨HI2.out.1.fr hf3 (by simp; omega), HI2.out.2.1.fr hf3 (by simp; omega), hw3, HI2.out.2.2.2.trans hf3 (by simp)⟩
            have HFIN : Hid (∃ m2 : Nat, ∃ c2 : Nat → Bool, bv c2 = bv (fun j => c' j && (c3 j == false)) ∧ ((afR pc ⟨S.k + 1, 0, 0⟩).e = 0 → T = prF f pc m2 (afR pc ⟨S.k + 1, 0, 0⟩).k c2 ∧ N < (afR pc ⟨S.k + 1, 0, 0⟩).k + m2) ∧ ((afR pc ⟨S.k + 1, 0, 0⟩).e ≠ 0 → (afR pc ⟨S.k + 1, 0, 0⟩).e = T.e ∧ (afR pc ⟨S.k + 1, 0, 0⟩).bad = T.bad)) := by
              rw [HS3.out]
              by_cases h3 : (pc (S.k + 1)).e = 0
              · have hb3 := bv_inj (HC3.out h3)
                have hg3 := hgr (S.k + 1) h3
                refine ⟨m - 1, _, bv_congr (fun j hj => ?_), fun _ => ⟨by rw [hTS, prF_not (by omega) h49 h3], by show N < (pc (S.k + 1)).k + (m - 1); omega⟩, fun q => absurd h3 q⟩
                rw [hb3 j hj]
                cases (pc (S.k + 1)).b j <;> rfl
              · exact ⟨0, _, rfl, fun q => absurd q h3, fun _ => by rw [hTS, prF_bad (by omega) (Or.inr h49) h3]; exact ⟨rfl, rfl⟩⟩
            have HM3 : Hid ((if (afR pc ⟨S.k + 1, 0, 0⟩).e = 0 then n + 1 - (afR pc ⟨S.k + 1, 0, 0⟩).k else 0) < gk) := by
              unfold Hid
              rw [HS3.out, hgm, if_pos k1]
              split
              · rename_i q; have := hgr (S.k + 1) q; show n + 1 - (pc (S.k + 1)).k < _; omega
              · omega
            generalize afR pc ⟨S.k + 1, 0, 0⟩ = S3 at HI3 HFIN HM3
            clear hc3 hw3 hf3 HPP HI2 HS3 HC3
            rw [bv_lit c3]
            go_wp2_with fail
            refine wp_forget (fun X => Blk X ib (bv c') 45 ∧ Blk X w.heap.size (bv fun _ => false) 45 ∧ WyS X b g n cap S3 op ∧ Fr [b] w X ∧ Blk X w3.heap.size (bv c3) 45) ⟨Blk.alloc HI3.out.1 _, Blk.alloc HI3.out.2.1 _, HI3.out.2.2.1.fr ((Fr.refl [] w3).alloc _) (by simp), HI3.out.2.2.2.alloc _, Blk.new w3 _ _⟩ ?_
            rintro X gX
            have HX := hidV gX
            have hmb : w.heap.size < w3.heap.size ∧ ib < w3.heap.size := ⟨HI3.out.2.1.lt, HI3.out.1.lt⟩
            clear gX HI3
            generalize w3.heap.size = mb at *
            go_loopg [9] 7 (fun gm v9 ws => ∃ v : Nat, gm = 7 - v ∧ v ≤ 7 ∧ v9 = .int .i64 v ∧ Hid (Blk ws ib (bv fun j => if j < v then c' j && (c3 j == false) else c' j) 45 ∧ Blk ws w.heap.size (bv fun _ => false) 45 ∧ WyS ws b g n cap S3 op ∧ Fr [b] w ws ∧ Blk ws mb (bv c3) 45))
            case atStart => exact ⟨0, rfl, by omega, rfl, by rw [bv_congr (b := fun j => if j < 0 then c' j && (c3 j == false) else c' j) (c := c') (fun j _ => by rw [if_neg (by omega)])]; exact HX.out.1, HX.out.2⟩
            case round =>
              obtain ⟨v, hgv, hv, rfl, HY⟩ := hrel
              clear HX
              by_cases hv7 : v < 7
              · have v0 : (0 : Int) ≤ (v : Int) := by omega
                have v1 : (v : Int) < 7 := by omega
                have ci : wr.cell? ⟨ib, v, none⟩ = some (.bool (c' v)) := by rw [HY.out.1.cell, bv_get _ hv7, if_neg (by omega)]
                have cm : wr.cell? ⟨mb, v, none⟩ = some (.bool (c3 v)) := by rw [HY.out.2.2.2.2.cell, bv_get _ hv7]
                have fz : wr.frozen? ⟨ib, v, none⟩ = false := HY.out.1.frozen _
                have key : ∀ x : Bool, x = (c' v && (c3 v == false)) → Hid (Blk (wr.setCell ⟨ib, v, none⟩ (.bool x)) ib (bv fun j => if j < v + 1 then c' j && (c3 j == false) else c' j) 45 ∧ Blk (wr.setCell ⟨ib, v, none⟩ (.bool x)) w.heap.size (bv fun _ => false) 45 ∧ WyS (wr.setCell ⟨ib, v, none⟩ (.bool x)) b g n cap S3 op ∧ Fr [b] w (wr.setCell ⟨ib, v, none⟩ (.bool x)) ∧ Blk (wr.setCell ⟨ib, v, none⟩ (.bool x)) mb (bv c3) 45) := fun x hx => by
                  have f9 : Fr [ib] wr (wr.setCell ⟨ib, v, none⟩ (.bool x)) := Fr.setCell (Fr.refl _ _) _ _ (Or.inl (by simp))
                  refine ⟨?_, HY.out.2.1.setOther _ _ (by simp; omega), HY.out.2.2.1.fr f9 (by simp; omega), HY.out.2.2.2.1.setCell _ _ (Or.inr (by simp; omega)), HY.out.2.2.2.2.setOther _ _ (by simp; omega)⟩
                  have h9 := HY.out.1.set v (.bool x)
                  rw [bv_upd _ _ hv7] at h9
                  rw [bv_congr (b := fun j => if j < v + 1 then c' j && (c3 j == false) else c' j) (c := fun j => if j = v then x else if j < v then c' j && (c3 j == false) else c' j) (fun j hj => by
                    by_cases e1 : j = v
                    · rw [if_pos e1, if_pos (by omega), e1, hx]
                    · rw [if_neg e1]
                      by_cases e2 : j < v
                      · rw [if_pos e2, if_pos (by omega)]
                      · rw [if_neg e2, if_neg (by omega)])]
                  exact h9
                cases hcv : c' v with
                | true =>
                  rw [hcv] at ci
                  cases hc3v : c3 v with
                  | true =>
                    rw [hc3v] at cm
                    have KEY := key (true == false) (by rw [hcv, hc3v]; rfl)
                    clear key
                    go_wp2
                    go_roundg (7 - (v + 1))
                    case measure => omega
                    case rel => exact ⟨v + 1, rfl, by omega, by go_num, KEY⟩
                  | false =>
                    rw [hc3v] at cm
                    have KEY := key (false == false) (by rw [hcv, hc3v]; rfl)
                    clear key
                    go_wp2
                    go_roundg (7 - (v + 1))
                    case measure => omega
                    case rel => exact ⟨v + 1, rfl, by omega, by go_num, KEY⟩
                | false =>
                  rw [hcv] at ci
                  have KEY := key false (by rw [hcv]; rfl)
                  clear key
                  go_wp2
                  go_roundg (7 - (v + 1))
                  case measure => omega
                  case rel => exact ⟨v + 1, rfl, by omega, by go_num, KEY⟩
              · have ev : v = 7 := by omega
                subst ev
                go_wp2
                go_roundg (if S3.e = 0 then n + 1 - S3.k else 0)
                case measure => exact HM3.out
                case rel =>
                  obtain ⟨m2, c2, q1, q2, q3⟩ := HFIN.out
                  refine ⟨S3, m2, c2, rfl, ⟨q2, q3⟩, ?_, HY.out.2.1, HY.out.2.2.1, HY.out.2.2.2.1⟩
                  rw [q1, bv_congr (b := fun j => c' j && (c3 j == false)) (c := fun j => if j < 7 then c' j && (c3 j == false) else c' j) (fun j hj => by rw [if_pos hj])]
                  exact HY.out.1
          · have HPN := hidV (passes_no b g n cap S.k f 45 0 op w6 HJ2.out.2.2.1 (HTF.out _ HJ2.out.2.2.2).1.tk k3 (by omega) (by omega) (by omega) (fun q => h49 (rk_45.1 q)))
            go_wp2_with fail
            refine HPN.out.mono ?_
            rintro e w2 ⟨rfl, hw2, hf2⟩
            have HI2 : Hid (Blk w2 ib (bv c') 45 ∧ Blk w2 w.heap.size (bv fun _ => false) 45 ∧ WyS w2 b g n cap S op ∧ Fr [b] w w2) := ⟨HJ2.out.1.fr hf2 (by simp; omega), HJ2.out.2.1.fr hf2 (by simp; omega), Or.inl ⟨k1, hw2, k3⟩, HJ2.out.2.2.2.trans hf2 (by simp)⟩
            have HRR : Hid ((s.e ≠ 0 → S = s) ∧ (s.e = 0 → S.e = T.e ∧ (S.e ≠ 0 → S.bad = T.bad) ∧ (T.e = 0 → S.k = T.k ∧ bv c' = bv T.b))) := by
              rw [prF_end h42 h49] at hTS
              rw [hTS]
              exact ⟨fun q => absurd hs0 q, fun _ => ⟨k1, fun q => absurd k1 q, fun _ => ⟨rfl, rfl⟩⟩⟩
            have HQ := hidV (HEND.out S w2 c' HI2 HRR)
            have HTH := hidV (show World.there w2 w.heap.size 0 (bv c').size from Blk.there HI2.out.2.1 (Nat.le_refl _))
            have HSZ := hidV (size_bool7 c')
            have HON := hidV (bv_one c')
            have HBB := hidV HI2.out.1
            have HRB := hidV HI2.out.2.1
            obtain ⟨y, HY⟩ : ∃ y, Hid (bv c' = y) := ⟨_, hidV rfl⟩
            have HYS : Hid (y.size = (bv fun _ => false).size) := by unfold Hid; rw [← HY.out]; rfl
            rw [HY.out] at HTH HSZ HON HBB HQ
            go_wp2_with (first | (refine wpList_load_row (by rfl) 45 _ (by rfl) ib (by rfl) 45 y (0, 0) _ HBB.out Tryz.underlying45 (by rfl) HSZ.out ?_) | (refine wpList_store_mid (by rfl) 45 _ _ (by rfl) w.heap.size 0 y (by rfl) (by rfl) HTH.out HSZ.out HON.out ?_))
            refine bodyPost_ret (results_cell_row Tryz.results67 _ _ w.heap.size 45 y (0, 0) _ (by rfl) (Blk.setAll HRB.out _ HYS.out) Tryz.underlying45 rfl HSZ.out) rfl HQ.out
      · have c2 := k2.cells.2.2.1
        have ne : (((S.e : Nat) : Int) == 0) = false := by rw [beq_eq_false_iff_ne]; omega
        obtain ⟨q1, q2⟩ := HREL.out.2 k1
        have HRR : Hid ((s.e ≠ 0 → S = s) ∧ (s.e = 0 → S.e = T.e ∧ (S.e ≠ 0 → S.bad = T.bad) ∧ (T.e = 0 → S.k = T.k ∧ bv c' = bv T.b))) := ⟨fun q => absurd hs0 q, fun _ => ⟨q1, fun _ => q2, fun q => by omega⟩⟩
        clear k2
        have HQ := hidV (HEND.out S wr c' HI HRR)
        have HTH := hidV (show World.there wr w.heap.size 0 (bv c').size from Blk.there HI.out.2.1 (Nat.le_refl _))
        have HSZ := hidV (size_bool7 c')
        have HON := hidV (bv_one c')
        have HBB := hidV HI.out.1
        have HRB := hidV HI.out.2.1
        obtain ⟨y, HY⟩ : ∃ y, Hid (bv c' = y) := ⟨_, hidV rfl⟩
        have HYS : Hid (y.size = (bv fun _ => false).size) := by unfold Hid; rw [← HY.out]; rfl
        rw [HY.out] at HTH HSZ HON HBB HQ
        go_wp2_with (first | (refine wpList_load_row (by rfl) 45 _ (by rfl) ib (by rfl) 45 y (0, 0) _ HBB.out Tryz.underlying45 (by rfl) HSZ.out ?_) | (refine wpList_store_mid (by rfl) 45 _ _ (by rfl) w.heap.size 0 y (by rfl) (by rfl) HTH.out HSZ.out HON.out ?_))
        refine bodyPost_ret (results_cell_row Tryz.results67 _ _ w.heap.size 45 y (0, 0) _ (by rfl) (Blk.setAll HRB.out _ HYS.out) Tryz.underlying45 rfl HSZ.out) rfl HQ.out
  · have HR : Hid ((s.e ≠ 0 → afR pc s = s) ∧ (s.e = 0 → (afR pc s).e = T.e ∧ ((afR pc s).e ≠ 0 → (afR pc s).bad = T.bad) ∧ (T.e = 0 → (afR pc s).k = T.k ∧ bv c = bv T.b))) := by
      refine ⟨fun h1 => by unfold afR; rw [if_pos h1], fun h1 => ?_⟩
      unfold afR at hA ⊢
      rw [if_neg (by omega)] at hA ⊢
      have hA' : ¬ (pc s.k).e = 0 := hA
      have e0 : T = pc s.k := by rw [← HTT.out]; unfold prG; rw [if_neg hA']
      rw [e0]
      exact ⟨rfl, fun _ => rfl, fun q => absurd q hA'⟩
    obtain ⟨S, HSS⟩ : ∃ S, Hid (afR pc s = S) := ⟨_, hidV rfl⟩
    rw [HSS.out] at HR HV hA
    have hq := HV.out.2.2.1
    rcases hq with ⟨k1, _⟩ | ⟨_, k', hk', hwy⟩
    · exact absurd k1 hA
    · have c2 := hwy.cells.2.2.1
      have ne : (((S.e : Nat) : Int) == 0) = false := by rw [beq_eq_false_iff_ne]; omega
      clear hwy
      refine wp_loop_rounds 1 ?_
      rw [rounds_succ]
      have HQ := hidV (HEND.out S V c HV HR)
      have HTH := hidV (show World.there V w.heap.size 0 (bv c).size from Blk.there HV.out.2.1 (Nat.le_refl _))
      have HSZ := hidV (size_bool7 c)
      have HON := hidV (bv_one c)
      have HBB := hidV HV.out.1
      have HRB := hidV HV.out.2.1
      obtain ⟨y, HY⟩ : ∃ y, Hid (bv c = y) := ⟨_, hidV rfl⟩
      have HYS : Hid (y.size = (bv fun _ => false).size) := by unfold Hid; rw [← HY.out]; rfl
      rw [HY.out] at HTH HSZ HON HBB HQ
      go_wp2_with (first | (refine wpList_load_row (by rfl) 45 _ (by rfl) ib (by rfl) 45 y (0, 0) _ HBB.out Tryz.underlying45 (by rfl) HSZ.out ?_) | (refine wpList_store_mid (by rfl) 45 _ _ (by rfl) w.heap.size 0 y (by rfl) (by rfl) HTH.out HSZ.out HON.out ?_))
      refine bodyPost_ret (results_cell_row Tryz.results67 _ _ w.heap.size 45 y (0, 0) _ (by rfl) (Blk.setAll HRB.out _ HYS.out) Tryz.underlying45 rfl HSZ.out) rfl HQ.out
end Go.Proofs.YthlmgpllapccfaaGreatDoor
/- THE DOCUMENT's ANSWER: sets: pieces. -/
namespace Go.Proofs.YthlmgpllapccfaaGreatDoor
open Go.RowKit

theorem WyS.lt {w : World} {b g n cap : Nat} {s : WS} {op : Int} (h : WyS w b g n cap s op) : b < w.heap.size := by rcases h with ⟨_, q, _⟩ | ⟨_, _, _, q⟩ <;> exact Blk.lt q
theorem WyS.opn {w : World} {b g n cap : Nat} {s : WS} {op : Int} (h : WyS w b g n cap s op) : w.cell? ⟨b, 4, none⟩ = some (.int .i64 op) ∧ w.frozen? ⟨b, 4, none⟩ = false := by
  rcases h with ⟨_, q, _⟩ | ⟨_, _, _, q⟩
  · exact ⟨q.cells.2.2.2.2, q.free.2.2.2.2⟩
  · exact ⟨q.cells.2.2.2.2, q.free.2.2.2.2⟩
theorem WyS.setOp {w : World} {b g n cap : Nat} {s : WS} {op : Int} (h : WyS w b g n cap s op) (o : Int) : WyS (w.setCell ⟨b, 4, none⟩ (.int .i64 o)) b g n cap s o := by
  rcases h with ⟨q1, q2, q3⟩ | ⟨q1, k', q2, q3⟩
  · exact Or.inl ⟨q1, Blk.set q2 4 _, q3⟩
  · exact Or.inr ⟨q1, k', q2, Blk.set q3 4 _⟩
theorem rk_126 {c : Nat} : rk c = 126 ↔ c = 130 := by
  constructor
  · intro h
    unfold rk at h
    repeat' split at h
    all_goals first | omega | (rename_i q; have := sgn_big q; omega)
  · intro h; subst h; rfl
theorem rk_40 {c : Nat} : rk c = 40 ↔ c = 44 := by
  constructor
  · intro h
    unfold rk at h
    repeat' split at h
    all_goals first | omega | (rename_i q; have := sgn_big q; omega)
  · intro h; subst h; rfl
theorem rk_41 {c : Nat} : rk c = 41 ↔ c = 45 := by
  constructor
  · intro h
    unfold rk at h
    repeat' split at h
    all_goals first | omega | (rename_i q; have := sgn_big q; omega)
  · intro h; subst h; rfl
theorem rk_91 {c : Nat} : rk c = 91 ↔ c = 95 := by
  constructor
  · intro h
    unfold rk at h
    repeat' split at h
    all_goals first | omega | (rename_i q; have := sgn_big q; omega)
  · intro h; subst h; rfl
theorem rk_93 {c : Nat} : rk c = 93 ↔ c = 97 := by
  constructor
  · intro h
    unfold rk at h
    repeat' split at h
    all_goals first | omega | (rename_i q; have := sgn_big q; omega)
  · intro h; subst h; rfl

set_option maxRecDepth 100000 in
set_option maxHeartbeats 1000000 in
theorem piece_err (b g n cap bd : Nat) (pc : Nat → StR) (s : WS) (op : Int) (w : World) (h : WyS w b g n cap s op) (he : s.e ≠ 0) :
    Calls Tryz.prog 90 #[.pointer (some ⟨b, 0, none⟩), .pointer (some ⟨bd, 0, none⟩)] w (SP b g n cap pc s op w) := by
  have hbl := h.lt
  have HW := hidV h
  rcases h with ⟨q, _⟩ | ⟨_, k', hk', hwy⟩
  · exact absurd q he
  have c2 := hwy.cells.2.2.1
  have ne : (((s.e : Nat) : Int) != 0) = true := by rw [bne_iff_ne]; omega
  clear hwy
  have HQ : Hid (SP b g n cap pc s op w (.returned (.agg (bv fun _ => false))) ((w.alloc (.cells #[.bool false, .bool false, .bool false, .bool false, .bool false, .bool false, .bool false] 45)).alloc (.cells #[.bool false, .bool false, .bool false, .bool false, .bool false, .bool false, .bool false] 45))) := by
    refine ⟨⟨fun _ => false, rfl, fun q => absurd q he⟩, ?_, ((Fr.refl [b] w).alloc _).alloc _⟩
    unfold afR
    rw [if_pos he]
    exact HW.out.fr (((Fr.refl [] w).alloc _).alloc _) (by simp)
  go_enter Tryz.func90, Tryz.ntmps90
  go_wp2_with fail
  refine ⟨rfl, .agg (bv fun _ => false), ?_, HQ.out⟩
  exact results_cell_row Tryz.results90 _ _ w.heap.size 45 (bv fun _ => false) (0, 0) _ (by rfl) (by exact Blk.alloc (Blk.new w _ _) _) Tryz.underlying45 rfl (size_bool7 _)

set_option maxRecDepth 100000 in
set_option maxHeartbeats 2000000 in
theorem piece_tilde (b g n cap N bd k : Nat) (f : Nat → Tok) (op : Int) (D : World → Prop) (pc pc1 : Nat → StR) (S1 s : WS) (hDf : ∀ w w', D w → Fr [b] w w' → D w') (h0 : 0 ≤ op) (h6 : op ≤ 6)
    (hO : ∀ w, Wy w b g n cap (k + 1) 0 0 op → TkS w b g n N f → k + 1 < n → Calls Tryz.prog 101 #[.pointer (some ⟨b, 0, none⟩)] w fun e w' => e = .returned (.tuple #[]) ∧ WyS w' b g n cap S1 (op + 1) ∧ Fr [b] w w')
    (hP : ∀ w, k + 1 < n → WyS w b g n cap S1 (op + 1) → TkS w b g n N f → D w → Calls Tryz.prog 90 #[.pointer (some ⟨b, 0, none⟩), .pointer (some ⟨bd, 0, none⟩)] w (SP b g n cap pc1 S1 (op + 1) w))
    (hs : s.e = 0) (hk : s.k = k) (hc : (f k).c = 130) (hR : (pc k).e = (afR pc1 S1).e ∧ ((pc k).e ≠ 0 → (pc k).bad = (afR pc1 S1).bad) ∧ ((pc k).e = 0 → S1.e = 0 ∧ (pc k).k = (afR pc1 S1).k ∧ (pc k).b = fun v => !(pc1 S1.k).b v))
    (w : World) (h : WyS w b g n cap s op) (ht : TkS w b g n N f) (hD : D w) :
    Calls Tryz.prog 90 #[.pointer (some ⟨b, 0, none⟩), .pointer (some ⟨bd, 0, none⟩)] w (SP b g n cap pc s op w) := by
  have hbl := h.lt
  have hn : n ≤ 2000 := by have := ht.le; have := ht.N; omega
  have HO := hidV hO
  have HP := hidV hP
  have HT := hidV ht
  have HRT := hidV hR
  have HTF : Hid (∀ w', Fr [b] w w' → TkS w' b g n N f ∧ D w') := fun w' hf => ⟨ht.fr hf (by simp; exact fun q => ht.ne q.symm), hDf _ _ hD hf⟩
  subst hk
  obtain ⟨T, HTT⟩ : ∃ T, Hid (pc s.k = T) := ⟨_, hidV rfl⟩
  rw [HTT.out] at HRT
  have HEND := hidV (SP_end (ib := w.heap.size + 1) (g := g) (n := n) (cap := cap) (op := op) HTT hbl)
  rcases h with ⟨_, hwy, hkn⟩ | ⟨q, _⟩
  · have hk1 : s.k + 1 < n := ht.fin s.k hkn (by omega)
    have c2 := hwy.cells.2.2.1
    have HWY := hidV hwy
    clear hwy hO hP ht hD hDf hR
    have HPY := hidV (fun w' q (t : TkS w' b g n N f) => passes_yes b g n cap s.k f 126 0 op w' q t.tk hkn hn (by omega) (by omega) (rk_126.2 hc))
    have f0 : Hid (Fr [b] w ((w.alloc (.cells #[.bool false, .bool false, .bool false, .bool false, .bool false, .bool false, .bool false] 45)).alloc (.cells #[.bool false, .bool false, .bool false, .bool false, .bool false, .bool false, .bool false] 45))) := ((Fr.refl [b] w).alloc _).alloc _
    go_enter Tryz.func90, Tryz.ntmps90
    go_wp2_with fail
    refine (HPY.out _ (by exact Blk.alloc (Blk.alloc HWY.out _) _) (HTF.out _ f0.out).1).mono ?_
    rintro e w2 ⟨rfl, hw2, hf2⟩
    have HI2 : Hid (Blk w2 (w.heap.size + 1) (bv fun _ => false) 45 ∧ Blk w2 w.heap.size (bv fun _ => false) 45 ∧ Wy w2 b g n cap (s.k + 1) 0 0 op ∧ Fr [b] w w2) := ⟨(Blk.newAt _ _ _ (by simp)).fr hf2 (by simp; omega), (Blk.alloc (Blk.new w _ _) _).fr hf2 (by simp; omega), hw2, f0.out.trans hf2 (by simp)⟩
    clear hw2 hf2 HPY HWY c2
    go_wp2_with fail
    refine (HO.out _ HI2.out.2.2.1 (HTF.out _ HI2.out.2.2.2).1 hk1).mono ?_
    rintro e w3 ⟨rfl, hw3, hf3⟩
    have HI3 : Hid (Blk w3 (w.heap.size + 1) (bv fun _ => false) 45 ∧ Blk w3 w.heap.size (bv fun _ => false) 45 ∧ WyS w3 b g n cap S1 (op + 1) ∧ Fr [b] w w3) := ⟨HI2.out.1.fr hf3 (by simp; omega), HI2.out.2.1.fr hf3 (by simp; omega), hw3, HI2.out.2.2.2.trans hf3 (by simp)⟩
    clear hw3 hf3 HI2
    go_wp2_with fail
    refine (HP.out _ hk1 HI3.out.2.2.1 (HTF.out _ HI3.out.2.2.2).1 (HTF.out _ HI3.out.2.2.2).2).mono ?_
    rintro e w4 ⟨⟨c, rfl, hcc⟩, hw4, hf4⟩
    have HI4 : Hid (Blk w4 (w.heap.size + 1) (bv fun _ => false) 45 ∧ Blk w4 w.heap.size (bv fun _ => false) 45 ∧ WyS w4 b g n cap (afR pc1 S1) (op + 1) ∧ Fr [b] w w4) := ⟨HI3.out.1.fr hf4 (by simp; omega), HI3.out.2.1.fr hf4 (by simp; omega), hw4, HI3.out.2.2.2.trans hf4 (by simp)⟩
    have HCC := hidV hcc
    clear hw4 hf4 HI3 hcc
    have HTH0 := hidV (show w4.there (w.heap.size + 1) 0 (bv c).size from Blk.there HI4.out.1 (Nat.le_refl _))
    have HSZ0 := hidV (size_bool7 c)
    have HON0 := hidV (bv_one c)
    have HI5 : Hid (Blk (w4.setCells (w.heap.size + 1) 0 (bv c).toList) (w.heap.size + 1) (bv c) 45 ∧ Blk (w4.setCells (w.heap.size + 1) 0 (bv c).toList) w.heap.size (bv fun _ => false) 45 ∧ WyS (w4.setCells (w.heap.size + 1) 0 (bv c).toList) b g n cap (afR pc1 S1) (op + 1) ∧ Fr [b] w (w4.setCells (w.heap.size + 1) 0 (bv c).toList)) := by
      have f9 : Fr [w.heap.size + 1] w4 (w4.setCells (w.heap.size + 1) 0 (bv c).toList) := Fr.setCells (Fr.refl _ _) _ _ _ (Or.inl (by simp))
      exact ⟨Blk.setAll HI4.out.1 _ rfl, HI4.out.2.1.fr f9 (by simp), HI4.out.2.2.1.fr f9 (by simp; omega), Fr.setCells HI4.out.2.2.2 _ _ _ (Or.inr (by omega))⟩
    obtain ⟨y, HY0⟩ : ∃ y, Hid (bv c = y) := ⟨_, hidV rfl⟩
    rw [HY0.out] at HTH0 HSZ0 HON0 HI5 ⊢
    clear HI4
    go_wp2_with (first | (refine wpList_store_mid (by rfl) 45 _ _ (by rfl) (w.heap.size + 1) 0 y (by rfl) (by rfl) HTH0.out HSZ0.out HON0.out ?_))
    refine wp_forget (fun X => Blk X (w.heap.size + 1) (bv c) 45 ∧ Blk X w.heap.size (bv fun _ => false) 45 ∧ WyS X b g n cap (afR pc1 S1) (op + 1) ∧ Fr [b] w X) (by rw [HY0.out]; exact HI5.out) ?_
    rintro X gX
    have HX := hidV gX
    clear gX HI5 HTH0 HSZ0 HON0
    have hR2 : (afR pc1 S1).e = T.e := HRT.out.1.symm
    have HRR : Hid ((s.e ≠ 0 → afR pc1 S1 = s) ∧ (s.e = 0 → (afR pc1 S1).e = T.e ∧ ((afR pc1 S1).e ≠ 0 → (afR pc1 S1).bad = T.bad) ∧ (T.e = 0 → (afR pc1 S1).k = T.k ∧ bv (fun j => !c j) = bv T.b))) := by
      refine ⟨fun q => absurd hs q, fun _ => ⟨hR2, fun q => (HRT.out.2.1 (by omega)).symm, fun q => ?_⟩⟩
      obtain ⟨g1, g2, g3⟩ := HRT.out.2.2 q
      have e5 : (pc1 S1.k).e = 0 := by
        have : (afR pc1 S1).e = (pc1 S1.k).e := by unfold afR; rw [if_neg (by omega)]
        omega
      have hb := bv_inj (HCC.out g1 e5)
      exact ⟨g2.symm, bv_congr (fun j hj => by rw [g3, hb j hj])⟩
    clear hR2 HRT HCC
    generalize afR pc1 S1 = S at *
    go_loopg [7] 7 (fun gm v7 ws => ∃ v : Nat, gm = 7 - v ∧ v ≤ 7 ∧ v7 = .int .i64 v ∧ Hid (Blk ws (w.heap.size + 1) (bv fun j => if j < v then !c j else c j) 45 ∧ Blk ws w.heap.size (bv fun _ => false) 45 ∧ WyS ws b g n cap S (op + 1) ∧ Fr [b] w ws))
    case atStart => exact ⟨0, rfl, by omega, rfl, by rw [bv_congr (b := fun j => if j < 0 then !c j else c j) (c := c) (fun j _ => by rw [if_neg (by omega)])]; exact HX.out.1, HX.out.2⟩
    case round =>
      obtain ⟨v, hgv, hv, rfl, HY⟩ := hrel
      clear HX
      by_cases hv7 : v < 7
      · have v0 : (0 : Int) ≤ (v : Int) := by omega
        have v1 : (v : Int) < 7 := by omega
        have ci : wr.cell? ⟨w.heap.size + 1, v, none⟩ = some (.bool (c v)) := by rw [HY.out.1.cell, bv_get _ hv7, if_neg (by omega)]
        have fz : wr.frozen? ⟨w.heap.size + 1, v, none⟩ = false := HY.out.1.frozen _
        have KEY : Hid (Blk (wr.setCell ⟨w.heap.size + 1, v, none⟩ (.bool (!c v))) (w.heap.size + 1) (bv fun j => if j < v + 1 then !c j else c j) 45 ∧ Blk (wr.setCell ⟨w.heap.size + 1, v, none⟩ (.bool (!c v))) w.heap.size (bv fun _ => false) 45 ∧ WyS (wr.setCell ⟨w.heap.size + 1, v, none⟩ (.bool (!c v))) b g n cap S (op + 1) ∧ Fr [b] w (wr.setCell ⟨w.heap.size + 1, v, none⟩ (.bool (!c v)))) := by
          have f9 : Fr [w.heap.size + 1] wr (wr.setCell ⟨w.heap.size + 1, v, none⟩ (.bool (!c v))) := Fr.setCell (Fr.refl _ _) _ _ (Or.inl (by simp))
          refine ⟨?_, HY.out.2.1.setOther _ _ (by simp), HY.out.2.2.1.fr f9 (by simp; omega), HY.out.2.2.2.setCell _ _ (Or.inr (by simp))⟩
          have h9 := HY.out.1.set v (.bool (!c v))
          rw [bv_upd _ _ hv7] at h9
          rw [bv_congr (b := fun j => if j < v + 1 then !c j else c j) (c := fun j => if j = v then !c v else if j < v then !c j else c j) (fun j hj => by
            by_cases e1 : j = v
            · rw [if_pos e1, if_pos (by omega), e1]
            · rw [if_neg e1]
              by_cases e2 : j < v
              · rw [if_pos e2, if_pos (by omega)]
              · rw [if_neg e2, if_neg (by omega)])]
          exact h9
        go_wp2
        go_roundg (7 - (v + 1))
        case measure => omega
        case rel => exact ⟨v + 1, rfl, by omega, by go_num, KEY⟩
      · have ev : v = 7 := by omega
        subst ev
        obtain ⟨c4, z4⟩ := HY.out.2.2.1.opn
        have HZ : Hid (Blk (wr.setCell ⟨b, 4, none⟩ (.int .i64 op)) (w.heap.size + 1) (bv fun j => !c j) 45 ∧ Blk (wr.setCell ⟨b, 4, none⟩ (.int .i64 op)) w.heap.size (bv fun _ => false) 45 ∧ WyS (wr.setCell ⟨b, 4, none⟩ (.int .i64 op)) b g n cap S op ∧ Fr [b] w (wr.setCell ⟨b, 4, none⟩ (.int .i64 op))) := by
          refine ⟨?_, HY.out.2.1.setOther _ _ (by simp; omega), HY.out.2.2.1.setOp op, HY.out.2.2.2.setCell _ _ (Or.inl (by simp))⟩
          have h9 := HY.out.1.setOther ⟨b, 4, none⟩ (.int .i64 op) (by simp; omega)
          rw [bv_congr (b := fun j => !c j) (c := fun j => if j < 7 then !c j else c j) (fun j hj => by rw [if_pos hj])]
          exact h9
        have HQ := hidV (HEND.out S (wr.setCell ⟨b, 4, none⟩ (.int .i64 op)) (fun j => !c j) HZ HRR)
        have HTH := hidV (show World.there (wr.setCell ⟨b, 4, none⟩ (.int .i64 op)) w.heap.size 0 (bv (fun j => !c j)).size from Blk.there HZ.out.2.1 (Nat.le_refl _))
        have HSZ := hidV (size_bool7 (fun j => !c j))
        have HON := hidV (bv_one (fun j => !c j))
        have HBB := hidV HZ.out.1
        have HRB := hidV HZ.out.2.1
        obtain ⟨y, HY⟩ : ∃ y, Hid (bv (fun j => !c j) = y) := ⟨_, hidV rfl⟩
        have HYS : Hid (y.size = (bv fun _ => false).size) := by unfold Hid; rw [← HY.out]; rfl
        rw [HY.out] at HTH HSZ HON HBB HQ
        go_wp2_with (first | (refine wpList_load_row (by rfl) 45 _ (by rfl) (w.heap.size + 1) (by rfl) 45 y (0, 0) _ HBB.out Tryz.underlying45 (by rfl) HSZ.out ?_) | (refine wpList_store_mid (by rfl) 45 _ _ (by rfl) w.heap.size 0 y (by rfl) (by rfl) HTH.out HSZ.out HON.out ?_))
        refine bodyPost_ret (results_cell_row Tryz.results90 _ _ w.heap.size 45 y (0, 0) _ (by rfl) (Blk.setAll HRB.out _ HYS.out) Tryz.underlying45 rfl HSZ.out) rfl HQ.out
  · exact absurd hs q
end Go.Proofs.YthlmgpllapccfaaGreatDoor
/- THE DOCUMENT's ANSWER: sets: a piece in parentheses. -/
namespace Go.Proofs.YthlmgpllapccfaaGreatDoor
open Go.RowKit

set_option maxRecDepth 100000 in
set_option maxHeartbeats 2000000 in
theorem piece_group (b g n cap N bd k : Nat) (f : Nat → Tok) (op : Int) (D : World → Prop) (pc pc1 : Nat → StR) (S1 s : WS) (hDf : ∀ w w', D w → Fr [b] w w' → D w') (h0 : 0 ≤ op) (h6 : op ≤ 6)
    (hO : ∀ w, Wy w b g n cap (k + 1) 0 0 op → TkS w b g n N f → k + 1 < n → Calls Tryz.prog 101 #[.pointer (some ⟨b, 0, none⟩)] w fun e w' => e = .returned (.tuple #[]) ∧ WyS w' b g n cap S1 (op + 1) ∧ Fr [b] w w')
    (hP : ∀ w, k + 1 < n → WyS w b g n cap S1 (op + 1) → TkS w b g n N f → D w → Calls Tryz.prog 41 #[.pointer (some ⟨b, 0, none⟩), .pointer (some ⟨bd, 0, none⟩)] w (SP b g n cap pc1 S1 (op + 1) w))
    (hs : s.e = 0) (hk : s.k = k) (hc : (f k).c = 44) (hR : (pc k).e = (wtS f 45 (afR pc1 S1)).e ∧ ((pc k).e ≠ 0 → (pc k).bad = (wtS f 45 (afR pc1 S1)).bad) ∧ ((pc k).e = 0 → S1.e = 0 ∧ (pc1 S1.k).e = 0 ∧ (pc k).k = (wtS f 45 (afR pc1 S1)).k ∧ (pc k).b = (pc1 S1.k).b))
    (w : World) (h : WyS w b g n cap s op) (ht : TkS w b g n N f) (hD : D w) :
    Calls Tryz.prog 90 #[.pointer (some ⟨b, 0, none⟩), .pointer (some ⟨bd, 0, none⟩)] w (SP b g n cap pc s op w) := by
  have hbl := h.lt
  have hn : n ≤ 2000 := by have := ht.le; have := ht.N; omega
  have HO := hidV hO
  have HP := hidV hP
  have HT := hidV ht
  have HRT := hidV hR
  have HTF : Hid (∀ w', Fr [b] w w' → TkS w' b g n N f ∧ D w') := fun w' hf => ⟨ht.fr hf (by simp; exact fun q => ht.ne q.symm), hDf _ _ hD hf⟩
  subst hk
  obtain ⟨T, HTT⟩ : ∃ T, Hid (pc s.k = T) := ⟨_, hidV rfl⟩
  rw [HTT.out] at HRT
  have HEND := hidV (SP_end (ib := w.heap.size + 1) (g := g) (n := n) (cap := cap) (op := op) HTT hbl)
  rcases h with ⟨_, hwy, hkn⟩ | ⟨q, _⟩
  · have hk1 : s.k + 1 < n := ht.fin s.k hkn (by omega)
    have c2 := hwy.cells.2.2.1
    have HWY := hidV hwy
    clear hwy hO hP ht hD hDf hR
    have HPN := hidV (fun w' q (t : TkS w' b g n N f) => passes_no b g n cap s.k f 126 0 op w' q t.tk hkn hn (by omega) (by omega) (fun q => by have := rk_126.1 q; omega))
    have HPY := hidV (fun w' q (t : TkS w' b g n N f) => passes_yes b g n cap s.k f 40 0 op w' q t.tk hkn hn (by omega) (by omega) (rk_40.2 hc))
    have f0 : Hid (Fr [b] w ((w.alloc (.cells #[.bool false, .bool false, .bool false, .bool false, .bool false, .bool false, .bool false] 45)).alloc (.cells #[.bool false, .bool false, .bool false, .bool false, .bool false, .bool false, .bool false] 45))) := ((Fr.refl [b] w).alloc _).alloc _
    go_enter Tryz.func90, Tryz.ntmps90
    go_wp2_with fail
    refine (HPN.out _ (by exact Blk.alloc (Blk.alloc HWY.out _) _) (HTF.out _ f0.out).1).mono ?_
    rintro e w8 ⟨rfl, hw8, hf8⟩
    have HI8 : Hid (Blk w8 (w.heap.size + 1) (bv fun _ => false) 45 ∧ Blk w8 w.heap.size (bv fun _ => false) 45 ∧ Wy w8 b g n cap s.k 0 0 op ∧ Fr [b] w w8) := ⟨(Blk.newAt _ _ _ (by simp)).fr hf8 (by simp; omega), (Blk.alloc (Blk.new w _ _) _).fr hf8 (by simp; omega), hw8, f0.out.trans hf8 (by simp)⟩
    clear hw8 hf8 HPN f0
    go_wp2_with fail
    refine (HPY.out _ HI8.out.2.2.1 (HTF.out _ HI8.out.2.2.2).1).mono ?_
    rintro e w2 ⟨rfl, hw2, hf2⟩
    have HI2 : Hid (Blk w2 (w.heap.size + 1) (bv fun _ => false) 45 ∧ Blk w2 w.heap.size (bv fun _ => false) 45 ∧ Wy w2 b g n cap (s.k + 1) 0 0 op ∧ Fr [b] w w2) := ⟨HI8.out.1.fr hf2 (by simp; omega), HI8.out.2.1.fr hf2 (by simp; omega), hw2, HI8.out.2.2.2.trans hf2 (by simp)⟩
    clear HI8
    clear hw2 hf2 HPY HWY c2
    go_wp2_with fail
    refine (HO.out _ HI2.out.2.2.1 (HTF.out _ HI2.out.2.2.2).1 hk1).mono ?_
    rintro e w3 ⟨rfl, hw3, hf3⟩
    have HI3 : Hid (Blk w3 (w.heap.size + 1) (bv fun _ => false) 45 ∧ Blk w3 w.heap.size (bv fun _ => false) 45 ∧ WyS w3 b g n cap S1 (op + 1) ∧ Fr [b] w w3) := ⟨HI2.out.1.fr hf3 (by simp; omega), HI2.out.2.1.fr hf3 (by simp; omega), hw3, HI2.out.2.2.2.trans hf3 (by simp)⟩
    clear hw3 hf3 HI2
    go_wp2_with fail
    refine (HP.out _ hk1 HI3.out.2.2.1 (HTF.out _ HI3.out.2.2.2).1 (HTF.out _ HI3.out.2.2.2).2).mono ?_
    rintro e w4 ⟨⟨c, rfl, hcc⟩, hw4, hf4⟩
    have HI4 : Hid (Blk w4 (w.heap.size + 1) (bv fun _ => false) 45 ∧ Blk w4 w.heap.size (bv fun _ => false) 45 ∧ WyS w4 b g n cap (afR pc1 S1) (op + 1) ∧ Fr [b] w w4) := ⟨HI3.out.1.fr hf4 (by simp; omega), HI3.out.2.1.fr hf4 (by simp; omega), hw4, HI3.out.2.2.2.trans hf4 (by simp)⟩
    have HCC := hidV hcc
    clear hw4 hf4 HI3 hcc
    have HTH0 := hidV (show w4.there (w.heap.size + 1) 0 (bv c).size from Blk.there HI4.out.1 (Nat.le_refl _))
    have HSZ0 := hidV (size_bool7 c)
    have HON0 := hidV (bv_one c)
    have HI5 : Hid (Blk (w4.setCells (w.heap.size + 1) 0 (bv c).toList) (w.heap.size + 1) (bv c) 45 ∧ Blk (w4.setCells (w.heap.size + 1) 0 (bv c).toList) w.heap.size (bv fun _ => false) 45 ∧ WyS (w4.setCells (w.heap.size + 1) 0 (bv c).toList) b g n cap (afR pc1 S1) (op + 1) ∧ Fr [b] w (w4.setCells (w.heap.size + 1) 0 (bv c).toList)) := by
      have f9 : Fr [w.heap.size + 1] w4 (w4.setCells (w.heap.size + 1) 0 (bv c).toList) := Fr.setCells (Fr.refl _ _) _ _ _ (Or.inl (by simp))
      exact ⟨Blk.setAll HI4.out.1 _ rfl, HI4.out.2.1.fr f9 (by simp), HI4.out.2.2.1.fr f9 (by simp; omega), Fr.setCells HI4.out.2.2.2 _ _ _ (Or.inr (by omega))⟩
    obtain ⟨y, HY0⟩ : ∃ y, Hid (bv c = y) := ⟨_, hidV rfl⟩
    rw [HY0.out] at HTH0 HSZ0 HON0 HI5 ⊢
    clear HI4
    go_wp2_with (first | (refine wpList_store_mid (by rfl) 45 _ _ (by rfl) (w.heap.size + 1) 0 y (by rfl) (by rfl) HTH0.out HSZ0.out HON0.out ?_))
    refine (wantsS b g n cap N 45 41 f (afR pc1 S1) (op + 1) _ (by omega) (by omega) (fun d => rk_41) (by omega) HI5.out.2.2.1 (HTF.out _ HI5.out.2.2.2).1).mono ?_
    rintro e w6 ⟨rfl, hw6, hf6⟩
    have HI6 : Hid (Blk w6 (w.heap.size + 1) y 45 ∧ Blk w6 w.heap.size (bv fun _ => false) 45 ∧ WyS w6 b g n cap (wtS f 45 (afR pc1 S1)) (op + 1) ∧ Fr [b] w w6) := ⟨HI5.out.1.fr hf6 (by simp; omega), HI5.out.2.1.fr hf6 (by simp; omega), hw6, HI5.out.2.2.2.trans hf6 (by simp)⟩
    rw [← HY0.out] at HI6
    clear hw6 hf6 HI5 HTH0 HSZ0 HON0
    have HRR : Hid ((s.e ≠ 0 → wtS f 45 (afR pc1 S1) = s) ∧ (s.e = 0 → (wtS f 45 (afR pc1 S1)).e = T.e ∧ ((wtS f 45 (afR pc1 S1)).e ≠ 0 → (wtS f 45 (afR pc1 S1)).bad = T.bad) ∧ (T.e = 0 → (wtS f 45 (afR pc1 S1)).k = T.k ∧ bv c = bv T.b))) := by
      have hR2 := HRT.out.1
      refine ⟨fun q => absurd hs q, fun _ => ⟨hR2.symm, fun q => (HRT.out.2.1 (by omega)).symm, fun q => ?_⟩⟩
      obtain ⟨g1, g2, g3, g4⟩ := HRT.out.2.2 q
      exact ⟨g3.symm, by rw [g4]; exact HCC.out g1 g2⟩
    clear HRT HCC
    generalize wtS f 45 (afR pc1 S1) = S at *
    obtain ⟨c4, z4⟩ := HI6.out.2.2.1.opn
    have HZ : Hid (Blk (w6.setCell ⟨b, 4, none⟩ (.int .i64 op)) (w.heap.size + 1) (bv c) 45 ∧ Blk (w6.setCell ⟨b, 4, none⟩ (.int .i64 op)) w.heap.size (bv fun _ => false) 45 ∧ WyS (w6.setCell ⟨b, 4, none⟩ (.int .i64 op)) b g n cap S op ∧ Fr [b] w (w6.setCell ⟨b, 4, none⟩ (.int .i64 op))) := ⟨HI6.out.1.setOther _ _ (by simp; omega), HI6.out.2.1.setOther _ _ (by simp; omega), HI6.out.2.2.1.setOp op, HI6.out.2.2.2.setCell _ _ (Or.inl (by simp))⟩
    clear HI6 HY0
    have HQ := hidV (HEND.out S (w6.setCell ⟨b, 4, none⟩ (.int .i64 op)) c HZ HRR)
    have HTH := hidV (show World.there (w6.setCell ⟨b, 4, none⟩ (.int .i64 op)) w.heap.size 0 (bv c).size from Blk.there HZ.out.2.1 (Nat.le_refl _))
    have HSZ := hidV (size_bool7 c)
    have HON := hidV (bv_one c)
    have HBB := hidV HZ.out.1
    have HRB := hidV HZ.out.2.1
    obtain ⟨y, HY⟩ : ∃ y, Hid (bv c = y) := ⟨_, hidV rfl⟩
    have HYS : Hid (y.size = (bv fun _ => false).size) := by unfold Hid; rw [← HY.out]; rfl
    rw [HY.out] at HTH HSZ HON HBB HQ
    go_wp2_with (first | (refine wpList_load_row (by rfl) 45 _ (by rfl) (w.heap.size + 1) (by rfl) 45 y (0, 0) _ HBB.out Tryz.underlying45 (by rfl) HSZ.out ?_) | (refine wpList_store_mid (by rfl) 45 _ _ (by rfl) w.heap.size 0 y (by rfl) (by rfl) HTH.out HSZ.out HON.out ?_))
    refine bodyPost_ret (results_cell_row Tryz.results90 _ _ w.heap.size 45 y (0, 0) _ (by rfl) (Blk.setAll HRB.out _ HYS.out) Tryz.underlying45 rfl HSZ.out) rfl HQ.out
  · exact absurd hs q
end Go.Proofs.YthlmgpllapccfaaGreatDoor
/- THE DOCUMENT's ANSWER: sets: the zeros of a polynomial. -/
namespace Go.Proofs.YthlmgpllapccfaaGreatDoor
open Go.RowKit

theorem lst_forget {P : Program} {ops : Array Oper} {Q : Exit → Act → World → Prop} {l : List Oper} {a : Act} {w : World} (I : World → Prop) (hI : I w) (h : ∀ W, I W → wpList P ops Q l a W) : wpList P ops Q l a w := h w hI
set_option maxRecDepth 100000 in
set_option maxHeartbeats 2000000 in
theorem piece_zeros (b g n cap N bd : Nat) (f : Nat → Tok) (op : Int) (pc : Nat → StR) (s : WS) (hs : s.e = 0) (hc : (f s.k).c = 95) (hR : pc s.k = StR.wants f 97 (zrR (poly f true N (s.k + 1))))
    (w : World) (h : WyS w b g n cap s op) (ht : TkS w b g n N f) :
    Calls Tryz.prog 90 #[.pointer (some ⟨b, 0, none⟩), .pointer (some ⟨bd, 0, none⟩)] w (SP b g n cap pc s op w) := by
  have hbl := h.lt
  have hn : n ≤ 2000 := by have := ht.le; have := ht.N; omega
  have HT := hidV ht
  have HTF : Hid (∀ w', Fr [b] w w' → TkS w' b g n N f) := fun w' hf => ht.fr hf (by simp; exact fun q => ht.ne q.symm)
  obtain ⟨T, HTT⟩ : ∃ T, Hid (pc s.k = T) := ⟨_, hidV rfl⟩
  rw [HTT.out] at hR
  have HEND := hidV (SP_end (ib := w.heap.size + 1) (g := g) (n := n) (cap := cap) (op := op) HTT hbl)
  rcases h with ⟨_, hwy, hkn⟩ | ⟨q, _⟩
  · have hk1 : s.k + 1 < n := ht.fin s.k hkn (by omega)
    have c2 := hwy.cells.2.2.1
    have HWY := hidV hwy
    have HP1 := hidV (fun w' q (t : TkS w' b g n N f) => passes_no b g n cap s.k f 126 0 op w' q t.tk hkn hn (by omega) (by omega) (fun q => by have := rk_126.1 q; omega))
    have HP2 := hidV (fun w' q (t : TkS w' b g n N f) => passes_no b g n cap s.k f 40 0 op w' q t.tk hkn hn (by omega) (by omega) (fun q => by have := rk_40.1 q; omega))
    have HP3 := hidV (fun w' q (t : TkS w' b g n N f) => passes_yes b g n cap s.k f 91 0 op w' q t.tk hkn hn (by omega) (by omega) (rk_91.2 hc))
    have HPO := hidV (fun w' q (t : TkS w' b g n N f) => wpoly_any f N b g n cap (s.k + 1) true 0 op w' q t.tk hk1 t.le t.N t.fin t.v t.ne)
    have f0 : Hid (Fr [b] w ((w.alloc (.cells #[.bool false, .bool false, .bool false, .bool false, .bool false, .bool false, .bool false] 45)).alloc (.cells #[.bool false, .bool false, .bool false, .bool false, .bool false, .bool false, .bool false] 45))) := ((Fr.refl [b] w).alloc _).alloc _
    clear hwy ht
    obtain ⟨R, HRR0⟩ : ∃ R, Hid (poly f true N (s.k + 1) = R) := ⟨_, hidV rfl⟩
    rw [HRR0.out] at HPO hR
    go_enter Tryz.func90, Tryz.ntmps90
    go_wp2_with fail
    refine (HP1.out _ (by exact Blk.alloc (Blk.alloc HWY.out _) _) (HTF.out _ f0.out)).mono ?_
    rintro e w7 ⟨rfl, hw7, hf7⟩
    have HI7 : Hid (Blk w7 (w.heap.size + 1) (bv fun _ => false) 45 ∧ Blk w7 w.heap.size (bv fun _ => false) 45 ∧ Wy w7 b g n cap s.k 0 0 op ∧ Fr [b] w w7) := ⟨(Blk.newAt _ _ _ (by simp)).fr hf7 (by simp; omega), (Blk.alloc (Blk.new w _ _) _).fr hf7 (by simp; omega), hw7, f0.out.trans hf7 (by simp)⟩
    clear hw7 hf7 HP1 f0 HWY c2
    go_wp2_with fail
    refine (HP2.out _ HI7.out.2.2.1 (HTF.out _ HI7.out.2.2.2)).mono ?_
    rintro e w8 ⟨rfl, hw8, hf8⟩
    have HI8 : Hid (Blk w8 (w.heap.size + 1) (bv fun _ => false) 45 ∧ Blk w8 w.heap.size (bv fun _ => false) 45 ∧ Wy w8 b g n cap s.k 0 0 op ∧ Fr [b] w w8) := ⟨HI7.out.1.fr hf8 (by simp; omega), HI7.out.2.1.fr hf8 (by simp; omega), hw8, HI7.out.2.2.2.trans hf8 (by simp)⟩
    clear hw8 hf8 HP2 HI7
    go_wp2_with fail
    refine (HP3.out _ HI8.out.2.2.1 (HTF.out _ HI8.out.2.2.2)).mono ?_
    rintro e w2 ⟨rfl, hw2, hf2⟩
    have HI2 : Hid (Blk w2 (w.heap.size + 1) (bv fun _ => false) 45 ∧ Blk w2 w.heap.size (bv fun _ => false) 45 ∧ Wy w2 b g n cap (s.k + 1) 0 0 op ∧ Fr [b] w w2) := ⟨HI8.out.1.fr hf2 (by simp; omega), HI8.out.2.1.fr hf2 (by simp; omega), hw2, HI8.out.2.2.2.trans hf2 (by simp)⟩
    clear hw2 hf2 HP3 HI8
    go_wp2_with fail
    refine (HPO.out _ HI2.out.2.2.1 (HTF.out _ HI2.out.2.2.2)).mono ?_
    intro e w3 hpe
    have hpe2 : ∃ q, e = .returned (.agg (pv q)) ∧ Good q ∧ (R.e = 0 → q = R.p) ∧ WyS w3 b g n cap ⟨R.k, R.e, R.bad⟩ op ∧ Fr [b] w2 w3 := by
      rcases hpe with ⟨g1, g2, g3, g4, g5, g6⟩ | ⟨g1, ⟨q, g2, g3⟩, ⟨k', g4, g5⟩, g6⟩
      · exact ⟨R.p, g2, g3, fun _ => rfl, Or.inl ⟨g1, g4, g5⟩, g6⟩
      · exact ⟨q, g3, g2, fun q => absurd q g1, Or.inr ⟨g1, k', g4, g5⟩, g6⟩
    obtain ⟨q, rfl, hgq, hqR, hw3, hf3⟩ := hpe2
    have HI3 : Hid (Blk w3 (w.heap.size + 1) (bv fun _ => false) 45 ∧ Blk w3 w.heap.size (bv fun _ => false) 45 ∧ WyS w3 b g n cap ⟨R.k, R.e, R.bad⟩ op ∧ Fr [b] w w3) := ⟨HI2.out.1.fr hf3 (by simp; omega), HI2.out.2.1.fr hf3 (by simp; omega), hw3, HI2.out.2.2.2.trans hf3 (by simp)⟩
    clear hw3 hf3 HPO HI2 hpe
    go_wp2_with (first | (refine wpList_store_mid (by rfl) 116 _ _ (by rfl) w3.heap.size 0 (pv q) (by rfl) (by rfl) (by exact Blk.there (Blk.new w3 _ _) (by rw [pv_size, hgq.1]; decide)) (by rw [pv_size, hgq.1]; kernel_rfl) (pv_one _) ?_; refine lst_forget (fun W => Blk W (w.heap.size + 1) (bv fun _ => false) 45 ∧ Blk W w.heap.size (bv fun _ => false) 45 ∧ WyS W b g n cap ⟨R.k, R.e, R.bad⟩ op ∧ Fr [b] w W ∧ Blk W w3.heap.size (pv q) 116) ⟨by exact HI3.out.1.fr (Fr.setCells ((Fr.refl [] w3).alloc _) _ _ _ (Or.inr (Nat.le_refl _))) (by simp), by exact HI3.out.2.1.fr (Fr.setCells ((Fr.refl [] w3).alloc _) _ _ _ (Or.inr (Nat.le_refl _))) (by simp), by exact HI3.out.2.2.1.fr (Fr.setCells ((Fr.refl [] w3).alloc _) _ _ _ (Or.inr (Nat.le_refl _))) (by simp), by exact Fr.setCells (HI3.out.2.2.2.alloc _) _ _ _ (Or.inr HI3.out.2.2.2.size), by exact Blk.setAll (Blk.new w3 _ _) _ (by rw [pv_size, hgq.1]; rfl)⟩ ?_; rintro W gW; have HW := hidV gW; clear gW))
    have hpb : w.heap.size + 1 < w3.heap.size := HI3.out.1.lt
    clear HI3
    generalize w3.heap.size = pb at *
    refine (wantsS b g n cap N 97 93 f ⟨R.k, R.e, R.bad⟩ op _ (by omega) (by omega) (fun d => rk_93) (by omega) HW.out.2.2.1 (HTF.out _ HW.out.2.2.2.1)).mono ?_
    rintro e w4 ⟨rfl, hw4, hf4⟩
    have HI4 : Hid (Blk w4 (w.heap.size + 1) (bv fun _ => false) 45 ∧ Blk w4 w.heap.size (bv fun _ => false) 45 ∧ WyS w4 b g n cap (wtS f 97 ⟨R.k, R.e, R.bad⟩) op ∧ Fr [b] w w4 ∧ Blk w4 pb (pv q) 116) := ⟨HW.out.1.fr hf4 (by simp; omega), HW.out.2.1.fr hf4 (by simp; omega), hw4, HW.out.2.2.2.1.trans hf4 (by simp), HW.out.2.2.2.2.fr hf4 (by simp; omega)⟩
    clear hw4 hf4 HW
    have HRR : Hid ((s.e ≠ 0 → wtS f 97 ⟨R.k, R.e, R.bad⟩ = s) ∧ (s.e = 0 → (wtS f 97 ⟨R.k, R.e, R.bad⟩).e = T.e ∧ ((wtS f 97 ⟨R.k, R.e, R.bad⟩).e ≠ 0 → (wtS f 97 ⟨R.k, R.e, R.bad⟩).bad = T.bad) ∧ (T.e = 0 → (wtS f 97 ⟨R.k, R.e, R.bad⟩).k = T.k ∧ bv (zrs q) = bv T.b))) := by
      refine ⟨fun q => absurd hs q, fun _ => ?_⟩
      rw [hR]
      unfold StR.wants wtS
      by_cases r0 : R.e = 0
      · have r1 : (zrR R).e = 0 := r0
        rw [if_neg (show ¬ (⟨R.k, R.e, R.bad⟩ : WS).e ≠ 0 from fun q => q r0), if_pos r1]
        by_cases r2 : (f R.k).c = 97
        · rw [if_pos (show (f (⟨R.k, R.e, R.bad⟩ : WS).k).c = 97 from r2), if_pos (show (f (zrR R).k).c = 97 from r2)]
          exact ⟨rfl, fun _ => rfl, fun _ => ⟨rfl, by rw [hqR r0]; rfl⟩⟩
        · rw [if_neg (show ¬ (f (⟨R.k, R.e, R.bad⟩ : WS).k).c = 97 from r2), if_neg (show ¬ (f (zrR R).k).c = 97 from r2)]
          exact ⟨rfl, fun _ => rfl, fun q => by simp at q⟩
      · have r1 : ¬ (zrR R).e = 0 := r0
        rw [if_pos (show (⟨R.k, R.e, R.bad⟩ : WS).e ≠ 0 from r0), if_neg r1]
        exact ⟨rfl, fun _ => rfl, fun q => absurd q r1⟩
    generalize wtS f 97 ⟨R.k, R.e, R.bad⟩ = S at *
    clear hR hqR HRR0
    have HSQ : Hid ((Tryz.prog.info? 116).map (·.size) = some (pv q).size) := by unfold Hid; rw [pv_size, hgq.1]; kernel_rfl
    go_wp2_with fail
    go_loopg [11] 7 (fun gm v11 ws => ∃ v : Nat, gm = 7 - v ∧ v ≤ 7 ∧ v11 = .int .i64 v ∧ Hid (Blk ws (w.heap.size + 1) (bv fun j => if j < v then zrs q j else false) 45 ∧ Blk ws w.heap.size (bv fun _ => false) 45 ∧ WyS ws b g n cap S op ∧ Fr [b] w ws ∧ Blk ws pb (pv q) 116))
    case atStart => exact ⟨0, rfl, by omega, rfl, by rw [bv_congr (b := fun j => if j < 0 then zrs q j else false) (c := fun _ => false) (fun j _ => by rw [if_neg (by omega)])]; exact HI4.out.1, HI4.out.2⟩
    case round =>
      obtain ⟨v, hgv, hv, rfl, HY⟩ := hrel
      clear HI4
      by_cases hv7 : v < 7
      · have v0 : (0 : Int) ≤ (v : Int) := by omega
        have v1 : (v : Int) < 7 := by omega
        have HAT := hidV (fun w' => at_any q v v w' hgq rfl hv7)
        have hLL : (lineR q v).length = 5 := rfl
        have HZR : Hid (zrs q v = ((((lineR q v).getD 0 0 : Nat) : Int) == 0)) := by
          unfold Hid zrs
          rw [Bool.eq_iff_iff]
          simp
        obtain ⟨L, HL⟩ : ∃ L, Hid (lineR q v = L) := ⟨_, hidV rfl⟩
        rw [HL.out] at HAT hLL HZR
        obtain ⟨l0, HL0⟩ : ∃ l, Hid (L.getD 0 0 = l) := ⟨_, hidV rfl⟩
        rw [HL0.out] at HZR
        go_wp2_with (first | (refine wpList_load_row (by rfl) 116 _ (by rfl) pb (by rfl) 116 (pv q) (0, 0) _ HY.out.2.2.2.2 Tryz.underlying116 (by rfl) HSQ.out ?_))
        refine (HAT.out _).mono ?_
        rintro e w5 ⟨rfl, hb5⟩
        have f5 : Fr [] wr w5 := Fr.of_below hb5
        have HI5 : Hid (Blk w5 (w.heap.size + 1) (bv fun j => if j < v then zrs q j else false) 45 ∧ Blk w5 w.heap.size (bv fun _ => false) 45 ∧ WyS w5 b g n cap S op ∧ Fr [b] w w5 ∧ Blk w5 pb (pv q) 116) := ⟨HY.out.1.fr f5 (by simp), HY.out.2.1.fr f5 (by simp), HY.out.2.2.1.fr f5 (by simp), HY.out.2.2.2.1.trans f5 (by simp), HY.out.2.2.2.2.fr f5 (by simp)⟩
        clear hb5 f5 HY HAT
        have hpl : (pv L).size = 5 := by rw [pv_size, hLL]
        go_wp2_with (first | (refine wpList_store_mid (by rfl) 121 _ _ (by rfl) w5.heap.size 0 (pv L) (by rfl) (by rfl) (by exact Blk.there (Blk.new w5 _ _) (by rw [hpl]; decide)) (by rw [hpl]; kernel_rfl) (pv_one _) ?_; refine lst_forget (fun W => Blk W (w.heap.size + 1) (bv fun j => if j < v then zrs q j else false) 45 ∧ Blk W w.heap.size (bv fun _ => false) 45 ∧ WyS W b g n cap S op ∧ Fr [b] w W ∧ Blk W pb (pv q) 116 ∧ Blk W w5.heap.size (pv L) 121) ⟨by exact HI5.out.1.fr (Fr.setCells ((Fr.refl [] w5).alloc _) _ _ _ (Or.inr (Nat.le_refl _))) (by simp), by exact HI5.out.2.1.fr (Fr.setCells ((Fr.refl [] w5).alloc _) _ _ _ (Or.inr (Nat.le_refl _))) (by simp), by exact HI5.out.2.2.1.fr (Fr.setCells ((Fr.refl [] w5).alloc _) _ _ _ (Or.inr (Nat.le_refl _))) (by simp), by exact Fr.setCells (HI5.out.2.2.2.1.alloc _) _ _ _ (Or.inr HI5.out.2.2.2.1.size), by exact HI5.out.2.2.2.2.fr (Fr.setCells ((Fr.refl [] w5).alloc _) _ _ _ (Or.inr (Nat.le_refl _))) (by simp), by exact Blk.setAll (Blk.new w5 _ _) _ (by rw [hpl]; rfl)⟩ ?_; rintro W gW; have HW := hidV gW; have hl5 : w.heap.size + 1 < w5.heap.size := HI5.out.1.lt; clear gW; have cl : W.cell? ⟨w5.heap.size, 0, none⟩ = some (.int .i64 (l0 : Nat)) := (by rw [HW.out.2.2.2.2.2.cell, ← HL0.out]; exact pv_get (by rw [hLL]; omega)); have ci : W.cell? ⟨w.heap.size + 1, v, none⟩ = some (.bool false) := (by rw [HW.out.1.cell, bv_get _ hv7, if_neg (by omega)]); have fz : W.frozen? ⟨w.heap.size + 1, v, none⟩ = false := HW.out.1.frozen _))
        have KEY : Hid (Blk (W.setCell ⟨w.heap.size + 1, v, none⟩ (.bool (((l0 : Nat) : Int) == 0))) (w.heap.size + 1) (bv fun j => if j < v + 1 then zrs q j else false) 45 ∧ Blk (W.setCell ⟨w.heap.size + 1, v, none⟩ (.bool (((l0 : Nat) : Int) == 0))) w.heap.size (bv fun _ => false) 45 ∧ WyS (W.setCell ⟨w.heap.size + 1, v, none⟩ (.bool (((l0 : Nat) : Int) == 0))) b g n cap S op ∧ Fr [b] w (W.setCell ⟨w.heap.size + 1, v, none⟩ (.bool (((l0 : Nat) : Int) == 0))) ∧ Blk (W.setCell ⟨w.heap.size + 1, v, none⟩ (.bool (((l0 : Nat) : Int) == 0))) pb (pv q) 116) := by
          have f9 : Fr [w.heap.size + 1] W (W.setCell ⟨w.heap.size + 1, v, none⟩ (.bool (((l0 : Nat) : Int) == 0))) := Fr.setCell (Fr.refl _ _) _ _ (Or.inl (by simp))
          refine ⟨?_, HW.out.2.1.setOther _ _ (by simp), HW.out.2.2.1.fr f9 (by simp; omega), HW.out.2.2.2.1.setCell _ _ (Or.inr (by simp)), HW.out.2.2.2.2.1.setOther _ _ (by simp; omega)⟩
          rw [← HZR.out]
          have h9 := HW.out.1.set v (.bool (zrs q v))
          rw [bv_upd _ _ hv7] at h9
          rw [bv_congr (b := fun j => if j < v + 1 then zrs q j else false) (c := fun j => if j = v then zrs q v else if j < v then zrs q j else false) (fun j hj => by
            by_cases e1 : j = v
            · rw [if_pos e1, if_pos (by omega), e1]
            · rw [if_neg e1]
              by_cases e2 : j < v
              · rw [if_pos e2, if_pos (by omega)]
              · rw [if_neg e2, if_neg (by omega)])]
          exact h9
        go_roundg (7 - (v + 1))
        case measure => omega
        case rel => exact ⟨v + 1, rfl, by omega, by go_num, KEY⟩
      · have ev : v = 7 := by omega
        subst ev
        have HZ : Hid (Blk wr (w.heap.size + 1) (bv (zrs q)) 45 ∧ Blk wr w.heap.size (bv fun _ => false) 45 ∧ WyS wr b g n cap S op ∧ Fr [b] w wr) := by
          refine ⟨?_, HY.out.2.1, HY.out.2.2.1, HY.out.2.2.2.1⟩
          rw [bv_congr (b := zrs q) (c := fun j => if j < 7 then zrs q j else false) (fun j hj => by rw [if_pos hj])]
          exact HY.out.1
        have HQ := hidV (HEND.out S wr (zrs q) HZ HRR)
        have HTH := hidV (show World.there wr w.heap.size 0 (bv (zrs q)).size from Blk.there HZ.out.2.1 (Nat.le_refl _))
        have HSZ := hidV (size_bool7 (zrs q))
        have HON := hidV (bv_one (zrs q))
        have HBB := hidV HZ.out.1
        have HRB := hidV HZ.out.2.1
        obtain ⟨y, HY⟩ : ∃ y, Hid (bv (zrs q) = y) := ⟨_, hidV rfl⟩
        have HYS : Hid (y.size = (bv fun _ => false).size) := by unfold Hid; rw [← HY.out]; rfl
        rw [HY.out] at HTH HSZ HON HBB HQ
        go_wp2_with (first | (refine wpList_load_row (by rfl) 45 _ (by rfl) (w.heap.size + 1) (by rfl) 45 y (0, 0) _ HBB.out Tryz.underlying45 (by rfl) HSZ.out ?_) | (refine wpList_store_mid (by rfl) 45 _ _ (by rfl) w.heap.size 0 y (by rfl) (by rfl) HTH.out HSZ.out HON.out ?_))
        refine bodyPost_ret (results_cell_row Tryz.results90 _ _ w.heap.size 45 y (0, 0) _ (by rfl) (Blk.setAll HRB.out _ HYS.out) Tryz.underlying45 rfl HSZ.out) rfl HQ.out
  · exact absurd hs q
end Go.Proofs.YthlmgpllapccfaaGreatDoor
/- THE DOCUMENT's ANSWER: sets: a name. -/
namespace Go.Proofs.YthlmgpllapccfaaGreatDoor
open Go.RowKit

theorem SP_fin {b g n cap : Nat} {pc : Nat → StR} {s : WS} {op : Int} {w : World} {T : StR} (hT : Hid (pc s.k = T)) (hbl : b < w.heap.size) : ∀ (S : WS) (wr : World) (c : Nat → Bool), Hid (WyS wr b g n cap S op ∧ Fr [b] w wr) →
    Hid ((s.e ≠ 0 → S = s) ∧ (s.e = 0 → S.e = T.e ∧ (S.e ≠ 0 → S.bad = T.bad) ∧ (T.e = 0 → S.k = T.k ∧ bv c = bv T.b))) →
    Hid (SP b g n cap pc s op w (.returned (.agg (bv c))) (wr.setCells w.heap.size 0 (bv c).toList)) := fun S wr c H1 H2 => by
  have f9 : Fr [w.heap.size] wr (wr.setCells w.heap.size 0 (bv c).toList) := Fr.setCells (Fr.refl _ _) _ _ _ (Or.inl (by simp))
  refine ⟨⟨c, rfl, fun h1 h2 => ?_⟩, ?_, Fr.setCells H1.out.2 _ _ _ (Or.inr (Nat.le_refl _))⟩
  · rw [hT.out] at h2 ⊢
    exact ((H2.out.2 h1).2.2 h2).2
  · have hw := H1.out.1.fr f9 (by simp; omega)
    unfold afR
    by_cases h1 : s.e = 0
    · rw [if_neg (by omega), hT.out]
      obtain ⟨q1, q2, q3⟩ := H2.out.2 h1
      rcases hw with ⟨k1, k2, k3⟩ | ⟨k1, k2⟩
      · have e0 : T.e = 0 := by omega
        obtain ⟨q4, _⟩ := q3 e0
        refine Or.inl ⟨e0, ?_, ?_⟩
        · show Wy _ b g n cap T.k 0 0 op
          rw [← q4]; exact k2
        · show T.k < n
          rw [← q4]; exact k3
      · refine Or.inr ⟨by show T.e ≠ 0; omega, ?_⟩
        show ∃ k', k' < n ∧ Wy _ b g n cap k' T.e T.bad op
        rw [← q1, ← q2 k1]; exact k2
    · rw [if_pos h1, ← H2.out.1 h1]; exact hw

theorem wpList_load_b7 {ops : Array Oper} {rest : List Oper} {op : Oper} {a : Act} {w : World} {Q : Exit → Act → World → Prop} (hgd : op.guard = none) (x : Operand) (ho : op.op = .load 45 x)
    (b o : Nat) (hx : a.eval x = .pointer (some ⟨b, o, none⟩)) (y : Array Value) (hc : w.rangeAt b o y.toList) (hs : (Tryz.prog.info? 45).map (·.size) = some y.size)
    (h : wpList Tryz.prog ops Q rest (a.put op.dst (.agg y)) w) : wpList Tryz.prog ops Q (op :: rest) a w :=
  wpList_load_mid hgd 45 x ho b o hx y.toList _ hc Tryz.underlying45 rfl (by rw [Array.length_toList]; exact hs) (by rw [Array.toArray_toList]; exact h)
theorem Dk.bits {w : World} {M : List Nat} {b : Nat} {st : Nat → Mng} (h : Dk w M b st) {n : Nat} (hn : n < 26) : w.rangeAt b (n * 9 + 2) (bv (st n).bit).toList := by
  obtain ⟨⟨cs, h1, h2, h3⟩, _⟩ := h
  obtain ⟨v, k1, k2, k3, k4⟩ := h3 n hn
  intro j u hu
  have hj : j < 7 := by
    rcases Nat.lt_or_ge j 7 with q | q
    · exact q
    · rw [List.getElem?_eq_none (by exact q)] at hu; simp at hu
  rw [h1.cell, k4 j hj]
  rw [Array.getElem?_toList, bv_get _ hj] at hu
  exact hu
set_option maxRecDepth 100000 in
set_option maxHeartbeats 2000000 in
theorem piece_name (b g n cap N bd : Nat) (f : Nat → Tok) (op : Int) (pc : Nat → StR) (s : WS) (hs : s.e = 0) (M : List Nat) (st : Nat → Mng) (h1 : (f s.k).c ≠ 130) (h2 : (f s.k).c ≠ 44) (h3 : (f s.k).c ≠ 95) (hR : pc s.k = nmR f st s.k) (hbM : b ∈ M) (hbd : b ≠ bd)
    (w : World) (h : WyS w b g n cap s op) (ht : TkS w b g n N f) (hd : Dk w M bd st) :
    Calls Tryz.prog 90 #[.pointer (some ⟨b, 0, none⟩), .pointer (some ⟨bd, 0, none⟩)] w (SP b g n cap pc s op w) := by
  have hbl := h.lt
  have hn : n ≤ 2000 := by have := ht.le; have := ht.N; omega
  have HT := hidV ht
  have HTF : Hid (∀ w', Fr [b] w w' → TkS w' b g n N f) := fun w' hf => ht.fr hf (by simp; exact fun q => ht.ne q.symm)
  obtain ⟨T, HTT⟩ : ∃ T, Hid (pc s.k = T) := ⟨_, hidV rfl⟩
  rw [HTT.out] at hR
  have HEND := hidV (SP_fin (g := g) (n := n) (cap := cap) (op := op) HTT hbl)
  rcases h with ⟨_, hwy, hkn⟩ | ⟨q, _⟩
  · have c2 := hwy.cells.2.2.1
    have HWY := hidV hwy
    have HP1 := hidV (fun w' q (t : TkS w' b g n N f) => passes_no b g n cap s.k f 126 0 op w' q t.tk hkn hn (by omega) (by omega) (fun q => h1 (rk_126.1 q)))
    have HP2 := hidV (fun w' q (t : TkS w' b g n N f) => passes_no b g n cap s.k f 40 0 op w' q t.tk hkn hn (by omega) (by omega) (fun q => h2 (rk_40.1 q)))
    have HP3 := hidV (fun w' q (t : TkS w' b g n N f) => passes_no b g n cap s.k f 91 0 op w' q t.tk hkn hn (by omega) (by omega) (fun q => h3 (rk_91.1 q)))
    have HDK : Hid (∀ w', Fr [b] w w' → Dk w' M bd st) := fun w' hf => hd.fr hf (by simp; exact fun q => hbd q.symm) (by simp [hbM])
    have HNM := hidV (fun w' (q : WyS w' b g n cap s op) (t : TkS w' b g n N f) (d : Dk w' M bd st) => namedS b g n cap N bd 2 2 M st f s op w' rfl d hbd q t)
    have f0 : Hid (Fr [b] w ((w.alloc (.cells #[.bool false, .bool false, .bool false, .bool false, .bool false, .bool false, .bool false] 45)).alloc (.cells #[.bool false, .bool false, .bool false, .bool false, .bool false, .bool false, .bool false] 45))) := ((Fr.refl [b] w).alloc _).alloc _
    clear hwy ht hd
    go_enter Tryz.func90, Tryz.ntmps90
    go_wp2_with fail
    refine (HP1.out _ (by exact Blk.alloc (Blk.alloc HWY.out _) _) (HTF.out _ f0.out)).mono ?_
    rintro e w7 ⟨rfl, hw7, hf7⟩
    have HI7 : Hid (Blk w7 (w.heap.size + 1) (bv fun _ => false) 45 ∧ Blk w7 w.heap.size (bv fun _ => false) 45 ∧ Wy w7 b g n cap s.k 0 0 op ∧ Fr [b] w w7) := ⟨(Blk.newAt _ _ _ (by simp)).fr hf7 (by simp; omega), (Blk.alloc (Blk.new w _ _) _).fr hf7 (by simp; omega), hw7, f0.out.trans hf7 (by simp)⟩
    clear hw7 hf7 HP1 f0 HWY c2
    go_wp2_with fail
    refine (HP2.out _ HI7.out.2.2.1 (HTF.out _ HI7.out.2.2.2)).mono ?_
    rintro e w8 ⟨rfl, hw8, hf8⟩
    have HI8 : Hid (Blk w8 (w.heap.size + 1) (bv fun _ => false) 45 ∧ Blk w8 w.heap.size (bv fun _ => false) 45 ∧ Wy w8 b g n cap s.k 0 0 op ∧ Fr [b] w w8) := ⟨HI7.out.1.fr hf8 (by simp; omega), HI7.out.2.1.fr hf8 (by simp; omega), hw8, HI7.out.2.2.2.trans hf8 (by simp)⟩
    clear hw8 hf8 HP2 HI7
    go_wp2_with fail
    refine (HP3.out _ HI8.out.2.2.1 (HTF.out _ HI8.out.2.2.2)).mono ?_
    rintro e w2 ⟨rfl, hw2, hf2⟩
    have HI2 : Hid (Blk w2 (w.heap.size + 1) (bv fun _ => false) 45 ∧ Blk w2 w.heap.size (bv fun _ => false) 45 ∧ Wy w2 b g n cap s.k 0 0 op ∧ Fr [b] w w2) := ⟨HI8.out.1.fr hf2 (by simp; omega), HI8.out.2.1.fr hf2 (by simp; omega), hw2, HI8.out.2.2.2.trans hf2 (by simp)⟩
    clear hw2 hf2 HP3 HI8
    go_wp2_with fail
    refine (HNM.out _ (Or.inl ⟨hs, HI2.out.2.2.1, hkn⟩) (HTF.out _ HI2.out.2.2.2) (HDK.out _ HI2.out.2.2.2)).mono ?_
    rintro e w3 ⟨⟨a, ha, rfl, haa⟩, hw3, hf3⟩
    have HI3 : Hid (Blk w3 (w.heap.size + 1) (bv fun _ => false) 45 ∧ Blk w3 w.heap.size (bv fun _ => false) 45 ∧ WyS w3 b g n cap (nmS f (fun a => decide (2 = 0) || decide ((st a).kd = 2)) s) op ∧ Fr [b] w w3) := ⟨HI2.out.1.fr hf3 (by simp; omega), HI2.out.2.1.fr hf3 (by simp; omega), hw3, HI2.out.2.2.2.trans hf3 (by simp)⟩
    clear hw3 hf3 HI2 HNM
    have HRG := hidV ((HDK.out _ HI3.out.2.2.2).bits ha)
    have HRR : Hid ((s.e ≠ 0 → nmS f (fun a => decide (2 = 0) || decide ((st a).kd = 2)) s = s) ∧ (s.e = 0 → (nmS f (fun a => decide (2 = 0) || decide ((st a).kd = 2)) s).e = T.e ∧ ((nmS f (fun a => decide (2 = 0) || decide ((st a).kd = 2)) s).e ≠ 0 → (nmS f (fun a => decide (2 = 0) || decide ((st a).kd = 2)) s).bad = T.bad) ∧ (T.e = 0 → (nmS f (fun a => decide (2 = 0) || decide ((st a).kd = 2)) s).k = T.k ∧ bv (st a).bit = bv T.b))) := by
      refine ⟨fun q => absurd hs q, fun _ => ?_⟩
      rw [hR]
      unfold nmS nmR
      rw [if_neg (by omega)]
      by_cases q1 : isN (f s.k) = true
      · have ea := haa hs q1
        rw [if_pos q1, if_pos q1]
        by_cases q2 : (st ((f s.k).c - 69)).kd = 2
        · rw [if_pos (by simpa using q2), if_pos q2]
          exact ⟨rfl, fun _ => rfl, fun _ => ⟨rfl, by rw [ea]⟩⟩
        · rw [if_neg (by simpa using q2), if_neg q2]
          exact ⟨rfl, fun _ => rfl, fun q => by simp at q⟩
      · rw [if_neg q1, if_neg q1]
        exact ⟨rfl, fun _ => rfl, fun q => by simp at q⟩
    have HQ := hidV (HEND.out _ w3 (st a).bit ⟨HI3.out.2.2.1, HI3.out.2.2.2⟩ HRR)
    have HTH := hidV (show w3.there w.heap.size 0 (bv (st a).bit).size from Blk.there HI3.out.2.1 (Nat.le_refl _))
    have HSZ := hidV (size_bool7 (st a).bit)
    have HON := hidV (bv_one (st a).bit)
    have HRB := hidV HI3.out.2.1
    obtain ⟨y, HY⟩ : ∃ y, Hid (bv (st a).bit = y) := ⟨_, hidV rfl⟩
    have HYS : Hid (y.size = (bv fun _ => false).size) := by unfold Hid; rw [← HY.out]; rfl
    rw [HY.out] at HTH HSZ HON HQ HRG
    clear HRR
    have a0 : (0 : Int) ≤ (a : Int) := by omega
    have a1 : (a : Int) < 26 := by omega
    go_wp2_with (first | (refine wpList_load_b7 (by rfl) _ (by rfl) bd (a * 9 + 2) (by rfl) y HRG.out HSZ.out ?_) | (refine wpList_store_mid (by rfl) 45 _ _ (by rfl) w.heap.size 0 y (by rfl) (by rfl) HTH.out HSZ.out HON.out ?_))
    refine bodyPost_ret (results_cell_row Tryz.results90 _ _ w.heap.size 45 y (0, 0) _ (by rfl) (Blk.setAll HRB.out _ HYS.out) Tryz.underlying45 rfl HSZ.out) rfl HQ.out
  · exact absurd hs q
end Go.Proofs.YthlmgpllapccfaaGreatDoor
/- THE DOCUMENT's ANSWER: sets: pieces, parts, sets: the knot. -/
namespace Go.Proofs.YthlmgpllapccfaaGreatDoor
open Go.RowKit

theorem pcR_minus (f : Nat → Tok) (N : Nat) (st : Nat → Mng) (d k : Nat) (h : (f k).c = 49) : (pcR f N st d k).e = 4 ∧ (pcR f N st d k).bad = (f k).at' := by
  rw [pcR_name (by omega) (by omega) (by omega)]
  unfold nmR
  rw [if_neg (by rw [isN_iff]; omega)]
  exact ⟨rfl, rfl⟩
/-- What piece answers. -/
def PcD (b g n cap N bd : Nat) (f : Nat → Tok) (M : List Nat) (st : Nat → Mng) (d : Nat) : Prop :=
  ∀ s w, WyS w b g n cap s ((6 - d : Nat) : Int) → TkS w b g n N f → Dk w M bd st → Calls Tryz.prog 90 #[.pointer (some ⟨b, 0, none⟩), .pointer (some ⟨bd, 0, none⟩)] w (SP b g n cap (pcR f N st d) s ((6 - d : Nat) : Int) w)
theorem piece_all (b g n cap N bd : Nat) (f : Nat → Tok) (M : List Nat) (st : Nat → Mng) (hbM : b ∈ M) (hbd : b ≠ bd) : ∀ d, d ≤ 6 → PcD b g n cap N bd f M st d := by
  have hDf : ∀ w w', Dk w M bd st → Fr [b] w w' → Dk w' M bd st := fun w w' h hf => h.fr hf (by simp; exact fun q => hbd q.symm) (by simp [hbM])
  intro d
  induction d with
  | zero =>
    intro _ s w h ht hd
    by_cases hs : s.e = 0
    · have hO : ∀ k, (∀ w, Wy w b g n cap (k + 1) 0 0 ((6 - 0 : Nat) : Int) → TkS w b g n N f → k + 1 < n → Calls Tryz.prog 101 #[.pointer (some ⟨b, 0, none⟩)] w fun e w' => e = .returned (.tuple #[]) ∧ WyS w' b g n cap ⟨0, 8, (f k).at'⟩ (((6 - 0 : Nat) : Int) + 1) ∧ Fr [b] w w') := fun k w q t hk =>
        (opens_deep b g n cap k f w q t.tk hk (by have := t.le; have := t.N; omega)).mono (by
          rintro e w1 ⟨rfl, g1, g2⟩
          exact ⟨rfl, Or.inr ⟨by simp, k + 1, hk, g1⟩, g2⟩)
      by_cases h1 : (f s.k).c = 130
      · exact piece_tilde b g n cap N bd s.k f _ (fun w => Dk w M bd st) (pcR f N st 0) (pcR f N st 0) ⟨0, 8, (f s.k).at'⟩ s hDf (by omega) (by omega) (hO s.k)
          (fun w _ q _ _ => piece_err b g n cap bd _ _ _ w q (by simp)) hs rfl h1 (by
            rw [pcR_deep (Or.inl h1)]
            unfold afR
            rw [if_pos (by simp)]
            exact ⟨rfl, fun _ => rfl, fun q => by simp at q⟩) w h ht hd
      · by_cases h2 : (f s.k).c = 44
        · refine piece_group b g n cap N bd s.k f _ (fun w => Dk w M bd st) (pcR f N st 0) (stR f N st 0) ⟨0, 8, (f s.k).at'⟩ s hDf (by omega) (by omega) (hO s.k)
            (fun w _ q t dk => wset_any b g n cap N bd f _ (fun w => Dk w M bd st) (ptR f N st 0) (ptR_grow f N st 0) hDf _ (fun s' w hc q t dk => wpart_any b g n cap N bd f _ (fun w => Dk w M bd st) (pcR f N st 0) (pcR_grow f N st 0) hDf (pcR_minus f N st 0) s' (fun s'' w hc' q _ _ => piece_err b g n cap bd _ _ _ w q (hc' (hc (by simp)))) w q t dk) w q t dk) hs rfl h2 (by
              rw [pcR_deep (Or.inr h2)]
              unfold afR
              rw [if_pos (by simp)]
              unfold wtS
              rw [if_pos (by simp)]
              exact ⟨rfl, fun _ => rfl, fun q => by simp at q⟩) w h ht hd
        · by_cases h3 : (f s.k).c = 95
          · exact piece_zeros b g n cap N bd f _ _ s hs h3 (pcR_zeros h3) w h ht
          · exact piece_name b g n cap N bd f _ _ s hs M st h1 h2 h3 (pcR_name h1 h2 h3) hbM hbd w h ht hd
    · exact piece_err b g n cap bd _ s _ w h hs
  | succ d ih =>
    intro hd6 s w h ht hd
    have ih' := ih (by omega)
    have eD : ((6 - (d + 1) : Nat) : Int) + 1 = ((6 - d : Nat) : Int) := by omega
    by_cases hs : s.e = 0
    · have hO : ∀ k, (∀ w, Wy w b g n cap (k + 1) 0 0 ((6 - (d + 1) : Nat) : Int) → TkS w b g n N f → k + 1 < n → Calls Tryz.prog 101 #[.pointer (some ⟨b, 0, none⟩)] w fun e w' => e = .returned (.tuple #[]) ∧ WyS w' b g n cap ⟨k + 1, 0, 0⟩ (((6 - (d + 1) : Nat) : Int) + 1) ∧ Fr [b] w w') := fun k w q t hk =>
        (opens_ok b g n cap (k + 1) _ w q (by omega) (by omega)).mono (by
          rintro e w1 ⟨rfl, g1, g2⟩
          exact ⟨rfl, Or.inl ⟨rfl, g1, hk⟩, g2⟩)
      by_cases h1 : (f s.k).c = 130
      · exact piece_tilde b g n cap N bd s.k f _ (fun w => Dk w M bd st) (pcR f N st (d + 1)) (pcR f N st d) ⟨s.k + 1, 0, 0⟩ s hDf (by omega) (by omega) (hO s.k)
          (fun w _ q t dk => by rw [eD] at q ⊢; exact ih' _ w q t dk) hs rfl h1 (by
            rw [pcR_tilde h1]
            unfold afR
            rw [if_neg (by simp)]
            exact ⟨rfl, fun _ => rfl, fun _ => ⟨rfl, rfl, rfl⟩⟩) w h ht hd
      · by_cases h2 : (f s.k).c = 44
        · refine piece_group b g n cap N bd s.k f _ (fun w => Dk w M bd st) (pcR f N st (d + 1)) (stR f N st d) ⟨s.k + 1, 0, 0⟩ s hDf (by omega) (by omega) (hO s.k)
            (fun w _ q t dk => by
              rw [eD] at q ⊢
              exact wset_any b g n cap N bd f _ (fun w => Dk w M bd st) (ptR f N st d) (ptR_grow f N st d) hDf _ (fun s' w _ q t dk => wpart_any b g n cap N bd f _ (fun w => Dk w M bd st) (pcR f N st d) (pcR_grow f N st d) hDf (pcR_minus f N st d) s' (fun s'' w _ q t dk => ih' s'' w q t dk) w q t dk) w q t dk) hs rfl h2 (by
              rw [pcR_open h2]
              unfold afR
              rw [if_neg (by simp)]
              unfold wtS StR.wants
              by_cases r0 : (stR f N st d (s.k + 1)).e = 0
              · rw [if_pos r0, if_neg (show ¬ (⟨(stR f N st d (s.k + 1)).k, (stR f N st d (s.k + 1)).e, (stR f N st d (s.k + 1)).bad⟩ : WS).e ≠ 0 from fun q => q r0)]
                by_cases r2 : (f (stR f N st d (s.k + 1)).k).c = 45
                · rw [if_pos r2, if_pos (show (f (⟨(stR f N st d (s.k + 1)).k, (stR f N st d (s.k + 1)).e, (stR f N st d (s.k + 1)).bad⟩ : WS).k).c = 45 from r2)]
                  exact ⟨rfl, fun _ => rfl, fun _ => ⟨rfl, r0, rfl, rfl⟩⟩
                · rw [if_neg r2, if_neg (show ¬ (f (⟨(stR f N st d (s.k + 1)).k, (stR f N st d (s.k + 1)).e, (stR f N st d (s.k + 1)).bad⟩ : WS).k).c = 45 from r2)]
                  exact ⟨rfl, fun _ => rfl, fun q => by simp at q⟩
              · rw [if_neg r0, if_pos (show (⟨(stR f N st d (s.k + 1)).k, (stR f N st d (s.k + 1)).e, (stR f N st d (s.k + 1)).bad⟩ : WS).e ≠ 0 from r0)]
                exact ⟨rfl, fun _ => rfl, fun q => absurd q r0⟩) w h ht hd
        · by_cases h3 : (f s.k).c = 95
          · exact piece_zeros b g n cap N bd f _ _ s hs h3 (pcR_zeros h3) w h ht
          · exact piece_name b g n cap N bd f _ _ s hs M st h1 h2 h3 (pcR_name h1 h2 h3) hbM hbd w h ht hd
    · exact piece_err b g n cap bd _ s _ w h hs
/-- A SET. -/
theorem wset_all (b g n cap N bd : Nat) (f : Nat → Tok) (M : List Nat) (st : Nat → Mng) (hbM : b ∈ M) (hbd : b ≠ bd) (s : WS) (w : World) (h : WyS w b g n cap s 0) (ht : TkS w b g n N f) (hd : Dk w M bd st) :
    Calls Tryz.prog 41 #[.pointer (some ⟨b, 0, none⟩), .pointer (some ⟨bd, 0, none⟩)] w (SP b g n cap (stR f N st 6) s 0 w) := by
  have hDf : ∀ w w', Dk w M bd st → Fr [b] w w' → Dk w' M bd st := fun w w' h hf => h.fr hf (by simp; exact fun q => hbd q.symm) (by simp [hbM])
  have hp := piece_all b g n cap N bd f M st hbM hbd 6 (Nat.le_refl _)
  exact wset_any b g n cap N bd f 0 (fun w => Dk w M bd st) (ptR f N st 6) (ptR_grow f N st 6) hDf s (fun s' w _ q t dk => wpart_any b g n cap N bd f 0 (fun w => Dk w M bd st) (pcR f N st 6) (pcR_grow f N st 6) hDf (pcR_minus f N st 6) s' (fun s'' w _ q t dk => hp s'' w q t dk) w q t dk) w h ht hd
end Go.Proofs.YthlmgpllapccfaaGreatDoor
