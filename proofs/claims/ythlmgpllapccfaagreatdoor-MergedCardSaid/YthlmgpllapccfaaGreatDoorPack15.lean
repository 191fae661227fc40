import Derived.Test.YthlmgpllapccfaaGreatDoorPack14
/- THE READER: a line of sets, by its word. -/
namespace Go.Proofs.YthlmgpllapccfaaGreatDoor
open Go.RowKit

theorem NV_set {w : World} {Ms : List Nat} {m : Mng} {v : Value} (h : NV w Ms m (some (.iface 155 v))) : ∃ c, m = .set c ∧ v = .agg (bv c) := by
  cases m with
  | non => simp [NV] at h
  | sys ps => obtain ⟨_, _, h, _⟩ := h; simp at h
  | set c =>
    have h2 : some (Value.iface 155 v) = some (.iface 155 (.agg (bv c))) := h
    injection h2 with h3
    injection h3 with _ h4
    exact ⟨c, rfl, h4⟩

set_option maxHeartbeats 2000000 in
theorem rline_show (s : ByteArray) (b bm : Nat) (Ms : List Nat) (st : Nat → Mng) (w : World) (hs : s.size ≤ 1000) (hr : Rd w b s (.map (some bm)) 0 false (tok s 0)) (hm : Nm w Ms bm st) (hbm : b ≠ bm) (hbM : b ∈ Ms) (hsm : sml s (w0 s) = true) (hw : wd s = [115, 104, 111, 119]) :
    Calls Tryz.prog 44 #[.pointer (some ⟨b, 0, none⟩)] w (RP w b s (.map (some bm)) 0 false (lf s) (nmS (lf s) (okSt st) ws1) (fun v _ => ∃ c, st ((lf s 1).c - 69) = .set c ∧ v = .iface 144 (.agg #[.iface 155 (.agg (bv c))]))) := by
  have hb : b < w.heap.size := Blk.lt hr
  have c2 := hr.cells.2.2.1
  have hS : s.extract (w0 s) (w1 s) = ⟨#[115, 104, 111, 119]⟩ := byt_of hw
  have HWD := hidV (pWord_any (M := .map (some bm)) (D := 0) (O := false) s b w hs hr)
  rw [hS, tok_lf hsm] at HWD
  have HNN := hidV (fun w' hr' hm' => namedSet_any (D := 0) (O := false) s (lf s) 1 b bm Ms st (okSt st) w' hs (strLf s) (namLf s) hr' hm' hbm hbM (fun _ => rfl))
  have HM := hidV hm
  clear hr hw hS hm
  have e1 : ws1 = ⟨1, 0, 0⟩ := rfl
  rw [e1]
  generalize nmS (lf s) (okSt st) ⟨1, 0, 0⟩ = S at *
  go_enter Tryz.func44, Tryz.ntmps44
  go_wp2_with fail
  refine HWD.out.mono ?_
  rintro e w1 ⟨rfl, hr1, hf1⟩
  have HI1 : Hid (Rd w1 b s (.map (some bm)) 0 false (lf s 1) ∧ Fr [b] w w1) := ⟨hr1, hf1⟩
  clear hr1 hf1
  go_wp2_with fail
  refine (HNN.out _ HI1.out.1 (HM.out.fr HI1.out.2 (by simp; exact fun q => hbm q.symm) (by simp [hbM]))).mono ?_
  rintro e w2 (⟨h, v, rfl, hv, hr2, hf2⟩ | ⟨h, rfl, hf2⟩)
  · obtain ⟨c, hst, hvv⟩ := NV_set hv
    have HI2 := hidV (And.intro h (And.intro hst (And.intro hr2 (HI1.out.2.trans hf2 (by simp)))))
    subst hvv
    clear h hv hr2 hf2 hst
    go_wp2
    go_ret
    exact Or.inl ⟨HI2.out.1, _, rfl, ⟨c, HI2.out.2.1, rfl⟩, HI2.out.2.2.1, HI2.out.2.2.2⟩
  · go_wp2
    exact ⟨rfl, Or.inr ⟨h, rfl, HI1.out.2.trans hf2 (by simp)⟩⟩

set_option maxRecDepth 100000 in
set_option maxHeartbeats 2000000 in
theorem rline_has (s : ByteArray) (b bm : Nat) (Ms : List Nat) (st : Nat → Mng) (w : World) (hs : s.size ≤ 1000) (hr : Rd w b s (.map (some bm)) 0 false (tok s 0)) (hm : Nm w Ms bm st) (hbm : b ≠ bm) (hbM : b ∈ Ms) (hsm : sml s (w0 s) = true) (hw : wd s = [104, 97, 115]) :
    Calls Tryz.prog 44 #[.pointer (some ⟨b, 0, none⟩)] w (RP w b s (.map (some bm)) 0 false (lf s) (ctS (lf s) (nmS (lf s) (okSt st) ws1)) (fun v _ => ∃ c, st ((lf s 1).c - 69) = .set c ∧ v = .iface 158 (.agg #[.bool (c 0), .bool (c 1), .bool (c 2), .bool (c 3), .bool (c 4), .bool (c 5), .bool (c 6), .int .i64 (lf s 2).v]))) := by
  have hb : b < w.heap.size := Blk.lt hr
  have c2 := hr.cells.2.2.1
  have hS : s.extract (w0 s) (w1 s) = ⟨#[104, 97, 115]⟩ := byt_of hw
  have HWD := hidV (pWord_any (M := .map (some bm)) (D := 0) (O := false) s b w hs hr)
  rw [hS, tok_lf hsm] at HWD
  have HNN := hidV (fun w' hr' hm' => namedSet_any (D := 0) (O := false) s (lf s) 1 b bm Ms st (okSt st) w' hs (strLf s) (namLf s) hr' hm' hbm hbM (fun _ => rfl))
  have HM := hidV hm
  have hfl := field_tok
  clear hr hw hS hm
  have e1 : ws1 = ⟨1, 0, 0⟩ := rfl
  rw [e1]
  have HK : Hid ((nmS (lf s) (okSt st) ⟨1, 0, 0⟩).e = 0 → (nmS (lf s) (okSt st) ⟨1, 0, 0⟩).k = 2) := fun h => nmS_k h
  have HCT : Hid ((nmS (lf s) (okSt st) ⟨1, 0, 0⟩).e ≠ 0 → ctS (lf s) (nmS (lf s) (okSt st) ⟨1, 0, 0⟩) = nmS (lf s) (okSt st) ⟨1, 0, 0⟩) := fun h => by unfold ctS; rw [if_pos h]
  have HCO : Hid ((nmS (lf s) (okSt st) ⟨1, 0, 0⟩).e = 0 → ctS (lf s) (nmS (lf s) (okSt st) ⟨1, 0, 0⟩) = if (lf s 2).c = 1 then ⟨3, 0, 0⟩ else ⟨2, 4, (lf s 2).at'⟩) := fun h => by
    unfold ctS; rw [if_neg (by omega), nmS_k h]
  obtain ⟨C, HC⟩ : ∃ C, Hid (ctS (lf s) (nmS (lf s) (okSt st) ⟨1, 0, 0⟩) = C) := ⟨_, hidV rfl⟩
  rw [HC.out] at HCT HCO ⊢
  generalize nmS (lf s) (okSt st) ⟨1, 0, 0⟩ = S at *
  go_enter Tryz.func44, Tryz.ntmps44
  go_wp2_with fail
  refine HWD.out.mono ?_
  rintro e w1 ⟨rfl, hr1, hf1⟩
  have HI1 : Hid (Rd w1 b s (.map (some bm)) 0 false (lf s 1) ∧ Fr [b] w w1) := ⟨hr1, hf1⟩
  clear hr1 hf1
  go_wp2_with fail
  refine (HNN.out _ HI1.out.1 (HM.out.fr HI1.out.2 (by simp; exact fun q => hbm q.symm) (by simp [hbM]))).mono ?_
  rintro e w2 (⟨h, v, rfl, hv, hr2, hf2⟩ | ⟨h, rfl, hf2⟩)
  · have HCE := hidV (HCO.out h)
    rw [HK.out h] at hr2
    obtain ⟨c, hst, hvv⟩ := NV_set hv
    have HI2 := hidV (And.intro hst (And.intro hr2 (HI1.out.2.trans hf2 (by simp))))
    rw [bv_lit c] at hvv
    subst hvv
    clear h hv hr2 hf2 hst
    by_cases h1 : (lf s 2).c = 1
    · have HPK : Hid (pk (lf s 2).c = 1) := pk_1.2 h1
      have HCF : Hid (C = ⟨3, 0, 0⟩) := by unfold Hid; rw [HCE.out, if_pos h1]
      clear h1
      go_wp2_with fail
      refine wp_forget (fun V => Rd V b s (.map (some bm)) 0 false (lf s 2) ∧ Fr [b] w V ∧ Blk V w2.heap.size (bv c) 155) ⟨Blk.alloc HI2.out.2.1 _, HI2.out.2.2.alloc _, Blk.new w2 _ _⟩ ?_
      rintro V gV
      have HV := hidV gV
      have hbl : b < w2.heap.size := Blk.lt HI2.out.2.1
      clear gV
      generalize w2.heap.size = sb at *
      have HCS : Hid (∀ w', Blk w' sb (bv c) 155 → (w'.cell? ⟨sb, 0, none⟩ = some (.bool (c 0)) ∧ w'.cell? ⟨sb, 1, none⟩ = some (.bool (c 1)) ∧ w'.cell? ⟨sb, 2, none⟩ = some (.bool (c 2)) ∧ w'.cell? ⟨sb, 3, none⟩ = some (.bool (c 3)) ∧ w'.cell? ⟨sb, 4, none⟩ = some (.bool (c 4)) ∧ w'.cell? ⟨sb, 5, none⟩ = some (.bool (c 5)) ∧ w'.cell? ⟨sb, 6, none⟩ = some (.bool (c 6)))) := fun w' h => ⟨h.cell 0, h.cell 1, h.cell 2, h.cell 3, h.cell 4, h.cell 5, h.cell 6⟩
      go_region_held3 (fun w' => w'.cell? ⟨sb, 0, none⟩ = some (.bool (c 0)) ∧ w'.cell? ⟨sb, 1, none⟩ = some (.bool (c 1)) ∧ w'.cell? ⟨sb, 2, none⟩ = some (.bool (c 2)) ∧ w'.cell? ⟨sb, 3, none⟩ = some (.bool (c 3)) ∧ w'.cell? ⟨sb, 4, none⟩ = some (.bool (c 4)) ∧ w'.cell? ⟨sb, 5, none⟩ = some (.bool (c 5)) ∧ w'.cell? ⟨sb, 6, none⟩ = some (.bool (c 6))) (first | (exact HCS.out _ HV.out.2.2) | (exact HCS.out _ HB3.out) | assumption) (first | (go_at_call 71; refine (expect_ok s (lf s) 2 b 1 _ hs (strLf s) (by exact HV.out.1) HPK.out).mono ?_; rintro e w3 ⟨rfl, hr3, hf3⟩; have HI3 : Hid (Rd w3 b s (.map (some bm)) 0 false (lf s 3) ∧ Fr [b] w w3) := ⟨hr3, HV.out.2.1.drew.trans hf3 (by simp)⟩; have HB3 : Hid (Blk w3 sb (bv c) 155) := Blk.fr (by exact HV.out.2.2) hf3 (by simp; omega); have hcs3 := HCS.out _ HB3.out; clear hr3 hf3))
      all_goals
        go_wp2
        go_ret
        rw [HCF.out]
        exact Or.inl ⟨rfl, _, rfl, ⟨c, HI2.out.1, rfl⟩, HI3.out.1, HI3.out.2⟩
    · have HPK : Hid (pk (lf s 2).c ≠ 1) := fun q => h1 (pk_1.1 q)
      have HCF : Hid (C = ⟨2, 4, (lf s 2).at'⟩) := by unfold Hid; rw [HCE.out, if_neg h1]
      clear h1
      go_wp2_with fail
      refine wp_forget (fun V => Rd V b s (.map (some bm)) 0 false (lf s 2) ∧ Fr [b] w V ∧ Blk V w2.heap.size (bv c) 155) ⟨Blk.alloc HI2.out.2.1 _, HI2.out.2.2.alloc _, Blk.new w2 _ _⟩ ?_
      rintro V gV
      have HV := hidV gV
      have hbl : b < w2.heap.size := Blk.lt HI2.out.2.1
      clear gV
      generalize w2.heap.size = sb at *
      have HSZ := hidV (size_bv c)
      refine region_panics (fun w' => Fr [] V w') (fun ch w' => ch = faulty 4 (lf s 2).at' ∧ Fr [b] w w') 2 _ ((Fr.refl [] V).drew) (by kernel_rfl) (by kernel_rfl) (by rfl) (by rfl) (fun a' ch w' hd hR => by
        obtain ⟨rfl, hf⟩ := hR
        exact ⟨hd, by rw [HCF.out]; exact Or.inr ⟨by simp, rfl, hf⟩⟩) ?_
      simp only [List.take_succ_cons, List.take_zero]
      refine wpQuiet_ld (by rfl) 155 _ (by rfl) sb (by rfl) (bv c) _ (fun w' hw' => HV.out.2.2.fr hw' (by simp)) Tryz.underlying155 rfl HSZ.out ?_
      go_frame
      refine wpQuiet_mv (by rfl) _ (by rfl) ?_
      go_frame
      refine wpQuiet_nil ?_
      intro w' hw'
      refine ⟨71, #[.pointer (some ⟨b, 0, none⟩), .int .i64 1], by go_simp, (expect_not s (lf s 2) b 1 w' (Blk.fr HV.out.1 hw' (by simp)) HPK.out).mono (fun e w'' h => ⟨_, h.1, rfl, (HV.out.2.1.trans hw' (by simp)).trans h.2 (by simp)⟩)⟩
  · have HCF := hidV (HCT.out h)
    go_wp2
    exact ⟨rfl, by rw [HCF.out]; exact Or.inr ⟨h, rfl, HI1.out.2.trans hf2 (by simp)⟩⟩


set_option maxRecDepth 100000 in
set_option maxHeartbeats 2000000 in
theorem rline_sub (s : ByteArray) (b bm : Nat) (Ms : List Nat) (st : Nat → Mng) (w : World) (hs : s.size ≤ 1000) (hr : Rd w b s (.map (some bm)) 0 false (tok s 0)) (hm : Nm w Ms bm st) (hbm : b ≠ bm) (hbM : b ∈ Ms) (hsm : sml s (w0 s) = true) (hw : wd s = [115, 117, 98]) :
    Calls Tryz.prog 44 #[.pointer (some ⟨b, 0, none⟩)] w (RP w b s (.map (some bm)) 0 false (lf s) (nmS (lf s) (okSt st) (nmS (lf s) (okSt st) ws1)) (fun v _ => ∃ c d, st ((lf s 1).c - 69) = .set c ∧ st ((lf s 2).c - 69) = .set d ∧ v = .iface 160 (.agg #[.bool (c 0), .bool (c 1), .bool (c 2), .bool (c 3), .bool (c 4), .bool (c 5), .bool (c 6), .bool (d 0), .bool (d 1), .bool (d 2), .bool (d 3), .bool (d 4), .bool (d 5), .bool (d 6)]))) := by
  have hb : b < w.heap.size := Blk.lt hr
  have c2 := hr.cells.2.2.1
  have hS : s.extract (w0 s) (w1 s) = ⟨#[115, 117, 98]⟩ := byt_of hw
  have HWD := hidV (pWord_any (M := .map (some bm)) (D := 0) (O := false) s b w hs hr)
  rw [hS, tok_lf hsm] at HWD
  have HNN := hidV (fun w' hr' hm' => namedSet_any (D := 0) (O := false) s (lf s) 1 b bm Ms st (okSt st) w' hs (strLf s) (namLf s) hr' hm' hbm hbM (fun _ => rfl))
  have HN2 := hidV (fun w' hr' hm' => namedSet_any (D := 0) (O := false) s (lf s) 2 b bm Ms st (okSt st) w' hs (strLf s) (namLf s) hr' hm' hbm hbM (fun _ => rfl))
  have HM := hidV hm
  clear hr hw hS hm
  have e1 : ws1 = ⟨1, 0, 0⟩ := rfl
  rw [e1]
  have HK : Hid ((nmS (lf s) (okSt st) ⟨1, 0, 0⟩).e = 0 → (nmS (lf s) (okSt st) ⟨1, 0, 0⟩).k = 2) := fun h => nmS_k h
  have HCT : Hid ((nmS (lf s) (okSt st) ⟨1, 0, 0⟩).e ≠ 0 → nmS (lf s) (okSt st) (nmS (lf s) (okSt st) ⟨1, 0, 0⟩) = nmS (lf s) (okSt st) ⟨1, 0, 0⟩) := fun h => by
    generalize nmS (lf s) (okSt st) ⟨1, 0, 0⟩ = S at *
    unfold nmS; rw [if_pos h]
  have HCO : Hid ((nmS (lf s) (okSt st) ⟨1, 0, 0⟩).e = 0 → nmS (lf s) (okSt st) (nmS (lf s) (okSt st) ⟨1, 0, 0⟩) = nmS (lf s) (okSt st) ⟨2, 0, 0⟩) := fun h => by
    obtain ⟨_, g2, g3⟩ := nmS_ok h
    have hk : nmS (lf s) (okSt st) ⟨1, 0, 0⟩ = ⟨2, 0, 0⟩ := by
      unfold nmS
      rw [if_neg (by simp), if_pos g2, if_pos g3]
    rw [hk]
  obtain ⟨C, HC⟩ : ∃ C, Hid (nmS (lf s) (okSt st) (nmS (lf s) (okSt st) ⟨1, 0, 0⟩) = C) := ⟨_, hidV rfl⟩
  rw [HC.out] at HCT HCO ⊢
  generalize nmS (lf s) (okSt st) ⟨1, 0, 0⟩ = S at *
  generalize nmS (lf s) (okSt st) ⟨2, 0, 0⟩ = S2 at *
  go_enter Tryz.func44, Tryz.ntmps44
  go_wp2_with fail
  refine HWD.out.mono ?_
  rintro e w1 ⟨rfl, hr1, hf1⟩
  have HI1 : Hid (Rd w1 b s (.map (some bm)) 0 false (lf s 1) ∧ Fr [b] w w1) := ⟨hr1, hf1⟩
  clear hr1 hf1
  go_wp2_with fail
  refine (HNN.out _ HI1.out.1 (HM.out.fr HI1.out.2 (by simp; exact fun q => hbm q.symm) (by simp [hbM]))).mono ?_
  rintro e w2 (⟨h, v, rfl, hv, hr2, hf2⟩ | ⟨h, rfl, hf2⟩)
  · have HCE := hidV (HCO.out h)
    rw [HK.out h] at hr2
    obtain ⟨c, hst, hvv⟩ := NV_set hv
    have HI2 := hidV (And.intro hst (And.intro hr2 (HI1.out.2.trans hf2 (by simp))))
    rw [bv_lit c] at hvv
    subst hvv
    clear h hv hr2 hf2 hst
    go_wp2_with fail
    refine wp_forget (fun V => Rd V b s (.map (some bm)) 0 false (lf s 2) ∧ Fr [b] w V ∧ Blk V w2.heap.size (bv c) 155) ⟨Blk.alloc HI2.out.2.1 _, HI2.out.2.2.alloc _, Blk.new w2 _ _⟩ ?_
    rintro V gV
    have HV := hidV gV
    have hbl : b < w2.heap.size := Blk.lt HI2.out.2.1
    clear gV
    generalize w2.heap.size = sb at *
    have HCS : Hid (∀ w', Blk w' sb (bv c) 155 → (w'.cell? ⟨sb, 0, none⟩ = some (.bool (c 0)) ∧ w'.cell? ⟨sb, 1, none⟩ = some (.bool (c 1)) ∧ w'.cell? ⟨sb, 2, none⟩ = some (.bool (c 2)) ∧ w'.cell? ⟨sb, 3, none⟩ = some (.bool (c 3)) ∧ w'.cell? ⟨sb, 4, none⟩ = some (.bool (c 4)) ∧ w'.cell? ⟨sb, 5, none⟩ = some (.bool (c 5)) ∧ w'.cell? ⟨sb, 6, none⟩ = some (.bool (c 6)))) := fun w' h => ⟨h.cell 0, h.cell 1, h.cell 2, h.cell 3, h.cell 4, h.cell 5, h.cell 6⟩
    by_cases h2 : S2.e = 0
    · have HOK : Hid (∀ w', Rd w' b s (.map (some bm)) 0 false (lf s 2) → Nm w' Ms bm st → Calls Tryz.prog 77 #[.pointer (some ⟨b, 0, none⟩)] w' (fun e w'' => ∃ d, e = .returned (.agg #[.bool (d 0), .bool (d 1), .bool (d 2), .bool (d 3), .bool (d 4), .bool (d 5), .bool (d 6)]) ∧ st ((lf s 2).c - 69) = .set d ∧ Rd w'' b s (.map (some bm)) 0 false (lf s S2.k) ∧ Fr [b] w' w'')) := fun w' k1 k2 => (HN2.out w' k1 k2).mono (by
        rintro e w'' (⟨g1, v, rfl, g2, g3, g4⟩ | ⟨g1, _⟩)
        · obtain ⟨d, hd1, hd2⟩ := NV_set g2
          rw [bv_lit d] at hd2
          exact ⟨d, by rw [hd2], hd1, g3, g4⟩
        · exact absurd h2 g1)
      have HE2 := hidV h2
      clear h2 HN2
      go_region_held3 (fun w' => w'.cell? ⟨sb, 0, none⟩ = some (.bool (c 0)) ∧ w'.cell? ⟨sb, 1, none⟩ = some (.bool (c 1)) ∧ w'.cell? ⟨sb, 2, none⟩ = some (.bool (c 2)) ∧ w'.cell? ⟨sb, 3, none⟩ = some (.bool (c 3)) ∧ w'.cell? ⟨sb, 4, none⟩ = some (.bool (c 4)) ∧ w'.cell? ⟨sb, 5, none⟩ = some (.bool (c 5)) ∧ w'.cell? ⟨sb, 6, none⟩ = some (.bool (c 6))) (first | (exact HCS.out _ HV.out.2.2) | (exact HCS.out _ HB3.out) | assumption) (first | (go_at_call 77; refine (HOK.out _ (by exact HV.out.1) (by exact HM.out.fr HV.out.2.1.drew (by simp; exact fun q => hbm q.symm) (by simp [hbM]))).mono ?_; rintro e w3 ⟨d, rfl, hst2, hr3, hf3⟩; have HI3 : Hid (st ((lf s 2).c - 69) = .set d ∧ Rd w3 b s (.map (some bm)) 0 false (lf s S2.k) ∧ Fr [b] w w3) := ⟨hst2, hr3, HV.out.2.1.drew.trans hf3 (by simp)⟩; have HB3 : Hid (Blk w3 sb (bv c) 155) := Blk.fr (by exact HV.out.2.2) hf3 (by simp; omega); have hcs3 := HCS.out _ HB3.out; clear hr3 hf3 hst2))
      all_goals
        go_wp2
        go_ret
        rw [HCE.out]
        exact Or.inl ⟨HE2.out, _, rfl, ⟨c, d, HI2.out.1, HI3.out.1, rfl⟩, HI3.out.2.1, HI3.out.2.2⟩
    · have HNO : Hid (∀ w', Rd w' b s (.map (some bm)) 0 false (lf s 2) → Nm w' Ms bm st → Calls Tryz.prog 77 #[.pointer (some ⟨b, 0, none⟩)] w' (fun e w'' => e = .panicked (faulty S2.e S2.bad) ∧ Fr [b] w' w'')) := fun w' k1 k2 => (HN2.out w' k1 k2).mono (by
        rintro e w'' (⟨g1, _⟩ | ⟨g1, g2, g3⟩)
        · exact absurd g1 h2
        · exact ⟨g2, g3⟩)
      have HE2 := hidV h2
      clear h2 HN2
      have HSZ := hidV (size_bv c)
      refine region_panics (fun w' => Fr [] V w') (fun ch w' => ch = faulty S2.e S2.bad ∧ Fr [b] w w') 2 _ ((Fr.refl [] V).drew) (by kernel_rfl) (by kernel_rfl) (by rfl) (by rfl) (fun a' ch w' hd hR => by
        obtain ⟨rfl, hf⟩ := hR
        exact ⟨hd, by rw [HCE.out]; exact Or.inr ⟨HE2.out, rfl, hf⟩⟩) ?_
      simp only [List.take_succ_cons, List.take_zero]
      refine wpQuiet_ld (by rfl) 155 _ (by rfl) sb (by rfl) (bv c) _ (fun w' hw' => HV.out.2.2.fr hw' (by simp)) Tryz.underlying155 rfl HSZ.out ?_
      go_frame
      refine wpQuiet_mv (by rfl) _ (by rfl) ?_
      go_frame
      refine wpQuiet_nil ?_
      intro w' hw'
      refine ⟨77, #[.pointer (some ⟨b, 0, none⟩)], by go_simp, (HNO.out w' (Blk.fr HV.out.1 hw' (by simp)) (HM.out.fr (HV.out.2.1.trans hw' (by simp)) (by simp; exact fun q => hbm q.symm) (by simp [hbM]))).mono (fun e w'' h => ⟨_, h.1, rfl, (HV.out.2.1.trans hw' (by simp)).trans h.2 (by simp)⟩)⟩
  · have HCF := hidV (HCT.out h)
    go_wp2
    exact ⟨rfl, by rw [HCF.out]; exact Or.inr ⟨h, rfl, HI1.out.2.trans hf2 (by simp)⟩⟩
set_option maxRecDepth 100000 in
set_option maxHeartbeats 2000000 in
theorem rline_set (s : ByteArray) (b bm : Nat) (Ms : List Nat) (st : Nat → Mng) (w : World) (hs : s.size ≤ 1000) (hr : Rd w b s (.map (some bm)) 0 false (tok s 0)) (hm : Nm w Ms bm st) (hbm : b ≠ bm) (hbM : b ∈ Ms) (hsm : sml s (w0 s) = true) (hw : wd s = [115, 101, 116]) :
    Calls Tryz.prog 44 #[.pointer (some ⟨b, 0, none⟩)] w (RP w b s (.map (some bm)) 0 false (lf s) (stS (lf s) s.size st (wtS (lf s) 65 (nmS (lf s) (ok0 st) ws1)))
      (fun v _ => ∃ tr, v = .iface 154 (.agg #[.int .u8 ((lf s 1).c - 4 : Nat), tr]) ∧ Tree tr (stR (lf s) s.size st 6 3).b)) := by
  have HR := hidV hr
  have hb : b < w.heap.size := Blk.lt hr
  have c2 := hr.cells.2.2.1
  have hS : s.extract (w0 s) (w1 s) = ⟨#[115, 101, 116]⟩ := byt_of hw
  have HWD := hidV (pWord_any (M := .map (some bm)) (D := 0) (O := false) s b w hs hr)
  rw [hS, tok_lf hsm] at HWD
  have HNN := hidV (fun w' hr' => newName_any (M := .map (some bm)) (D := 0) (O := false) s (lf s) 1 b (ok0 st) w' hs (strLf s) (namLf s) hr' (fun a => by simp [ok0]))
  have HSY := hidV (fun w' hr' hm' => rdSet_all s (lf s) b bm 3 Ms st w' hs (strLf s) (namLf s) hbm hbM hr' hm')
  have HM := hidV hm
  clear hr hw hS hm
  have e1 : ws1 = ⟨1, 0, 0⟩ := rfl
  rw [e1]
  by_cases h0 : (wtS (lf s) 65 (nmS (lf s) (ok0 st) ⟨1, 0, 0⟩)).e = 0
  · obtain ⟨h1, h2⟩ := wtS_eq0 h0
    rw [h1] at HNN ⊢
    clear h0 h1 h2
    have HSS : Hid (stS (lf s) s.size st ⟨1 + 1 + 1, 0, 0⟩ = ⟨(stR (lf s) s.size st 6 3).k, (stR (lf s) s.size st 6 3).e, (stR (lf s) s.size st 6 3).bad⟩) := by unfold Hid stS; rw [if_neg (by simp)]
    rw [HSS.out]
    generalize stR (lf s) s.size st 6 3 = R at *
    go_enter Tryz.func44, Tryz.ntmps44
    go_wp2_with fail
    refine HWD.out.mono ?_
    rintro e w1 ⟨rfl, hr1, hf1⟩
    have HI1 : Hid (Rd w1 b s (.map (some bm)) 0 false (lf s 1) ∧ Fr [b] w w1) := ⟨hr1, hf1⟩
    clear hr1 hf1
    go_wp2_with fail
    refine (HNN.out _ HI1.out.1).mono ?_
    rintro e w2 (⟨_, v, rfl, rfl, hr2, hf2⟩ | ⟨h, _⟩)
    · have HI2 : Hid (Rd w2 b s (.map (some bm)) 0 false (lf s 3) ∧ Fr [b] w w2) := ⟨hr2, HI1.out.2.trans hf2 (by simp)⟩
      clear hr2 hf2
      go_wp2_with fail
      refine (HSY.out _ HI2.out.1 (HM.out.fr HI2.out.2 (by simp; exact fun q => hbm q.symm) (by simp [hbM]))).mono ?_
      rintro e w3 (⟨h3, v, rfl, hv, hr3, hf3⟩ | ⟨h3, rfl, hf3⟩)
      · obtain ⟨TT, xx, hvv⟩ := hv.form
        subst hvv
        have HI3 := hidV (And.intro hv (And.intro hr3 (HI2.out.2.trans hf3 (by simp))))
        clear hr3 hf3 hv
        go_wp2
        go_ret
        exact Or.inl ⟨h3, _, rfl, ⟨_, rfl, HI3.out.1⟩, HI3.out.2.1, HI3.out.2.2⟩
      · go_wp2
        exact ⟨rfl, Or.inr ⟨h3, rfl, HI2.out.2.trans hf3 (by simp)⟩⟩
    · simp at h
  · have HE0 := hidV h0
    have HSS : Hid (stS (lf s) s.size st (wtS (lf s) 65 (nmS (lf s) (ok0 st) ⟨1, 0, 0⟩)) = wtS (lf s) 65 (nmS (lf s) (ok0 st) ⟨1, 0, 0⟩)) := by unfold Hid stS; rw [if_pos h0]
    rw [HSS.out]
    generalize wtS (lf s) 65 (nmS (lf s) (ok0 st) ⟨1, 0, 0⟩) = S at *
    clear h0
    go_enter Tryz.func44, Tryz.ntmps44
    go_wp2_with fail
    refine HWD.out.mono ?_
    rintro e w1 ⟨rfl, hr1, hf1⟩
    have HI1 : Hid (Rd w1 b s (.map (some bm)) 0 false (lf s 1) ∧ Fr [b] w w1) := ⟨hr1, hf1⟩
    clear hr1 hf1
    go_wp2_with fail
    refine (HNN.out _ HI1.out.1).mono ?_
    rintro e w2 (⟨h, _⟩ | ⟨h, rfl, hf2⟩)
    · exact absurd h HE0.out
    · go_wp2
      exact ⟨rfl, Or.inr ⟨h, rfl, HI1.out.2.trans hf2 (by simp)⟩⟩

end Go.Proofs.YthlmgpllapccfaaGreatDoor
/- THE PROGRAM's PACKAGE set: what a tree comes to: two sets. -/
namespace Go.Proofs.YthlmgpllapccfaaGreatDoor
open Go.RowKit

set_option maxRecDepth 100000 in
set_option maxHeartbeats 2000000 in
theorem setOf_both {v u : Value} {b c : Nat → Bool} (h : Tree v b) (g : Tree u c) (ih : ∀ w, Calls Tryz.prog 177 #[v] w fun e w' => e = .returned (.agg (bv b)) ∧ Below w.heap.size w w') (ig : ∀ w, Calls Tryz.prog 177 #[u] w fun e w' => e = .returned (.agg (bv c)) ∧ Below w.heap.size w w') (w : World) : Calls Tryz.prog 177 #[.iface 211 (.agg #[v, u])] w fun e w' => e = .returned (.agg (bv (fun i => b i && c i))) ∧ Below w.heap.size w w' := by
  have hmf : ∀ (fn : Fn) (first cap : Array Value) (w : World), (Instr.makeFunc fn first cap).run Tryz.prog w = .ok (.func fn first cap) w := fun _ _ _ _ => rfl
  have tSet : ∀ (v : Value) (w : World), (Instr.typeAssert (.iface 211 v) 151 155 true).run Tryz.prog w = .ok (.tuple #[.agg #[.bool false, .bool false, .bool false, .bool false, .bool false, .bool false, .bool false], .bool false]) w := fun _ _ => by kernel_rfl
  have tZeros : ∀ (v : Value) (w : World), (Instr.typeAssert (.iface 211 v) 151 217 true).run Tryz.prog w = .ok (.tuple #[.agg #[.int .i64 0, .int .i64 0, .int .i64 0, .int .i64 0, .int .i64 0, .int .i64 0, .int .i64 0, .int .i64 0, .int .i64 0, .int .i64 0, .int .i64 0, .int .i64 0, .int .i64 0, .int .i64 0, .int .i64 0, .int .i64 0, .int .i64 0, .int .i64 0, .int .i64 0, .int .i64 0, .int .i64 0, .int .i64 0, .int .i64 0, .int .i64 0, .int .i64 0, .int .i64 0, .int .i64 0, .int .i64 0, .int .i64 0, .int .i64 0, .int .i64 0, .int .i64 0, .int .i64 0, .int .i64 0, .int .i64 0], .bool false]) w := fun _ _ => by kernel_rfl
  have tNot : ∀ (v : Value) (w : World), (Instr.typeAssert (.iface 211 v) 151 215 true).run Tryz.prog w = .ok (.tuple #[.agg #[.nilIface], .bool false]) w := fun _ _ => by kernel_rfl
  have tBoth : ∀ (v : Value) (w : World), (Instr.typeAssert (.iface 211 v) 151 211 true).run Tryz.prog w = .ok (.tuple #[v, .bool true]) w := fun _ _ => by kernel_rfl
  obtain ⟨T, x, hvx⟩ := h.form
  subst hvx
  obtain ⟨T2, x2, hux⟩ := g.form
  subst hux
  obtain ⟨yb, HYb⟩ : ∃ y, Hid (bv b = y) := ⟨_, hidV rfl⟩
  obtain ⟨yc, HYc⟩ : ∃ y, Hid (bv c = y) := ⟨_, hidV rfl⟩
  have HIH : Hid (∀ w, Calls Tryz.prog 177 #[.iface T x] w fun e w' => e = .returned (.agg yb) ∧ Below w.heap.size w w') := by rw [HYb.out] at ih; exact ih
  have HIG : Hid (∀ w, Calls Tryz.prog 177 #[.iface T2 x2] w fun e w' => e = .returned (.agg yc) ∧ Below w.heap.size w w') := by rw [HYc.out] at ig; exact ig
  clear ih ig h g
  have HCF : Hid (∀ (args : Array Value) (w : World), (callFunc 180 args).run Tryz.prog w = .ok (.enter 180 args) w) := fun _ _ => by kernel_rfl
  have HSB : Hid ((Tryz.prog.info? 155).map (·.size) = some yb.size ∧ yb.all (·.oneCell') = true ∧ yb.size = (bv fun _ => false).size) := by rw [← HYb.out]; exact ⟨size_bv b, bv_one b, rfl⟩
  have HSC : Hid ((Tryz.prog.info? 155).map (·.size) = some yc.size ∧ yc.all (·.oneCell') = true ∧ yc.size = (bv fun _ => false).size) := by rw [← HYc.out]; exact ⟨size_bv c, bv_one c, rfl⟩
  go_enter Tryz.func177, Tryz.ntmps177
  go_wp2_with fail
  refine wp_forget (fun V => Blk V (w.heap.size + 1) #[.iface T x, .iface T2 x2] 211 ∧ Blk V w.heap.size (bv fun _ => false) 155 ∧ Fr [] w V) ⟨Blk.newAt _ _ _ (by simp), Blk.alloc (Blk.new w _ _) _, ((Fr.refl [] w).alloc _).alloc _⟩ ?_
  rintro V gV
  have HV := hidV gV
  clear gV
  refine region_two_blocks #[.bool false, .bool false, .bool false, .bool false, .bool false, .bool false, .bool false] 155 6 { dst := some 8, op := .alloc 155, type := 0, pos := "tree.go:54", after := #[], guard := none } { dst := some 9, op := .alloc 155, type := 0, pos := "tree.go:54", after := #[], guard := none } (by kernel_rfl) (by kernel_rfl) (by rfl) (by rfl) (by rfl) (by rfl) (fun a w => by go_simp) (fun a w => by go_simp) ?_
  simp only [List.take_succ_cons, List.take_zero, List.drop_succ_cons, List.drop_zero]
  refine walkG_val (by rfl) (.pointer (some ⟨w.heap.size + 1, 0, none⟩)) (fun w _ => by go_simp) ?_
  go_frame
  refine walkG_val (by rfl) (.iface T x) (fun w' hw' => by have k : w'.cell? ⟨w.heap.size + 1, 0, none⟩ = some (.iface T x) := (HV.out.1.fr hw' (by simp)).cell 0
                                                           go_simp) ?_
  go_frame
  refine walkG_calls (by rfl) 177 #[.iface T x] (.agg yb) (fun w => by go_simp) (fun w' _ => (HIH.out w').mono (fun e w'' h => ⟨h.1, Fr.of_below h.2⟩)) ?_
  go_frame
  refine walkG_val (by rfl) (.pointer (some ⟨w.heap.size + 1, 1, none⟩)) (fun w _ => by go_simp) ?_
  go_frame
  refine walkG_val (by rfl) (.iface T2 x2) (fun w' hw' => by have k : w'.cell? ⟨w.heap.size + 1, 1, none⟩ = some (.iface T2 x2) := (HV.out.1.fr hw' (by simp)).cell 1
                                                             go_simp) ?_
  go_frame
  refine walkG_calls (by rfl) 177 #[.iface T2 x2] (.agg yc) (fun w => by go_simp) (fun w' _ => (HIG.out w').mono (fun e w'' h => ⟨h.1, Fr.of_below h.2⟩)) ?_
  go_frame
  refine walkG_nil ?_
  intro b1 c1 w1 hE
  obtain ⟨hb, hc, hne, k1, k2, f1⟩ := hE
  have k1' : Blk w1 b1 (bv fun _ => false) 155 := k1
  have k2' : Blk w1 c1 (bv fun _ => false) 155 := k2
  have f2 : Fr [b1] w1 (w1.setCells b1 0 yb.toList) := Fr.setCells (Fr.refl _ _) _ _ _ (Or.inl (by simp))
  have f3 : Fr [c1] (w1.setCells b1 0 yb.toList) ((w1.setCells b1 0 yb.toList).setCells c1 0 yc.toList) := Fr.setCells (Fr.refl _ _) _ _ _ (Or.inl (by simp))
  have f4 : Fr [] V ((w1.setCells b1 0 yb.toList).setCells c1 0 yc.toList) := Fr.setCells (Fr.setCells f1 _ _ _ (Or.inr hb)) _ _ _ (Or.inr hc)
  have k3 : Blk (w1.setCells b1 0 yb.toList) c1 (bv fun _ => false) 155 := k2'.fr f2 (by simp; exact fun q => hne q.symm)
  have HT1 : Hid (w1.there b1 0 yb.size) := Blk.there k1' (Nat.le_of_eq HSB.out.2.2)
  have HT2 : Hid ((w1.setCells b1 0 yb.toList).there c1 0 yc.size) := Blk.there k3 (Nat.le_of_eq HSC.out.2.2)
  have HW : Hid (Blk ((w1.setCells b1 0 yb.toList).setCells c1 0 yc.toList) b1 (bv b) 155 ∧ Blk ((w1.setCells b1 0 yb.toList).setCells c1 0 yc.toList) c1 (bv c) 155 ∧ Blk ((w1.setCells b1 0 yb.toList).setCells c1 0 yc.toList) w.heap.size (bv fun _ => false) 155 ∧ Fr [] w ((w1.setCells b1 0 yb.toList).setCells c1 0 yc.toList)) :=
    ⟨by rw [HYb.out]; exact (Blk.setAll k1' yb HSB.out.2.2).fr f3 (by simp; exact hne), by rw [HYc.out]; exact Blk.setAll k3 yc HSC.out.2.2, HV.out.2.1.fr f4 (by simp), HV.out.2.2.trans f4 (by simp)⟩
  clear k1 k2 k1' k2' k3 f1 f2 f3 f4 hne
  go_wp2_with (first | (refine wpList_store_mid (by rfl) 155 _ _ (by rfl) b1 0 yb (by rfl) (by rfl) HT1.out HSB.out.1 HSB.out.2.1 ?_) | (refine wpList_store_mid (by rfl) 155 _ _ (by rfl) c1 0 yc (by rfl) (by rfl) HT2.out HSC.out.1 HSC.out.2.1 ?_))
  generalize (w1.setCells b1 0 yb.toList).setCells c1 0 yc.toList = W at *
  refine (Where_any 180 #[.pointer (some ⟨b1, 0, none⟩), .pointer (some ⟨c1, 0, none⟩)] (fun i => b i && c i) W HCF.out (fun v w' hv hb => Of3_any b c v b1 c1 w' hv (HW.out.1.fr (Fr.of_below (bs := []) hb) (by simp)) (HW.out.2.1.fr (Fr.of_below (bs := []) hb) (by simp)))).mono ?_
  have hbl := HW.out.2.2.2.below (Nat.le_refl _) (by simp)
  rintro e w9 ⟨rfl, b9⟩
  have HR9 : Hid (Blk w9 w.heap.size (bv fun _ => false) 155 ∧ Below w.heap.size w w9) := ⟨HW.out.2.2.1.fr (Fr.of_below (bs := []) b9) (by simp), hbl.trans (b9.mono hbl.size)⟩
  clear b9
  have HTH := hidV (set_there (d := (fun i => b i && c i)) HR9.out.1)
  have HSZ := hidV (size_bv (fun i => b i && c i))
  have HON := hidV (bv_one (fun i => b i && c i))
  have HYS : Hid ((bv (fun i => b i && c i)).size = (bv fun _ => false).size) := rfl
  obtain ⟨y, HY⟩ : ∃ y, Hid (bv (fun i => b i && c i) = y) := ⟨_, hidV rfl⟩
  rw [HY.out] at HTH HSZ HON HYS ⊢
  go_wp2_with (first | (refine wpList_store_mid (by rfl) 155 _ _ (by rfl) w.heap.size 0 y (by rfl) (by rfl) HTH.out HSZ.out HON.out ?_))
  refine bodyPost_ret (results_cell_row Tryz.results177 _ _ w.heap.size 155 y (0, 0) _ (by rfl) (Blk.setAll HR9.out.1 _ HYS.out) Tryz.underlying155 rfl HSZ.out) rfl ⟨by rw [HY.out], Below.setCells HR9.out.2 _ _ _ (Nat.le_refl _)⟩
set_option maxRecDepth 100000 in
set_option maxHeartbeats 2000000 in
theorem setOf_without {v u : Value} {b c : Nat → Bool} (h : Tree v b) (g : Tree u c) (ih : ∀ w, Calls Tryz.prog 177 #[v] w fun e w' => e = .returned (.agg (bv b)) ∧ Below w.heap.size w w') (ig : ∀ w, Calls Tryz.prog 177 #[u] w fun e w' => e = .returned (.agg (bv c)) ∧ Below w.heap.size w w') (w : World) : Calls Tryz.prog 177 #[.iface 212 (.agg #[v, u])] w fun e w' => e = .returned (.agg (bv (fun i => b i && !c i))) ∧ Below w.heap.size w w' := by
  have hmf : ∀ (fn : Fn) (first cap : Array Value) (w : World), (Instr.makeFunc fn first cap).run Tryz.prog w = .ok (.func fn first cap) w := fun _ _ _ _ => rfl
  have tSet : ∀ (v : Value) (w : World), (Instr.typeAssert (.iface 212 v) 151 155 true).run Tryz.prog w = .ok (.tuple #[.agg #[.bool false, .bool false, .bool false, .bool false, .bool false, .bool false, .bool false], .bool false]) w := fun _ _ => by kernel_rfl
  have tZeros : ∀ (v : Value) (w : World), (Instr.typeAssert (.iface 212 v) 151 217 true).run Tryz.prog w = .ok (.tuple #[.agg #[.int .i64 0, .int .i64 0, .int .i64 0, .int .i64 0, .int .i64 0, .int .i64 0, .int .i64 0, .int .i64 0, .int .i64 0, .int .i64 0, .int .i64 0, .int .i64 0, .int .i64 0, .int .i64 0, .int .i64 0, .int .i64 0, .int .i64 0, .int .i64 0, .int .i64 0, .int .i64 0, .int .i64 0, .int .i64 0, .int .i64 0, .int .i64 0, .int .i64 0, .int .i64 0, .int .i64 0, .int .i64 0, .int .i64 0, .int .i64 0, .int .i64 0, .int .i64 0, .int .i64 0, .int .i64 0, .int .i64 0], .bool false]) w := fun _ _ => by kernel_rfl
  have tNot : ∀ (v : Value) (w : World), (Instr.typeAssert (.iface 212 v) 151 215 true).run Tryz.prog w = .ok (.tuple #[.agg #[.nilIface], .bool false]) w := fun _ _ => by kernel_rfl
  have tBoth : ∀ (v : Value) (w : World), (Instr.typeAssert (.iface 212 v) 151 211 true).run Tryz.prog w = .ok (.tuple #[.agg #[.nilIface, .nilIface], .bool false]) w := fun _ _ => by kernel_rfl
  have tWithout : ∀ (v : Value) (w : World), (Instr.typeAssert (.iface 212 v) 151 212 true).run Tryz.prog w = .ok (.tuple #[v, .bool true]) w := fun _ _ => by kernel_rfl
  obtain ⟨T, x, hvx⟩ := h.form
  subst hvx
  obtain ⟨T2, x2, hux⟩ := g.form
  subst hux
  obtain ⟨yb, HYb⟩ : ∃ y, Hid (bv b = y) := ⟨_, hidV rfl⟩
  obtain ⟨yc, HYc⟩ : ∃ y, Hid (bv c = y) := ⟨_, hidV rfl⟩
  have HIH : Hid (∀ w, Calls Tryz.prog 177 #[.iface T x] w fun e w' => e = .returned (.agg yb) ∧ Below w.heap.size w w') := by rw [HYb.out] at ih; exact ih
  have HIG : Hid (∀ w, Calls Tryz.prog 177 #[.iface T2 x2] w fun e w' => e = .returned (.agg yc) ∧ Below w.heap.size w w') := by rw [HYc.out] at ig; exact ig
  clear ih ig h g
  have HCF : Hid (∀ (args : Array Value) (w : World), (callFunc 181 args).run Tryz.prog w = .ok (.enter 181 args) w) := fun _ _ => by kernel_rfl
  have HSB : Hid ((Tryz.prog.info? 155).map (·.size) = some yb.size ∧ yb.all (·.oneCell') = true ∧ yb.size = (bv fun _ => false).size) := by rw [← HYb.out]; exact ⟨size_bv b, bv_one b, rfl⟩
  have HSC : Hid ((Tryz.prog.info? 155).map (·.size) = some yc.size ∧ yc.all (·.oneCell') = true ∧ yc.size = (bv fun _ => false).size) := by rw [← HYc.out]; exact ⟨size_bv c, bv_one c, rfl⟩
  go_enter Tryz.func177, Tryz.ntmps177
  go_wp2_with fail
  refine wp_forget (fun V => Blk V (w.heap.size + 1) #[.iface T x, .iface T2 x2] 212 ∧ Blk V w.heap.size (bv fun _ => false) 155 ∧ Fr [] w V) ⟨Blk.newAt _ _ _ (by simp), Blk.alloc (Blk.new w _ _) _, ((Fr.refl [] w).alloc _).alloc _⟩ ?_
  rintro V gV
  have HV := hidV gV
  clear gV
  refine region_two_blocks #[.bool false, .bool false, .bool false, .bool false, .bool false, .bool false, .bool false] 155 6 { dst := some 11, op := .alloc 155, type := 0, pos := "tree.go:57", after := #[], guard := none } { dst := some 12, op := .alloc 155, type := 0, pos := "tree.go:57", after := #[], guard := none } (by kernel_rfl) (by kernel_rfl) (by rfl) (by rfl) (by rfl) (by rfl) (fun a w => by go_simp) (fun a w => by go_simp) ?_
  simp only [List.take_succ_cons, List.take_zero, List.drop_succ_cons, List.drop_zero]
  refine walkG_val (by rfl) (.pointer (some ⟨w.heap.size + 1, 0, none⟩)) (fun w _ => by go_simp) ?_
  go_frame
  refine walkG_val (by rfl) (.iface T x) (fun w' hw' => by have k : w'.cell? ⟨w.heap.size + 1, 0, none⟩ = some (.iface T x) := (HV.out.1.fr hw' (by simp)).cell 0
                                                           go_simp) ?_
  go_frame
  refine walkG_calls (by rfl) 177 #[.iface T x] (.agg yb) (fun w => by go_simp) (fun w' _ => (HIH.out w').mono (fun e w'' h => ⟨h.1, Fr.of_below h.2⟩)) ?_
  go_frame
  refine walkG_val (by rfl) (.pointer (some ⟨w.heap.size + 1, 1, none⟩)) (fun w _ => by go_simp) ?_
  go_frame
  refine walkG_val (by rfl) (.iface T2 x2) (fun w' hw' => by have k : w'.cell? ⟨w.heap.size + 1, 1, none⟩ = some (.iface T2 x2) := (HV.out.1.fr hw' (by simp)).cell 1
                                                             go_simp) ?_
  go_frame
  refine walkG_calls (by rfl) 177 #[.iface T2 x2] (.agg yc) (fun w => by go_simp) (fun w' _ => (HIG.out w').mono (fun e w'' h => ⟨h.1, Fr.of_below h.2⟩)) ?_
  go_frame
  refine walkG_nil ?_
  intro b1 c1 w1 hE
  obtain ⟨hb, hc, hne, k1, k2, f1⟩ := hE
  have k1' : Blk w1 b1 (bv fun _ => false) 155 := k1
  have k2' : Blk w1 c1 (bv fun _ => false) 155 := k2
  have f2 : Fr [b1] w1 (w1.setCells b1 0 yb.toList) := Fr.setCells (Fr.refl _ _) _ _ _ (Or.inl (by simp))
  have f3 : Fr [c1] (w1.setCells b1 0 yb.toList) ((w1.setCells b1 0 yb.toList).setCells c1 0 yc.toList) := Fr.setCells (Fr.refl _ _) _ _ _ (Or.inl (by simp))
  have f4 : Fr [] V ((w1.setCells b1 0 yb.toList).setCells c1 0 yc.toList) := Fr.setCells (Fr.setCells f1 _ _ _ (Or.inr hb)) _ _ _ (Or.inr hc)
  have k3 : Blk (w1.setCells b1 0 yb.toList) c1 (bv fun _ => false) 155 := k2'.fr f2 (by simp; exact fun q => hne q.symm)
  have HT1 : Hid (w1.there b1 0 yb.size) := Blk.there k1' (Nat.le_of_eq HSB.out.2.2)
  have HT2 : Hid ((w1.setCells b1 0 yb.toList).there c1 0 yc.size) := Blk.there k3 (Nat.le_of_eq HSC.out.2.2)
  have HW : Hid (Blk ((w1.setCells b1 0 yb.toList).setCells c1 0 yc.toList) b1 (bv b) 155 ∧ Blk ((w1.setCells b1 0 yb.toList).setCells c1 0 yc.toList) c1 (bv c) 155 ∧ Blk ((w1.setCells b1 0 yb.toList).setCells c1 0 yc.toList) w.heap.size (bv fun _ => false) 155 ∧ Fr [] w ((w1.setCells b1 0 yb.toList).setCells c1 0 yc.toList)) :=
    ⟨by rw [HYb.out]; exact (Blk.setAll k1' yb HSB.out.2.2).fr f3 (by simp; exact hne), by rw [HYc.out]; exact Blk.setAll k3 yc HSC.out.2.2, HV.out.2.1.fr f4 (by simp), HV.out.2.2.trans f4 (by simp)⟩
  clear k1 k2 k1' k2' k3 f1 f2 f3 f4 hne
  go_wp2_with (first | (refine wpList_store_mid (by rfl) 155 _ _ (by rfl) b1 0 yb (by rfl) (by rfl) HT1.out HSB.out.1 HSB.out.2.1 ?_) | (refine wpList_store_mid (by rfl) 155 _ _ (by rfl) c1 0 yc (by rfl) (by rfl) HT2.out HSC.out.1 HSC.out.2.1 ?_))
  generalize (w1.setCells b1 0 yb.toList).setCells c1 0 yc.toList = W at *
  refine (Where_any 181 #[.pointer (some ⟨b1, 0, none⟩), .pointer (some ⟨c1, 0, none⟩)] (fun i => b i && !c i) W HCF.out (fun v w' hv hb => Of4_any b c v b1 c1 w' hv (HW.out.1.fr (Fr.of_below (bs := []) hb) (by simp)) (HW.out.2.1.fr (Fr.of_below (bs := []) hb) (by simp)))).mono ?_
  have hbl := HW.out.2.2.2.below (Nat.le_refl _) (by simp)
  rintro e w9 ⟨rfl, b9⟩
  have HR9 : Hid (Blk w9 w.heap.size (bv fun _ => false) 155 ∧ Below w.heap.size w w9) := ⟨HW.out.2.2.1.fr (Fr.of_below (bs := []) b9) (by simp), hbl.trans (b9.mono hbl.size)⟩
  clear b9
  have HTH := hidV (set_there (d := (fun i => b i && !c i)) HR9.out.1)
  have HSZ := hidV (size_bv (fun i => b i && !c i))
  have HON := hidV (bv_one (fun i => b i && !c i))
  have HYS : Hid ((bv (fun i => b i && !c i)).size = (bv fun _ => false).size) := rfl
  obtain ⟨y, HY⟩ : ∃ y, Hid (bv (fun i => b i && !c i) = y) := ⟨_, hidV rfl⟩
  rw [HY.out] at HTH HSZ HON HYS ⊢
  go_wp2_with (first | (refine wpList_store_mid (by rfl) 155 _ _ (by rfl) w.heap.size 0 y (by rfl) (by rfl) HTH.out HSZ.out HON.out ?_))
  refine bodyPost_ret (results_cell_row Tryz.results177 _ _ w.heap.size 155 y (0, 0) _ (by rfl) (Blk.setAll HR9.out.1 _ HYS.out) Tryz.underlying155 rfl HSZ.out) rfl ⟨by rw [HY.out], Below.setCells HR9.out.2 _ _ _ (Nat.le_refl _)⟩
set_option maxRecDepth 100000 in
set_option maxHeartbeats 2000000 in
theorem setOf_either {v u : Value} {b c : Nat → Bool} (h : Tree v b) (g : Tree u c) (ih : ∀ w, Calls Tryz.prog 177 #[v] w fun e w' => e = .returned (.agg (bv b)) ∧ Below w.heap.size w w') (ig : ∀ w, Calls Tryz.prog 177 #[u] w fun e w' => e = .returned (.agg (bv c)) ∧ Below w.heap.size w w') (w : World) : Calls Tryz.prog 177 #[.iface 191 (.agg #[v, u])] w fun e w' => e = .returned (.agg (bv (fun i => b i || c i))) ∧ Below w.heap.size w w' := by
  have hmf : ∀ (fn : Fn) (first cap : Array Value) (w : World), (Instr.makeFunc fn first cap).run Tryz.prog w = .ok (.func fn first cap) w := fun _ _ _ _ => rfl
  have tSet : ∀ (v : Value) (w : World), (Instr.typeAssert (.iface 191 v) 151 155 true).run Tryz.prog w = .ok (.tuple #[.agg #[.bool false, .bool false, .bool false, .bool false, .bool false, .bool false, .bool false], .bool false]) w := fun _ _ => by kernel_rfl
  have tZeros : ∀ (v : Value) (w : World), (Instr.typeAssert (.iface 191 v) 151 217 true).run Tryz.prog w = .ok (.tuple #[.agg #[.int .i64 0, .int .i64 0, .int .i64 0, .int .i64 0, .int .i64 0, .int .i64 0, .int .i64 0, .int .i64 0, .int .i64 0, .int .i64 0, .int .i64 0, .int .i64 0, .int .i64 0, .int .i64 0, .int .i64 0, .int .i64 0, .int .i64 0, .int .i64 0, .int .i64 0, .int .i64 0, .int .i64 0, .int .i64 0, .int .i64 0, .int .i64 0, .int .i64 0, .int .i64 0, .int .i64 0, .int .i64 0, .int .i64 0, .int .i64 0, .int .i64 0, .int .i64 0, .int .i64 0, .int .i64 0, .int .i64 0], .bool false]) w := fun _ _ => by kernel_rfl
  have tNot : ∀ (v : Value) (w : World), (Instr.typeAssert (.iface 191 v) 151 215 true).run Tryz.prog w = .ok (.tuple #[.agg #[.nilIface], .bool false]) w := fun _ _ => by kernel_rfl
  have tBoth : ∀ (v : Value) (w : World), (Instr.typeAssert (.iface 191 v) 151 211 true).run Tryz.prog w = .ok (.tuple #[.agg #[.nilIface, .nilIface], .bool false]) w := fun _ _ => by kernel_rfl
  have tWithout : ∀ (v : Value) (w : World), (Instr.typeAssert (.iface 191 v) 151 212 true).run Tryz.prog w = .ok (.tuple #[.agg #[.nilIface, .nilIface], .bool false]) w := fun _ _ => by kernel_rfl
  have tEither : ∀ (v : Value) (w : World), (Instr.typeAssert (.iface 191 v) 151 191 true).run Tryz.prog w = .ok (.tuple #[v, .bool true]) w := fun _ _ => by kernel_rfl
  obtain ⟨T, x, hvx⟩ := h.form
  subst hvx
  obtain ⟨T2, x2, hux⟩ := g.form
  subst hux
  obtain ⟨yb, HYb⟩ : ∃ y, Hid (bv b = y) := ⟨_, hidV rfl⟩
  obtain ⟨yc, HYc⟩ : ∃ y, Hid (bv c = y) := ⟨_, hidV rfl⟩
  have HIH : Hid (∀ w, Calls Tryz.prog 177 #[.iface T x] w fun e w' => e = .returned (.agg yb) ∧ Below w.heap.size w w') := by rw [HYb.out] at ih; exact ih
  have HIG : Hid (∀ w, Calls Tryz.prog 177 #[.iface T2 x2] w fun e w' => e = .returned (.agg yc) ∧ Below w.heap.size w w') := by rw [HYc.out] at ig; exact ig
  clear ih ig h g
  have HCF : Hid (∀ (args : Array Value) (w : World), (callFunc 182 args).run Tryz.prog w = .ok (.enter 182 args) w) := fun _ _ => by kernel_rfl
  have HSB : Hid ((Tryz.prog.info? 155).map (·.size) = some yb.size ∧ yb.all (·.oneCell') = true ∧ yb.size = (bv fun _ => false).size) := by rw [← HYb.out]; exact ⟨size_bv b, bv_one b, rfl⟩
  have HSC : Hid ((Tryz.prog.info? 155).map (·.size) = some yc.size ∧ yc.all (·.oneCell') = true ∧ yc.size = (bv fun _ => false).size) := by rw [← HYc.out]; exact ⟨size_bv c, bv_one c, rfl⟩
  go_enter Tryz.func177, Tryz.ntmps177
  go_wp2_with fail
  refine wp_forget (fun V => Blk V (w.heap.size + 1) #[.iface T x, .iface T2 x2] 191 ∧ Blk V w.heap.size (bv fun _ => false) 155 ∧ Fr [] w V) ⟨Blk.newAt _ _ _ (by simp), Blk.alloc (Blk.new w _ _) _, ((Fr.refl [] w).alloc _).alloc _⟩ ?_
  rintro V gV
  have HV := hidV gV
  clear gV
  refine region_two_blocks #[.bool false, .bool false, .bool false, .bool false, .bool false, .bool false, .bool false] 155 6 { dst := some 14, op := .alloc 155, type := 0, pos := "tree.go:60", after := #[], guard := none } { dst := some 15, op := .alloc 155, type := 0, pos := "tree.go:60", after := #[], guard := none } (by kernel_rfl) (by kernel_rfl) (by rfl) (by rfl) (by rfl) (by rfl) (fun a w => by go_simp) (fun a w => by go_simp) ?_
  simp only [List.take_succ_cons, List.take_zero, List.drop_succ_cons, List.drop_zero]
  refine walkG_val (by rfl) (.pointer (some ⟨w.heap.size + 1, 0, none⟩)) (fun w _ => by go_simp) ?_
  go_frame
  refine walkG_val (by rfl) (.iface T x) (fun w' hw' => by have k : w'.cell? ⟨w.heap.size + 1, 0, none⟩ = some (.iface T x) := (HV.out.1.fr hw' (by simp)).cell 0
                                                           go_simp) ?_
  go_frame
  refine walkG_calls (by rfl) 177 #[.iface T x] (.agg yb) (fun w => by go_simp) (fun w' _ => (HIH.out w').mono (fun e w'' h => ⟨h.1, Fr.of_below h.2⟩)) ?_
  go_frame
  refine walkG_val (by rfl) (.pointer (some ⟨w.heap.size + 1, 1, none⟩)) (fun w _ => by go_simp) ?_
  go_frame
  refine walkG_val (by rfl) (.iface T2 x2) (fun w' hw' => by have k : w'.cell? ⟨w.heap.size + 1, 1, none⟩ = some (.iface T2 x2) := (HV.out.1.fr hw' (by simp)).cell 1
                                                             go_simp) ?_
  go_frame
  refine walkG_calls (by rfl) 177 #[.iface T2 x2] (.agg yc) (fun w => by go_simp) (fun w' _ => (HIG.out w').mono (fun e w'' h => ⟨h.1, Fr.of_below h.2⟩)) ?_
  go_frame
  refine walkG_nil ?_
  intro b1 c1 w1 hE
  obtain ⟨hb, hc, hne, k1, k2, f1⟩ := hE
  have k1' : Blk w1 b1 (bv fun _ => false) 155 := k1
  have k2' : Blk w1 c1 (bv fun _ => false) 155 := k2
  have f2 : Fr [b1] w1 (w1.setCells b1 0 yb.toList) := Fr.setCells (Fr.refl _ _) _ _ _ (Or.inl (by simp))
  have f3 : Fr [c1] (w1.setCells b1 0 yb.toList) ((w1.setCells b1 0 yb.toList).setCells c1 0 yc.toList) := Fr.setCells (Fr.refl _ _) _ _ _ (Or.inl (by simp))
  have f4 : Fr [] V ((w1.setCells b1 0 yb.toList).setCells c1 0 yc.toList) := Fr.setCells (Fr.setCells f1 _ _ _ (Or.inr hb)) _ _ _ (Or.inr hc)
  have k3 : Blk (w1.setCells b1 0 yb.toList) c1 (bv fun _ => false) 155 := k2'.fr f2 (by simp; exact fun q => hne q.symm)
  have HT1 : Hid (w1.there b1 0 yb.size) := Blk.there k1' (Nat.le_of_eq HSB.out.2.2)
  have HT2 : Hid ((w1.setCells b1 0 yb.toList).there c1 0 yc.size) := Blk.there k3 (Nat.le_of_eq HSC.out.2.2)
  have HW : Hid (Blk ((w1.setCells b1 0 yb.toList).setCells c1 0 yc.toList) b1 (bv b) 155 ∧ Blk ((w1.setCells b1 0 yb.toList).setCells c1 0 yc.toList) c1 (bv c) 155 ∧ Blk ((w1.setCells b1 0 yb.toList).setCells c1 0 yc.toList) w.heap.size (bv fun _ => false) 155 ∧ Fr [] w ((w1.setCells b1 0 yb.toList).setCells c1 0 yc.toList)) :=
    ⟨by rw [HYb.out]; exact (Blk.setAll k1' yb HSB.out.2.2).fr f3 (by simp; exact hne), by rw [HYc.out]; exact Blk.setAll k3 yc HSC.out.2.2, HV.out.2.1.fr f4 (by simp), HV.out.2.2.trans f4 (by simp)⟩
  clear k1 k2 k1' k2' k3 f1 f2 f3 f4 hne
  go_wp2_with (first | (refine wpList_store_mid (by rfl) 155 _ _ (by rfl) b1 0 yb (by rfl) (by rfl) HT1.out HSB.out.1 HSB.out.2.1 ?_) | (refine wpList_store_mid (by rfl) 155 _ _ (by rfl) c1 0 yc (by rfl) (by rfl) HT2.out HSC.out.1 HSC.out.2.1 ?_))
  generalize (w1.setCells b1 0 yb.toList).setCells c1 0 yc.toList = W at *
  refine (Where_any 182 #[.pointer (some ⟨b1, 0, none⟩), .pointer (some ⟨c1, 0, none⟩)] (fun i => b i || c i) W HCF.out (fun v w' hv hb => Of5_any b c v b1 c1 w' hv (HW.out.1.fr (Fr.of_below (bs := []) hb) (by simp)) (HW.out.2.1.fr (Fr.of_below (bs := []) hb) (by simp)))).mono ?_
  have hbl := HW.out.2.2.2.below (Nat.le_refl _) (by simp)
  rintro e w9 ⟨rfl, b9⟩
  have HR9 : Hid (Blk w9 w.heap.size (bv fun _ => false) 155 ∧ Below w.heap.size w w9) := ⟨HW.out.2.2.1.fr (Fr.of_below (bs := []) b9) (by simp), hbl.trans (b9.mono hbl.size)⟩
  clear b9
  have HTH := hidV (set_there (d := (fun i => b i || c i)) HR9.out.1)
  have HSZ := hidV (size_bv (fun i => b i || c i))
  have HON := hidV (bv_one (fun i => b i || c i))
  have HYS : Hid ((bv (fun i => b i || c i)).size = (bv fun _ => false).size) := rfl
  obtain ⟨y, HY⟩ : ∃ y, Hid (bv (fun i => b i || c i) = y) := ⟨_, hidV rfl⟩
  rw [HY.out] at HTH HSZ HON HYS ⊢
  go_wp2_with (first | (refine wpList_store_mid (by rfl) 155 _ _ (by rfl) w.heap.size 0 y (by rfl) (by rfl) HTH.out HSZ.out HON.out ?_))
  refine bodyPost_ret (results_cell_row Tryz.results177 _ _ w.heap.size 155 y (0, 0) _ (by rfl) (Blk.setAll HR9.out.1 _ HYS.out) Tryz.underlying155 rfl HSZ.out) rfl ⟨by rw [HY.out], Below.setCells HR9.out.2 _ _ _ (Nat.le_refl _)⟩
theorem setOf_any {v : Value} {b : Nat → Bool} (h : Tree v b) : ∀ w, Calls Tryz.prog 177 #[v] w fun e w' => e = .returned (.agg (bv b)) ∧ Below w.heap.size w w' := by
  induction h with
  | set b => exact setOf_set b
  | zeros p h hx => exact setOf_zeros p h hx
  | not h ih => exact setOf_not h ih
  | both h g ih ig => exact setOf_both h g ih ig
  | without h g ih ig => exact setOf_without h g ih ig
  | either h g ih ig => exact setOf_either h g ih ig
end Go.Proofs.YthlmgpllapccfaaGreatDoor
/- THE PROGRAM's COMMANDS OF SETS. -/
namespace Go.Proofs.YthlmgpllapccfaaGreatDoor
open Go.RowKit

theorem wpQuiet_valC {P : Program} {ops : Array Oper} {C : World → Prop} {Q : Act → Prop} {a : Act} {o : Oper} {rest : List Oper} (hgd : o.guard = none) (v : Value) (hr : ∀ w, C w → (execOp a.eval o).run P w = .ok (.value v) w)
    (h : wpQuiet P ops C Q rest (a.put o.dst v)) : wpQuiet P ops C Q (o :: rest) a :=
  BigFrame.wpQuiet_want (by unfold Region.wanted; rw [hgd]) (fun K hK => ⟨v, fun w hw => by
    unfold Oper.quietAt
    rw [hr w hw]
    exact ⟨rfl, rfl⟩, hK _ h⟩)
theorem yesOrNo_any (y : Bool) (w : World) : Calls Tryz.prog 185 #[.bool y] w fun e w' => e = .returned (.string (bs (yesno y))) ∧ w' = w := by
  cases y <;> (go_enter Tryz.func185, Tryz.ntmps185) <;> go_wp2 <;> go_ret <;> exact ⟨rfl, rfl⟩
set_option maxRecDepth 100000 in
set_option maxHeartbeats 1000000 in
theorem TellDo_set (c : Nat → Bool) (M : Value) (w : World) :
    Calls Tryz.prog 136 #[.agg #[.iface 155 (.agg (bv c))], M] w fun e w' => e = .returned (.string (bs (lsd c 7))) ∧ Below w.heap.size w w' := by
  have HTX := hidV (fun (w' : World) => SetText_any c w')
  go_enter Tryz.func136, Tryz.ntmps136
  go_wp2_with fail
  refine (HTX.out _).mono ?_
  rintro e w1 ⟨rfl, hb1⟩
  go_wp2
  go_ret
  exact ⟨rfl, below_alloc hb1⟩
set_option maxRecDepth 100000 in
set_option maxHeartbeats 1000000 in
theorem SetHas_any (c : Nat → Bool) (n : Nat) (w : World) :
    Calls Tryz.prog 186 #[.agg (bv c), .int .i64 n] w fun e w' => e = .returned (.bool (c (n % 7))) ∧ Below w.heap.size w w' := by
  have hm : n % 7 < 7 := by omega
  have HB : Hid (Blk (w.alloc (.cells (bv c) 155)) w.heap.size (bv c) 155 ∧ Below w.heap.size w (w.alloc (.cells (bv c) 155))) := ⟨Blk.new w _ _, by go_grown⟩
  have HMD : Hid (∀ w', Calls Tryz.prog 48 #[.int .i64 n] w' fun e w'' => e = .returned (.int .i64 ((n % 7 : Nat) : Int)) ∧ w'' = w') := fun w' => by
    have h := Mod_any n w'
    rw [show ((n : Int) % 7) = ((n % 7 : Nat) : Int) by omega] at h
    exact h
  generalize n % 7 = m at *
  go_enter Tryz.func186, Tryz.ntmps186
  go_wp2_with fail
  generalize w.alloc (.cells (bv c) 155) = V at *
  refine (HMD.out _).mono ?_
  rintro e w1 ⟨rfl, rfl⟩
  have k0 : (0 : Int) ≤ (m : Int) := by omega
  have k1 : (m : Int) < 7 := by omega
  have cc : w1.cell? ⟨w.heap.size, m, none⟩ = some (.bool (c m)) := by rw [HB.out.1.cell]; exact bv_get c hm
  go_wp2
  go_ret
  exact ⟨rfl, HB.out.2⟩
theorem sets_eq (a b : Nat → Bool) (w : World) : (Op.equalIn 10000 155 (.agg (bv a)) (.agg (bv b))).run Tryz.prog w = .ok ((List.range 7).all fun j => a j == b j) w := by
  obtain ⟨i, hi⟩ := info_some (P := Tryz.prog) (t := 4) (by kernel_rfl)
  have hc : Tryz.prog.cellsOf 4 = 1 := by kernel_rfl
  have hk : Tryz.prog.plainKey 4 = true := by kernel_rfl
  refine (run_equalIn_array w 9999 (bv a) (bv b) Tryz.underlying155 hi).trans ?_
  rw [hc]
  refine eqItems_all w 9999 4 1 (bv a) (bv b) _ _ ?_
  intro j hj
  rw [List.mem_range] at hj
  refine ⟨_, _, run_part_plain w hk (by rw [Nat.mul_one]; exact bv_get a hj), run_part_plain w hk (by rw [Nat.mul_one]; exact bv_get b hj), ?_⟩
  exact run_equalIn_bool w 9998 4 _ _ Tryz.underlying4
theorem within_eq (c d : Nat → Bool) : ((List.range 7).all fun j => (c j && d j) == c j) = withB c d := by
  unfold withB
  congr 1
  funext j
  cases c j <;> cases d j <;> rfl
set_option maxRecDepth 100000 in
set_option maxHeartbeats 1000000 in
theorem Within_any (c d : Nat → Bool) (w : World) :
    Calls Tryz.prog 188 #[.agg (bv c), .agg (bv d)] w fun e w' => e = .returned (.bool (withB c d)) ∧ Below w.heap.size w w' := by
  have HOF := hidV (fun w' => setOf_any (Tree.both (Tree.set c) (Tree.set d)) w')
  have HEQ := hidV (fun w' => sets_eq (fun i => c i && d i) c w')
  rw [within_eq] at HEQ
  have HSC := hidV (size_bv c)
  have HSD := hidV (size_bv d)
  have HV0 : Hid (Blk ((w.alloc (.cells (bv c) 155)).alloc (.cells (bv d) 155)) w.heap.size (bv c) 155 ∧ Blk ((w.alloc (.cells (bv c) 155)).alloc (.cells (bv d) 155)) (w.heap.size + 1) (bv d) 155 ∧ Fr [] w ((w.alloc (.cells (bv c) 155)).alloc (.cells (bv d) 155))) := ⟨Blk.alloc (Blk.new w _ _) _, Blk.newAt _ _ _ (by simp), ((Fr.refl [] w).alloc _).alloc _⟩
  obtain ⟨X, HX⟩ : ∃ X, Hid (bv (fun i => c i && d i) = X) := ⟨_, hidV rfl⟩
  rw [HX.out] at HOF HEQ
  generalize bv c = y at *
  generalize bv d = z at *
  generalize withB c d = R at *
  go_enter Tryz.func188, Tryz.ntmps188
  go_wp2_with fail
  generalize (w.alloc (.cells y 155)).alloc (.cells z 155) = V at *
  refine region_class_tail (fun w' => Fr [] V w') ((Fr.refl [] V).drew) 9 (by kernel_rfl) (by kernel_rfl) ?_
  simp only [List.take_succ_cons, List.take_zero, List.drop_succ_cons, List.drop_zero]
  refine wpQuiet_ld (by rfl) 155 _ (by rfl) w.heap.size (by rfl) y _ (fun w' hw' => HV0.out.1.fr hw' (by simp)) Tryz.underlying155 rfl HSC.out ?_
  go_frame
  refine wpQuiet_val (by rfl) (.iface 155 (.agg y)) (fun w' => by go_simp) ?_
  go_frame
  refine wpQuiet_ld (by rfl) 155 _ (by rfl) (w.heap.size + 1) (by rfl) z _ (fun w' hw' => HV0.out.2.1.fr hw' (by simp)) Tryz.underlying155 rfl HSD.out ?_
  go_frame
  refine wpQuiet_val (by rfl) (.iface 155 (.agg z)) (fun w' => by go_simp) ?_
  go_frame
  refine wpQuiet_val (by rfl) (.agg #[.iface 155 (.agg y), .iface 155 (.agg z)]) (fun w' => by go_simp) ?_
  go_frame
  refine wpQuiet_val (by rfl) (.iface 211 (.agg #[.iface 155 (.agg y), .iface 155 (.agg z)])) (fun w' => by go_simp) ?_
  go_frame
  refine wpQuiet_calls (by rfl) 177 #[.iface 211 (.agg #[.iface 155 (.agg y), .iface 155 (.agg z)])] (.agg X) (fun w' => by go_simp) (fun w' hw' => (HOF.out w').mono (fun e w'' h => ⟨h.1, hw'.trans (Fr.of_below (bs := []) h.2) (by simp)⟩)) ?_
  go_frame
  refine wpQuiet_ld (by rfl) 155 _ (by rfl) w.heap.size (by rfl) y _ (fun w' hw' => HV0.out.1.fr hw' (by simp)) Tryz.underlying155 rfl HSC.out ?_
  go_frame
  refine wpQuiet_val (by rfl) (.bool R) (fun w' => by have he := HEQ.out w'
                                                      go_simp) ?_
  go_frame
  refine wpQuiet_nil ?_
  intro w5 hw5
  have HF : Hid (Fr [] w w5) := HV0.out.2.2.trans hw5 (by simp)
  clear hw5
  go_wp2
  go_ret
  exact ⟨rfl, HF.out.below (Nat.le_refl _) (by simp)⟩
set_option maxRecDepth 100000 in
set_option maxHeartbeats 1000000 in
theorem HasDo_any (c : Nat → Bool) (n : Nat) (M : Value) (w : World) :
    Calls Tryz.prog 184 #[.agg #[.bool (c 0), .bool (c 1), .bool (c 2), .bool (c 3), .bool (c 4), .bool (c 5), .bool (c 6), .int .i64 n], M] w fun e w' => e = .returned (.string (bs (yesno (c (n % 7))))) ∧ Below w.heap.size w w' := by
  have HSH := hidV (fun w' => SetHas_any c n w')
  rw [bv_lit c] at HSH
  go_enter Tryz.func184, Tryz.ntmps184
  go_wp2_with fail
  refine (HSH.out _).mono ?_
  rintro e w1 ⟨rfl, hb1⟩
  have HB1 := hidV hb1
  clear hb1
  go_wp2_with fail
  refine (yesOrNo_any _ _).mono ?_
  rintro e w2 ⟨rfl, rfl⟩
  go_wp2
  go_ret
  exact ⟨rfl, below_alloc HB1.out⟩
set_option maxRecDepth 100000 in
set_option maxHeartbeats 1000000 in
theorem WithinDo_any (c d : Nat → Bool) (M : Value) (w : World) :
    Calls Tryz.prog 187 #[.agg #[.bool (c 0), .bool (c 1), .bool (c 2), .bool (c 3), .bool (c 4), .bool (c 5), .bool (c 6), .bool (d 0), .bool (d 1), .bool (d 2), .bool (d 3), .bool (d 4), .bool (d 5), .bool (d 6)], M] w fun e w' => e = .returned (.string (bs (yesno (withB c d)))) ∧ Below w.heap.size w w' := by
  have HSH := hidV (fun w' => Within_any c d w')
  rw [bv_lit c, bv_lit d] at HSH
  go_enter Tryz.func187, Tryz.ntmps187
  go_wp2_with fail
  refine (HSH.out _).mono ?_
  rintro e w1 ⟨rfl, hb1⟩
  have HB1 := hidV hb1
  clear hb1
  go_wp2_with fail
  refine (yesOrNo_any _ _).mono ?_
  rintro e w2 ⟨rfl, rfl⟩
  go_wp2
  go_ret
  exact ⟨rfl, below_alloc HB1.out⟩
set_option maxRecDepth 100000 in
set_option maxHeartbeats 1000000 in
theorem CollectDo_any (bm n : Nat) (Ms : List Nat) (st : Nat → Mng) (b : Nat → Bool) (tr : Value) (C : Int) (w : World) (hn : n < 26) (hC : C = ((n + 65 : Nat) : Int)) (hm : Nm w Ms bm st) (htr : Tree tr b) :
    Calls Tryz.prog 176 #[.agg #[.int .u8 C, tr], .map (some bm)] w fun e w' => e = .returned (.string ⟨#[]⟩) ∧ Nm w' Ms bm (upd st n (.set b)) ∧ Fr [bm] w w' := by
  have HOF := hidV (setOf_any htr)
  obtain ⟨T, x, hx⟩ := htr.form
  subst hx
  have HM := hidV hm
  have HG := hidV (fun w' h => GiveDo_any bm n Ms st (.set b) 155 (.agg (bv b)) C w' hn hC h rfl)
  clear htr hm
  generalize bv b = y at *
  have HV0 : Hid (Blk (w.alloc (.cells #[.int .u8 C, .iface T x] 154)) w.heap.size #[.int .u8 C, .iface T x] 154 ∧ Fr [] w (w.alloc (.cells #[.int .u8 C, .iface T x] 154))) := ⟨Blk.new w _ _, (Fr.refl [] w).alloc _⟩
  have HCC := hidV hC
  clear hC
  go_enter Tryz.func176, Tryz.ntmps176
  go_wp2_with fail
  generalize w.alloc (.cells #[.int .u8 C, .iface T x] 154) = V at *
  refine region_class_tail (fun w' => Fr [] V w') ((Fr.refl [] V).drew) 8 (by kernel_rfl) (by kernel_rfl) ?_
  simp only [List.take_succ_cons, List.take_zero, List.drop_succ_cons, List.drop_zero]
  refine wpQuiet_val (by rfl) (.pointer (some ⟨w.heap.size, 0, none⟩)) (fun w' => by go_simp) ?_
  go_frame
  refine wpQuiet_valC (by rfl) (.int .u8 C) (fun w' hw' => by have c : w'.cell? ⟨w.heap.size, 0, none⟩ = some (.int .u8 C) := (HV0.out.1.fr hw' (by simp)).cell 0
                                                              go_simp) ?_
  go_frame
  refine wpQuiet_val (by rfl) (.pointer (some ⟨w.heap.size, 1, none⟩)) (fun w' => by go_simp) ?_
  go_frame
  refine wpQuiet_valC (by rfl) (.iface T x) (fun w' hw' => by have c : w'.cell? ⟨w.heap.size, 1, none⟩ = some (.iface T x) := (HV0.out.1.fr hw' (by simp)).cell 1
                                                              go_simp) ?_
  go_frame
  refine wpQuiet_calls (by rfl) 177 #[.iface T x] (.agg y) (fun w' => by go_simp) (fun w' hw' => (HOF.out w').mono (fun e w'' h => ⟨h.1, hw'.trans (Fr.of_below (bs := []) h.2) (by simp)⟩)) ?_
  go_frame
  refine wpQuiet_val (by rfl) (.iface 155 (.agg y)) (fun w' => by go_simp) ?_
  go_frame
  refine wpQuiet_val (by rfl) (.agg #[.int .u8 C, .iface 155 (.agg y)]) (fun w' => by go_simp) ?_
  go_frame
  refine wpQuiet_mv (by rfl) _ (by rfl) ?_
  go_frame
  refine wpQuiet_nil ?_
  intro w5 hw5
  have HF : Hid (Fr [] w w5) := HV0.out.2.trans hw5 (by simp)
  clear hw5
  go_wp2_with fail
  refine (HG.out _ (HM.out.fr HF.out (by simp) (by simp))).mono ?_
  rintro e w6 ⟨rfl, hn6, hf6⟩
  have HI6 : Hid (Nm w6 Ms bm (upd st n (.set b)) ∧ Fr [bm] w w6) := ⟨hn6, (HF.out.mono (by simp)).trans hf6 (by simp)⟩
  clear hn6 hf6
  go_wp2
  go_ret
  exact ⟨rfl, HI6.out.1, HI6.out.2⟩
end Go.Proofs.YthlmgpllapccfaaGreatDoor
/- THE PROGRAM: a session's Do, any line. -/
namespace Go.Proofs.YthlmgpllapccfaaGreatDoor
open Go.RowKit

theorem nilAhead_CHas (fuel : Nat) (v : Value) (w : World) : (nilAhead (fuel + 1) 158 v "Do").run Tryz.prog w = .ok (some false) w := by kernel_rfl
theorem nilAhead_CWithin (fuel : Nat) (v : Value) (w : World) : (nilAhead (fuel + 1) 160 v "Do").run Tryz.prog w = .ok (some false) w := by kernel_rfl
theorem nilAhead_Collect (fuel : Nat) (v : Value) (w : World) : (nilAhead (fuel + 1) 154 v "Do").run Tryz.prog w = .ok (some false) w := by kernel_rfl
theorem stS_ok {f : Nat → Tok} {N : Nat} {st : Nat → Mng} {s : WS} (h : (stS f N st s).e = 0) : s.e = 0 := by
  unfold stS at h
  split at h
  · rename_i q; exact absurd h q
  · rename_i q; omega
set_option maxRecDepth 100000 in
set_option maxHeartbeats 1000000 in
theorem pDo_show (s : ByteArray) (b bm : Nat) (Ms : List Nat) (st : Nat → Mng) (w : World) (hP : Ps w Ms b bm st) (hg : ErrT w) (hl : ¬ 90 < s.size) (hsm : sml s (w0 s) = true) (hw : wd s = [115, 104, 111, 119]) :
    Calls Tryz.prog 16 #[.pointer (some ⟨b, 0, none⟩), .string s] w (DoPost w Ms bm (ans (enS (lf s) (nmS (lf s) (okSt st) ws1)) (lsd (st (nm1 (lf s))).bit 7) st st)) := by
  have hlt := hP.nm.lt
  have HL := hidV (LineRead_short s bm w (lf s) (nmS (lf s) (okSt st) ws1) (fun v _ => ∃ c, st ((lf s 1).c - 69) = .set c ∧ v = .iface 144 (.agg #[.iface 155 (.agg (bv c))])) hg hl (strLf s)
    (fun w' h1 h2 h3 => rline_show s w.heap.size bm (mw w.heap.size Ms) st w' (by omega) h1 (hP.nm.mw.fr h2 (by simp) (by simp)) (by omega) (by simp [mw]) hsm hw)
    (fun v w' h => by obtain ⟨c, _, rfl⟩ := h; exact ⟨_, _, rfl⟩)
    (fun v w1 w2 h _ => h))
  have c0 : w.cell? ⟨b, 0, none⟩ = some (.map (some bm)) := hP.blk.cell 0
  have HN := hidV hP.nm
  have HB := hidV hP.blk
  have HT : Hid (∀ c, st ((lf s 1).c - 69) = .set c → lsd (st (nm1 (lf s))).bit 7 = lsd c 7) := fun c h => by unfold nm1; rw [h]; rfl
  clear hP hg hw
  unfold ans
  obtain ⟨E, HE⟩ : ∃ E, Hid (enS (lf s) (nmS (lf s) (okSt st) ws1) = E) := ⟨_, hidV rfl⟩
  rw [HE.out] at HL ⊢
  by_cases he : E.e = 0
  · rw [if_neg (by omega)]
    obtain ⟨TX, HTX⟩ : ∃ TX, Hid (lsd (st (nm1 (lf s))).bit 7 = TX) := ⟨_, hidV rfl⟩
    rw [HTX.out] at HT ⊢
    have HE0 := hidV he
    clear he
    go_enter Tryz.func16, Tryz.ntmps16
    go_wp2_with fail
    refine HL.out.mono ?_
    rintro x w1 (⟨_, v, rfl, ⟨c, hst, rfl⟩, hf1⟩ | ⟨h, _⟩)
    · have HTT := hidV (HT.out c hst)
      have c1 : w1.cell? ⟨b, 0, none⟩ = some (.map (some bm)) := (HB.out.fr hf1 (by simp)).cell 0
      have HF1 := hidV hf1
      have HC := hidV (fun (nr : Nat) => TellDo_set c (.map (some bm)) (w1.drewN nr))
      clear hf1 hst
      have hna := nilAhead_Tell
      go_wp2
      refine region_quiet_tail 8 (by kernel_rfl) (by kernel_rfl) ?_
      simp only [List.take_succ_cons, List.take_zero, List.drop_succ_cons, List.drop_zero]
      repeat (first | go_big_quiet_step ((fail)) | quiet_step ((fail)))
      refine wpQuiet_nil ?_
      rintro _ ⟨nr, rfl⟩
      go_wp2_with fail
      refine (HC.out nr).mono ?_
      rintro x w2 ⟨rfl, hb2⟩
      have HF2 : Hid (Fr [] w w2) := (HF1.out.drewN nr).trans (Fr.of_below (bs := []) hb2) (by simp)
      clear hb2
      go_wp2
      go_ret3
      refine ⟨by rw [HTT.out]; rfl, HN.out.fr HF2.out (by simp) (by simp), HF2.out.mono (by simp)⟩
    · exact absurd HE0.out h
  · rw [if_pos he]
    refine (pDo_bad s b bm E.e E.bad w HB.out he (HL.out.mono ?_)).mono ?_
    · rintro x w1 (⟨h, _⟩ | ⟨_, rfl, hf⟩)
      · exact absurd h he
      · exact ⟨rfl, hf⟩
    · rintro x w1 ⟨rfl, hf⟩
      exact ⟨rfl, HN.out.fr hf (by simp) (by simp), hf.mono (by simp)⟩

set_option maxRecDepth 100000 in
set_option maxHeartbeats 1000000 in
theorem pDo_has (s : ByteArray) (b bm : Nat) (Ms : List Nat) (st : Nat → Mng) (w : World) (hP : Ps w Ms b bm st) (hg : ErrT w) (hl : ¬ 90 < s.size) (hsm : sml s (w0 s) = true) (hw : wd s = [104, 97, 115]) :
    Calls Tryz.prog 16 #[.pointer (some ⟨b, 0, none⟩), .string s] w (DoPost w Ms bm (ans (enS (lf s) (ctS (lf s) (nmS (lf s) (okSt st) ws1))) (yesno ((st (nm1 (lf s))).bit ((lf s 2).v % 7))) st st)) := by
  have hlt := hP.nm.lt
  have HL := hidV (LineRead_short s bm w (lf s) (ctS (lf s) (nmS (lf s) (okSt st) ws1)) (fun v _ => ∃ c, st ((lf s 1).c - 69) = .set c ∧ v = .iface 158 (.agg #[.bool (c 0), .bool (c 1), .bool (c 2), .bool (c 3), .bool (c 4), .bool (c 5), .bool (c 6), .int .i64 (lf s 2).v])) hg hl (strLf s)
    (fun w' h1 h2 h3 => rline_has s w.heap.size bm (mw w.heap.size Ms) st w' (by omega) h1 (hP.nm.mw.fr h2 (by simp) (by simp)) (by omega) (by simp [mw]) hsm hw)
    (fun v w' h => by obtain ⟨c, _, rfl⟩ := h; exact ⟨_, _, rfl⟩)
    (fun v w1 w2 h _ => h))
  have c0 : w.cell? ⟨b, 0, none⟩ = some (.map (some bm)) := hP.blk.cell 0
  have HN := hidV hP.nm
  have HB := hidV hP.blk
  have HT : Hid (∀ c, st ((lf s 1).c - 69) = .set c → yesno ((st (nm1 (lf s))).bit ((lf s 2).v % 7)) = yesno (c ((lf s 2).v % 7))) := fun c h => by unfold nm1; rw [h]; rfl
  clear hP hg hw
  unfold ans
  obtain ⟨E, HE⟩ : ∃ E, Hid (enS (lf s) (ctS (lf s) (nmS (lf s) (okSt st) ws1)) = E) := ⟨_, hidV rfl⟩
  rw [HE.out] at HL ⊢
  by_cases he : E.e = 0
  · rw [if_neg (by omega)]
    obtain ⟨TX, HTX⟩ : ∃ TX, Hid (yesno ((st (nm1 (lf s))).bit ((lf s 2).v % 7)) = TX) := ⟨_, hidV rfl⟩
    rw [HTX.out] at HT ⊢
    have HE0 := hidV he
    clear he
    go_enter Tryz.func16, Tryz.ntmps16
    go_wp2_with fail
    refine HL.out.mono ?_
    rintro x w1 (⟨_, v, rfl, ⟨c, hst, rfl⟩, hf1⟩ | ⟨h, _⟩)
    · have HTT := hidV (HT.out c hst)
      have c1 : w1.cell? ⟨b, 0, none⟩ = some (.map (some bm)) := (HB.out.fr hf1 (by simp)).cell 0
      have HF1 := hidV hf1
      have HC := hidV (fun (nr : Nat) => HasDo_any c (lf s 2).v (.map (some bm)) (w1.drewN nr))
      clear hf1 hst
      have hna := nilAhead_CHas
      go_wp2
      refine region_quiet_tail 8 (by kernel_rfl) (by kernel_rfl) ?_
      simp only [List.take_succ_cons, List.take_zero, List.drop_succ_cons, List.drop_zero]
      repeat (first | go_big_quiet_step ((fail)) | quiet_step ((fail)))
      refine wpQuiet_nil ?_
      rintro _ ⟨nr, rfl⟩
      go_wp2_with fail
      refine (HC.out nr).mono ?_
      rintro x w2 ⟨rfl, hb2⟩
      have HF2 : Hid (Fr [] w w2) := (HF1.out.drewN nr).trans (Fr.of_below (bs := []) hb2) (by simp)
      clear hb2
      go_wp2
      go_ret3
      refine ⟨by rw [HTT.out]; rfl, HN.out.fr HF2.out (by simp) (by simp), HF2.out.mono (by simp)⟩
    · exact absurd HE0.out h
  · rw [if_pos he]
    refine (pDo_bad s b bm E.e E.bad w HB.out he (HL.out.mono ?_)).mono ?_
    · rintro x w1 (⟨h, _⟩ | ⟨_, rfl, hf⟩)
      · exact absurd h he
      · exact ⟨rfl, hf⟩
    · rintro x w1 ⟨rfl, hf⟩
      exact ⟨rfl, HN.out.fr hf (by simp) (by simp), hf.mono (by simp)⟩

set_option maxRecDepth 100000 in
set_option maxHeartbeats 1000000 in
theorem pDo_sub (s : ByteArray) (b bm : Nat) (Ms : List Nat) (st : Nat → Mng) (w : World) (hP : Ps w Ms b bm st) (hg : ErrT w) (hl : ¬ 90 < s.size) (hsm : sml s (w0 s) = true) (hw : wd s = [115, 117, 98]) :
    Calls Tryz.prog 16 #[.pointer (some ⟨b, 0, none⟩), .string s] w (DoPost w Ms bm (ans (enS (lf s) (nmS (lf s) (okSt st) (nmS (lf s) (okSt st) ws1))) (yesno (withB (st (nm1 (lf s))).bit (st (nm2 (lf s))).bit)) st st)) := by
  have hlt := hP.nm.lt
  have HL := hidV (LineRead_short s bm w (lf s) (nmS (lf s) (okSt st) (nmS (lf s) (okSt st) ws1)) (fun v _ => ∃ c d, st ((lf s 1).c - 69) = .set c ∧ st ((lf s 2).c - 69) = .set d ∧ v = .iface 160 (.agg #[.bool (c 0), .bool (c 1), .bool (c 2), .bool (c 3), .bool (c 4), .bool (c 5), .bool (c 6), .bool (d 0), .bool (d 1), .bool (d 2), .bool (d 3), .bool (d 4), .bool (d 5), .bool (d 6)])) hg hl (strLf s)
    (fun w' h1 h2 h3 => rline_sub s w.heap.size bm (mw w.heap.size Ms) st w' (by omega) h1 (hP.nm.mw.fr h2 (by simp) (by simp)) (by omega) (by simp [mw]) hsm hw)
    (fun v w' h => by obtain ⟨c, d, _, _, rfl⟩ := h; exact ⟨_, _, rfl⟩)
    (fun v w1 w2 h _ => h))
  have c0 : w.cell? ⟨b, 0, none⟩ = some (.map (some bm)) := hP.blk.cell 0
  have HN := hidV hP.nm
  have HB := hidV hP.blk
  have HT : Hid (∀ c d, st ((lf s 1).c - 69) = .set c → st ((lf s 2).c - 69) = .set d → yesno (withB (st (nm1 (lf s))).bit (st (nm2 (lf s))).bit) = yesno (withB c d)) := fun c d h g => by unfold nm1 nm2; rw [h, g]; rfl
  clear hP hg hw
  unfold ans
  obtain ⟨E, HE⟩ : ∃ E, Hid (enS (lf s) (nmS (lf s) (okSt st) (nmS (lf s) (okSt st) ws1)) = E) := ⟨_, hidV rfl⟩
  rw [HE.out] at HL ⊢
  by_cases he : E.e = 0
  · rw [if_neg (by omega)]
    obtain ⟨TX, HTX⟩ : ∃ TX, Hid (yesno (withB (st (nm1 (lf s))).bit (st (nm2 (lf s))).bit) = TX) := ⟨_, hidV rfl⟩
    rw [HTX.out] at HT ⊢
    have HE0 := hidV he
    clear he
    go_enter Tryz.func16, Tryz.ntmps16
    go_wp2_with fail
    refine HL.out.mono ?_
    rintro x w1 (⟨_, v, rfl, ⟨c, d, hst, hst2, rfl⟩, hf1⟩ | ⟨h, _⟩)
    · have HTT := hidV (HT.out c d hst hst2)
      have c1 : w1.cell? ⟨b, 0, none⟩ = some (.map (some bm)) := (HB.out.fr hf1 (by simp)).cell 0
      have HF1 := hidV hf1
      have HC := hidV (fun (nr : Nat) => WithinDo_any c d (.map (some bm)) (w1.drewN nr))
      clear hf1 hst hst2
      have hna := nilAhead_CWithin
      go_wp2
      refine region_quiet_tail 8 (by kernel_rfl) (by kernel_rfl) ?_
      simp only [List.take_succ_cons, List.take_zero, List.drop_succ_cons, List.drop_zero]
      repeat (first | go_big_quiet_step ((fail)) | quiet_step ((fail)))
      refine wpQuiet_nil ?_
      rintro _ ⟨nr, rfl⟩
      go_wp2_with fail
      refine (HC.out nr).mono ?_
      rintro x w2 ⟨rfl, hb2⟩
      have HF2 : Hid (Fr [] w w2) := (HF1.out.drewN nr).trans (Fr.of_below (bs := []) hb2) (by simp)
      clear hb2
      go_wp2
      go_ret3
      refine ⟨by rw [HTT.out]; rfl, HN.out.fr HF2.out (by simp) (by simp), HF2.out.mono (by simp)⟩
    · exact absurd HE0.out h
  · rw [if_pos he]
    refine (pDo_bad s b bm E.e E.bad w HB.out he (HL.out.mono ?_)).mono ?_
    · rintro x w1 (⟨h, _⟩ | ⟨_, rfl, hf⟩)
      · exact absurd h he
      · exact ⟨rfl, hf⟩
    · rintro x w1 ⟨rfl, hf⟩
      exact ⟨rfl, HN.out.fr hf (by simp) (by simp), hf.mono (by simp)⟩

set_option maxRecDepth 100000 in
set_option maxHeartbeats 1000000 in
theorem pDo_set (s : ByteArray) (b bm : Nat) (Ms : List Nat) (st : Nat → Mng) (w : World) (hP : Ps w Ms b bm st) (hg : ErrT w) (hl : ¬ 90 < s.size) (hsm : sml s (w0 s) = true) (hw : wd s = [115, 101, 116]) :
    Calls Tryz.prog 16 #[.pointer (some ⟨b, 0, none⟩), .string s] w (DoPost w Ms bm (ans (setS st (lf s) s.size) [] (upd st (nm1 (lf s)) (.set (stR (lf s) s.size st 6 3).b)) st)) := by
  have hlt := hP.nm.lt
  have HL := hidV (LineRead_short s bm w (lf s) (stS (lf s) s.size st (wtS (lf s) 65 (nmS (lf s) (ok0 st) ws1))) (fun v _ => ∃ tr, v = .iface 154 (.agg #[.int .u8 ((lf s 1).c - 4 : Nat), tr]) ∧ Tree tr (stR (lf s) s.size st 6 3).b) hg hl (strLf s)
    (fun w' h1 h2 h3 => rline_set s w.heap.size bm (mw w.heap.size Ms) st w' (by omega) h1 (hP.nm.mw.fr h2 (by simp) (by simp)) (by omega) (by simp [mw]) hsm hw)
    (fun v w' h => by obtain ⟨tr, rfl, _⟩ := h; exact ⟨_, _, rfl⟩)
    (fun v w1 w2 h _ => h))
  have c0 : w.cell? ⟨b, 0, none⟩ = some (.map (some bm)) := hP.blk.cell 0
  have HN := hidV hP.nm
  have HB := hidV hP.blk
  have HMW := hidV hP.nm.mw
  have HNM : Hid ((setS st (lf s) s.size).e = 0 → (lf s 1).c - 69 < 26 ∧ (((lf s 1).c - 4 : Nat) : Int) = (((lf s 1).c - 69 + 65 : Nat) : Int)) := fun h => by
    obtain ⟨_, h6, _⟩ := nmS_ok (wtS_ok (stS_ok (enS_ok h))).1
    have h7 := (isN_iff _).1 h6
    have e1 : (ws1 : WS).k = 1 := rfl
    rw [e1] at h7
    omega
  clear hP hg hw
  unfold ans
  unfold nm1
  obtain ⟨E, HE⟩ : ∃ E, Hid (setS st (lf s) s.size = E) := ⟨_, hidV rfl⟩
  unfold setS at HE HNM ⊢
  rw [HE.out] at HL HNM ⊢
  by_cases he : E.e = 0
  · rw [if_neg (by omega)]
    have HE0 := hidV he
    clear he
    obtain ⟨PS, HPS⟩ : ∃ PS, Hid ((stR (lf s) s.size st 6 3).b = PS) := ⟨_, hidV rfl⟩
    rw [HPS.out] at HL ⊢
    go_enter Tryz.func16, Tryz.ntmps16
    go_wp2_with fail
    refine HL.out.mono ?_
    rintro x w1 (⟨_, v, rfl, ⟨tr, rfl, hu⟩, hf1⟩ | ⟨h, _⟩)
    · have c1 : w1.cell? ⟨b, 0, none⟩ = some (.map (some bm)) := (HB.out.fr hf1 (by simp)).cell 0
      have HF1 := hidV hf1
      have HC := hidV (fun (nr : Nat) => CollectDo_any bm ((lf s 1).c - 69) (mw w.heap.size Ms) st PS tr (((lf s 1).c - 4 : Nat) : Int) (w1.drewN nr) (HNM.out HE0.out).1 (HNM.out HE0.out).2 (HMW.out.fr (hf1.drewN nr) (by simp) (by simp)) hu)
      clear hf1 hu
      have hna := nilAhead_Collect
      go_wp2
      refine region_quiet_tail 8 (by kernel_rfl) (by kernel_rfl) ?_
      simp only [List.take_succ_cons, List.take_zero, List.drop_succ_cons, List.drop_zero]
      repeat (first | go_big_quiet_step ((fail)) | quiet_step ((fail)))
      refine wpQuiet_nil ?_
      rintro _ ⟨nr, rfl⟩
      go_wp2_with fail
      refine (HC.out nr).mono ?_
      rintro x w2 ⟨rfl, hn2, hf2⟩
      have HN2 := hidV (hn2.less (Ms := Ms) (by intro x hx; simp [mw, hx]) HN.out.mem)
      have HF2 : Hid (Fr [bm] w w2) := ((HF1.out.drewN nr).mono (by simp)).trans hf2 (by simp)
      clear hn2 hf2
      go_wp2
      go_ret3
      exact ⟨rfl, HN2.out, HF2.out⟩
    · exact absurd HE0.out h
  · rw [if_pos he]
    refine (pDo_bad s b bm E.e E.bad w HB.out he (HL.out.mono ?_)).mono ?_
    · rintro x w1 (⟨h, _⟩ | ⟨_, rfl, hf⟩)
      · exact absurd h he
      · exact ⟨rfl, hf⟩
    · rintro x w1 ⟨rfl, hf⟩
      exact ⟨rfl, HN.out.fr hf (by simp) (by simp), hf.mono (by simp)⟩
/-- DO. -/
theorem pDo_all (s : ByteArray) (b bm : Nat) (Ms : List Nat) (st : Nat → Mng) (w : World) (hP : Ps w Ms b bm st) (hM : ∀ x ∈ Ms, x < w.heap.size) (hg : ErrT w) (hm : s.size ≤ 1000000000000000) :
    Calls Tryz.prog 16 #[.pointer (some ⟨b, 0, none⟩), .string s] w (DoPost w Ms bm (lnA st s)) := by
  unfold lnA
  by_cases hl : 90 < s.size
  · rw [if_pos hl]; exact pDo_far s b bm Ms st w hP hg hl hm
  · rw [if_neg hl]
    cases hsm : sml s (w0 s) with
    | false =>
      have hw := wd_none hsm
      rw [if_pos rfl]
      exact pDo_other s b bm Ms st w hP hg hl (by rw [hw]; simp) (by rw [hw]; simp) (by rw [hw]; simp) (by rw [hw]; simp) (by rw [hw]; simp) (by rw [hw]; simp) (by rw [hw]; simp) (by rw [hw]; simp) (by rw [hw]; simp)
    | true =>
      rw [if_neg (by simp)]
      by_cases c1 : wd s = [115, 101, 116]
      · rw [if_pos c1]; exact pDo_set s b bm Ms st w hP hg hl hsm c1
      · rw [if_neg c1]
        by_cases c2 : wd s = [115, 104, 111, 119]
        · rw [if_pos c2]; exact pDo_show s b bm Ms st w hP hg hl hsm c2
        · rw [if_neg c2]
          by_cases c3 : wd s = [104, 97, 115]
          · rw [if_pos c3]; exact pDo_has s b bm Ms st w hP hg hl hsm c3
          · rw [if_neg c3]
            by_cases c4 : wd s = [115, 117, 98]
            · rw [if_pos c4]; exact pDo_sub s b bm Ms st w hP hg hl hsm c4
            · rw [if_neg c4]; exact pDo_any s b bm Ms st w hP hM hg (by omega) c1 c2 c3 c4
end Go.Proofs.YthlmgpllapccfaaGreatDoor
/- THE STATEMENTS' OWN: says, shown, at any line. -/
namespace Go.Proofs.YthlmgpllapccfaaGreatDoor
open Go.RowKit

theorem Ps.ne {w : World} {Ms : List Nat} {b bm : Nat} {st : Nat → Mng} (h : Ps w Ms b bm st) : b ≠ bm := fun q => by
  obtain ⟨es, clock, hb⟩ := h.nm.blk
  have := h.blk
  unfold Blk at this
  rw [q, hb] at this
  simp at this
/-- A map's block more may be written. -/
theorem Sess.more {B : Nat} {w : World} {Ms : List Nat} {b bm k : Nat} {st : Nat → Mng} (h : Sess B w Ms b bm st) {es : Array MapEntry} {clock : Nat} (hk : w.heap[k]? = some (.map es clock)) (hB : B ≤ k) : Sess B w (k :: Ms) b bm st := by
  have hkl : k < w.heap.size := by
    rcases Nat.lt_or_ge k w.heap.size with q | q
    · exact q
    · rw [Array.getElem?_eq_none q] at hk; simp at hk
  have hbk : b ≠ k := fun q => by
    have := h.ps.blk
    unfold Blk at this
    rw [q, hk] at this
    simp at this
  obtain ⟨⟨h1, ⟨⟨es', clock', k1, k2, k3⟩, k4⟩⟩, h2, h3, h4, h5⟩ := h
  refine ⟨⟨h1, ⟨⟨es', clock', k1, k2, fun n hn => ?_⟩, by simp [k4]⟩⟩, h2, h3, ?_, ?_⟩
  · have hv := k3 n hn
    cases hst : st n with
    | non => rw [hst] at hv; exact hv
    | set c => rw [hst] at hv; exact hv
    | sys ps =>
      rw [hst] at hv
      obtain ⟨g, cap, q1, q2, q3, q4, q5, q6⟩ := hv
      refine ⟨g, cap, q1, q2, q3, q4, q5, fun q => ?_⟩
      rw [List.mem_cons] at q
      rcases q with q | q
      · have hl : 0 < ps.length := List.length_pos_iff.2 q4
        have hc := q2.2 0 hl 0 _ (by rw [Array.getElem?_toList]; exact pv_get (by have := (q3.at hl).1; omega))
        rw [q] at hc
        simp [World.cell?, hk] at hc
      · exact q6 q
  · intro x hx
    rw [List.mem_cons] at hx
    rcases hx with hx | hx
    · rw [hx]; exact ⟨hkl, hB⟩
    · exact h4 x hx
  · intro q
    rw [List.mem_cons] at q
    rcases q with q | q
    · exact hbk q
    · exact h5 q
theorem Sess.low {B C : Nat} {w : World} {Ms : List Nat} {b bm : Nat} {st : Nat → Mng} (h : Sess B w Ms b bm st) (hC : C ≤ B) : Sess C w Ms b bm st :=
  ⟨h.ps, by have := h.lo; omega, h.err, fun x hx => ⟨(h.hi x hx).1, by have := (h.hi x hx).2; omega⟩, h.nb⟩
theorem Sess.doesA {B : Nat} {w : World} {Ms : List Nat} {b bm : Nat} {st : Nat → Mng} (h : Sess B w Ms b bm st) (hB : 0 < B) (s : ByteArray) (hm : s.size ≤ 1000000000000000) :
    Calls Tryz.prog 16 #[.pointer (some ⟨b, 0, none⟩), .string s] w fun e w' => e = .returned (.tuple #[.string (bs (lnA st s).t), .int .i64 (lnA st s).e, .int .i64 (lnA st s).bad]) ∧ Sess B w' Ms b bm (lnA st s).st ∧ Fr [bm] w w' :=
  (pDo_all s b bm Ms st w h.ps (fun x hx => (h.hi x hx).1) h.err hm).mono (by
    rintro e w1 ⟨rfl, q1, q2⟩
    exact ⟨rfl, ⟨⟨h.ps.blk.fr q2 (by simp; exact h.ps.ne), q1⟩, h.lo, h.err.fr q2 (by simp; have := h.lo; omega), fun x hx => ⟨by have := (h.hi x hx).1; have := q2.size; omega, (h.hi x hx).2⟩, h.nb⟩, q2⟩)
set_option maxHeartbeats 1000000 in
theorem Sess.saysA {B : Nat} {w : World} {Ms : List Nat} {b bm : Nat} {st : Nat → Mng} (h : Sess B w Ms b bm st) (hB : 0 < B) (s T : ByteArray) (st' : Nat → Mng) (t : List UInt8) (hm : s.size ≤ 1000000000000000) (hR : lnA st s = ⟨0, 0, t, st'⟩) (hT : T = bs t) :
    Calls Tryz.prog 15 #[.pointer (some ⟨b, 0, none⟩), .string s, .string T] w fun e w' => e = .returned (.bool true) ∧ Sess B w' Ms b bm st' ∧ Fr [bm] w w' := by
  have HD := hidV (h.doesA hB s hm)
  rw [hR, ← hT] at HD
  clear h hR hT
  go_enter Tryz.func15, Tryz.ntmps15
  go_wp2_with fail
  refine HD.out.mono ?_
  rintro e w1 ⟨rfl, q1, q2⟩
  go_wp2
  go_ret
  exact ⟨rfl, q1, q2⟩
set_option maxHeartbeats 1000000 in
theorem kshown_any {B : Nat} {w : World} {Ms : List Nat} {b bm : Nat} {st : Nat → Mng} (h : Sess B w Ms b bm st) (hB : 0 < B) (S T : ByteArray) (X Z : List UInt8) (st' : Nat → Mng) (t : List UInt8) (hS : S = bs X) (hZ : Hid ([115, 101, 116, 32, 89, 32, 61, 32] ++ X = Z)) (hl : X.length ≤ 60)
    (h1 : lnA st (bs Z) = ⟨0, 0, [], st'⟩) (h2 : lnA st' (bs [115, 104, 111, 119, 32, 89]) = ⟨0, 0, t, st'⟩) (hT : T = bs t) :
    Calls Tryz.prog 24 #[.pointer (some ⟨b, 0, none⟩), .string S, .string T] w fun e w' => e = .returned (.bool true) ∧ Sess B w' Ms b bm st' ∧ Fr [bm] w w' := by
  have hzl : Z.length ≤ 70 := by rw [← hZ.out]; simp; omega
  have HS1 := hidV (h.saysA hB (bs Z) ⟨#[]⟩ st' [] (by rw [bs_size]; omega) h1 rfl)
  have HS2 := hidV (fun w' (h' : Sess B w' Ms b bm st') => h'.saysA hB (bs [115, 104, 111, 119, 32, 89]) T st' t (by decide) h2 hT)
  have ha := fun (w' : World) => add_to0 [115, 101, 116, 32, 89, 32, 61, 32] ⟨#[115, 101, 116, 32, 89, 32, 61, 32]⟩ X Z S rfl hS hZ.out (by simp) (by omega) w'
  clear h h1 h2 hT hS
  go_enter Tryz.func24, Tryz.ntmps24
  go_wp2_with fail
  refine HS1.out.mono ?_
  rintro e w1 ⟨rfl, s1, f1⟩
  have HI := hidV (And.intro s1 f1)
  clear s1 f1 ha
  go_wp2_with fail
  refine (HS2.out _ HI.out.1).mono ?_
  rintro e w2 ⟨rfl, s2, f2⟩
  have HJ := hidV (And.intro s2 (HI.out.2.trans f2 (by simp)))
  clear s2 f2
  go_wp2
  go_ret
  exact ⟨rfl, HJ.out.1, HJ.out.2⟩
end Go.Proofs.YthlmgpllapccfaaGreatDoor
