import Derived.Test.YthlmgpllapccfaaGreatDoorPack6
/- THE DOCUMENT's ANSWER: cut of a line. -/
namespace Go.Proofs.YthlmgpllapccfaaGreatDoor
open Go.RowKit

set_option maxRecDepth 100000 in
set_option maxHeartbeats 8000000 in
theorem cut_line (s : ByteArray) (w : World) (hs : s.size ≤ 1000) :
    Calls Tryz.prog 35 #[.string s, .bool true] w fun e w' => ∃ n g cap, e = .returned (.slice (some ⟨g, 0, none⟩) (n + 1) cap) ∧ n ≤ s.size ∧ (∀ j, j < n → (lf s j).c ≠ 0) ∧ (lf s n).c = 0 ∧ w'.ownsRow w.heap.size 91 4 (.slice (some ⟨g, 0, none⟩) (n + 1) cap) (n + 1) (toksF (lf s) (n + 1)) ∧ w.heap.size ≤ g ∧ Below w.heap.size w w' := by
  obtain ⟨i0, hi, hz0, hz1, hz2⟩ := info_parts Token_info
  go_enter Tryz.func35, Tryz.ntmps35
  go_wp2
  go_loopg [5, 6] (s.size) (fun m v5 v6 wr => ∃ k i : Nat, m = s.size - i ∧ v6 = .int .i64 i ∧ i ≤ s.size ∧ k ≤ i ∧ Hid (skip s i = skip s (lq s k)) ∧ Hid (∀ j, j < k → (lf s j).c ≠ 0) ∧ wr.ownsRow w.heap.size 91 4 v5 k (toksF (lf s) k) ∧ Below w.heap.size w wr)
  case atStart => exact ⟨0, 0, rfl, rfl, by omega, by omega, by unfold Hid; rw [lq_zero], fun j hj => by omega, World.ownsRow_nil _ _ _ _, Below.refl _ _⟩
  case round =>
    obtain ⟨k, i, hm, rfl, hi', hki, HS, HC, hown, hbel⟩ := hrel
    by_cases hlt : i < s.size
    · have hb := byt_cast hlt
      have hsm := byt_small hlt
      by_cases hsp : byt s i = 32
      · have H2 : Hid (skip s (i + 1) = skip s (lq s k)) := by unfold Hid; rw [← skip_space hsp]; exact HS.out
        go_wp2
        go_roundg (s.size - (i + 1))
        case measure => omega
        case rel => exact ⟨k, i + 1, rfl, by go_num, by omega, by omega, H2, HC, hown.alloc _, hbel.alloc hbel.size _⟩
      · have hz : byt s i ≠ 256 := by omega
        obtain ⟨pp, cp, hu5⟩ := ownsRow_form hown
        subst hu5
        by_cases hw : k = 0 ∧ sml s i = true
        · obtain ⟨hk0, hws⟩ := hw
          have HW0 : Hid (w0 s = i) := by
            unfold Hid
            have := HS.out
            rw [hk0, lq_zero, skip_here hsp] at this
            exact this.symm
          have HT : Hid (lf s k = ⟨1000 + wenc (s.extract i (wend s i)).data.toList, i, wend s i, 0⟩) := by
            unfold Hid
            have h0 : sml s (w0 s) = true := by rw [HW0.out]; exact hws
            rw [hk0, lf_word h0]
            unfold w1
            rw [HW0.out]
          have hwe := wend_facts (Nat.le_of_lt hlt)
          have hgt : i < wend s i := by rw [wend_step hws]; exact (wend_facts (i := i + 1) (by omega)).1
          have HF : Hid ((lf s k).to ≤ s.size ∧ i < (lf s k).to ∧ (lf s k).c ≠ 0) := by
            unfold Hid; rw [HT.out]; exact ⟨hwe.2.1, hgt, by dsimp only; omega⟩
          have HKW := hideR (rk_word (s.extract i (wend s i)))
          have hsl : (decide (97 ≤ byt s i) && decide (byt s i ≤ 122)) = true := hws
          have qk : ((k : Int) == 0) = true := by rw [beq_iff_eq]; omega
          have HWL := hideR hwe.2.1
          have HK0 := hideR hk0
          clear hws hwe hgt hk0
          have HWA := hideR (fun w' => word_any s i i w' rfl (by omega) (by omega))
          generalize wend s i = we at *
          go_upto_region 19 with (first | (go_at_call 49; refine (small_any (byt s i) _ _ (by omega) (by omega)).mono ?_; rintro e w' ⟨rfl, rfl⟩) | (go_at_call 50; refine (HWA.out _).mono ?_; rintro e w1 ⟨rfl, hb1⟩; obtain ⟨hc1, hf1⟩ := bcell hb1))
          refine wp_forget (fun W => Blk W wr.heap.size #[.int .i64 (rk (lf s k).c), .int .i64 (lf s k).at', .int .i64 (lf s k).v, .string (rs (lf s k).c)] 91 ∧ W.ownsRow w.heap.size 91 4 (.slice pp k cp) k (toksF (lf s) k) ∧ Below w.heap.size w W) ?_ ?_
          · have hf8 : Fr [] (wr.alloc (.cells #[.int .i64 5, .int .i64 i, .int .i64 0, .string ⟨#[]⟩] 91)) w1 := Fr.of_below hb1
            have b8 : Blk w1 wr.heap.size #[.int .i64 5, .int .i64 i, .int .i64 0, .string ⟨#[]⟩] 91 := Blk.fr (Blk.new wr _ _) hf8 (by simp)
            refine ⟨?_, ?_, ?_⟩
            · rw [HT.out]; dsimp only; rw [HKW.out.1, HKW.out.2]
              exact Blk.store4 b8 _ _ _ _
            · refine ownsRow_fr (c := wr.heap.size) (hown.alloc (.cells #[.int .i64 5, .int .i64 i, .int .i64 0, .string ⟨#[]⟩] 91)) ?_ (ownsRow_ne hown (Nat.le_refl _))
              repeat (refine Fr.setCell ?_ _ _ (by simp))
              exact hf8.mono (by simp)
            · repeat (refine Below.setCell ?_ hbel.size _)
              exact (hbel.alloc hbel.size _).trans (hb1.mono (by have := hbel.size; simp; omega))
          rintro W ⟨b8, hownW, hbelW⟩
          have k0 : W.cell? ⟨wr.heap.size, 0, none⟩ = some (.int .i64 (rk (lf s k).c)) := b8.cell 0
          have k1 : W.cell? ⟨wr.heap.size, 1, none⟩ = some (.int .i64 (lf s k).at') := b8.cell 1
          have k2 : W.cell? ⟨wr.heap.size, 2, none⟩ = some (.int .i64 (lf s k).v) := b8.cell 2
          have k3 : W.cell? ⟨wr.heap.size, 3, none⟩ = some (.string (rs (lf s k).c)) := b8.cell 3
          have HOWN := hideR hownW
          have HBEL := hideR hbelW
          clear b8 hownW hbelW hown hbel
          go_wp2_with (at_builtin; refine wpList_append_lies _ (by rfl) (.tmp 86) (.tmp 88) 86 (by rfl) w.heap.size 91 i0 _ 4 40 Tryz.underlying86 hi hz0 hz1 hz2 (by rfl) (by decide) _ k (toksF (lf s) k) (by rfl) (by exact HOWN.out.alloc _) ⟨W.heap.size, 0, none⟩ 1 1 (tokL (lf s k)) (by rfl) (by rfl) (by exact World.news_of_block (Blk.new W _ _)) (tokL_one _) (by decide) (by unfold maxLen; omega) (by omega) (by have := HBEL.out.size; simp; omega) _ rfl ?_; intro g cap w1 hown1 hgrow hat hlt1)
          go_roundg (s.size - (lf s k).to)
          case measure => have := HF.out.2.1; omega
          case rel =>
            have hq := HOWN.out
            refine ⟨k + 1, (lf s k).to, rfl, (by rw [HT.out]), HF.out.1, (by have := HF.out.2.1; omega), by unfold Hid; rw [lq_next], ?_, hown1, ?_⟩
            · intro j hj
              by_cases q : j < k
              · exact HC.out j q
              · have e : j = k := by omega
                subst e; exact HF.out.2.2
            · exact (HBEL.out.alloc (by have := HBEL.out.size; omega) _).grown hgrow (by have := HBEL.out.size; simp; omega) (fun b hb => (hq.lt b hb).1)
        · have hctx : (k = 0 ∧ sml s i = false) ∨ k ≠ 0 := by
            by_cases hk0 : k = 0
            · left; refine ⟨hk0, ?_⟩
              cases q : sml s i with
              | false => rfl
              | true => exact absurd ⟨hk0, q⟩ hw
            · right; exact hk0
          have HT : Hid (lf s k = tokAt s i) := by
            unfold Hid
            rw [lf_tok ?_]
            · unfold tok; rw [← HS.out, skip_here hsp]
            · rcases hctx with ⟨hk0, q⟩ | hk0
              · left
                have := HS.out
                rw [hk0, lq_zero, skip_here hsp] at this
                unfold w0; rw [← this]; exact q
              · right; exact hk0
          clear hw
          have hctx2 : (((k : Int) == 0) = true ∧ (decide (97 ≤ byt s i) && decide (byt s i ≤ 122)) = false) ∨ (((k : Int) == 0) = false ∧ True) := by
            rcases hctx with ⟨hk0, q⟩ | hk0
            · left; exact ⟨by rw [beq_iff_eq]; omega, q⟩
            · right; exact ⟨by rw [beq_eq_false_iff_ne]; omega, trivial⟩
          clear hctx
          rcases hctx2 with ⟨qk, qsl⟩ | ⟨qk, _⟩
          all_goals
            by_cases hd : isD s i = true
            · have HD := hideR hd
              have hd' : (decide (48 ≤ byt s i) && decide (byt s i ≤ 57)) = true := hd
              have HK : Hid (rk (tokAt s i).c = 1 ∧ rs (tokAt s i).c = ⟨#[]⟩) := by
                unfold Hid tokAt; rw [if_neg hz, if_pos hd]; split <;> exact ⟨rfl, rfl⟩
              clear hd
              have HF : Hid ((lf s k).to ≤ s.size ∧ i < (lf s k).to ∧ (lf s k).c ≠ 0) := by
                obtain ⟨_, _, f1, _, _, f2, f3⟩ := tokAt_facts hi'
                have f4 : (tokAt s i).c ≠ 0 := fun q => by have := f2.1 q; omega
                unfold Hid; rw [HT.out]; exact ⟨f1, f3 f4, f4⟩

              go_upto_region 19 with (first | (go_at_call 49; refine (small_any (byt s i) _ _ (by omega) (by omega)).mono ?_; rintro e w' ⟨rfl, rfl⟩) | (go_at_call 51; refine (rdigit_any (byt s i) _ _ (by omega) (by omega)).mono ?_; rintro e w' ⟨rfl, rfl⟩) | (go_at_call 52; refine (number_any s i _ _ (by omega) (by omega) HD.out).mono ?_; rintro e w1 ⟨rfl, hb1⟩; obtain ⟨hc1, hf1⟩ := bcell hb1))
              refine wp_forget (fun W => Blk W wr.heap.size #[.int .i64 (rk (lf s k).c), .int .i64 (lf s k).at', .int .i64 (lf s k).v, .string (rs (lf s k).c)] 91 ∧ W.ownsRow w.heap.size 91 4 (.slice pp k cp) k (toksF (lf s) k) ∧ Below w.heap.size w W) ?_ ?_
              · have hf8 : Fr [] (wr.alloc (.cells #[.int .i64 5, .int .i64 i, .int .i64 0, .string ⟨#[]⟩] 91)) w1 := Fr.of_below hb1
                have b8 : Blk w1 wr.heap.size #[.int .i64 5, .int .i64 i, .int .i64 0, .string ⟨#[]⟩] 91 := Blk.fr (Blk.new wr _ _) hf8 (by simp)
                refine ⟨?_, ?_, ?_⟩
                · rw [HT.out, HK.out.1, HK.out.2]
                  exact Blk.store4 b8 _ _ _ _
                · refine ownsRow_fr (c := wr.heap.size) (hown.alloc (.cells #[.int .i64 5, .int .i64 i, .int .i64 0, .string ⟨#[]⟩] 91)) ?_ (ownsRow_ne hown (Nat.le_refl _))
                  repeat (refine Fr.setCell ?_ _ _ (by simp))
                  exact hf8.mono (by simp)
                · repeat (refine Below.setCell ?_ hbel.size _)
                  exact (hbel.alloc hbel.size _).trans (hb1.mono (by have := hbel.size; simp; omega))
              rintro W ⟨b8, hownW, hbelW⟩
              have k0 : W.cell? ⟨wr.heap.size, 0, none⟩ = some (.int .i64 (rk (lf s k).c)) := b8.cell 0
              have k1 : W.cell? ⟨wr.heap.size, 1, none⟩ = some (.int .i64 (lf s k).at') := b8.cell 1
              have k2 : W.cell? ⟨wr.heap.size, 2, none⟩ = some (.int .i64 (lf s k).v) := b8.cell 2
              have k3 : W.cell? ⟨wr.heap.size, 3, none⟩ = some (.string (rs (lf s k).c)) := b8.cell 3
              have HOWN := hideR hownW
              have HBEL := hideR hbelW
              clear b8 hownW hbelW hown hbel
              go_wp2_with (at_builtin; refine wpList_append_lies _ (by rfl) (.tmp 86) (.tmp 88) 86 (by rfl) w.heap.size 91 i0 _ 4 40 Tryz.underlying86 hi hz0 hz1 hz2 (by rfl) (by decide) _ k (toksF (lf s) k) (by rfl) (by exact HOWN.out.alloc _) ⟨W.heap.size, 0, none⟩ 1 1 (tokL (lf s k)) (by rfl) (by rfl) (by exact World.news_of_block (Blk.new W _ _)) (tokL_one _) (by decide) (by unfold maxLen; omega) (by omega) (by have := HBEL.out.size; simp; omega) _ rfl ?_; intro g cap w1 hown1 hgrow hat hlt1)
              go_roundg (s.size - (lf s k).to)
              case measure => have := HF.out.2.1; omega
              case rel =>
                have hq := HOWN.out
                refine ⟨k + 1, (lf s k).to, rfl, (by rw [HT.out]), HF.out.1, (by have := HF.out.2.1; omega), by unfold Hid; rw [lq_next], ?_, hown1, ?_⟩
                · intro j hj
                  by_cases q : j < k
                  · exact HC.out j q
                  · have e : j = k := by omega
                    subst e; exact HF.out.2.2
                · exact (HBEL.out.alloc (by have := HBEL.out.size; omega) _).grown hgrow (by have := HBEL.out.size; simp; omega) (fun b hb => (hq.lt b hb).1)
            · have hd' : (decide (48 ≤ byt s i) && decide (byt s i ≤ 57)) = false := by
                cases q : (decide (48 ≤ byt s i) && decide (byt s i ≤ 57)) with
                | false => rfl
                | true => exact absurd q hd
              by_cases hux : byt s i = 117 ∨ byt s i = 120
              · have HK : Hid (rk (tokAt s i).c = 2) := by
                  unfold Hid tokAt; rw [if_neg hz, if_neg hd]
                  rcases hux with q | q
                  · rw [if_pos q]; split <;> rfl
                  · rw [if_neg (by omega), if_pos q]; split <;> rfl
                have HU := hideR hux
                clear hd
                rcases hux with hu | hu
                all_goals first | (exfalso; rw [hu] at qsl; revert qsl; decide) | skip
                all_goals
                  have HF : Hid ((lf s k).to ≤ s.size ∧ i < (lf s k).to ∧ (lf s k).c ≠ 0) := by
                    obtain ⟨_, _, f1, _, _, f2, f3⟩ := tokAt_facts hi'
                    have f4 : (tokAt s i).c ≠ 0 := fun q => by have := f2.1 q; omega
                    unfold Hid; rw [HT.out]; exact ⟨f1, f3 f4, f4⟩

                  go_upto_region 19 with (first | (go_at_call 49; refine (small_any (byt s i) _ _ (by omega) (by omega)).mono ?_; rintro e w' ⟨rfl, rfl⟩) | (go_at_call 51; refine (rdigit_any (byt s i) _ _ (by omega) (by omega)).mono ?_; rintro e w' ⟨rfl, rfl⟩) | (go_at_call 53; refine (rpower_any s i _ _ (by omega) (by omega) hlt HU.out).mono ?_; rintro e w1 ⟨rfl, hb1⟩; obtain ⟨hc1, hf1⟩ := bcell hb1))
                  refine wp_forget (fun W => Blk W wr.heap.size #[.int .i64 (rk (lf s k).c), .int .i64 (lf s k).at', .int .i64 (lf s k).v, .string (rs (lf s k).c)] 91 ∧ W.ownsRow w.heap.size 91 4 (.slice pp k cp) k (toksF (lf s) k) ∧ Below w.heap.size w W) ?_ ?_
                  · have hf8 : Fr [] (wr.alloc (.cells #[.int .i64 5, .int .i64 i, .int .i64 0, .string ⟨#[]⟩] 91)) w1 := Fr.of_below hb1
                    have b8 : Blk w1 wr.heap.size #[.int .i64 5, .int .i64 i, .int .i64 0, .string ⟨#[]⟩] 91 := Blk.fr (Blk.new wr _ _) hf8 (by simp)
                    refine ⟨?_, ?_, ?_⟩
                    · rw [HT.out, HK.out]
                      exact Blk.store4 b8 _ _ _ _
                    · refine ownsRow_fr (c := wr.heap.size) (hown.alloc (.cells #[.int .i64 5, .int .i64 i, .int .i64 0, .string ⟨#[]⟩] 91)) ?_ (ownsRow_ne hown (Nat.le_refl _))
                      repeat (refine Fr.setCell ?_ _ _ (by simp))
                      exact hf8.mono (by simp)
                    · repeat (refine Below.setCell ?_ hbel.size _)
                      exact (hbel.alloc hbel.size _).trans (hb1.mono (by have := hbel.size; simp; omega))
                  rintro W ⟨b8, hownW, hbelW⟩
                  have k0 : W.cell? ⟨wr.heap.size, 0, none⟩ = some (.int .i64 (rk (lf s k).c)) := b8.cell 0
                  have k1 : W.cell? ⟨wr.heap.size, 1, none⟩ = some (.int .i64 (lf s k).at') := b8.cell 1
                  have k2 : W.cell? ⟨wr.heap.size, 2, none⟩ = some (.int .i64 (lf s k).v) := b8.cell 2
                  have k3 : W.cell? ⟨wr.heap.size, 3, none⟩ = some (.string (rs (lf s k).c)) := b8.cell 3
                  have HOWN := hideR hownW
                  have HBEL := hideR hbelW
                  clear b8 hownW hbelW hown hbel
                  go_wp2_with (at_builtin; refine wpList_append_lies _ (by rfl) (.tmp 86) (.tmp 88) 86 (by rfl) w.heap.size 91 i0 _ 4 40 Tryz.underlying86 hi hz0 hz1 hz2 (by rfl) (by decide) _ k (toksF (lf s) k) (by rfl) (by exact HOWN.out.alloc _) ⟨W.heap.size, 0, none⟩ 1 1 (tokL (lf s k)) (by rfl) (by rfl) (by exact World.news_of_block (Blk.new W _ _)) (tokL_one _) (by decide) (by unfold maxLen; omega) (by omega) (by have := HBEL.out.size; simp; omega) _ rfl ?_; intro g cap w1 hown1 hgrow hat hlt1)
                  go_roundg (s.size - (lf s k).to)
                  case measure => have := HF.out.2.1; omega
                  case rel =>
                    have hq := HOWN.out
                    refine ⟨k + 1, (lf s k).to, rfl, (by rw [HT.out]), HF.out.1, (by have := HF.out.2.1; omega), by unfold Hid; rw [lq_next], ?_, hown1, ?_⟩
                    · intro j hj
                      by_cases q : j < k
                      · exact HC.out j q
                      · have e : j = k := by omega
                        subst e; exact HF.out.2.2
                    · exact (HBEL.out.alloc (by have := HBEL.out.size; omega) _).grown hgrow (by have := HBEL.out.size; simp; omega) (fun b hb => (hq.lt b hb).1)
              · have hu : byt s i ≠ 117 := by omega
                have hx : byt s i ≠ 120 := by omega
                have qu : ((byt s i : Int) == 117) = false := by rw [beq_eq_false_iff_ne]; omega
                have qx : ((byt s i : Int) == 120) = false := by rw [beq_eq_false_iff_ne]; omega
                have HA : Hid (tokAt s i = ⟨byt s i + 4, i, i + 1, 0⟩) := by unfold Hid tokAt; rw [if_neg hz, if_neg hd, if_neg hu, if_neg hx]
                by_cases hname : 65 ≤ byt s i ∧ byt s i ≤ 90
                · obtain ⟨hn1, hn2⟩ := hname
                  have HX : Hid (s.extract i (i + 1) = ⟨#[UInt8.ofNat (byt s i)]⟩) := one_byte hlt
                  have HF : Hid ((lf s k).to ≤ s.size ∧ i < (lf s k).to ∧ (lf s k).c ≠ 0) := by unfold Hid; rw [HT.out, HA.out]; refine ⟨?_, ?_, ?_⟩ <;> dsimp only <;> omega
                  have HK : Hid (rk (byt s i + 4) = 3 ∧ rs (byt s i + 4) = s.extract i (i + 1)) := by
                    unfold Hid rk rs
                    rw [if_neg (by omega), if_neg (by omega), if_neg (by omega), if_pos (by omega), if_neg (by omega), if_neg (by omega), if_pos (by omega), HX.out]; exact ⟨rfl, rfl⟩
                  clear hd hux hu hx
                  go_upto_region 19 with (first | (go_at_call 49; refine (small_any (byt s i) _ _ (by omega) (by omega)).mono ?_; rintro e w' ⟨rfl, rfl⟩) | (go_at_call 51; refine (rdigit_any (byt s i) _ _ (by omega) (by omega)).mono ?_; rintro e w' ⟨rfl, rfl⟩))
                  refine wp_forget (fun W => Blk W wr.heap.size #[.int .i64 (rk (lf s k).c), .int .i64 (lf s k).at', .int .i64 (lf s k).v, .string (rs (lf s k).c)] 91 ∧ W.ownsRow w.heap.size 91 4 (.slice pp k cp) k (toksF (lf s) k) ∧ Below w.heap.size w W) ?_ ?_
                  · refine ⟨?_, hown.alloc _, hbel.alloc hbel.size _⟩
                    rw [HT.out, HA.out]; dsimp only
                    rw [HK.out.1, HK.out.2]
                    exact Blk.new wr _ _
                  rintro W ⟨b8, hownW, hbelW⟩
                  have k0 : W.cell? ⟨wr.heap.size, 0, none⟩ = some (.int .i64 (rk (lf s k).c)) := b8.cell 0
                  have k1 : W.cell? ⟨wr.heap.size, 1, none⟩ = some (.int .i64 (lf s k).at') := b8.cell 1
                  have k2 : W.cell? ⟨wr.heap.size, 2, none⟩ = some (.int .i64 (lf s k).v) := b8.cell 2
                  have k3 : W.cell? ⟨wr.heap.size, 3, none⟩ = some (.string (rs (lf s k).c)) := b8.cell 3
                  have HOWN := hideR hownW
                  have HBEL := hideR hbelW
                  clear b8 hownW hbelW hown hbel
                  go_wp2_with (at_builtin; refine wpList_append_lies _ (by rfl) (.tmp 86) (.tmp 88) 86 (by rfl) w.heap.size 91 i0 _ 4 40 Tryz.underlying86 hi hz0 hz1 hz2 (by rfl) (by decide) _ k (toksF (lf s) k) (by rfl) (by exact HOWN.out.alloc _) ⟨W.heap.size, 0, none⟩ 1 1 (tokL (lf s k)) (by rfl) (by rfl) (by exact World.news_of_block (Blk.new W _ _)) (tokL_one _) (by decide) (by unfold maxLen; omega) (by omega) (by have := HBEL.out.size; simp; omega) _ rfl ?_; intro g cap w1 hown1 hgrow hat hlt1)
                  go_roundg (s.size - (lf s k).to)
                  case measure => have := HF.out.2.1; omega
                  case rel =>
                    have hq := HOWN.out
                    refine ⟨k + 1, (lf s k).to, rfl, (by rw [HT.out, HA.out]; go_num), HF.out.1, (by have := HF.out.2.1; omega), by unfold Hid; rw [lq_next], ?_, hown1, ?_⟩
                    · intro j hj
                      by_cases q : j < k
                      · exact HC.out j q
                      · have e : j = k := by omega
                        subst e; exact HF.out.2.2
                    · exact (HBEL.out.alloc (by have := HBEL.out.size; omega) _).grown hgrow (by have := HBEL.out.size; simp; omega) (fun b hb => (hq.lt b hb).1)
                · by_cases hsg : sgn (byt s i) = true
                  · have HF : Hid ((lf s k).to ≤ s.size ∧ i < (lf s k).to ∧ (lf s k).c ≠ 0) := by unfold Hid; rw [HT.out, HA.out]; refine ⟨?_, ?_, ?_⟩ <;> dsimp only <;> omega
                    have HK : Hid (rk (byt s i + 4) = (byt s i : Int) ∧ rs (byt s i + 4) = ⟨#[]⟩) := by
                      unfold Hid rk rs
                      rw [if_neg (by omega), if_neg (by omega), if_neg (by omega), if_neg (by omega), Nat.add_sub_cancel, if_pos hsg, if_neg (by omega), if_neg (by omega), if_neg (by omega), if_neg (by omega)]; exact ⟨rfl, rfl⟩
                    have hnn : byt s i < 65 ∨ 90 < byt s i := by omega
                    clear hd hux hu hx hname
                    rcases hnn with hnn | hnn
                    all_goals
                      go_upto_region 19 with (first | (go_at_call 49; refine (small_any (byt s i) _ _ (by omega) (by omega)).mono ?_; rintro e w' ⟨rfl, rfl⟩) | (go_at_call 51; refine (rdigit_any (byt s i) _ _ (by omega) (by omega)).mono ?_; rintro e w' ⟨rfl, rfl⟩) | (go_at_call 54; refine (sign_any (byt s i) _ _ (by omega) (by omega)).mono ?_; rintro e w' ⟨rfl, rfl⟩))
                      refine wp_forget (fun W => Blk W wr.heap.size #[.int .i64 (rk (lf s k).c), .int .i64 (lf s k).at', .int .i64 (lf s k).v, .string (rs (lf s k).c)] 91 ∧ W.ownsRow w.heap.size 91 4 (.slice pp k cp) k (toksF (lf s) k) ∧ Below w.heap.size w W) ?_ ?_
                      · refine ⟨?_, hown.alloc _, hbel.alloc hbel.size _⟩
                        rw [HT.out, HA.out]; dsimp only
                        rw [HK.out.1, HK.out.2]
                        exact Blk.new wr _ _
                      rintro W ⟨b8, hownW, hbelW⟩
                      have k0 : W.cell? ⟨wr.heap.size, 0, none⟩ = some (.int .i64 (rk (lf s k).c)) := b8.cell 0
                      have k1 : W.cell? ⟨wr.heap.size, 1, none⟩ = some (.int .i64 (lf s k).at') := b8.cell 1
                      have k2 : W.cell? ⟨wr.heap.size, 2, none⟩ = some (.int .i64 (lf s k).v) := b8.cell 2
                      have k3 : W.cell? ⟨wr.heap.size, 3, none⟩ = some (.string (rs (lf s k).c)) := b8.cell 3
                      have HOWN := hideR hownW
                      have HBEL := hideR hbelW
                      clear b8 hownW hbelW hown hbel
                      go_wp2_with (at_builtin; refine wpList_append_lies _ (by rfl) (.tmp 86) (.tmp 88) 86 (by rfl) w.heap.size 91 i0 _ 4 40 Tryz.underlying86 hi hz0 hz1 hz2 (by rfl) (by decide) _ k (toksF (lf s) k) (by rfl) (by exact HOWN.out.alloc _) ⟨W.heap.size, 0, none⟩ 1 1 (tokL (lf s k)) (by rfl) (by rfl) (by exact World.news_of_block (Blk.new W _ _)) (tokL_one _) (by decide) (by unfold maxLen; omega) (by omega) (by have := HBEL.out.size; simp; omega) _ rfl ?_; intro g cap w1 hown1 hgrow hat hlt1)
                      go_roundg (s.size - (lf s k).to)
                      case measure => have := HF.out.2.1; omega
                      case rel =>
                        have hq := HOWN.out
                        refine ⟨k + 1, (lf s k).to, rfl, (by rw [HT.out, HA.out]; go_num), HF.out.1, (by have := HF.out.2.1; omega), by unfold Hid; rw [lq_next], ?_, hown1, ?_⟩
                        · intro j hj
                          by_cases q : j < k
                          · exact HC.out j q
                          · have e : j = k := by omega
                            subst e; exact HF.out.2.2
                        · exact (HBEL.out.alloc (by have := HBEL.out.size; omega) _).grown hgrow (by have := HBEL.out.size; simp; omega) (fun b hb => (hq.lt b hb).1)
                
                  · have hsg' : sgn (byt s i) = false := by simpa using hsg
                    have HF : Hid ((lf s k).to ≤ s.size ∧ i < (lf s k).to ∧ (lf s k).c ≠ 0) := by unfold Hid; rw [HT.out, HA.out]; refine ⟨?_, ?_, ?_⟩ <;> dsimp only <;> omega
                    have HK : Hid (rk (byt s i + 4) = 5 ∧ rs (byt s i + 4) = ⟨#[]⟩) := by
                      unfold Hid rk rs
                      rw [if_neg (by omega), if_neg (by omega), if_neg (by omega), if_neg (by omega), Nat.add_sub_cancel, if_neg hsg, if_neg (by omega), if_neg (by omega), if_neg (by omega), if_neg (by omega), if_neg (by omega)]; exact ⟨rfl, rfl⟩
                    have hnn : byt s i < 65 ∨ 90 < byt s i := by omega
                    clear hd hux hu hx hname hsg
                    rcases hnn with hnn | hnn
                    all_goals
                      go_upto_region 19 with (first | (go_at_call 49; refine (small_any (byt s i) _ _ (by omega) (by omega)).mono ?_; rintro e w' ⟨rfl, rfl⟩) | (go_at_call 51; refine (rdigit_any (byt s i) _ _ (by omega) (by omega)).mono ?_; rintro e w' ⟨rfl, rfl⟩) | (go_at_call 54; refine (sign_any (byt s i) _ _ (by omega) (by omega)).mono ?_; rintro e w' ⟨rfl, rfl⟩))
                      refine wp_forget (fun W => Blk W wr.heap.size #[.int .i64 (rk (lf s k).c), .int .i64 (lf s k).at', .int .i64 (lf s k).v, .string (rs (lf s k).c)] 91 ∧ W.ownsRow w.heap.size 91 4 (.slice pp k cp) k (toksF (lf s) k) ∧ Below w.heap.size w W) ?_ ?_
                      · refine ⟨?_, hown.alloc _, hbel.alloc hbel.size _⟩
                        rw [HT.out, HA.out]; dsimp only
                        rw [HK.out.1, HK.out.2]
                        exact Blk.new wr _ _
                      rintro W ⟨b8, hownW, hbelW⟩
                      have k0 : W.cell? ⟨wr.heap.size, 0, none⟩ = some (.int .i64 (rk (lf s k).c)) := b8.cell 0
                      have k1 : W.cell? ⟨wr.heap.size, 1, none⟩ = some (.int .i64 (lf s k).at') := b8.cell 1
                      have k2 : W.cell? ⟨wr.heap.size, 2, none⟩ = some (.int .i64 (lf s k).v) := b8.cell 2
                      have k3 : W.cell? ⟨wr.heap.size, 3, none⟩ = some (.string (rs (lf s k).c)) := b8.cell 3
                      have HOWN := hideR hownW
                      have HBEL := hideR hbelW
                      clear b8 hownW hbelW hown hbel
                      go_wp2_with (at_builtin; refine wpList_append_lies _ (by rfl) (.tmp 86) (.tmp 88) 86 (by rfl) w.heap.size 91 i0 _ 4 40 Tryz.underlying86 hi hz0 hz1 hz2 (by rfl) (by decide) _ k (toksF (lf s) k) (by rfl) (by exact HOWN.out.alloc _) ⟨W.heap.size, 0, none⟩ 1 1 (tokL (lf s k)) (by rfl) (by rfl) (by exact World.news_of_block (Blk.new W _ _)) (tokL_one _) (by decide) (by unfold maxLen; omega) (by omega) (by have := HBEL.out.size; simp; omega) _ rfl ?_; intro g cap w1 hown1 hgrow hat hlt1)
                      go_roundg (s.size - (lf s k).to)
                      case measure => have := HF.out.2.1; omega
                      case rel =>
                        have hq := HOWN.out
                        refine ⟨k + 1, (lf s k).to, rfl, (by rw [HT.out, HA.out]; go_num), HF.out.1, (by have := HF.out.2.1; omega), by unfold Hid; rw [lq_next], ?_, hown1, ?_⟩
                        · intro j hj
                          by_cases q : j < k
                          · exact HC.out j q
                          · have e : j = k := by omega
                            subst e; exact HF.out.2.2
                        · exact (HBEL.out.alloc (by have := HBEL.out.size; omega) _).grown hgrow (by have := HBEL.out.size; simp; omega) (fun b hb => (hq.lt b hb).1)
                
    · have hz := byt_ge hlt
      have ei : i = s.size := by omega
      have HT : Hid (lf s k = ⟨0, i, i, 0⟩) := by
        unfold Hid
        rw [lf_tok ?_]
        · unfold tok; rw [← HS.out, skip_here (by omega)]; unfold tokAt; rw [if_pos hz]
        · by_cases hk0 : k = 0
          · left
            have := HS.out
            rw [hk0, lq_zero, skip_here (by omega)] at this
            unfold w0; rw [← this]
            cases q : sml s i with
            | false => rfl
            | true => exact absurd (sml_in q) (by omega)
          · right; exact hk0
      have HL : Hid (tokL (lf s k) = [.int .i64 6, .int .i64 (s.size : Nat), .int .i64 0, .string ⟨#[]⟩]) := by
        unfold Hid; rw [HT.out, ei]; rfl
      have HOWN := hideR hown
      have HBEL := hideR hbel
      have HEI := hideR ei
      clear hown hbel ei
      go_wp2_with (at_builtin; refine wpList_append_lies _ (by rfl) (.tmp 91) (.tmp 95) 86 (by rfl) w.heap.size 91 i0 _ 4 40 Tryz.underlying86 hi hz0 hz1 hz2 (by rfl) (by decide) _ k (toksF (lf s) k) (by rfl) (by exact HOWN.out.alloc _) ⟨wr.heap.size, 0, none⟩ 1 1 (tokL (lf s k)) (by rfl) (by rfl) (by rw [HL.out]; exact World.news_of_block (Blk.new wr _ _)) (tokL_one _) (by decide) (by unfold maxLen; omega) (by omega) (by have := HBEL.out.size; simp; omega) _ rfl ?_; intro g cap w1 hown1 hgrow hat hlt1)
      go_ret
      have hb1 : Below w.heap.size w w1 := (HBEL.out.alloc HBEL.out.size _).grown hgrow (by have := HBEL.out.size; simp; omega) (fun b hb => (HOWN.out.lt b hb).1)
      refine ⟨k, g, cap, rfl, by omega, HC.out, ?_, hown1, ?_, hb1⟩
      · rw [HT.out]
      · exact (hown1.lt g rfl).1
end Go.Proofs.YthlmgpllapccfaaGreatDoor
/- THE DOCUMENT's ANSWER: a word that is none. -/
namespace Go.Proofs.YthlmgpllapccfaaGreatDoor
open Go.RowKit

theorem str_ne {c : ByteArray} {l : List UInt8} (h : c.data.toList ≠ l) : (c.toList == l) = false := by
  rw [ByteArray.toList_eq, beq_eq_false_iff_ne]; exact h

set_option maxRecDepth 100000 in
set_option maxHeartbeats 2000000 in
theorem asks_other (b g n cap N bd k : Nat) (f : Nat → Tok) (op : Int) (c : ByteArray) (w : World) (h : Wy w b g n cap k 0 0 op) (ht : TkS w b g n N f) (h0 : 0 < n)
    (n1 : c.data.toList ≠ [112, 114, 105, 110, 116]) (n2 : c.data.toList ≠ [103, 99, 100]) (n3 : c.data.toList ≠ [114, 111, 111, 116, 115]) (n4 : c.data.toList ≠ [115, 112, 108, 105, 116]) (n5 : c.data.toList ≠ [115, 104, 111, 119]) (n6 : c.data.toList ≠ [104, 97, 115]) (n7 : c.data.toList ≠ [115, 117, 98]) :
    Calls Tryz.prog 37 #[.pointer (some ⟨b, 0, none⟩), .pointer (some ⟨bd, 0, none⟩), .string c] w fun e w' => e = .returned (.string ⟨#[]⟩) ∧ Wy w' b g n cap k 3 (f 0).at' op ∧ Fr [b] w w' := by
  obtain ⟨c0, c1, c2, c3, c4⟩ := h.cells
  obtain ⟨d0, d1, d2, d3⟩ := ht.tk.cells h0
  have hn1 : (0 : Int) < (n : Int) := by omega
  have HW := hidV h
  have q1 := str_ne n1
  have q2 := str_ne n2
  have q3 := str_ne n3
  have q4 := str_ne n4
  have q5 := str_ne n5
  have q6 := str_ne n6
  have q7 := str_ne n7
  clear h ht n1 n2 n3 n4 n5 n6 n7
  rw [Nat.zero_mul] at d0 d1 d2 d3
  go_enter Tryz.func37, Tryz.ntmps37
  go_wp2_with (go_at_call 64; refine (wrong_first b g n cap k _ _ 0 op _ (by exact HW.out)).mono ?_; rintro e w5 ⟨rfl, h5, hf5⟩; have H5 := hidV (And.intro h5 hf5); clear h5 hf5)
  go_ret
  exact ⟨rfl, H5.out⟩
end Go.Proofs.YthlmgpllapccfaaGreatDoor
/- PLAIN: what a line comes to; all commands that ask. -/
namespace Go.Proofs.YthlmgpllapccfaaGreatDoor
open Go.RowKit

/-- A line's word. -/
def wd (s : ByteArray) : List UInt8 := (s.extract (w0 s) (w1 s)).data.toList
structure LnR where
  e : Nat
  bad : Nat
  t : List UInt8
  st : Nat → Mng
def ans (S : WS) (t : List UInt8) (st' st : Nat → Mng) : LnR := if S.e ≠ 0 then ⟨S.e, S.bad, [], st⟩ else ⟨0, 0, t, st'⟩
def ok0 (st : Nat → Mng) : Nat → Bool := fun a => decide (0 = 0) || decide ((st a).kd = 0)
def ws1 : WS := ⟨1, 0, 0⟩
/-- The name behind the word, and what it means. -/
def nm1 (f : Nat → Tok) : Nat := (f 1).c - 69
def ps1 (st : Nat → Mng) (f : Nat → Tok) : List (List Nat) := (st (nm1 f)).ps
def askS (st : Nat → Mng) (f : Nat → Tok) (c : List UInt8) : WS :=
  if c = [112, 114, 105, 110, 116] then enS f (nmS f (okS st) ws1) else if c = [115, 112, 108, 105, 116] then enS f (nmS f (okS st) ws1)
  else if c = [103, 99, 100] then enS f (ctS f (nmS f (okS st) ws1)) else if c = [114, 111, 111, 116, 115] then enS f (ctS f (nmS f (okS st) ws1)) else ⟨1, 3, (f 0).at'⟩
def askT (st : Nat → Mng) (f : Nat → Tok) (c : List UInt8) : List UInt8 :=
  if c = [112, 114, 105, 110, 116] then prn (ps1 st f) (ps1 st f).length else if c = [115, 112, 108, 105, 116] then spl (ofD (ps1 st f)) 6
  else if c = [103, 99, 100] then txt (upL (gall (lins ((f 2).v % 7) (ps1 st f)))) else if c = [114, 111, 111, 116, 115] then lsd (rts (lins ((f 2).v % 7) (ps1 st f))) 7 else []
def upd (st : Nat → Mng) (n : Nat) (m : Mng) : Nat → Mng := fun i => if i = n then m else st i
def letS (st : Nat → Mng) (f : Nat → Tok) (N : Nat) : WS := enS f (sysS f N (wtS f 65 (nmS f (ok0 st) ws1)))
/-- What a line comes to (but for those of sets). -/
def lnR (st : Nat → Mng) (s : ByteArray) : LnR :=
  if 90 < s.size then ⟨2, 0, [], st⟩ else if sml s (w0 s) = false then ⟨3, w0 s, [], st⟩
  else if wd s = [108, 101, 116] then ans (letS st (lf s) s.size) [] (upd st (nm1 (lf s)) (.sys (syR (lf s) s.size 4 3).ps)) st
  else ans (askS st (lf s) (wd s)) (askT st (lf s) (wd s)) st st

theorem byt_of {c : ByteArray} {l : List UInt8} (h : c.data.toList = l) : c = ⟨l.toArray⟩ := by
  cases c with | mk d => simp only at h; rw [← h]
theorem nmS_k {f : Nat → Tok} {ok : Nat → Bool} {s : WS} (h : (nmS f ok s).e = 0) : (nmS f ok s).k = s.k + 1 := by
  obtain ⟨h1, h2, h3⟩ := nmS_ok h
  unfold nmS
  rw [if_neg (by omega), if_pos h2, if_pos h3]
theorem ctS_k {f : Nat → Tok} {s : WS} (h : (ctS f s).e = 0) : (ctS f s).k = s.k + 1 := by
  obtain ⟨h1, h2⟩ := ctS_ok h
  unfold ctS
  rw [if_neg (by omega), if_pos h2]

theorem asks_all (b g n cap N bd : Nat) (M : List Nat) (st : Nat → Mng) (f : Nat → Tok) (c : ByteArray) (w : World) (hd : Dk w M bd st) (hbM : b ∈ M) (hbd : b ≠ bd) (h : Wy w b g n cap 1 0 0 0) (h1n : 1 < n) (ht : TkS w b g n N f)
    (n5 : c.data.toList ≠ [115, 104, 111, 119]) (n6 : c.data.toList ≠ [104, 97, 115]) (n7 : c.data.toList ≠ [115, 117, 98]) :
    Calls Tryz.prog 37 #[.pointer (some ⟨b, 0, none⟩), .pointer (some ⟨bd, 0, none⟩), .string c] w fun e w' => (∃ T, e = .returned (.string T) ∧ ((askS st f c.data.toList).e = 0 → T = bs (askT st f c.data.toList))) ∧ WyS w' b g n cap (askS st f c.data.toList) 0 ∧ Fr [b] w w' := by
  have hW : WyS w b g n cap ws1 0 := Or.inl ⟨rfl, h, h1n⟩
  by_cases c1 : c.data.toList = [112, 114, 105, 110, 116]
  · have e1 := byt_of c1
    rw [c1, e1]
    unfold askS askT
    rw [if_pos rfl, if_pos rfl]
    refine (asks_print b g n cap N bd M st f ws1 0 w hd hbM hbd hW ht).mono ?_
    rintro e w1 ⟨⟨a, ha, rfl, haa⟩, q1, q2⟩
    refine ⟨⟨_, rfl, fun hz => ?_⟩, q1, q2⟩
    obtain ⟨k1, k2, _⟩ := nmS_ok (enS_ok hz)
    have := haa k1 k2
    unfold ps1 nm1
    rw [this]; rfl
  · by_cases c2 : c.data.toList = [115, 112, 108, 105, 116]
    · have e1 := byt_of c2
      rw [c2, e1]
      unfold askS askT
      rw [if_neg (by decide), if_pos rfl, if_neg (by decide), if_pos rfl]
      refine (asks_split b g n cap N bd M st f ws1 0 w hd hbM hbd hW ht).mono ?_
      rintro e w1 ⟨⟨a, ha, ⟨T, rfl, hT⟩, haa⟩, q1, q2⟩
      refine ⟨⟨_, rfl, fun hz => ?_⟩, q1, q2⟩
      obtain ⟨k1, k2, _⟩ := nmS_ok (enS_ok hz)
      rw [hT hz, haa k1 k2]; rfl
    · by_cases c3 : c.data.toList = [103, 99, 100]
      · have e1 := byt_of c3
        rw [c3, e1]
        unfold askS askT
        rw [if_neg (by decide), if_neg (by decide), if_pos rfl, if_neg (by decide), if_neg (by decide), if_pos rfl]
        refine (asks_gcd b g n cap N bd M st f ws1 0 w hd hbM hbd hW ht).mono ?_
        rintro e w1 ⟨⟨a, u, ha, hu, ⟨T, rfl, hT⟩, haa, huu⟩, q1, q2⟩
        refine ⟨⟨_, rfl, fun hz => ?_⟩, q1, q2⟩
        obtain ⟨m1, m2⟩ := ctS_ok (enS_ok hz)
        obtain ⟨k1, k2, _⟩ := nmS_ok m1
        have hu2 := huu m1 m2
        rw [nmS_k m1] at hu2
        rw [hT hz, hu2, haa k1 k2]; rfl
      · by_cases c4 : c.data.toList = [114, 111, 111, 116, 115]
        · have e1 := byt_of c4
          rw [c4, e1]
          unfold askS askT
          rw [if_neg (by decide), if_neg (by decide), if_neg (by decide), if_pos rfl, if_neg (by decide), if_neg (by decide), if_neg (by decide), if_pos rfl]
          refine (asks_roots b g n cap N bd M st f ws1 0 w hd hbM hbd hW ht).mono ?_
          rintro e w1 ⟨⟨a, u, ha, hu, rfl, haa, huu⟩, q1, q2⟩
          refine ⟨⟨_, rfl, fun hz => ?_⟩, q1, q2⟩
          obtain ⟨m1, m2⟩ := ctS_ok (enS_ok hz)
          obtain ⟨k1, k2, _⟩ := nmS_ok m1
          have hu2 := huu m1 m2
          rw [nmS_k m1] at hu2
          rw [hu2, haa k1 k2]; rfl
        · unfold askS askT
          rw [if_neg c1, if_neg c2, if_neg c3, if_neg c4]
          refine (asks_other b g n cap N bd 1 f 0 c w h ht (by omega) c1 c3 c4 c2 n5 n6 n7).mono ?_
          rintro e w1 ⟨rfl, q1, q2⟩
          exact ⟨⟨_, rfl, fun hz => by simp at hz⟩, Or.inr ⟨by simp, 1, h1n, q1⟩, q2⟩
end Go.Proofs.YthlmgpllapccfaaGreatDoor
/- THE DOCUMENT's ANSWER: Do, but for let. -/
namespace Go.Proofs.YthlmgpllapccfaaGreatDoor
open Go.RowKit

theorem Tk.of_ownsF {w : World} {base g n cap : Nat} {f : Nat → Tok} (h : w.ownsRow base 91 4 (.slice (some ⟨g, 0, none⟩) n cap) n (toksF f n)) : Tk w g n f := by
  have hg : (Value.slice (some ⟨g, 0, none⟩) n cap).ownBlock = some g := rfl
  refine ⟨(h.lt g hg).2, fun k hk i hi => ?_⟩
  have e := toksF_get f n k i hk hi
  have hc := h.cells hg (k * 4 + i)
  rw [Addr.add_mid, Nat.zero_add] at hc
  cases q : (tokL (f k))[i]? with
  | none => simp [tokL] at q; omega
  | some u => exact hc u (by rw [e]; exact q)
theorem lf_v (s : ByteArray) (j : Nat) : (lf s j).v ≤ 99 := by
  unfold lf
  split
  · split
    · simp
    · exact (tk_facts (w1_le s).2 _).2.2.1
  · exact (tk_facts (Nat.zero_le _) _).2.2.1
theorem lf_at (s : ByteArray) : (lf s 0).at' = w0 s := by
  unfold lf
  split
  · rfl
  · unfold tk tok
    exact (tokAt_facts (w0_le s)).1
theorem rk_4 {c : Nat} (h : c ≤ 260) : rk c ≠ 4 := by
  unfold rk
  repeat' split
  all_goals first | omega | (rename_i q; have := sgn_big q; omega)
theorem lf_no {s : ByteArray} (h : sml s (w0 s) = false) : rk (lf s 0).c ≠ 4 := by
  have e : lf s 0 = tk s 0 0 := by unfold lf; rw [if_neg (by rw [h]; decide)]
  rw [e]
  exact rk_4 (tk_facts (Nat.zero_le _) 0).2.2.2

/-- How Do begins: the tokens are cut, the way is laid, the first token is looked at. -/
structure Begun (w V : World) (M : List Nat) (bd : Nat) (st : Nat → Mng) (s : ByteArray) (b g n cap tb k : Nat) : Prop where
  wy : Wy V b g n cap k 0 0 0
  tok : Blk V tb #[.int .i64 (rk (lf s 0).c), .int .i64 (lf s 0).at', .int .i64 (lf s 0).v, .string (rs (lf s 0).c)] 91
  tks : TkS V b g n s.size (lf s)
  dk : Dk V (b :: M) bd st
  fr : Fr [] w V
  b0 : w.heap.size ≤ b
  t0 : w.heap.size ≤ tb
  ne : tb ≠ b
  bd : b ≠ bd
  n0 : 0 < n
  n1 : sml s (w0 s) = true → 1 < n

theorem rDo_nil (s : ByteArray) (w : World) :
    Calls Tryz.prog 30 #[.pointer none, .string s] w fun e w' => e = .returned (.tuple #[.string ⟨#[]⟩, .int .i64 1, .int .i64 0]) ∧ w' = w := by
  go_enter Tryz.func30, Tryz.ntmps30
  go_wp2
  go_ret3
  exact ⟨rfl, rfl⟩

set_option maxRecDepth 100000 in
set_option maxHeartbeats 2000000 in
theorem rDo_ask (M : List Nat) (bd : Nat) (st : Nat → Mng) (s : ByteArray) (w : World) (hd : Dk w M bd st) (hs : s.size ≤ 140737488351232)
    (n4 : wd s ≠ [108, 101, 116]) (n5 : wd s ≠ [115, 104, 111, 119]) (n6 : wd s ≠ [104, 97, 115]) (n7 : wd s ≠ [115, 117, 98]) (n8 : wd s ≠ [115, 101, 116]) :
    Calls Tryz.prog 30 #[.pointer (some ⟨bd, 0, none⟩), .string s] w fun e w' => e = .returned (.tuple #[.string (bs (lnR st s).t), .int .i64 (lnR st s).e, .int .i64 (lnR st s).bad]) ∧ Dk w' M bd (lnR st s).st ∧ Fr [bd] w w' := by
  have HD := hidV hd
  have hbdw := hd.lt
  clear hd
  by_cases hl : 90 < s.size
  · have e : lnR st s = ⟨2, 0, [], st⟩ := by unfold lnR; rw [if_pos hl]
    rw [e]
    have hl' : (90 : Int) < ((s.size : Nat) : Int) := by omega
    go_enter Tryz.func30, Tryz.ntmps30
    go_wp2
    go_ret3
    exact ⟨rfl, HD.out, Fr.refl _ _⟩
  · have hl' : ¬ (90 : Int) < ((s.size : Nat) : Int) := by omega
    have HNW : Hid (wd s ≠ [115, 104, 111, 119] ∧ wd s ≠ [104, 97, 115] ∧ wd s ≠ [115, 117, 98]) := ⟨n5, n6, n7⟩
    have HN4 := hidV n4
    have HN8 := hidV n8
    have HLN : Hid (lnR st s = if sml s (w0 s) = false then ⟨3, w0 s, [], st⟩ else ans (askS st (lf s) (wd s)) (askT st (lf s) (wd s)) st st) := by
      unfold Hid lnR; rw [if_neg hl, if_neg n4]
    obtain ⟨R, HR⟩ : ∃ R, Hid (lnR st s = R) := ⟨_, hidV rfl⟩
    rw [HR.out] at HLN ⊢
    clear n4 n5 n6 n7 n8
    go_enter Tryz.func30, Tryz.ntmps30
    go_wp2_with fail
    refine (cut_line s _ (by omega)).mono ?_
    rintro e w1 ⟨n, g, cap, rfl, hn, hc1, hc2, hown, hgb, hbel⟩
    have HT1 := hidV (Tk.of_ownsF hown)
    have hg1 : g < w1.heap.size := HT1.out.1
    have F1 : Hid (Fr [] w w1) := Fr.of_below hbel
    have HEND : Hid (∀ j, j < n + 1 → (lf s j).c ≠ 0 → j + 1 < n + 1) := fun j hj hne => by
      by_cases q : j = n
      · subst q; exact absurd hc2 hne
      · omega
    have HN1 : Hid (sml s (w0 s) = true → 1 < n + 1) := fun h => HEND.out 0 (by omega) (by rw [lf_word h]; dsimp only; omega)
    have HDK : Hid (Dk w1 (w1.heap.size :: M) bd st) := (HD.out.fr F1.out (by simp) (by simp)).more (Nat.le_refl _)
    have hsz1 := hbel.size
    clear hown hbel hc1 hc2
    have FA : Hid (Fr [] w1 (w1.alloc (.cells #[.slice (some ⟨g, 0, none⟩) (n + 1) cap, .int .i64 0, .int .i64 0, .int .i64 0, .int .i64 0] 89))) := (Fr.refl [] w1).alloc _
    have HW1 : Hid (Wy (w1.alloc (.cells #[.slice (some ⟨g, 0, none⟩) (n + 1) cap, .int .i64 0, .int .i64 0, .int .i64 0, .int .i64 0] 89)) w1.heap.size g (n + 1) cap 0 0 0 0) := Blk.new w1 _ _
    have HT2 := hidV (HT1.out.fr FA.out (by simp))
    go_wp2_with fail
    refine (next_any w1.heap.size g (n + 1) cap 0 (lf s) 0 0 0 _ HW1.out HT2.out (by omega) (by omega)).mono ?_
    rintro e w2 ⟨rfl, hb2⟩
    have F2 : Hid (Fr [] w1 w2) := FA.out.trans (Fr.of_below (bs := []) hb2) (by simp)
    have hsz2 : w1.heap.size < w2.heap.size := by have := hb2.size; simp at this; omega
    have HBG : Hid (Begun w (w2.alloc (.cells #[.int .i64 (rk (lf s 0).c), .int .i64 (lf s 0).at', .int .i64 (lf s 0).v, .string (rs (lf s 0).c)] 91)) M bd st s w1.heap.size g (n + 1) cap w2.heap.size 0) := by
      have F3 : Fr [] w1 (w2.alloc (.cells #[.int .i64 (rk (lf s 0).c), .int .i64 (lf s 0).at', .int .i64 (lf s 0).v, .string (rs (lf s 0).c)] 91)) := F2.out.alloc _
      have F4 : Fr [] (w1.alloc (.cells #[.slice (some ⟨g, 0, none⟩) (n + 1) cap, .int .i64 0, .int .i64 0, .int .i64 0, .int .i64 0] 89)) (w2.alloc (.cells #[.int .i64 (rk (lf s 0).c), .int .i64 (lf s 0).at', .int .i64 (lf s 0).v, .string (rs (lf s 0).c)] 91)) := (Fr.of_below hb2).alloc _
      exact ⟨Blk.fr HW1.out F4 (by simp), Blk.new w2 _ _, ⟨HT2.out.fr F4 (by simp), by omega, by omega, HEND.out, lf_v s, by omega⟩, HDK.out.fr F3 (by simp) (by simp), F1.out.trans F3 (by simp), hsz1, by omega, by omega, by omega, by omega, HN1.out⟩
    clear HW1 HT2 FA F2 HT1 hb2 HEND HN1 HDK F1
    go_upto_region 7 with fail
    refine wp_forget (fun V => Begun w V M bd st s w1.heap.size g (n + 1) cap w2.heap.size 0) HBG.out ?_
    rintro V hV
    clear HBG
    generalize w1.heap.size = b at *
    generalize w2.heap.size = tb at *
    clear w1 w2
    have HV := hidV hV
    obtain ⟨t0, t1, t2, t3⟩ := hV.tok.cells4
    obtain ⟨c0, c1, c2, c3, c4⟩ := hV.wy.cells
    obtain ⟨f0, f1, f2, f3, f4⟩ := hV.wy.free
    have htb := hV.ne
    clear hV
    by_cases hsm : sml s (w0 s) = false
    · have q : (rk (lf s 0).c != 4) = true := by rw [bne_iff_ne]; exact lf_no hsm
      rw [if_pos hsm] at HLN
      have HAT := hidV (lf_at s)
      generalize rk (lf s 0).c = RK at *
      generalize rs (lf s 0).c = RS at *
      generalize (lf s 0).at' = AT at *
      generalize (lf s 0).v = VV at *
      go_wp2
      go_quiet (fail)
      go_wp2
      go_ret3
      rw [HLN.out]
      refine ⟨by rw [HAT.out]; rfl, ?_, ?_⟩
      · exact (HV.out.dk.fr ((Fr.refl [] V).drewN _) (by simp) (by simp)).less HD.out.mem
      · exact (HV.out.fr.drewN _).mono (by simp)
    · have hsm1 : sml s (w0 s) = true := by cases q : sml s (w0 s) with | true => rfl | false => exact absurd q hsm
      have hw := lf_word hsm1
      have hrk := rk_word (s.extract (w0 s) (w1 s))
      rw [if_neg hsm] at HLN
      have h4 : rk (lf s 0).c = 4 := by rw [hw]; exact hrk.1
      have hS : rs (lf s 0).c = s.extract (w0 s) (w1 s) := by rw [hw]; exact hrk.2
      have HWD : Hid (wd s = (s.extract (w0 s) (w1 s)).data.toList) := rfl
      have HH4 := hidV h4
      have HHS := hidV hS
      rw [h4] at t0
      rw [hS] at t3
      clear hw hrk h4 hS hsm
      have HN1 := hidV (HV.out.n1 hsm1)
      clear hsm1
      go_upto_region 10 with fail
      refine wp_forget (fun V2 => Begun w V2 M bd st s b g (n + 1) cap tb 1) ?_ ?_
      · have hf : Fr [b] V (V.setCell ⟨b, 1, none⟩ (.int .i64 1)) := (Fr.refl [b] V).setCell _ _ (Or.inl (by simp))
        have hh := HV.out
        exact ⟨Blk.set hh.wy 1 _, hh.tok.fr hf (by simp; exact hh.ne), hh.tks.fr hf (by simp; exact fun q => hh.tks.ne q.symm), hh.dk.fr hf (by simp; exact fun q => hh.bd q.symm) (by simp), hh.fr.trans hf (by simp; exact hh.b0), hh.b0, hh.t0, hh.ne, hh.bd, hh.n0, hh.n1⟩
      rintro V2 hV2
      clear HV t0 t1 t2 t3 c0 c1 c2 c3 c4 f0 f1 f2 f3 f4
      clear V
      have HV := hidV hV2
      obtain ⟨t0, t1, t2, t3⟩ := hV2.tok.cells4
      obtain ⟨c0, c1, c2, c3, c4⟩ := hV2.wy.cells
      clear hV2
      rw [HHS.out] at t3
      have hQ4 : (s.extract (w0 s) (w1 s)).data.toList ≠ [108, 101, 116] := HN4.out
      have hQ8 : (s.extract (w0 s) (w1 s)).data.toList ≠ [115, 101, 116] := HN8.out
      have q4 := str_ne hQ4
      have q8 := str_ne hQ8
      have HASK := hidV (asks_all b g (n + 1) cap s.size bd (b :: M) st (lf s) (s.extract (w0 s) (w1 s)) V2 HV.out.dk (by simp) HV.out.bd HV.out.wy HN1.out HV.out.tks HNW.out.1 HNW.out.2.1 HNW.out.2.2)
      clear hQ4 hQ8
      generalize s.extract (w0 s) (w1 s) = S at *
      rw [HWD.out] at HLN
      generalize askS st (lf s) S.data.toList = S2 at *
      generalize askT st (lf s) S.data.toList = TX at *
      have hbl : b < V2.heap.size := HV.out.wy.lt
      by_cases hz : S2.e = 0
      · have hR : R = ⟨0, 0, TX, st⟩ := by rw [HLN.out]; unfold ans; rw [if_neg (by omega)]
        subst hR
        go_wp2_with (go_at_call 37; refine HASK.out.mono ?_; rintro e w5 ⟨⟨T, rfl, hT⟩, hW5, hf5⟩; obtain ⟨k5, hk5, hw5⟩ : ∃ k', k' < n + 1 ∧ Wy w5 b g (n + 1) cap k' 0 0 0 := (by rcases hW5 with ⟨_, x1, x2⟩ | ⟨x1, _⟩; exact ⟨_, x2, x1⟩; exact absurd hz x1); obtain ⟨d0, d1, d2, d3, d4⟩ := hw5.cells; have HT := hidV (hT hz); have HF5 := hidV hf5; clear hT hW5 hf5 hw5)
        go_ret3
        refine ⟨by rw [HT.out]; rfl, ?_, ?_⟩
        · exact (HV.out.dk.fr HF5.out (by simp; exact fun q => HV.out.bd q.symm) (by simp)).less HD.out.mem
        · exact (HV.out.fr.trans HF5.out (by simp; exact HV.out.b0)).mono (by simp)
      · have hR : R = ⟨S2.e, S2.bad, [], st⟩ := by rw [HLN.out]; unfold ans; rw [if_pos hz]
        subst hR
        have q : ((S2.e : Int) != 0) = true := by rw [bne_iff_ne]; omega
        go_wp2_with (go_at_call 37; refine HASK.out.mono ?_; rintro e w5 ⟨⟨T, rfl, hT⟩, hW5, hf5⟩; obtain ⟨k5, hk5, hw5⟩ : ∃ k', k' < n + 1 ∧ Wy w5 b g (n + 1) cap k' S2.e S2.bad 0 := (by rcases hW5 with ⟨x1, _⟩ | ⟨_, x1⟩; exact absurd x1 hz; exact x1); obtain ⟨d0, d1, d2, d3, d4⟩ := hw5.cells; have HF5 := hidV hf5; clear hT hW5 hf5 hw5)
        go_quiet (fail)
        go_wp2
        go_ret3
        refine ⟨rfl, ?_, ?_⟩
        · exact (HV.out.dk.fr (HF5.out.drewN _) (by simp; exact fun q => HV.out.bd q.symm) (by simp)).less HD.out.mem
        · exact (HV.out.fr.trans (HF5.out.drewN _) (by simp; exact HV.out.b0)).mono (by simp)
end Go.Proofs.YthlmgpllapccfaaGreatDoor
/- THE READER: words, names. -/
namespace Go.Proofs.YthlmgpllapccfaaGreatDoor
open Go.RowKit
variable {M : Value} {D : Int} {O : Bool}

set_option maxHeartbeats 1000000 in
theorem wordEnd_any (s : ByteArray) (i : Nat) (a : Int) (w : World) (ha : a = i) (hs : s.size ≤ 1000) (hi : i ≤ s.size) :
    Calls Tryz.prog 96 #[.string s, .int .i64 a] w fun e w' => e = .returned (.int .i64 (wend s i)) ∧ w' = w := by
  subst ha
  go_enter Tryz.func96, Tryz.ntmps96
  go_wp2
  go_loop [1] (fun v => ∃ k : Nat, k ≤ s.size ∧ v = .int .i64 k ∧ Hid (wend s k = wend s i)) (fun v => s.size - (intOf v).toNat)
  case atStart => exact ⟨i, hi, rfl, rfl⟩
  case round =>
    obtain ⟨k, hk, rfl, HK⟩ := hrel
    by_cases hlt : k < s.size
    · have hb := byt_cast hlt
      by_cases h1 : 97 ≤ byt s k
      · by_cases h2 : byt s k ≤ 122
        · have H2 : Hid (wend s (k + 1) = wend s i) := by unfold Hid; rw [← wend_step ((sml_iff s k).2 ⟨h1, h2⟩)]; exact HK.out
          go_wp2
          go_round
          case rel => exact ⟨k + 1, by omega, by go_num, H2⟩
          case measure => simp [intOf]; omega
        · have H2 : Hid (wend s i = k) := by unfold Hid; rw [← HK.out, wend_here (by rw [sml_iff]; omega)]
          go_wp2
          go_ret
          exact ⟨by rw [H2.out]; rfl, rfl⟩
      · have H2 : Hid (wend s i = k) := by unfold Hid; rw [← HK.out, wend_here (by rw [sml_iff]; omega)]
        go_wp2
        go_ret
        exact ⟨by rw [H2.out]; rfl, rfl⟩
    · have hz := byt_ge hlt
      have H2 : Hid (wend s i = k) := by unfold Hid; rw [← HK.out, wend_here (by rw [sml_iff]; omega)]
      go_wp2
      go_ret
      exact ⟨by rw [H2.out]; rfl, rfl⟩

set_option maxHeartbeats 1000000 in
theorem pWord_any (s : ByteArray) (b : Nat) (w : World) (hs : s.size ≤ 1000) (hr : Rd w b s M D O (tok s 0)) :
    Calls Tryz.prog 72 #[.pointer (some ⟨b, 0, none⟩)] w fun e w' => e = .returned (.string (s.extract (w0 s) (w1 s))) ∧ Rd w' b s M D O (tok s (w1 s)) ∧ Fr [b] w w' := by
  obtain ⟨c0, c1, c2, c3, c4⟩ := hr.cells
  obtain ⟨f0, f1, f2, f3, f4⟩ := hr.free
  have hb : b < w.heap.size := Blk.lt hr
  have hat : (tok s 0).at' = w0 s := (tokAt_facts (w0_le s)).1
  rw [hat] at c2
  have h0 := w0_le s
  have h1 := w1_le s
  have HR := hidV hr
  have HW : Hid (w1 s = wend s (w0 s)) := rfl
  clear hr hat
  generalize w0 s = i at *
  generalize hj : w1 s = j at *
  clear hj
  go_enter Tryz.func72, Tryz.ntmps72
  go_wp2_with (first | (go_at_call 96; refine (wordEnd_any s i _ _ (by omega) (by omega) (by omega)).mono ?_; rintro e w1 ⟨rfl, rfl⟩; rw [← HW.out]) | (go_at_call 95; refine (tokenAt_any s j _ _ (by omega) (by omega) (by omega)).mono ?_; rintro e w1 ⟨rfl, hbel⟩; have HR1 : Hid (Rd w1 b s M D O (tok s 0)) := Blk.fr HR.out (Fr.of_below (bs := []) hbel) (by simp); obtain ⟨d0, d1, d2, d3, d4⟩ := Rd.cells HR1.out; obtain ⟨g0, g1, g2, g3, g4⟩ := Rd.free HR1.out))
  go_ret
  refine ⟨rfl, Rd.store HR1.out (tok s j), ?_⟩
  repeat (refine Fr.setCell ?_ _ _ (by simp))
  exact Fr.of_below hbel

/-- The line's tokens as a stream. -/
theorem pos_far {s : ByteArray} {a : Nat} (h : a ≤ s.size) : ∀ k, (tk s a k).c ≠ 0 → a + k < (tk s a k).to
  | 0, q => (tok_facts (pos_le h 0)).2.2.2.2.2.2 q
  | k + 1, q => by
    have h1 := (tok_facts (pos_le h (k + 1))).2.2.2.2.2.2 q
    by_cases g : (tk s a k).c = 0
    · have z := (tok_facts (pos_le h k)).2.2.2.2.2.1.1 g
      have y := (tok_facts (pos_le h k)).2.1
      have x := (tok_facts (pos_le h k)).2.2.1
      have w : pos s a (k + 1) = s.size := by show (tok s (pos s a k)).to = s.size; omega
      have v := (tok_facts (pos_le h (k + 1))).2.2.1
      show a + (k + 1) < (tok s (pos s a (k + 1))).to
      omega
    · have h2 := pos_far h k g
      have e : pos s a (k + 1) = (tk s a k).to := rfl
      show a + (k + 1) < (tok s (pos s a (k + 1))).to
      omega
theorem strLf (s : ByteArray) : Str s (lf s) := by
  cases hs : sml s (w0 s) with
  | false =>
    have e : lf s = tk s 0 := by funext k; unfold lf; rw [if_neg (by rw [hs]; decide)]
    rw [e]; exact Str.tk (Nat.zero_le _)
  | true =>
    have h1 := w1_le s
    have h2 : w0 s < w1 s := by
      have := wend_step hs
      have := (wend_facts (s := s) (i := w0 s + 1) (by have := sml_in hs; omega)).1
      unfold w1; omega
    refine ⟨fun k => ?_, fun k => ?_, fun {k} hk => ?_⟩
    · cases k with
      | zero => rw [lf_word hs, lf_rest hs]; rfl
      | succ k => rw [lf_rest hs, lf_rest hs]; rfl
    · cases k with
      | zero => rw [lf_word hs]; exact ⟨w0_le s, h1.2, by simp⟩
      | succ k => rw [lf_rest hs]; have := tk_facts h1.2 k; exact ⟨this.1, this.2.1, this.2.2.1⟩
    · cases k with
      | zero => have := sml_in hs; omega
      | succ k =>
        rw [lf_rest hs] at hk
        have := pos_far h1.2 k hk
        have := (tk_facts h1.2 k).2.1
        omega
/-- The byte of a name. -/
def Nam (s : ByteArray) (f : Nat → Tok) : Prop := ∀ k, isN (f k) = true → byt s (f k).at' + 4 = (f k).c ∧ (f k).at' < s.size
theorem tokAt_name {s : ByteArray} {i : Nat} (h : isN (tokAt s i) = true) : byt s (tokAt s i).at' + 4 = (tokAt s i).c ∧ (tokAt s i).at' < s.size := by
  rw [isN_iff] at h
  unfold tokAt at *
  by_cases h0 : byt s i = 256
  · rw [if_pos h0] at h; simp at h
  · rw [if_neg h0] at h ⊢
    by_cases h1 : isD s i = true
    · rw [if_pos h1] at h; split at h <;> simp at h
    · rw [if_neg h1] at h ⊢
      by_cases h2 : byt s i = 117
      · rw [if_pos h2] at h; split at h <;> simp at h
      · rw [if_neg h2] at h ⊢
        by_cases h3 : byt s i = 120
        · rw [if_pos h3] at h; split at h <;> simp at h
        · rw [if_neg h3]; exact ⟨rfl, byt_in h0⟩
theorem namLf (s : ByteArray) : Nam s (lf s) := by
  intro k h
  cases hs : sml s (w0 s) with
  | false =>
    have e : lf s k = tk s 0 k := by unfold lf; rw [if_neg (by rw [hs]; decide)]
    rw [e] at h ⊢
    exact tokAt_name h
  | true =>
    cases k with
    | zero => rw [lf_word hs, isN_iff] at h; simp at h; omega
    | succ k => rw [lf_rest hs] at h ⊢; exact tokAt_name h

theorem pk_4 {c : Nat} : pk c = 4 ↔ 69 ≤ c ∧ c ≤ 94 := by
  unfold pk
  constructor
  · intro h
    repeat' split at h
    all_goals omega
  · intro h
    rw [if_neg (by omega), if_neg (by omega), if_neg (by omega), if_neg (by omega), if_pos h]
theorem pk_8 {c : Nat} : pk c = 8 ↔ c = 65 := by
  unfold pk
  constructor
  · intro h
    repeat' split at h
    all_goals omega
  · intro h; subst h; rfl
theorem pk_7 {c : Nat} : pk c = 7 ↔ c = 48 := by
  unfold pk
  constructor
  · intro h
    repeat' split at h
    all_goals omega
  · intro h; subst h; rfl
theorem pk_1 {c : Nat} : pk c = 1 ↔ c = 1 := by
  unfold pk
  constructor
  · intro h
    repeat' split at h
    all_goals omega
  · intro h; subst h; rfl
theorem pk_0 {c : Nat} : pk c = 0 ↔ c = 0 := by
  unfold pk
  constructor
  · intro h
    repeat' split at h
    all_goals omega
  · intro h; subst h; rfl

/-- What a step of the reading ends in. -/
def RP (w : World) (b : Nat) (s : ByteArray) (M : Value) (D : Int) (O : Bool) (f : Nat → Tok) (S : WS) (V : Value → World → Prop) (e : Ending) (w' : World) : Prop :=
  (S.e = 0 ∧ ∃ v, e = .returned v ∧ V v w' ∧ Rd w' b s M D O (f S.k) ∧ Fr [b] w w') ∨ (S.e ≠ 0 ∧ e = .panicked (faulty S.e S.bad) ∧ Fr [b] w w')

end Go.Proofs.YthlmgpllapccfaaGreatDoor
/- THE READER: a new name; a name that means a system. -/
namespace Go.Proofs.YthlmgpllapccfaaGreatDoor
open Go.RowKit
variable {M : Value} {D : Int} {O : Bool}

theorem wt_nm_bad {f : Nat → Tok} {ok : Nat → Bool} {k : Nat} (h : ¬ isN (f k) = true) : wtS f 65 (nmS f ok ⟨k, 0, 0⟩) = ⟨k, 4, (f k).at'⟩ := by
  unfold nmS wtS; simp [h]
theorem wt_nm_eq {f : Nat → Tok} {ok : Nat → Bool} {k : Nat} (h : isN (f k) = true) (hok : ∀ a, ok a = true) : wtS f 65 (nmS f ok ⟨k, 0, 0⟩) = if (f (k + 1)).c = 65 then ⟨k + 1 + 1, 0, 0⟩ else ⟨k + 1, 4, (f (k + 1)).at'⟩ := by
  unfold nmS wtS; simp [h, hok]

set_option maxHeartbeats 1000000 in
theorem newName_any (s : ByteArray) (f : Nat → Tok) (k b : Nat) (ok : Nat → Bool) (w : World) (hs : s.size ≤ 1000) (ha : Str s f) (hn : Nam s f) (hr : Rd w b s M D O (f k)) (hok : ∀ a, ok a = true) :
    Calls Tryz.prog 73 #[.pointer (some ⟨b, 0, none⟩)] w (RP w b s M D O f (wtS f 65 (nmS f ok ⟨k, 0, 0⟩)) (fun v _ => v = .int .u8 ((f k).c - 4 : Nat))) := by
  have HR := hidV hr
  have HA := hidV ha
  have hb : b < w.heap.size := Blk.lt hr
  clear hr ha
  by_cases h1 : isN (f k) = true
  · rw [wt_nm_eq h1 hok]
    have HPK : Hid (pk (f k).c = 4) := pk_4.2 ((isN_iff _).1 h1)
    obtain ⟨hby, hin⟩ := hn k h1
    have hbc := byt_cast hin
    have hc4 : (f k).c - 4 = byt s (f k).at' := by omega
    rw [hc4]
    have hbs := byt_small hin
    by_cases h2 : (f (k + 1)).c = 65
    · rw [if_pos h2]
      have HPK2 : Hid (pk (f (k + 1)).c = 8) := pk_8.2 h2
      clear hby hc4 h2
      go_enter Tryz.func73, Tryz.ntmps73
      go_wp2_with fail
      refine (expect_ok s f k b 4 _ (by omega) HA.out HR.out HPK.out).mono ?_
      rintro e w1 ⟨rfl, hr1, hf1⟩
      have HR1 := hidV hr1
      have HF1 := hidV hf1
      have hb1 : b < w1.heap.size := Blk.lt hr1
      clear hr1 hf1
      have HF2 : Hid (Fr [b] w (w1.alloc (.cells #[.int .i64 4, .int .i64 (f k).at', .int .i64 (f k).to, .int .i64 (f k).v] 102))) := HF1.out.alloc _
      have HB2 : Hid (Blk (w1.alloc (.cells #[.int .i64 4, .int .i64 (f k).at', .int .i64 (f k).to, .int .i64 (f k).v] 102)) w1.heap.size #[.int .i64 4, .int .i64 (f k).at', .int .i64 (f k).to, .int .i64 (f k).v] 102) := Blk.new w1 _ _
      go_wp2_with fail
      refine (expect_ok s f (k + 1) b 8 _ (by omega) HA.out (by exact Blk.alloc HR1.out _) HPK2.out).mono ?_
      rintro e w2 ⟨rfl, hr2, hf2⟩
      have HR2 := hidV hr2
      have HF3 : Hid (Fr [b] w w2) := HF2.out.trans hf2 (by simp)
      have hb2 := HB2.out.fr hf2 (by simp; omega)
      have t1 : w2.cell? ⟨w1.heap.size, 1, none⟩ = some (.int .i64 (f k).at') := hb2.cell 1
      have c0 := hr2.cells.1
      clear hr2 hf2 hb2
      go_wp2
      go_quiet (fail)
      go_wp2
      go_ret
      exact Or.inl ⟨rfl, _, rfl, rfl, HR2.out, HF3.out.drewN _⟩
    · rw [if_neg h2]
      have HPK2 : Hid (pk (f (k + 1)).c ≠ 8) := fun q => h2 (pk_8.1 q)
      clear hby hc4 h2
      go_enter Tryz.func73, Tryz.ntmps73
      go_wp2_with fail
      refine (expect_ok s f k b 4 _ (by omega) HA.out HR.out HPK.out).mono ?_
      rintro e w1 ⟨rfl, hr1, hf1⟩
      have HR1 := hidV hr1
      have HF1 := hidV hf1
      have hb1 : b < w1.heap.size := Blk.lt hr1
      clear hr1 hf1
      have HF2 : Hid (Fr [b] w (w1.alloc (.cells #[.int .i64 4, .int .i64 (f k).at', .int .i64 (f k).to, .int .i64 (f k).v] 102))) := HF1.out.alloc _
      go_wp2_with fail
      refine (expect_not s (f (k + 1)) b 8 _ (by exact Blk.alloc HR1.out _) HPK2.out).mono ?_
      rintro e w2 ⟨rfl, hf2⟩
      go_wp2
      exact ⟨rfl, Or.inr ⟨by simp, rfl, HF2.out.trans hf2 (by simp)⟩⟩
  · rw [wt_nm_bad h1]
    have HPK : Hid (pk (f k).c ≠ 4) := fun q => h1 ((isN_iff _).2 (pk_4.1 q))
    go_enter Tryz.func73, Tryz.ntmps73
    go_wp2_with fail
    refine (expect_not s (f k) b 4 _ HR.out HPK.out).mono ?_
    rintro e w2 ⟨rfl, hf2⟩
    go_wp2
    exact ⟨rfl, Or.inr ⟨by simp, rfl, hf2⟩⟩

/-- What the program's map has for a meaning; Ms: the blocks that may be written. -/
def NV (w : World) (Ms : List Nat) : Mng → Option Value → Prop
  | .non, o => o = none
  | .sys ps, o => ∃ g cap, o = some (.iface 136 (.slice (some ⟨g, 0, none⟩) ps.length cap)) ∧ Sy w g ps ∧ Goods ps ∧ ps ≠ [] ∧ ps.length ≤ 4 ∧ g ∉ Ms
  | .set b, o => o = some (.iface 155 (.agg (bv b)))
theorem NV.fr {bs : List Nat} {w w' : World} {Ms : List Nat} {m : Mng} {o : Option Value} (h : NV w Ms m o) (hf : Fr bs w w') (hs : ∀ x ∈ bs, x ∈ Ms ∨ w.heap.size ≤ x) : NV w' Ms m o := by
  cases m with
  | sys ps =>
    obtain ⟨g, cap, h1, h2, h3, h4, h5, h6⟩ := h
    exact ⟨g, cap, h1, h2.fr hf (fun hx => by rcases hs g hx with q | q; exact h6 q; have := h2.1; omega), h3, h4, h5, h6⟩
  | non => exact h
  | set b => exact h
theorem NV.more {w : World} {Ms : List Nat} {m : Mng} {o : Option Value} (h : NV w Ms m o) {x : Nat} (hx : w.heap.size ≤ x) : NV w (x :: Ms) m o := by
  cases m with
  | sys ps =>
    obtain ⟨g, cap, h1, h2, h3, h4, h5, h6⟩ := h
    exact ⟨g, cap, h1, h2, h3, h4, h5, fun q => by
      rw [List.mem_cons] at q
      rcases q with q | q
      · have := h2.1; omega
      · exact h6 q⟩
  | non => exact h
  | set b => exact h
/-- The program's names in memory. -/
structure Nm (w : World) (Ms : List Nat) (bm : Nat) (st : Nat → Mng) : Prop where
  mp : ∃ es clock, w.heap[bm]? = some (.map es clock) ∧ KeysU es.toList ∧ ∀ n, n < 26 → NV w Ms (st n) (mget ((n + 65 : Nat) : Int) es.toList)
  mem : bm ∈ Ms
theorem Nm.lt {w : World} {Ms : List Nat} {bm : Nat} {st : Nat → Mng} (h : Nm w Ms bm st) : bm < w.heap.size := by
  obtain ⟨⟨es, clock, h1, _⟩, _⟩ := h
  rcases Nat.lt_or_ge bm w.heap.size with q | q
  · exact q
  · rw [Array.getElem?_eq_none q] at h1; simp at h1
theorem Nm.fr {bs : List Nat} {w w' : World} {Ms : List Nat} {bm : Nat} {st : Nat → Mng} (h : Nm w Ms bm st) (hf : Fr bs w w') (hb : bm ∉ bs) (hs : ∀ x ∈ bs, x ∈ Ms ∨ w.heap.size ≤ x) : Nm w' Ms bm st := by
  have hl := h.lt
  obtain ⟨⟨es, clock, h1, h2, h3⟩, hm⟩ := h
  exact ⟨⟨es, clock, by rw [hf.block bm hl hb]; exact h1, h2, fun n hn => (h3 n hn).fr hf hs⟩, hm⟩
theorem Nm.more {w : World} {Ms : List Nat} {bm : Nat} {st : Nat → Mng} (h : Nm w Ms bm st) {x : Nat} (hx : w.heap.size ≤ x) : Nm w (x :: Ms) bm st := by
  obtain ⟨⟨es, clock, h1, h2, h3⟩, hm⟩ := h
  exact ⟨⟨es, clock, h1, h2, fun n hn => (h3 n hn).more hx⟩, by simp [hm]⟩
/-- A look into the map. -/
theorem Nm.look {w : World} {Ms : List Nat} {bm : Nat} {st : Nat → Mng} (h : Nm w Ms bm st) {n : Nat} (hn : n < 26) :
    ∃ o, NV w Ms (st n) o ∧ ∀ w', (∀ k, k = bm → w'.heap[k]? = w.heap[k]?) → (Instr.lookup 69 (.map (some bm)) (.int .u8 ((n + 65 : Nat) : Int)) false).run Tryz.prog w' = .ok (o.getD .nilIface) w' := by
  obtain ⟨⟨es, clock, h1, h2, h3⟩, hm⟩ := h
  refine ⟨_, h3 n hn, fun w' hw => ?_⟩
  exact run_lookup_u8 Tryz.underlying69 Tryz.underlying5 (by kernel_rfl) (by rw [hw bm rfl]; exact h1) h2 _

end Go.Proofs.YthlmgpllapccfaaGreatDoor
/- THE READER: a name that means a system, a set. -/
namespace Go.Proofs.YthlmgpllapccfaaGreatDoor
open Go.RowKit
variable {D : Int} {O : Bool}

theorem nm_bad {f : Nat → Tok} {ok : Nat → Bool} {k : Nat} (h : ¬ isN (f k) = true) : nmS f ok ⟨k, 0, 0⟩ = ⟨k, 4, (f k).at'⟩ := by
  unfold nmS; simp [h]
theorem nm_eq {f : Nat → Tok} {ok : Nat → Bool} {k : Nat} (h : isN (f k) = true) : nmS f ok ⟨k, 0, 0⟩ = if ok ((f k).c - 69) = true then ⟨k + 1, 0, 0⟩ else ⟨k, 6, (f k).at'⟩ := by
  unfold nmS; simp [h]

set_option maxHeartbeats 1000000 in
theorem namedSys_any (s : ByteArray) (f : Nat → Tok) (k b bm : Nat) (Ms : List Nat) (st : Nat → Mng) (ok : Nat → Bool) (w : World) (hs : s.size ≤ 1000) (ha : Str s f) (hn : Nam s f) (hr : Rd w b s (.map (some bm)) D O (f k)) (hm : Nm w Ms bm st) (hbm : b ≠ bm) (hbM : b ∈ Ms) (hok : ∀ a, ok a = decide ((st a).kd = 1)) :
    Calls Tryz.prog 75 #[.pointer (some ⟨b, 0, none⟩)] w (RP w b s (.map (some bm)) D O f (nmS f ok ⟨k, 0, 0⟩) (fun v w' => NV w' Ms (st ((f k).c - 69)) (some (.iface 136 v)))) := by
  have HR := hidV hr
  have HA := hidV ha
  have hb : b < w.heap.size := Blk.lt hr
  clear hr ha
  by_cases h1 : isN (f k) = true
  · rw [nm_eq h1, hok]
    have HPK : Hid (pk (f k).c = 4) := pk_4.2 ((isN_iff _).1 h1)
    have hci := (isN_iff _).1 h1
    obtain ⟨hby, hin⟩ := hn k h1
    have hbc := byt_cast hin
    have hbs := byt_small hin
    obtain ⟨a, HAA, ha26, hca⟩ : ∃ a, Hid ((f k).c - 69 = a) ∧ a < 26 ∧ byt s (f k).at' = a + 65 := ⟨_, hidV rfl, by omega, by omega⟩
    rw [HAA.out]
    rw [hca] at hbc
    obtain ⟨o, hnv, hlk⟩ := hm.look ha26
    have HM := hidV hm
    have HNV := hidV hnv
    have hbml := hm.lt
    clear hm hby hci
    obtain ⟨S, HS⟩ : ∃ S, Hid ((if decide ((st a).kd = 1) = true then (⟨k + 1, 0, 0⟩ : WS) else ⟨k, 6, (f k).at'⟩) = S) := ⟨_, hidV rfl⟩
    rw [HS.out]
    go_enter Tryz.func75, Tryz.ntmps75
    go_wp2_with fail
    refine (expect_ok s f k b 4 _ (by omega) HA.out HR.out HPK.out).mono ?_
    rintro e w1 ⟨rfl, hr1, hf1⟩
    have HR1 := hidV hr1
    have HF1 := hidV hf1
    have hb1 : b < w1.heap.size := Blk.lt hr1
    have c0 := hr1.cells.1
    have c1 := hr1.more.1

    clear hr1 hf1 c0 c1 hnv
    have ta1 : ∀ (v : Value) (w : World), (Instr.typeAssert (.iface 136 v) 139 136 true).run Tryz.prog w = .ok (.tuple #[v, .bool true]) w := fun _ _ => by kernel_rfl
    have ta2 : ∀ (v : Value) (w : World), (Instr.typeAssert (.iface 155 v) 139 136 true).run Tryz.prog w = .ok (.tuple #[.slice none 0 0, .bool false]) w := fun _ _ => by kernel_rfl
    have ta3 : ∀ (w : World), (Instr.typeAssert .nilIface 139 136 true).run Tryz.prog w = .ok (.tuple #[.slice none 0 0, .bool false]) w := fun _ => by kernel_rfl
    go_wp2
    refine wp_forget (fun V => Rd V b s (.map (some bm)) D O (f (k + 1)) ∧ Blk V w1.heap.size #[.int .i64 4, .int .i64 (f k).at', .int .i64 (f k).to, .int .i64 (f k).v] 102 ∧ Fr [b] w V) ⟨Blk.alloc HR1.out _, Blk.new w1 _ _, HF1.out.alloc _⟩ ?_
    rintro V ⟨hrV, hbV, hfV⟩
    have hlV := fun n => hlk (V.drewN n) (fun q hq => by subst hq; exact (hfV.drewN n).block _ hbml (by simp; exact fun q => hbm q.symm))
    rw [show ((a + 65 : Nat) : Int) = (a : Int) + 65 by omega] at hlV
    have c0 := hrV.cells.1
    have c1 := hrV.more.1
    have t1 : V.cell? ⟨w1.heap.size, 1, none⟩ = some (.int .i64 (f k).at') := hbV.cell 1
    have HRV := hidV hrV
    have HFV := hidV hfV
    have HMV := hidV (HM.out.fr hfV (by simp; exact fun q => hbm q.symm) (by simp [hbM]))
    have HNVV := hidV (HNV.out.fr hfV (by simp [hbM]))
    generalize w1.heap.size = tb at *
    clear hlk HR1 HF1 hrV hbV hfV hb1 HM HNV
    clear w1
    cases hst : st a with
    | sys ps =>
      rw [hst] at HNVV
      obtain ⟨g, cap, rfl, _⟩ := HNVV.out
      dsimp only [Option.getD_some] at hlV
      have HSE : Hid (S = ⟨k + 1, 0, 0⟩) := by unfold Hid; rw [← HS.out, hst]; rfl
      go_quiet (fail)
      go_wp2
      go_ret
      rw [HSE.out]
      refine Or.inl ⟨rfl, _, rfl, ?_, HRV.out, HFV.out.drewN _⟩
      show NV _ Ms (st a) _
      rw [hst]
      exact HNVV.out.fr ((Fr.refl [] V).drewN _) (by simp)
    | non =>
      rw [hst] at HNVV
      have ho : o = none := HNVV.out
      subst ho
      dsimp only [Option.getD_none] at hlV
      have HSE : Hid (S = ⟨k, 6, (f k).at'⟩) := by unfold Hid; rw [← HS.out, hst]; rfl
      go_quiet (fail)
      go_wp2
      exact ⟨rfl, by rw [HSE.out]; exact Or.inr ⟨by simp, rfl, HFV.out.drewN _⟩⟩
    | set c =>
      rw [hst] at HNVV
      have ho : o = some (.iface 155 (.agg (bv c))) := HNVV.out
      subst ho
      dsimp only [Option.getD_some] at hlV
      have HSE : Hid (S = ⟨k, 6, (f k).at'⟩) := by unfold Hid; rw [← HS.out, hst]; rfl
      go_quiet (fail)
      go_wp2
      exact ⟨rfl, by rw [HSE.out]; exact Or.inr ⟨by simp, rfl, HFV.out.drewN _⟩⟩
  · rw [nm_bad h1]
    have HPK : Hid (pk (f k).c ≠ 4) := fun q => h1 ((isN_iff _).2 (pk_4.1 q))
    go_enter Tryz.func75, Tryz.ntmps75
    go_wp2_with fail
    refine (expect_not s (f k) b 4 _ HR.out HPK.out).mono ?_
    rintro e w2 ⟨rfl, hf2⟩
    go_wp2
    exact ⟨rfl, Or.inr ⟨by simp, rfl, hf2⟩⟩
end Go.Proofs.YthlmgpllapccfaaGreatDoor
/- THE READER: a system. -/
namespace Go.Proofs.YthlmgpllapccfaaGreatDoor
open Go.RowKit
variable {M : Value} {D : Int}

theorem Poly_info : (Tryz.prog.info? 76).map (fun i => (i.zero, i.size, i.bytes)) = some (some (.agg #[.int .i64 0, .int .i64 0, .int .i64 0, .int .i64 0, .int .i64 0, .int .i64 0, .int .i64 0, .int .i64 0, .int .i64 0, .int .i64 0, .int .i64 0, .int .i64 0, .int .i64 0, .int .i64 0, .int .i64 0, .int .i64 0, .int .i64 0, .int .i64 0, .int .i64 0, .int .i64 0, .int .i64 0, .int .i64 0, .int .i64 0, .int .i64 0, .int .i64 0, .int .i64 0, .int .i64 0, .int .i64 0, .int .i64 0, .int .i64 0, .int .i64 0, .int .i64 0, .int .i64 0, .int .i64 0, .int .i64 0]), 35, 280) := by kernel_rfl
theorem pPoly_ok (s : ByteArray) (f : Nat → Tok) (k b : Nat) (w : World) (hs : s.size ≤ 1000) (ha : Str s f) (hk : k ≤ s.size) (hr : Rd w b s M D false (f k)) (h : (poly f false s.size k).e = 0) :
    Calls Tryz.prog 46 #[.pointer (some ⟨b, 0, none⟩)] w fun e w' => e = .returned (.agg (pv (poly f false s.size k).p)) ∧ Good (poly f false s.size k).p ∧ Rd w' b s M D false (f (poly f false s.size k).k) ∧ Fr [b] w w' :=
  (polynomial_any s f k b w hs ha hk hr).mono (by rintro e w1 (g | g); exact g.2; exact absurd h g.1)
theorem pPoly_not (s : ByteArray) (f : Nat → Tok) (k b : Nat) (w : World) (hs : s.size ≤ 1000) (ha : Str s f) (hk : k ≤ s.size) (hr : Rd w b s M D false (f k)) (h : (poly f false s.size k).e ≠ 0) :
    Calls Tryz.prog 46 #[.pointer (some ⟨b, 0, none⟩)] w fun e w' => e = .panicked (faulty (poly f false s.size k).e (poly f false s.size k).bad) ∧ Fr [b] w w' :=
  (polynomial_any s f k b w hs ha hk hr).mono (by rintro e w1 (g | g); exact absurd g.1 h; exact g.2)

set_option maxRecDepth 100000 in
set_option maxHeartbeats 2000000 in
theorem pSystem_any (s : ByteArray) (f : Nat → Tok) (k b : Nat) (w : World) (hs : s.size ≤ 1000) (ha : Str s f) (hk : k ≤ s.size) (hr : Rd w b s M D false (f k)) :
    Calls Tryz.prog 74 #[.pointer (some ⟨b, 0, none⟩)] w (RP w b s M D false f (sysS f s.size ⟨k, 0, 0⟩) (fun v w' => ∃ g cap, v = .slice (some ⟨g, 0, none⟩) (syR f s.size 4 k).ps.length cap ∧ Sy w' g (syR f s.size 4 k).ps ∧ Goods (syR f s.size 4 k).ps ∧ (syR f s.size 4 k).ps ≠ [] ∧ (syR f s.size 4 k).ps.length ≤ 4 ∧ w.heap.size ≤ g)) := by
  have HR := hidV hr
  have HA := hidV ha
  have hb : b < w.heap.size := Blk.lt hr
  clear hr ha
  have HSS : Hid (sysS f s.size ⟨k, 0, 0⟩ = ⟨(syR f s.size 4 k).k, (syR f s.size 4 k).e, (syR f s.size 4 k).bad⟩) := by unfold Hid sysS; rw [if_neg (by simp)]
  rw [HSS.out]
  by_cases he : (poly f false s.size k).e = 0
  · have HPO := hidV (fun w' hr' => pPoly_ok (M := M) (D := D) s f k b w' hs HA.out hk hr' he)
    obtain ⟨T, HT⟩ : ∃ T, Hid (syR f s.size 4 k = T) := ⟨_, hidV rfl⟩
    rw [HT.out]
    have HT0 : Hid (T = if 0 < 4 - 1 ∧ (f (poly f false s.size k).k).c = 48 then SyR.app [(poly f false s.size k).p] (syR f s.size (4 - 1) ((poly f false s.size k).k + 1)) else ⟨0, 0, (poly f false s.size k).k, [(poly f false s.size k).p]⟩) := by
      unfold Hid; rw [← HT.out, syR, if_neg (by simp [he])]
    clear he
    obtain ⟨i0, hi, hz0, hz1, hz2⟩ := info_parts Poly_info
    generalize poly f false s.size k = R at *
    obtain ⟨q, HQ⟩ : ∃ q, Hid (R.p = q) := ⟨_, hidV rfl⟩
    rw [HQ.out] at HPO HT0
    go_enter Tryz.func74, Tryz.ntmps74
    go_wp2_with fail
    refine (HPO.out _ (by exact HR.out)).mono ?_
    rintro e w1 ⟨rfl, hg1, hr1, hf1⟩
    have hCs : (pv q).size = 35 := by rw [pv_size]; exact hg1.1
    have hfold := build35 hg1.1
    have HI1 : Hid (Rd w1 b s M D false (f R.k) ∧ Fr [b] w w1) := ⟨hr1, hf1⟩
    have hw1l : w.heap.size ≤ w1.heap.size := hf1.size
    clear hr1 hf1
    go_wp2
    refine wp_forget (fun V => V.ownsRow w.heap.size 76 35 (.slice (some ⟨w1.heap.size, 0, none⟩) 1 1) 1 (polL [q]) ∧ Rd V b s M D false (f R.k) ∧ Fr [b] w V) ?_ ?_
    · refine ⟨⟨?_, Or.inr ⟨w1.heap.size, 1, pv q, rfl, hw1l, Blk.new w1 _ _, Nat.le_refl _, by decide, by rw [hCs], ?_⟩⟩, Blk.alloc HI1.out.1 _, HI1.out.2.alloc _⟩
      · rw [polL_len (fun p hp => by simp at hp; rw [hp]; exact hg1)]; rfl
      · rw [List.take_of_length_le (by rw [Array.length_toList, hCs]; decide)]; simp [polL]
    rintro V ⟨v1, v2, v3⟩
    have HV := hidV (And.intro v1 (And.intro v2 v3))
    clear v1 v2 v3 HI1
    generalize w1.heap.size = B at *
    clear w1 hfold hCs
    go_loopg [3] 3 (fun gm v3 wr => ∃ i kc : Nat, ∃ acc : List (List Nat), gm = 4 - i ∧ i ≤ 4 ∧ 0 < i ∧ Hid (acc.length = i ∧ Goods acc) ∧ Hid (T = if 0 < 4 - i ∧ (f kc).c = 48 then SyR.app acc (syR f s.size (4 - i) (kc + 1)) else ⟨0, 0, kc, acc⟩) ∧ Hid (wr.ownsRow w.heap.size 76 35 v3 i (polL acc) ∧ Rd wr b s M D false (f kc) ∧ Fr [b] w wr))
    case atStart => exact ⟨1, R.k, [q], by omega, by omega, by omega, ⟨rfl, fun p hp => by simp at hp; rw [hp]; exact hg1⟩, HT0, HV.out⟩
    case round =>
      obtain ⟨i, kc, acc, hgm, hi4, hi0, HAC, HTT, HD⟩ := hrel
      clear HV HT0 HPO hg1 HQ
      have hbr : b < wr.heap.size := Blk.lt HD.out.2.1
      have c1 := HD.out.2.1.cells.2.1
      have hwl : w.heap.size ≤ wr.heap.size := HD.out.2.2.size
      have HNA : Hid (acc ≠ []) := fun q => by have h := HAC.out.1; rw [q] at h; simp only [List.length_nil] at h; omega
      obtain ⟨p3, cap3, hu3⟩ := ownsRow_form HD.out.1
      subst hu3
      by_cases hc : (f kc).c = 48
      · have hpk : pk (f kc).c = 7 := pk_7.2 hc
        rw [hpk] at c1
        by_cases h4 : i < 4
        · have hlt : kc < s.size := HA.out.lt (by omega)
          have i4 : (i : Int) < 4 := by omega
          rw [if_pos ⟨by omega, hc⟩] at HTT
          obtain ⟨m, hm⟩ : ∃ m, 4 - i = m + 1 := ⟨3 - i, by omega⟩
          rw [hm] at HTT
          have HM : Hid (4 - (i + 1) = m) := by unfold Hid; omega
          by_cases he : (poly f false s.size (kc + 1)).e = 0
          · have HPO := hidV (fun w' hr' => pPoly_ok (M := M) (D := D) s f (kc + 1) b w' hs HA.out (by omega) hr' he)
            rw [syR, if_neg (by simp [he])] at HTT
            generalize poly f false s.size (kc + 1) = R at *
            obtain ⟨q, HQ⟩ : ∃ q, Hid (R.p = q) := ⟨_, hidV rfl⟩
            rw [HQ.out] at HPO HTT
            go_wp2_with fail
            refine (take_any s f kc b _ (by omega) HA.out HD.out.2.1).mono ?_
            rintro e w1 ⟨rfl, hr1, hf1⟩
            have HI1 : Hid (Rd w1 b s M D false (f (kc + 1)) ∧ Fr [b] wr w1) := ⟨hr1, hf1⟩
            clear hr1 hf1 c1
            go_wp2_with fail
            refine (HPO.out _ HI1.out.1).mono ?_
            rintro e w2 ⟨rfl, hg2, hr2, hf2⟩
            have HI2 : Hid (Rd w2 b s M D false (f R.k) ∧ Fr [b] wr w2) := ⟨hr2, HI1.out.2.trans hf2 (by simp)⟩
            have HO2 := hidV (ownsRow_frL HD.out.1 HI2.out.2 (fun c hc q => by have := (HD.out.1.lt c q).1; simp at hc; omega))
            have hCs : (pv q).size = 35 := by rw [pv_size]; exact hg2.1
            have hfold := build35 hg2.1
            have hw2l : wr.heap.size ≤ w2.heap.size := HI2.out.2.size
            have HAC2 : Hid ((acc ++ [q]).length = i + 1 ∧ Goods (acc ++ [q])) := ⟨by rw [List.length_append, HAC.out.1]; rfl, fun p hp => by
              rw [List.mem_append] at hp
              rcases hp with hp | hp
              · exact HAC.out.2 p hp
              · simp at hp; rw [hp]; exact hg2⟩
            clear hr2 hf2
            go_wp2_with (at_builtin; refine wpList_append_lies _ (by rfl) (.tmp 20) (.tmp 23) 136 (by rfl) w.heap.size 76 i0 _ 35 280 Tryz.underlying136 hi hz0 hz1 hz2 (by rfl) (by decide) _ i (polL acc) (by rfl) (by exact HO2.out.alloc _) ⟨w2.heap.size, 0, none⟩ 1 1 (pv q).toList (by rfl) (by rw [Array.length_toList, hCs]) (by exact World.news_of_block (Blk.new w2 _ _)) (pv_oneL _) (by decide) (by unfold maxLen; omega) (by omega) (by simp; omega) _ rfl ?_; intro g2 cap2 w3 hown1 hgrow hat hlt1; have HW3 := hidV (And.intro (Blk.grown (Blk.alloc HI2.out.1 _) hgrow (fun q => by have := (HO2.out.lt b q).1; omega)) (Fr.grown (Fr.alloc (HD.out.2.2.trans HI2.out.2 (by simp)) _) hgrow (fun c q => (HO2.out.lt c q).1))); have HO3 := hidV hown1; clear hown1 hgrow)
            go_roundg (4 - (i + 1))
            case measure => omega
            case rel =>
              refine ⟨i + 1, R.k, acc ++ [q], rfl, by omega, by omega, HAC2, ?_, ?_, HW3.out.1, HW3.out.2⟩
              · unfold Hid
                rw [HTT.out, HM.out]
                by_cases hq : 0 < m ∧ (f R.k).c = 48
                · rw [if_pos hq, if_pos hq, app_app]
                · rw [if_neg hq, if_neg hq]; simp [SyR.app]
              · rw [polL_snoc]; exact HO3.out
          · have HPO := hidV (fun w' hr' => pPoly_not (M := M) (D := D) s f (kc + 1) b w' hs HA.out (by omega) hr' he)
            rw [syR_bad he] at HTT
            have HNE := hidV he
            go_wp2_with fail
            refine (take_any s f kc b _ (by omega) HA.out HD.out.2.1).mono ?_
            rintro e w1 ⟨rfl, hr1, hf1⟩
            have HI1 : Hid (Rd w1 b s M D false (f (kc + 1)) ∧ Fr [b] wr w1) := ⟨hr1, hf1⟩
            clear hr1 hf1 c1
            go_wp2_with fail
            refine (HPO.out _ HI1.out.1).mono ?_
            rintro e w2 ⟨rfl, hf2⟩
            go_wp2
            exact ⟨rfl, by rw [HTT.out]; exact Or.inr ⟨HNE.out, rfl, (HD.out.2.2.trans HI1.out.2 (by simp)).trans hf2 (by simp)⟩⟩
        · have ei : i = 4 := by omega
          subst ei
          rw [if_neg (by simp)] at HTT
          go_wp2
          go_ret
          have ho : wr.ownsRow w.heap.size 76 35 (.slice p3 4 cap3) 4 (polL acc) := HD.out.1
          obtain ⟨_, ho1 | ⟨g3, cap4, cur, ho1, ho2⟩⟩ := ho
          · simp at ho1
          · injection ho1 with e1 e2 e3
            subst e1 e3
            rw [HTT.out]
            exact Or.inl ⟨rfl, _, rfl, ⟨g3, cap3, by rw [HAC.out.1]; rfl, Sy.of_owns HAC.out.2 HD.out.1, HAC.out.2, HNA.out, by rw [HAC.out.1]; omega, ho2.1⟩, HD.out.2.1, HD.out.2.2⟩
      · have hpk : (pk (f kc).c == 7) = false := by rw [beq_eq_false_iff_ne]; exact fun q => hc (pk_7.1 q)
        rw [if_neg (fun q => hc q.2)] at HTT
        go_wp2
        go_ret
        have ho : wr.ownsRow w.heap.size 76 35 (.slice p3 i cap3) i (polL acc) := HD.out.1
        obtain ⟨_, ho1 | ⟨g3, cap4, cur, ho1, ho2⟩⟩ := ho
        · have := ho1.2; omega
        · injection ho1 with e1 e2 e3
          subst e1 e3
          rw [HTT.out]
          exact Or.inl ⟨rfl, _, rfl, ⟨g3, cap3, by rw [HAC.out.1]; rfl, Sy.of_owns HAC.out.2 HD.out.1, HAC.out.2, HNA.out, by rw [HAC.out.1]; omega, ho2.1⟩, HD.out.2.1, HD.out.2.2⟩
  · have HPO := hidV (fun w' hr' => pPoly_not (M := M) (D := D) s f k b w' hs HA.out hk hr' he)
    have HE : Hid (syR f s.size 4 k = ⟨(poly f false s.size k).e, (poly f false s.size k).bad, k, []⟩) := syR_bad he
    rw [HE.out]
    have HNE := hidV he
    go_enter Tryz.func74, Tryz.ntmps74
    go_wp2_with fail
    refine (HPO.out _ (by exact HR.out)).mono ?_
    rintro e w1 ⟨rfl, hf1⟩
    go_wp2
    exact ⟨rfl, Or.inr ⟨HNE.out, rfl, hf1⟩⟩
end Go.Proofs.YthlmgpllapccfaaGreatDoor
