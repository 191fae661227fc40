/- THE PROGRAM's TEXT OF A POLYNOMIAL: Text. -/
import Derived.Test.YtaajdcaciofmaaaDoorText2
import Derived.Test.YtaajdcaciofmaaaDoorArrEq
import Derived.Test.YtaajdcaciofmaaaDoorRef3
namespace Go.Proofs.YtaajdcaciofmaaaDoor
open Go.RowKit

def sv (ts : List (List UInt8)) : List Value := ts.map fun t => Value.string (bs t)
theorem sv_snoc (ts : List (List UInt8)) (t : List UInt8) : sv (ts ++ [t]) = sv ts ++ [.string (bs t)] := by simp [sv]
theorem str_info : (Tryd.prog.info? 9).map (fun i => (i.zero, i.size, i.bytes)) = some (some (.string ⟨#[]⟩), 1, 16) := by kernel_rfl
theorem tms_step (p : List Nat) (k : Nat) (h : ¬ p.getD (34 - k) 0 = 0) : tms p (k + 1) = tms p k ++ [tmx (p.getD (34 - k) 0) ((34 - k) % 7) ((34 - k) / 7)] := by rw [tms, if_neg h]
theorem tms_skip (p : List Nat) (k : Nat) (h : p.getD (34 - k) 0 = 0) : tms p (k + 1) = tms p k := by rw [tms, if_pos h]

theorem sv_get {ts : List (List UInt8)} {j : Nat} {x : ByteArray} (h : (ts.map bs)[j]? = some x) : (sv ts)[j]? = some (.string x) := by
  rw [List.getElem?_map, Option.map_eq_some_iff] at h
  obtain ⟨t, h1, rfl⟩ := h
  simp [sv, h1]
theorem own_slice {w : World} {base : Nat} {v : Value} {ts : List (List UInt8)} (h : w.ownsRow base 9 1 v ts.length (sv ts)) (hne : ts ≠ []) :
    ∃ g cap, v = .slice (some ⟨g, 0, none⟩) ts.length cap ∧ g < w.heap.size ∧ ts.length ≤ cap ∧ ∀ (j : Nat) x, (ts.map bs)[j]? = some x → w.cell? ⟨g, 0 + j, none⟩ = some (.string x) := by
  have h' := h
  obtain ⟨_, h1 | ⟨g, cap, cur, rfl, hb, hg, hn, hm, hs, ht⟩⟩ := h
  · exact absurd (List.length_eq_zero_iff.1 h1.2) hne
  · refine ⟨g, cap, rfl, (h'.lt g rfl).2, hn, ?_⟩
    intro j x hx
    have := h'.cells (g := g) rfl j (.string x) (sv_get hx)
    have hadd : (⟨g, 0, none⟩ : Addr).add j = ⟨g, 0 + j, none⟩ := by unfold Addr.add; split <;> simp_all
    rw [hadd] at this
    exact this
theorem join_to (ts : List (List UInt8)) (g cap : Nat) (w : World) (hcells : ∀ (j : Nat) x, (ts.map bs)[j]? = some x → w.cell? ⟨g, 0 + j, none⟩ = some (.string x)) (hg : g < w.heap.size) (hc : ts.length ≤ cap) (hl : ts.length ≤ 35) (hj : (Lib.join ts [43]).length ≤ 6 * 35) :
    Calls Tryd.prog 30 #[.slice (some ⟨g, 0, none⟩) ts.length cap, .string ⟨#[43]⟩] w fun e w' => e = .returned (.string (bs (Lib.join ts [43]))) ∧ Below w.heap.size w w' := by
  have e : (ts.map bs).map (·.data.toList) = ts := by
    rw [List.map_map]
    conv => rhs; rw [← List.map_id ts]
    exact List.map_congr_left (fun _ _ => rfl)
  have h := Tryd.strings_Join g 0 cap (ts.map bs) ⟨#[43]⟩ w hcells hg (by rw [List.length_map]; omega) (by rw [List.length_map]; exact hc) (by rw [e]; have : (Lib.join ts (⟨#[43]⟩ : ByteArray).data.toList).length ≤ 6 * 35 := hj; omega)
  rw [List.length_map, e] at h
  exact h

set_option maxRecDepth 100000 in
set_option maxHeartbeats 4000000 in
theorem Text_any (p : List Nat) (w : World) (hp : Good p) :
    Calls Tryd.prog 16 #[.agg (pv p)] w fun e w' => e = .returned (.string (bs (txt p))) ∧ Below w.heap.size w w' := by
  have hne := fun (w' : World) => poly_eq_zero p w' hp
  by_cases hz : p = zeros
  · have e : txt p = [48] := txt_zero p ((good_zeros hp).2 hz)
    rw [e]
    simp only [hz, decide_true] at hne
    obtain ⟨z, HZ⟩ : ∃ z, Hid (p = z) := ⟨_, rfl⟩
    rw [← hz] at hne
    clear hz e
    go_enter Tryd.func16, Tryd.ntmps16
    go_wp2_with (refine wpList_load_row (by rfl) 37 _ (by rfl) w.heap.size (by rfl) 37 (pv p) (0, 0) _ (by exact Blk.new w _ _) Tryd.underlying37 (by rfl) (size_poly hp) ?_)
    go_ret
    exact ⟨rfl, by go_grown⟩
  · have ht : tms p 35 ≠ [] := fun q => hz ((good_zeros hp).1 q)
    have HTX := hidT (txt_join p ht)
    have HT := hidT ht
    simp only [hz, decide_false] at hne
    clear hz ht
    obtain ⟨i0, hi, hz0, hz1, hz2⟩ := info_parts str_info
    go_enter Tryd.func16, Tryd.ntmps16
    go_wp2_with (refine wpList_load_row (by rfl) 37 _ (by rfl) w.heap.size (by rfl) 37 (pv p) (0, 0) _ (by exact Blk.new w _ _) Tryd.underlying37 (by rfl) (size_poly hp) ?_)
    refine wp_forget (fun W => Blk W w.heap.size (pv p) 37 ∧ Below w.heap.size w W) ⟨Blk.new w _ _, by go_grown⟩ ?_
    rintro W ⟨b1, hbW⟩
    have B1 := hidT b1
    have BW := hidT hbW
    clear b1 hbW hne
    go_loopg [3, 4] 5 (fun gm v3 v4 wr => ∃ a : Nat, gm = 5 - a ∧ a ≤ 5 ∧ v4 = .int .i64 (((5 - a : Nat) : Int) - 1) ∧ Hid (wr.ownsRow W.heap.size 9 1 v3 (tms p (a * 7)).length (sv (tms p (a * 7))) ∧ Below W.heap.size W wr))
    case atStart => exact ⟨0, rfl, by omega, rfl, ⟨World.ownsRow_nil _ _ _ _, Below.refl _ _⟩⟩
    case round =>
      obtain ⟨a, hgm, ha, rfl, HD⟩ := hrel
      by_cases h5 : a < 5
      · obtain ⟨i, hi5⟩ : ∃ i : Nat, 5 - a = i + 1 := ⟨4 - a, by omega⟩
        have hi4 : i < 5 := by omega
        have e : (((5 - a : Nat) : Int) - 1) = (i : Int) := by omega
        rw [e]
        clear e
        have i0' : (0 : Int) ≤ (i : Int) := by omega
        have i1' : (i : Int) < 5 := by omega
        have HI := hidT hi5
        clear hi5
        go_wp2
        go_loopg [3, 5] 7 (fun gm v3 v5 wr => ∃ m : Nat, gm = 7 - m ∧ m ≤ 7 ∧ v5 = .int .i64 (((7 - m : Nat) : Int) - 1) ∧ Hid (wr.ownsRow W.heap.size 9 1 v3 (tms p (a * 7 + m)).length (sv (tms p (a * 7 + m))) ∧ Below W.heap.size W wr))
        case atStart => exact ⟨0, rfl, by omega, rfl, HD⟩
        case round =>
          obtain ⟨m, hgm2, hm, rfl, HE⟩ := hrel
          clear HD
          by_cases h7 : m < 7
          · obtain ⟨j, hj7⟩ : ∃ j : Nat, 7 - m = j + 1 := ⟨6 - m, by omega⟩
            have hj6 : j < 7 := by omega
            have e : (((7 - m : Nat) : Int) - 1) = (j : Int) := by omega
            rw [e]
            clear e
            have j0 : (0 : Int) ≤ (j : Int) := by omega
            have j1 : (j : Int) < 7 := by omega
            have HM1 : Hid ((((7 - (m + 1) : Nat) : Int) - 1) = (j : Int) - 1) := by unfold Hid; omega
            have hidx : 34 - (a * 7 + m) = i * 7 + j := by have := HI.out; omega
            have HX : Hid ((34 - (a * 7 + m)) % 7 = j ∧ (34 - (a * 7 + m)) / 7 = i) := by unfold Hid; omega
            have HSK := hidT (tms_skip p (a * 7 + m))
            have HST := hidT (tms_step p (a * 7 + m))
            have HL := hidT (tms_len p (a * 7 + m))
            rw [HX.out.1, HX.out.2, hidx] at HST
            rw [hidx] at HSK
            have hq : i * 7 + j < p.length := by rw [hp.1]; omega
            have hcell := pv_get hq
            have hv7 := hp.2 (i * 7 + j)
            have BR : Hid (Blk wr w.heap.size (pv p) 37) := Blk.fr B1.out (Fr.of_below (bs := []) HE.out.2) (by simp)
            have hc : wr.cell? ⟨w.heap.size, i * 7 + j, none⟩ = some (.int .i64 (p.getD (i * 7 + j) 0)) := by rw [BR.out.cell]; exact hcell
            clear hcell hidx hj7
            generalize p.getD (i * 7 + j) 0 = v at *
            by_cases hv : v = 0
            · subst hv
              go_wp2
              go_roundg (7 - (m + 1))
              case measure => omega
              case rel => exact ⟨m + 1, rfl, by omega, by rw [HM1.out], by rw [show a * 7 + (m + 1) = a * 7 + m + 1 by omega, HSK.out (by trivial)]; exact HE⟩
            · have hv' : ¬ ((v : Int) = 0) := by omega
              have HV := hidT hv
              clear hv
              go_wp2_with (first | (go_at_call 29; refine (termText_any v j i _ _ _ _ rfl rfl rfl hv7 (by omega) (by omega)).mono ?_; rintro e w1 ⟨rfl, hb1⟩; have HB1 := hidT hb1; have HO1 := hidT (ownsRow_fr (c := wr.heap.size) HE.out.1 (Fr.of_below hb1) (ownsRow_ne HE.out.1 (Nat.le_refl _)))) | (at_builtin; refine wpList_append_lies _ (by rfl) (.tmp 23) (.tmp 33) 61 (by rfl) W.heap.size 9 i0 _ 1 16 Tryd.underlying61 hi hz0 hz1 hz2 (by rfl) (by decide) _ (tms p (a * 7 + m)).length (sv (tms p (a * 7 + m))) (by rfl) (by exact HO1.out.alloc _) ⟨w1.heap.size, 0, none⟩ 1 1 [.string (bs (tmx v j i))] (by rfl) (by rfl) (by exact World.news_of_block (Blk.new w1 _ _)) (by simp; rfl) (by decide) (by unfold maxLen; have := HL.out; omega) (by have := HL.out; omega) (by have := HE.out.2.size; have := HB1.out.size; simp; omega) _ rfl ?_; intro g cap w2 hown1 hgrow hat hlt1))
              go_roundg (7 - (m + 1))
              case measure => omega
              case rel =>
                refine ⟨m + 1, rfl, by omega, by rw [HM1.out], ?_, ?_⟩
                · rw [show a * 7 + (m + 1) = a * 7 + m + 1 by omega, HST.out HV.out, sv_snoc, List.length_append]
                  exact hown1
                · have hbb : Below W.heap.size W w1 := Fr.below (bs := []) ((Fr.of_below HE.out.2).trans (Fr.of_below (bs := []) HB1.out) (by simp)) (Nat.le_refl _) (by simp)
                  exact (hbb.alloc (by have := hbb.size; omega) _).grown hgrow (by have := hbb.size; simp; omega) (fun b hb => ((HO1.out).lt b hb).1)
          · have e7 : m = 7 := by omega
            subst e7
            have HK1 : Hid ((((5 - (a + 1) : Nat) : Int) - 1) = (i : Int) - 1) := by unfold Hid; have := HI.out; omega
            go_wp2
            go_roundg (5 - (a + 1))
            case measure => omega
            case rel => exact ⟨a + 1, rfl, by omega, by rw [HK1.out], by rw [show (a + 1) * 7 = a * 7 + 7 by omega]; exact HE⟩
      · have e5 : a = 5 := by omega
        subst e5
        have HO : Hid (wr.ownsRow W.heap.size 9 1 u3 (tms p 35).length (sv (tms p 35))) := HD.out.1
        have HB := hidT HD.out.2
        clear HD
        obtain ⟨g, cap, hu3, hglt, hcap, hcells⟩ := own_slice HO.out HT.out
        subst hu3
        have HJ := hidT (join_to (tms p 35) g cap wr hcells hglt hcap (tms_len p 35) (by rw [← wrt_join]; exact wrt_len p 35))
        rw [← HTX.out] at HJ
        clear HTX hcells
        generalize (tms p 35).length = N at *
        go_wp2_with (go_at_call 30; refine HJ.out.mono ?_; rintro e w1 ⟨rfl, hb1⟩)
        go_ret
        refine ⟨rfl, ?_⟩
        exact Fr.below (bs := []) (((Fr.of_below BW.out).trans (Fr.of_below (bs := []) HB.out) (by simp)).trans (Fr.of_below (bs := []) hb1) (by simp)) (Nat.le_refl _) (by simp)
end Go.Proofs.YtaajdcaciofmaaaDoor
