import Derived.Test.YthlmgpllapccfaaGreatDoorPack9
import Derived.Carry
/- THE PROGRAM's SETS: Text. -/
namespace Go.Proofs.YthlmgpllapccfaaGreatDoor
open Go.RowKit

theorem Join_sep (ts : List (List UInt8)) (sep : List UInt8) (S : ByteArray) (v : Value) (base : Nat) (w : World) (hS : S = bs sep) (h : w.ownsRow base 9 1 v ts.length (sv ts)) (hl : ts.length ≤ 1000) (hj : (Lib.join ts sep).length ≤ 100000) :
    Calls Tryz.prog 142 #[v, .string S] w fun e w' => e = .returned (.string (bs (Lib.join ts sep))) ∧ Below w.heap.size w w' := by
  subst hS
  by_cases h0 : ts = []
  · subst h0
    obtain ⟨_, h1 | ⟨g, cap, cur, h1, h2⟩⟩ := h
    · rw [h1.1]
      refine (Tryz.strings_Join_none none 0 (bs sep) w).mono ?_
      rintro e w1 ⟨rfl, rfl⟩
      exact ⟨rfl, Below.refl _ _⟩
    · rw [h1]
      refine (Tryz.strings_Join_none (some ⟨g, 0, none⟩) cap (bs sep) w).mono ?_
      rintro e w1 ⟨rfl, rfl⟩
      exact ⟨rfl, Below.refl _ _⟩
  · obtain ⟨g, cap, rfl, hg, hc, hcells⟩ := own_slice h h0
    have e : (ts.map bs).map (·.data.toList) = ts := by
      rw [List.map_map]
      conv => rhs; rw [← List.map_id ts]
      exact List.map_congr_left (fun _ _ => rfl)
    have hh := Tryz.strings_Join g 0 cap (ts.map bs) (bs sep) w hcells hg (by rw [List.length_map]; omega) (by rw [List.length_map]; exact hc) (by rw [e]; show (Lib.join ts sep).length ≤ _; omega)
    rw [List.length_map, e] at hh
    exact hh
theorem dls_snoc (l : List Nat) (n : Nat) : dls (l ++ [n]) = dls l ++ [[dgt n]] := by simp [dls]
theorem take_snoc (xs : List Nat) {k : Nat} (hk : k < xs.length) : xs.take (k + 1) = xs.take k ++ [xs.getD k 0] := by
  rw [List.take_succ_eq_append_getElem hk, List.getD_eq_getElem?_getD, List.getElem?_eq_getElem hk]; rfl
theorem dls_join_len : ∀ l : List Nat, (Lib.join (dls l) [32]).length ≤ 2 * l.length
  | [] => by simp [dls, Lib.join]
  | [a] => by simp [dls, Lib.join]
  | a :: b :: l => by
    have := dls_join_len (b :: l)
    have e : Lib.join (dls (a :: b :: l)) [32] = [dgt a] ++ [32] ++ Lib.join (dls (b :: l)) [32] := by simp [dls, Lib.join]
    rw [e]
    simp only [List.length_append, List.length_cons, List.length_nil] at this ⊢
    omega

theorem vls_yes {b : Nat → Bool} {v : Nat} (h : b v = true) : vls b (v + 1) = vls b v ++ [v] := by rw [vls, if_pos h]
theorem vls_no {b : Nat → Bool} {v : Nat} (h : b v = false) : vls b (v + 1) = vls b v := by rw [vls, if_neg (by rw [h]; decide)]

theorem idx_bv (b : Nat → Bool) {d : Nat} (hd : d < 7) (w : World) : (Instr.index 155 (.agg (bv b)) (.int .i64 (d : Int))).run Tryz.prog w = .ok (.bool (b d)) w := by
  obtain ⟨i, hi⟩ := info_some (P := Tryz.prog) (t := 4) (by kernel_rfl)
  have hs : i.size = 1 := by
    have h7 : (Tryz.prog.info? 4).map (·.size) = some 1 := by kernel_rfl
    rw [hi] at h7; simpa using h7
  have hg := bv_get b hd
  have hp : (part 4 (bv b) d).run Tryz.prog w = .ok (.bool (b d)) w := by
    simp [part, isAgg, run_underlying Tryz.underlying4, hg]
  simp [Instr.index, asIntOf, run_underlying Tryz.underlying155, sizeOf, typeInfo, hi, hs, hp]
  intro h; omega

set_option maxRecDepth 100000 in
set_option maxHeartbeats 800000 in
theorem SetText_any (b : Nat → Bool) (w : World) :
    Calls Tryz.prog 173 #[.agg (bv b)] w fun e w' => e = .returned (.string (bs (lsd b 7))) ∧ Below w.heap.size w w' := by
  have HLJ := hidV (lsd_join b 7)
  have HRL := hidV (lsd_len b 7)
  obtain ⟨R, HR⟩ : ∃ R, Hid (lsd b 7 = R) := ⟨_, hidV rfl⟩
  rw [HR.out] at HLJ HRL ⊢
  have HIX := hidV (fun (d : Nat) (hd : d < 7) (w : World) => idx_bv b hd w)
  have hsz := size_bv b
  obtain ⟨z, HZ⟩ : ∃ z, Hid (bv b = z) := ⟨_, hidV rfl⟩
  rw [HZ.out] at hsz HIX ⊢
  obtain ⟨i0, hi, hz0, hz1, hz2⟩ := info_parts str_info
  go_enter Tryz.func173, Tryz.ntmps173
  go_wp2_with (refine wpList_load_row (by rfl) 155 _ (by rfl) w.heap.size (by rfl) 155 z (0, 0) _ (by exact Blk.new w _ _) Tryz.underlying155 (by rfl) hsz ?_)
  refine wp_forget (fun W => Below w.heap.size w W ∧ w.heap.size + 1 ≤ W.heap.size) ⟨by go_grown, by simp⟩ ?_
  rintro W ⟨hbel, hW1⟩
  have HI := hidV hbel
  clear hbel
  go_loopg [3, 7] 7 (fun gm v3 v7 wr => ∃ k : Nat, gm = 7 - k ∧ k ≤ 7 ∧ v7 = .int .i64 k ∧ w.heap.size + 1 ≤ wr.heap.size ∧ Hid (wr.ownsRow (w.heap.size + 1) 9 1 v3 (vls b k).length (sv (dls (vls b k))) ∧ Below w.heap.size w wr))
  case atStart => exact ⟨0, rfl, by omega, rfl, hW1, World.ownsRow_nil _ _ _ _, HI.out⟩
  case round =>
    obtain ⟨k, hgm, hk, rfl, hwr1, HD⟩ := hrel
    clear HI
    by_cases h7 : k < 7
    · have hix := HIX.out k h7
      have HY := hidV (fun h => congrArg dls (@vls_yes b k h))
      have HNO := hidV (@vls_no b k)
      have hvl := vls_len b k
      have k1 : (k : Int) < 7 := by omega
      generalize b k = bk at *
      cases bk with
      | false =>
        have HE := hidV (HNO.out rfl)
        go_wp2
        go_roundg (7 - (k + 1))
        case measure => omega
        case rel => exact ⟨k + 1, rfl, by omega, by go_num, hwr1, by rw [HE.out]; exact HD.out⟩
      | true =>
        have HE := hidV (HY.out rfl)
        rw [dls_snoc] at HE
        have HL : Hid ((vls b (k + 1)).length = (vls b k).length + 1) := by
          unfold Hid
          have := congrArg List.length HE.out
          simpa [dls] using this
        go_wp2_with (first | (go_at_call 146; refine (Itoa_dgt k _ _ rfl (by omega)).mono ?_; rintro e w1 ⟨rfl, rfl⟩) | (at_builtin; refine wpList_append_lies _ (by rfl) (.tmp 12) (.tmp 15) 52 (by rfl) (w.heap.size + 1) 9 i0 _ 1 16 Tryz.underlying52 hi hz0 hz1 hz2 (by rfl) (by decide) _ (vls b k).length (sv (dls (vls b k))) (by rfl) (by exact HD.out.1.alloc _) ⟨w1.heap.size, 0, none⟩ 1 1 [.string (bs [dgt k])] (by rfl) (by rfl) (by exact World.news_of_block (Blk.new w1 _ _)) (by simp; rfl) (by decide) (by unfold maxLen; omega) (by omega) (by simp; omega) _ rfl ?_; intro g2 cap2 w2 hown1 hgrow hat hlt1))
        go_roundg (7 - (k + 1))
        case measure => omega
        case rel =>
          refine ⟨k + 1, rfl, by omega, by go_num, ?_, ?_, ?_⟩
          · have := hgrow.size; simp at this; omega
          · rw [HE.out, HL.out, sv_snoc]
            exact hown1
          · exact (HD.out.2.alloc HD.out.2.size _).grown hgrow (by have := HD.out.2.size; simp; omega) (fun c hc => by have := ((HD.out.1).lt c hc).1; omega)
    · have ek : k = 7 := by omega
      subst ek
      have HJ := hidV (fun S hS => Join_sep (dls (vls b 7)) [32] S u3 (w.heap.size + 1) wr hS (by have := HD.out.1; rw [show (dls (vls b 7)).length = (vls b 7).length by simp [dls]]; exact this) (by have := vls_len b 7; simp [dls]; omega) (by rw [← HLJ.out]; have := HRL.out; omega))
      rw [← HLJ.out] at HJ
      have HB := hidV HD.out.2
      clear HD
      go_wp2_with (go_at_call 142; refine (HJ.out _ (by rfl)).mono ?_; rintro e w1 ⟨rfl, hb1⟩)
      go_ret
      exact ⟨rfl, HB.out.trans (hb1.mono HB.out.size)⟩
end Go.Proofs.YthlmgpllapccfaaGreatDoor
/- THE PROGRAM's SYSTEMS: Roots, Text. -/
namespace Go.Proofs.YthlmgpllapccfaaGreatDoor
open Go.RowKit

set_option maxRecDepth 100000 in
set_option maxHeartbeats 800000 in
theorem RootsFn_any (ps : List (List Nat)) (g cap N a v p q : Nat) (A : Int) (w : World) (hps : Goods ps) (hN : ps.length = N) (hl : N ≤ 4) (hA : A % 7 = a) (ha : a < 7) (hm : Sy w g ps) (hv : v < 7) (hp : Blk w p #[.slice (some ⟨g, 0, none⟩) N cap] 136) (hq : Blk w q #[.int .i64 A] 3) :
    Calls Tryz.prog 171 #[.int .i64 v, .pointer (some ⟨p, 0, none⟩), .pointer (some ⟨q, 0, none⟩)] w fun e w' => e = .returned (.bool (rts (lins a ps) v)) ∧ Below w.heap.size w w' := by
  have HZ := hidV (isZero_any ps g cap N a v A v w hps hN hl hA (by omega) ha hv hm)
  have c0 : w.cell? ⟨p, 0, none⟩ = some (.slice (some ⟨g, 0, none⟩) N cap) := hp.cell 0
  have c1 : w.cell? ⟨q, 0, none⟩ = some (.int .i64 A) := hq.cell 0
  clear hp hq hm hA hN
  go_enter Tryz.func171, Tryz.ntmps171
  go_wp2_with (go_at_call 172; refine (HZ.out).mono ?_; rintro e w1 ⟨rfl, hb1⟩)
  go_ret
  exact ⟨rfl, hb1⟩

set_option maxRecDepth 100000 in
set_option maxHeartbeats 800000 in
theorem SysRoots_any (ps : List (List Nat)) (g cap N a : Nat) (A : Int) (w : World) (hps : Goods ps) (hN : ps.length = N) (hl : N ≤ 4) (hA : A % 7 = a) (ha : a < 7) (hm : Sy w g ps) :
    Calls Tryz.prog 169 #[.slice (some ⟨g, 0, none⟩) N cap, .int .i64 A] w fun e w' => e = .returned (.string (bs (lsd (rts (lins a ps)) 7))) ∧ Below w.heap.size w w' := by
  have hmf : ∀ (fn : Fn) (first cap : Array Value) (w : World), (Instr.makeFunc fn first cap).run Tryz.prog w = .ok (.func fn first cap) w := fun _ _ _ _ => rfl
  have HFN := hidV (fun (v : Nat) (w' : World) (p q : Nat) (hv : v < 7) (h : Sy w' g ps) => RootsFn_any ps g cap N a v p q A w' hps hN hl hA ha h hv)
  have HM := hidV hm
  have hcf : ∀ (args : Array Value) (w : World), (callFunc 171 args).run Tryz.prog w = .ok (.enter 171 args) w := fun _ _ => by kernel_rfl
  have HCF := hidV hcf
  clear hm hA hN hcf
  obtain ⟨R, HR⟩ : ∃ R, Hid (rts (lins a ps) = R) := ⟨_, hidV rfl⟩
  rw [HR.out] at HFN ⊢
  have HTX := hidV (fun (w' : World) => SetText_any R w')
  go_enter Tryz.func169, Tryz.ntmps169
  go_wp2_with fail
  have HF0 : Hid (Fr [] w ((w.alloc (.cells #[.slice (some ⟨g, 0, none⟩) N cap] 136)).alloc (.cells #[.int .i64 A] 3))) := ((Fr.refl [] w).alloc _).alloc _
  have HB0 : Hid (Blk ((w.alloc (.cells #[.slice (some ⟨g, 0, none⟩) N cap] 136)).alloc (.cells #[.int .i64 A] 3)) w.heap.size #[.slice (some ⟨g, 0, none⟩) N cap] 136 ∧ Blk ((w.alloc (.cells #[.slice (some ⟨g, 0, none⟩) N cap] 136)).alloc (.cells #[.int .i64 A] 3)) (w.heap.size + 1) #[.int .i64 A] 3) := ⟨Blk.alloc (Blk.new w _ _) _, Blk.newAt _ _ _ (by simp)⟩
  generalize (w.alloc (.cells #[.slice (some ⟨g, 0, none⟩) N cap] 136)).alloc (.cells #[.int .i64 A] 3) = W at *
  refine (Where_any 171 #[.pointer (some ⟨w.heap.size, 0, none⟩), .pointer (some ⟨w.heap.size + 1, 0, none⟩)] R W HCF.out (fun v w' hv hb => ?_)).mono ?_
  · exact HFN.out v w' w.heap.size (w.heap.size + 1) hv (HM.out.fr (HF0.out.trans (Fr.of_below (bs := []) hb) (by simp)) (by simp)) (HB0.out.1.fr (Fr.of_below (bs := []) hb) (by simp)) (HB0.out.2.fr (Fr.of_below (bs := []) hb) (by simp))
  rintro e w1 ⟨rfl, hb1⟩
  have HF1 : Hid (Fr [] w w1) := HF0.out.trans (Fr.of_below (bs := []) hb1) (by simp)
  clear hb1 HB0 HF0
  go_wp2_with (go_at_call 173; refine (HTX.out _).mono ?_; rintro e w2 ⟨rfl, hb2⟩)
  go_ret
  exact ⟨rfl, (HF1.out.trans (Fr.of_below (bs := []) hb2) (by simp)).below (Nat.le_refl _) (by simp)⟩

theorem txts_snoc (ps : List (List Nat)) {k : Nat} (hk : k < ps.length) : (ps.take (k + 1)).map txt = (ps.take k).map txt ++ [txt (ps.getD k [])] := by
  rw [List.take_succ_eq_append_getElem hk, List.map_append, List.getD_eq_getElem?_getD, List.getElem?_eq_getElem hk]; rfl

set_option maxRecDepth 100000 in
set_option maxHeartbeats 800000 in
theorem SysText_any (ps : List (List Nat)) (g cap N : Nat) (w : World) (hps : Goods ps) (hN : ps.length = N) (hl : N ≤ 4) (hm : Sy w g ps) :
    Calls Tryz.prog 210 #[.slice (some ⟨g, 0, none⟩) N cap] w fun e w' => e = .returned (.string (bs (prn ps N))) ∧ Below w.heap.size w w' := by
  have HM := hidV hm
  have HNN := hidV hN
  have HPJ : Hid (prn ps N = Lib.join (ps.map txt) [44, 32]) := by unfold Hid; rw [← hN, prn_join ps _ (Nat.le_refl _), List.take_length]
  have HPL := hidV (prn_len ps N)
  obtain ⟨R, HR⟩ : ∃ R, Hid (prn ps N = R) := ⟨_, hidV rfl⟩
  rw [HR.out] at HPJ HPL ⊢
  clear hm hN
  obtain ⟨i0, hi, hz0, hz1, hz2⟩ := info_parts str_info
  go_enter Tryz.func210, Tryz.ntmps210
  go_wp2
  go_loopg [3, 8] N (fun gm v3 v8 wr => ∃ k : Nat, gm = N - k ∧ k ≤ N ∧ v8 = .int .i64 k ∧ Hid (wr.ownsRow w.heap.size 9 1 v3 k (sv ((ps.take k).map txt)) ∧ Below w.heap.size w wr))
  case atStart => exact ⟨0, rfl, by omega, rfl, World.ownsRow_nil _ _ _ _, Below.refl _ _⟩
  case round =>
    obtain ⟨k, hgm, hk, rfl, HD⟩ := hrel
    by_cases hkN : k < N
    · have hkl : k < ps.length := by rw [HNN.out]; exact hkN
      have HSY := hidV (HM.out.fr (Fr.of_below (bs := []) HD.out.2) (by simp))
      have HRG := hidV (HSY.out.2 k hkl)
      have hgp := hps.at hkl
      have HT := hidV (txts_snoc ps hkl)
      have HTX := hidV (fun w' => Text_any (ps.getD k []) w' hgp)
      obtain ⟨p, HP⟩ : ∃ p, Hid (ps.getD k [] = p) := ⟨_, hidV rfl⟩
      rw [HP.out] at HRG hgp HT HTX
      have k0 : (0 : Int) ≤ (k : Int) := by omega
      have k1 : (k : Int) < (N : Int) := by omega
      have HF0 : Hid (Fr [wr.heap.size] wr ((wr.alloc (.cells (pv zeros) 76)).setCells wr.heap.size 0 (pv p).toList)) := Fr.setCells (Fr.alloc (Fr.refl _ _) _) _ _ _ (Or.inl (by simp))
      go_wp2_with (first | (refine wpList_load_pp (by rfl) _ (by rfl) g (k * 35) (by rfl) p hgp (by exact HRG.out) ?_) | (refine wpList_store_mid (by rfl) 76 _ _ (by rfl) wr.heap.size 0 (pv p) (by rfl) (by rfl) (by exact Blk.there (Blk.new wr _ _) (by rw [pv_size, hgp.1]; decide)) (size_poly hgp) (pv_one _) ?_) | (refine wpList_load_row (by rfl) 76 _ (by rfl) wr.heap.size (by rfl) 76 (pv p) (0, 0) _ (by exact Blk.setAll (Blk.new wr _ _) _ (by rw [pv_size, hgp.1]; rfl)) Tryz.underlying76 (by rfl) (size_poly hgp) ?_) | (go_at_call 139; refine (HTX.out _).mono ?_; rintro e w1 ⟨rfl, hb1⟩; have HF1 := hidV (HF0.out.trans (Fr.of_below (bs := []) hb1) (by simp)); have HO1 := hidV (ownsRow_fr HD.out.1 HF1.out (ownsRow_ne HD.out.1 (Nat.le_refl _))); clear hb1) | (at_builtin; refine wpList_append_lies _ (by rfl) (.tmp 12) (.tmp 15) 52 (by rfl) w.heap.size 9 i0 _ 1 16 Tryz.underlying52 hi hz0 hz1 hz2 (by rfl) (by decide) _ k (sv ((ps.take k).map txt)) (by rfl) (by exact HO1.out.alloc _) ⟨w1.heap.size, 0, none⟩ 1 1 [.string (bs (txt p))] (by rfl) (by rfl) (by exact World.news_of_block (Blk.new w1 _ _)) (by simp; rfl) (by decide) (by unfold maxLen; omega) (by omega) (by have := HD.out.2.size; have := HF1.out.size; simp; omega) _ rfl ?_; intro g2 cap2 w2 hown1 hgrow hat hlt1))
      go_roundg (N - (k + 1))
      case measure => omega
      case rel =>
        refine ⟨k + 1, rfl, by omega, by go_num, ?_, ?_⟩
        · rw [HT.out, sv_snoc]
          exact hown1
        · have hbb : Below w.heap.size w w1 := HD.out.2.trans (HF1.out.below (B := w.heap.size) HD.out.2.size (by simp; exact HD.out.2.size))
          exact (hbb.alloc hbb.size _).grown hgrow (by have := hbb.size; simp; omega) (fun b hb => ((HO1.out).lt b hb).1)
    · have ek : k = N := by omega
      have HE : Hid (wr.ownsRow w.heap.size 9 1 u3 (ps.map txt).length (sv (ps.map txt))) := by
        have h1 := HD.out.1
        rw [ek, List.take_of_length_le (by rw [HNN.out]; omega)] at h1
        unfold Hid
        rw [List.length_map, HNN.out]; exact h1
      have HJ := hidV (fun S hS => Join_sep (ps.map txt) [44, 32] S u3 w.heap.size wr hS HE.out (by rw [List.length_map, HNN.out]; omega) (by rw [← HPJ.out]; have := HPL.out; omega))
      rw [← HPJ.out] at HJ
      have k1 : ¬ (k : Int) < (N : Int) := by omega
      have HB := hidV HD.out.2
      clear ek HE HD
      go_wp2_with (go_at_call 142; refine (HJ.out _ (by rfl)).mono ?_; rintro e w1 ⟨rfl, hb1⟩)
      go_ret
      exact ⟨rfl, HB.out.trans (hb1.mono HB.out.size)⟩
end Go.Proofs.YthlmgpllapccfaaGreatDoor
/- THE PROGRAM's SYSTEMS: appendSegment. -/
namespace Go.Proofs.YthlmgpllapccfaaGreatDoor
open Go.RowKit

theorem run_equalIn_boolT (w : World) (d : Nat) (x y : Bool) : (Op.equalIn (d + 1) 4 (.bool x) (.bool y)).run Tryz.prog w = .ok (x == y) w := by
  simp [Op.equalIn, run_underlying Tryz.underlying4]
/-- Two sets compared value by value. -/
theorem set_eq (d : Nat) (b c : Nat → Bool) (w : World) :
    (Op.equalIn (d + 1 + 1) 155 (.agg (bv b)) (.agg (bv c))).run Tryz.prog w = .ok ((List.range 7).all fun j => b j == c j) w := by
  obtain ⟨i, hi⟩ := info_some (P := Tryz.prog) (t := 4) (by kernel_rfl)
  have hc : Tryz.prog.cellsOf 4 = 1 := by kernel_rfl
  have hk : Tryz.prog.plainKey 4 = true := by kernel_rfl
  rw [run_equalIn_array w (d + 1) (bv b) (bv c) Tryz.underlying155 hi, hc]
  refine eqItems_all w (d + 1) 4 1 (bv b) (bv c) _ _ ?_
  intro j hj
  rw [List.mem_range] at hj
  refine ⟨_, _, run_part_plain w hk (by rw [Nat.mul_one]; exact bv_get b hj), run_part_plain w hk (by rw [Nat.mul_one]; exact bv_get c hj), ?_⟩
  exact run_equalIn_boolT w d _ _
theorem vls_none {b : Nat → Bool} : ∀ {n : Nat}, vls b n = [] ↔ ∀ j, j < n → b j = false
  | 0 => ⟨fun _ j hj => by omega, fun _ => rfl⟩
  | n + 1 => by
    rw [vls]
    cases hb : b n with
    | true =>
      rw [if_pos rfl]
      exact ⟨fun h => by simp at h, fun h => by have := h n (by omega); rw [hb] at this; cases this⟩
    | false =>
      rw [if_neg (by decide), vls_none]
      exact ⟨fun h j hj => by
        by_cases e : j = n
        · rw [e]; exact hb
        · exact h j (by omega), fun h j hj => h j (by omega)⟩
theorem set_eq0 (b : Nat → Bool) (w : World) :
    (Op.equalIn 10000 155 (.agg (bv b)) (.agg #[.bool false, .bool false, .bool false, .bool false, .bool false, .bool false, .bool false])).run Tryz.prog w = .ok (decide (lsd b 7 = [])) w := by
  have h := set_eq 9998 b (fun _ => false) w
  have e : ((List.range 7).all fun j => b j == false) = decide (lsd b 7 = []) := by
    rw [Bool.eq_iff_iff, decide_eq_true_iff, lsd_nil, vls_none]
    simp only [List.all_eq_true, List.mem_range, beq_iff_eq]
  rw [e] at h
  exact h

def apS (ts : List (List UInt8)) (L : List UInt8) (b : Nat → Bool) : List (List UInt8) := if lsd b 7 = [] then ts else ts ++ [L ++ [58, 32] ++ lsd b 7]

set_option maxRecDepth 100000 in
set_option maxHeartbeats 800000 in
theorem appendSegment_any (v : Value) (base : Nat) (ts : List (List UInt8)) (L : List UInt8) (S : ByteArray) (b : Nat → Bool) (w : World) (hS : S = bs L) (hL : L.length ≤ 3) (ho : w.ownsRow base 9 1 v ts.length (sv ts)) (hb : base ≤ w.heap.size) (ht : ts.length ≤ 6) :
    Calls Tryz.prog 175 #[v, .string S, .agg (bv b)] w fun e w' => ∃ v', e = .returned v' ∧ w'.ownsRow base 9 1 v' (apS ts L b).length (sv (apS ts L b)) ∧ Below base w w' ∧ ∀ k, k < w.heap.size → v.ownBlock ≠ some k → w'.heap[k]? = w.heap[k]? := by
  subst hS
  have HO := hidV ho
  have HTX := hidV (fun (w' : World) => SetText_any b w')
  have HJL := hidV (lsd_len b 7)
  have heq := set_eq0 b
  have hsz := size_bv b
  clear ho
  unfold apS
  obtain ⟨J, HJ⟩ : ∃ J, Hid (lsd b 7 = J) := ⟨_, hidV rfl⟩
  obtain ⟨z, HZ⟩ : ∃ z, Hid (bv b = z) := ⟨_, hidV rfl⟩
  rw [HJ.out] at HTX HJL heq ⊢
  rw [HZ.out] at HTX heq hsz ⊢
  by_cases h0 : J = []
  · rw [if_pos h0]
    obtain ⟨p2, cap2, rfl⟩ := ownsRow_form HO.out
    have hq : ∀ w' : World, (Op.equalIn 10000 155 (.agg z) (.agg #[.bool false, .bool false, .bool false, .bool false, .bool false, .bool false, .bool false])).run Tryz.prog w' = .ok true w' := fun w' => by rw [heq w', h0]; rfl
    clear heq h0
    go_enter Tryz.func175, Tryz.ntmps175
    go_wp2_with (refine wpList_load_row (by rfl) 155 _ (by rfl) w.heap.size (by rfl) 155 z (0, 0) _ (by exact Blk.new w _ _) Tryz.underlying155 (by rfl) hsz ?_)
    go_ret
    exact ⟨_, rfl, HO.out.alloc _, (Below.refl _ _).alloc hb _, fun k hk _ => ((Fr.refl [] w).alloc _).block k hk (by simp)⟩
  · rw [if_neg h0]
    have hq : ∀ w' : World, (Op.equalIn 10000 155 (.agg z) (.agg #[.bool false, .bool false, .bool false, .bool false, .bool false, .bool false, .bool false])).run Tryz.prog w' = .ok false w' := fun w' => by rw [heq w']; simp [h0]
    obtain ⟨p2, cap2, rfl⟩ := ownsRow_form HO.out
    obtain ⟨i0, hi, hz0, hz1, hz2⟩ := info_parts str_info
    obtain ⟨Y1, HY1⟩ : ∃ Y, Hid (L ++ [58, 32] = Y) := ⟨_, hidV rfl⟩
    have HL1 : Hid (Y1.length ≤ 5) := by unfold Hid; rw [← HY1.out, List.length_append]; simp only [List.length_cons, List.length_nil]; omega
    have hadd1 := fun (w' : World) => add_to L [58, 32] Y1 ⟨#[58, 32]⟩ rfl HY1.out (by omega) (by simp) w'
    rw [HY1.out]
    obtain ⟨Y2, HY2⟩ : ∃ Y, Hid (Y1 ++ J = Y) := ⟨_, hidV rfl⟩
    have hadd2 := fun (w' : World) => add_to Y1 J Y2 (bs J) rfl HY2.out (by have := HL1.out; omega) (by have := HJL.out; omega) w'
    rw [HY2.out]
    have HF0 : Hid (Fr [] w (w.alloc (.cells z 155))) := (Fr.refl [] w).alloc _
    clear h0 heq
    go_enter Tryz.func175, Tryz.ntmps175
    go_wp2_with (first | (refine wpList_load_row (by rfl) 155 _ (by rfl) w.heap.size (by rfl) 155 z (0, 0) _ (by exact Blk.new w _ _) Tryz.underlying155 (by rfl) hsz ?_) | (go_at_call 173; refine (HTX.out _).mono ?_; rintro e w1 ⟨rfl, hb1⟩; have HB1 := hidV (HF0.out.trans (Fr.of_below (bs := []) hb1) (by simp)); have HO1 := hidV (ownsRow_frL HO.out HB1.out (by simp)); clear hb1) | (at_builtin; refine wpList_append_lies _ (by rfl) (.tmp 11) (.tmp 17) 52 (by rfl) base 9 i0 _ 1 16 Tryz.underlying52 hi hz0 hz1 hz2 (by rfl) (by decide) _ ts.length (sv ts) (by rfl) (by exact HO1.out.alloc _) ⟨w1.heap.size, 0, none⟩ 1 1 [.string (bs Y2)] (by rfl) (by rfl) (by exact World.news_of_block (Blk.new w1 _ _)) (by simp; rfl) (by decide) (by unfold maxLen; omega) (by omega) (by have := HB1.out.size; simp; omega) _ rfl ?_; intro g2 cap2 w2 hown1 hgrow hat hlt1))
    go_ret
    refine ⟨_, rfl, ?_, ?_, ?_⟩
    · rw [sv_snoc, List.length_append]
      exact hown1
    · have hbb : Below base w w1 := HB1.out.below (B := base) hb (by simp)
      exact (hbb.alloc (by have := HB1.out.size; omega) _).grown hgrow (by have := HB1.out.size; simp; omega) (fun c hc => ((HO1.out).lt c hc).1)
    · intro k hk hne
      rw [hgrow.block k (by have := HB1.out.size; simp; omega) (fun q => hne q.symm)]
      exact (HB1.out.alloc _).block k hk (by simp)
end Go.Proofs.YthlmgpllapccfaaGreatDoor
/- THE PROGRAM's SYSTEMS: Split. -/
namespace Go.Proofs.YthlmgpllapccfaaGreatDoor
open Go.RowKit

/-- The label's number of a value of u. -/
theorem inSeg_lab (F : Nat → Nat) {e u : Nat} (he : e ≤ 5) (hu : F u ≤ 5) : inSeg F e u = decide (e = ofN (F u)) := by
  unfold inSeg ofN
  rw [Bool.eq_iff_iff, decide_eq_true_iff, decide_eq_true_iff]
  by_cases h0 : F u = 0 <;> by_cases h5 : e = 5 <;> simp [h0, h5] <;> omega
theorem ofN_le {n : Nat} (h : n ≤ 5) : ofN n ≤ 5 := by unfold ofN; split <;> omega
/-- The segments, as far as values below x are told. -/
def sgB (F : Nat → Nat) (x e u : Nat) : Bool := decide (u < x) && inSeg F e u
theorem sgB_step (F : Nat → Nat) {x e : Nat} (he : e ≤ 5) (hx : F x ≤ 5) (u : Nat) : sgB F (x + 1) e u = if e = ofN (F x) ∧ u = x then true else sgB F x e u := by
  unfold sgB
  by_cases hu : u = x
  · subst hu
    rw [inSeg_lab F he hx]
    by_cases h : e = ofN (F u)
    · simp [h]
    · simp [h]
  · rw [if_neg (fun q => hu q.2)]
    by_cases h : u < x
    · simp [h, show u < x + 1 by omega]
    · simp [h, show ¬ u < x + 1 by omega]
theorem sgB_end (F : Nat → Nat) (e : Nat) : bv (sgB F 7 e) = bv (inSeg F e) := bv_congr (fun i hi => by simp [sgB, hi])
/-- Five sets in an array. -/
def bw (c : Nat → Nat → Bool) : Array Value := ((List.range 35).map fun i => Value.bool (c (i / 7) (i % 7))).toArray
theorem bw_size (c : Nat → Nat → Bool) : (bw c).size = 35 := by simp [bw]
theorem bw_get (c : Nat → Nat → Bool) {d x : Nat} (hd : d < 5) (hx : x < 7) : (bw c)[d * 7 + x]? = some (.bool (c d x)) := by
  unfold bw
  rw [List.getElem?_toArray, List.getElem?_map, List.getElem?_range (by omega)]
  simp only [Option.map_some]
  rw [show (d * 7 + x) / 7 = d by omega, show (d * 7 + x) % 7 = x by omega]
theorem bw_set (c c' : Nat → Nat → Bool) {d x : Nat} (hd : d < 5) (hx : x < 7) (h : ∀ e u, e < 5 → c' e u = if e = d ∧ u = x then true else c e u) : (bw c).setIfInBounds (d * 7 + x) (.bool true) = bw c' := by
  apply Array.ext_getElem?
  intro i
  by_cases hi : i < 35
  · obtain ⟨e, u, he, hu, rfl⟩ : ∃ e u, e < 5 ∧ u < 7 ∧ i = e * 7 + u := ⟨i / 7, i % 7, by omega, by omega, by omega⟩
    rw [bw_get c' he hu, h e u he]
    by_cases q : e = d ∧ u = x
    · obtain ⟨rfl, rfl⟩ := q
      rw [if_pos ⟨rfl, rfl⟩, Array.getElem?_setIfInBounds_self_of_lt (by rw [bw_size]; exact hi)]
    · rw [if_neg q, Array.getElem?_setIfInBounds_ne (by intro e2; apply q; omega), bw_get c he hu]
  · rw [Array.getElem?_eq_none (by simp [bw_size]; omega), Array.getElem?_eq_none (by rw [bw_size]; omega)]
theorem bw_congr {c c' : Nat → Nat → Bool} (h : ∀ e u, e < 5 → u < 7 → c e u = c' e u) : bw c = bw c' := by
  apply Array.ext_getElem?
  intro i
  by_cases hi : i < 35
  · obtain ⟨e, u, he, hu, rfl⟩ : ∃ e u, e < 5 ∧ u < 7 ∧ i = e * 7 + u := ⟨i / 7, i % 7, by omega, by omega, by omega⟩
    rw [bw_get c' he hu, bw_get c he hu, h e u he hu]
  · rw [Array.getElem?_eq_none (by rw [bw_size]; omega), Array.getElem?_eq_none (by rw [bw_size]; omega)]
theorem bw_ext (c : Nat → Nat → Bool) {d : Nat} (hd : d < 5) : (bw c).extract (d * 7) (d * 7 + 7) = bv (c d) := by
  apply Array.ext_getElem?
  intro j
  by_cases hj : j < 7
  · rw [Array.getElem?_extract, if_pos (by rw [bw_size]; omega), bw_get c hd hj, bv_get _ hj]
  · rw [Array.getElem?_eq_none (by simp [bw_size]; omega), Array.getElem?_eq_none (by rw [bv_size]; omega)]
theorem size_bw (c : Nat → Nat → Bool) : (Tryz.prog.info? 262).map (·.size) = some (bw c).size := by rw [bw_size]; kernel_rfl
theorem idx_bw (c : Nat → Nat → Bool) {d : Nat} (hd : d < 5) (w : World) : (Instr.index 262 (.agg (bw c)) (.int .i64 (d : Int))).run Tryz.prog w = .ok (.agg (bv (c d))) w := by
  obtain ⟨i, hi⟩ := info_some (P := Tryz.prog) (t := 155) (by kernel_rfl)
  have hs : i.size = 7 := by
    have h7 : (Tryz.prog.info? 155).map (·.size) = some 7 := by kernel_rfl
    rw [hi] at h7; simpa using h7
  have hp : (part 155 (bw c) (d * 7)).run Tryz.prog w = .ok (.agg (bv (c d))) w := by
    simp [part, isAgg, run_underlying Tryz.underlying155, bw_ext c hd, sizeOf, typeInfo, hi, hs]
  simp [Instr.index, asIntOf, run_underlying Tryz.underlying262, sizeOf, typeInfo, hi, hs, hp]
  intro h; omega
theorem apS_sgs (F : Nat → Nat) (d : Nat) : apS (sgs F d) (lab d) (inSeg F d) = sgs F (d + 1) := by
  unfold apS
  rw [sgs]
  by_cases h : lsd (inSeg F d) 7 = []
  · rw [if_pos h, if_pos h]
  · rw [if_neg h, if_neg h]; rfl
theorem bw_zero (F : Nat → Nat) : bw (sgB F 0) = (List.replicate 35 (Value.bool false)).toArray := by
  have : bw (sgB F 0) = bw (fun _ _ => false) := bw_congr (fun e u _ _ => by simp [sgB])
  rw [this]; rfl
theorem bv_zero (F : Nat → Nat) : bv (sgB F 0 5) = #[.bool false, .bool false, .bool false, .bool false, .bool false, .bool false, .bool false] := by
  have : bv (sgB F 0 5) = bv (fun _ => false) := bv_congr (fun u _ => by simp [sgB])
  rw [this]; rfl

def ldSet (x : Value) : Sem Value := Instr.loadAt 155 x
theorem ldSet_eq (x : Value) : Instr.loadAt 155 x = ldSet x := rfl
theorem run_ldS (w : World) (b : Nat) (z : Array Value) (hz : (Tryz.prog.info? 155).map (·.size) = some z.size) (h : Blk w b z 155) : (ldSet (.pointer (some ⟨b, 0, none⟩))).run Tryz.prog w = .ok (.agg z) w := by
  unfold ldSet
  simp only [Instr.loadAt, Instr.sureAddr, Sem.run_bind, Sem.run_pure, Result.andThen_ok, run_loadVar_row w b 155 155 z (0, 0) _ h Tryz.underlying155 rfl hz]
section
attribute [local go_sem ↓] ldSet_eq
set_option maxRecDepth 100000 in
set_option maxHeartbeats 800000 in
theorem Split_any (ps : List (List Nat)) (g cap N : Nat) (w : World) (hps : Goods ps) (hN : ps.length = N) (hl : N ≤ 4) (hm : Sy w g ps) :
    Calls Tryz.prog 134 #[.slice (some ⟨g, 0, none⟩) N cap] w fun e w' => e = .returned (.string (bs (spl (ofD ps) 6))) ∧ Below w.heap.size w w' := by
  have HM := hidV hm
  have HDV := hidV (fun (x : Nat) (w' : World) (hx : x < 7) (h : Sy w' g ps) => SysDivisor_any ps g cap N x x w' hps hN hl (by omega) hx h)
  have HDG := hidV (fun (x : Nat) => Degree_any (gall (lins x ps)))
  have HSJ := hidV (spl_join (ofD ps) 6)
  have HSL := hidV (spl_len (ofD ps) 6)
  rw [HSJ.out] at HSL ⊢
  have HFD : Hid (∀ x, dg (gall (lins x ps)) = ofD ps x) := fun x => rfl
  have HF5 : Hid (∀ x, ofD ps x ≤ 5) := fun x => dg_le _
  obtain ⟨F, HF⟩ : ∃ F, Hid (ofD ps = F) := ⟨_, hidV rfl⟩
  rw [HF.out] at HFD HF5 HSL ⊢
  obtain ⟨R, HR⟩ : ∃ R, Hid (Lib.join (sgs F 6) [59, 32] = R) := ⟨_, hidV rfl⟩
  rw [HR.out] at HSL ⊢
  clear hm hN
  go_enter Tryz.func134, Tryz.ntmps134
  go_wp2
  refine wp_forget (fun W => Blk W w.heap.size (bw (sgB F 0)) 262 ∧ Blk W (w.heap.size + 1) (bv (sgB F 0 5)) 155 ∧ Below w.heap.size w W) ⟨by rw [bw_zero]; exact Blk.alloc (Blk.new w _ _) _, by rw [bv_zero]; exact Blk.newAt _ _ _ (by simp), by go_grown⟩ ?_
  rintro W ⟨b1, b2, hbel⟩
  have HH := hidV (And.intro b1 (And.intro b2 hbel))
  clear b1 b2 hbel
  go_loopg [10] 7 (fun gm v10 wr => ∃ x : Nat, gm = 7 - x ∧ x ≤ 7 ∧ v10 = .int .i64 x ∧ Hid (Blk wr w.heap.size (bw (sgB F x)) 262 ∧ Blk wr (w.heap.size + 1) (bv (sgB F x 5)) 155 ∧ Below w.heap.size w wr))
  case atStart => exact ⟨0, rfl, by omega, rfl, HH.out⟩
  case round =>
    obtain ⟨x, hgm, hx, rfl, HD⟩ := hrel
    clear HH
    have hl1 : w.heap.size + 1 < wr.heap.size := HD.out.2.1.lt
    by_cases h7 : x < 7
    · have HSY := hidV (HM.out.fr (Fr.of_below (bs := []) HD.out.2.2) (by simp))
      have HDX := hidV (HDV.out x wr h7 HSY.out)
      have HGX := hidV (HDG.out x)
      rw [HFD.out x] at HGX
      have hF5 := HF5.out x
      have x0 : (0 : Int) ≤ (x : Int) := by omega
      have x1 : (x : Int) < 7 := by omega
      obtain ⟨G, HG⟩ : ∃ G, Hid (upL (gall (lins x ps)) = G) := ⟨_, hidV rfl⟩
      rw [HG.out] at HDX HGX
      by_cases hz : F x = 0
      · have H5E : Hid (ofN (F x) = 5) := by unfold Hid ofN; rw [if_pos hz]
        rw [hz] at HGX
        go_wp2_with (first | (go_at_call 138; refine (HDX.out).mono ?_; rintro e w1 ⟨rfl, hb1⟩; have HB1 := hidV (Fr.of_below (bs := []) hb1); clear hb1) | (go_at_call 132; refine (HGX.out _).mono ?_; rintro e w2 ⟨rfl, hb2⟩; have HB2 := hidV (HB1.out.trans (Fr.of_below (bs := []) hb2) (by simp)); have HA2 := hidV (HD.out.2.1.fr HB2.out (by simp)); have hc2 : w2.cell? ⟨w.heap.size + 1, x, none⟩ = some (.bool (sgB F x 5 x)) := (by rw [HA2.out.cell]; exact bv_get _ h7); have hf2 : w2.frozen? ⟨w.heap.size + 1, x, none⟩ = false := HA2.out.frozen _; clear hb2))
        go_roundg (7 - (x + 1))
        case measure => omega
        case rel =>
          refine ⟨x + 1, rfl, by omega, by go_num, ?_, ?_, ?_⟩
          · have e : bw (sgB F (x + 1)) = bw (sgB F x) := bw_congr (fun e u he _ => by rw [sgB_step F (by omega) hF5, if_neg (by rw [H5E.out]; omega)])
            rw [e]
            exact (HD.out.1.fr HB2.out (by simp)).setOther _ _ (by simp)
          · have e : bv (sgB F (x + 1) 5) = bv (fun j => if j = x then true else sgB F x 5 j) := bv_congr (fun u _ => by
              rw [sgB_step F (by omega) hF5]
              by_cases q : u = x
              · rw [if_pos ⟨H5E.out.symm, q⟩, if_pos q]
              · rw [if_neg (fun t => q t.2), if_neg q])
            rw [e, ← bv_upd _ _ h7]
            exact HA2.out.set _ _
          · exact Below.setCell (HD.out.2.2.trans (HB2.out.below (B := w.heap.size) HD.out.2.2.size (by simp))) (by simp) _
      · obtain ⟨d, hd⟩ : ∃ d, F x = d + 1 := ⟨F x - 1, by omega⟩
        have H5E : Hid (ofN (F x) = d) := by unfold Hid ofN; rw [if_neg hz, hd]; rfl
        have hdd : ((F x : Nat) : Int) - 1 = (d : Int) := by omega
        rw [hdd] at HGX
        have hd5 : d < 5 := by omega
        have d0 : (0 : Int) ≤ (d : Int) := by omega
        have d1 : (d : Int) < 5 := by omega
        have hdm : ((d : Int) == -1) = false := by rw [beq_eq_false_iff_ne]; omega
        clear hz hd hdd
        go_wp2_with (first | (go_at_call 138; refine (HDX.out).mono ?_; rintro e w1 ⟨rfl, hb1⟩; have HB1 := hidV (Fr.of_below (bs := []) hb1); clear hb1) | (go_at_call 132; refine (HGX.out _).mono ?_; rintro e w2 ⟨rfl, hb2⟩; have HB2 := hidV (HB1.out.trans (Fr.of_below (bs := []) hb2) (by simp)); have HA2 := hidV (HD.out.1.fr HB2.out (by simp)); have hc2 : w2.cell? ⟨w.heap.size, d * 7 + x, none⟩ = some (.bool (sgB F x d x)) := (by rw [HA2.out.cell]; exact bw_get _ hd5 h7); have hf2 : w2.frozen? ⟨w.heap.size, d * 7 + x, none⟩ = false := HA2.out.frozen _; clear hb2))
        go_roundg (7 - (x + 1))
        case measure => omega
        case rel =>
          refine ⟨x + 1, rfl, by omega, by go_num, ?_, ?_, ?_⟩
          · rw [← bw_set (sgB F x) (sgB F (x + 1)) hd5 h7 (fun e u he => by rw [sgB_step F (by omega) hF5, H5E.out])]
            exact HA2.out.set _ _
          · have e : bv (sgB F (x + 1) 5) = bv (sgB F x 5) := bv_congr (fun u _ => by rw [sgB_step F (by omega) hF5, if_neg (by rw [H5E.out]; omega)])
            rw [e]
            exact (HD.out.2.1.fr HB2.out (by simp)).setOther _ _ (by simp)
          · exact Below.setCell (HD.out.2.2.trans (HB2.out.below (B := w.heap.size) HD.out.2.2.size (by simp))) (by simp) _
    · have ex : x = 7 := by omega
      subst ex
      obtain ⟨V, rfl⟩ : ∃ V, V = wr := ⟨_, rfl⟩
      have HIX := hidV (fun (d : Nat) (hd : d < 5) (w' : World) => idx_bw (sgB F 7) hd w')
      have HAP := hidV (fun (e : Nat) (he : e ≤ 5) (vt : Value) (S : ByteArray) (ws : World) (hS : S = bs (lab e)) (ho : ws.ownsRow V.heap.size 9 1 vt (sgs F e).length (sv (sgs F e))) (hb : V.heap.size ≤ ws.heap.size) => appendSegment_any vt V.heap.size (sgs F e) (lab e) S (inSeg F e) ws hS (by unfold lab; split <;> simp) ho hb (by have := sgs_len F e; omega))
      have HB0 := hidV HD.out
      have h237 := size_bw (sgB F 7)
      have h155 := fun e => size_bv (inSeg F e)
      have HEN := hidV (fun e => sgB_end F e)
      rw [HEN.out 5] at HB0
      clear HD
      obtain ⟨z, HZ⟩ : ∃ z, Hid (bw (sgB F 7) = z) := ⟨_, hidV rfl⟩
      rw [HZ.out] at HB0 HIX h237
      go_wp2_with (refine wpList_load_row (by rfl) 262 _ (by rfl) w.heap.size (by rfl) 262 z (0, 0) _ (by exact HB0.out.1) Tryz.underlying262 (by rfl) h237 ?_)
      go_loopg [7, 27] 5 (fun gm v7 v27 ws => ∃ d : Nat, gm = 5 - d ∧ d ≤ 5 ∧ v27 = .int .i64 d ∧ Hid (ws.ownsRow V.heap.size 9 1 v7 (sgs F d).length (sv (sgs F d)) ∧ Below V.heap.size V ws))
      case atStart => exact ⟨0, rfl, by omega, rfl, World.ownsRow_nil _ _ _ _, Below.refl _ _⟩
      case round =>
        obtain ⟨d, hgm2, hd, rfl, HE⟩ := hrel
        have HA := hidV (fun v S w' hS ho hb => HAP.out d (by omega) v S w' hS ho hb)
        rw [apS_sgs] at HA
        have hw5 := HE.out.2.size
        by_cases h5 : d < 5
        · have hix := HIX.out d h5
          rw [HEN.out d] at hix
          have hsz := h155 d
          have hon := bv_one (inSeg F d)
          have HS7 : Hid ((bv (inSeg F d)).size = 7) := bv_size _
          obtain ⟨y, HY⟩ : ∃ y, Hid (bv (inSeg F d) = y) := ⟨_, hidV rfl⟩
          rw [HY.out] at hix HA hsz hon HS7
          have HLB : Hid (lab d = [dgt d]) := by unfold Hid lab; rw [if_neg (by omega)]
          rw [HLB.out] at HA
          have d1 : (d : Int) < 5 := by omega
          have HF0 : Hid (Fr [] wr ((wr.alloc (.cells #[.bool false, .bool false, .bool false, .bool false, .bool false, .bool false, .bool false] 155)).setCells wr.heap.size 0 y.toList)) := Fr.setCells (Fr.alloc (Fr.refl _ _) _) _ _ _ (Or.inr (Nat.le_refl _))
          have HB7 : Hid (Blk ((wr.alloc (.cells #[.bool false, .bool false, .bool false, .bool false, .bool false, .bool false, .bool false] 155)).setCells wr.heap.size 0 y.toList) wr.heap.size y 155) := Blk.setAll (Blk.new wr _ _) _ (by rw [HS7.out]; rfl)
          have HTH : Hid ((wr.alloc (.cells #[.bool false, .bool false, .bool false, .bool false, .bool false, .bool false, .bool false] 155)).there wr.heap.size 0 y.size) := Blk.there (Blk.new wr _ _) (by rw [HS7.out]; exact Nat.le_refl _)
          go_wp2_with (refine wpList_store_mid (by rfl) 155 _ _ (by rfl) wr.heap.size 0 y (by rfl) (by rfl) HTH.out hsz hon ?_)
          have hld := fun (w' : World) (h : Blk w' wr.heap.size y 155) => run_ldS w' wr.heap.size y hsz h
          go_region_held3 (fun w' => Blk w' wr.heap.size y 155) (first | assumption | exact HB7.out) (first | (go_at_call 146; refine (Itoa_dgt d _ _ rfl (by omega)).mono ?_; rintro e w1 ⟨rfl, rfl⟩) | (go_at_call 175; refine (HA.out _ _ _ (by rfl) (by exact ownsRow_frL HE.out.1 HF0.out.drew (by simp)) (by have := HF0.out.size; exact Nat.le_trans hw5 this)).mono ?_; rintro e w2 ⟨vt, rfl, ho2, hb2, hk2⟩; have HO2 := hidV (And.intro ho2 hb2); have bk2 : Blk w2 wr.heap.size y 155 := (hk2 wr.heap.size (by exact HB7.out.lt) (fun q => by have := (HE.out.1.lt _ q).2; omega)).trans (by exact HB7.out); clear ho2 hb2 hk2))
          go_wp2
          go_roundg (5 - (d + 1))
          case measure => omega
          case rel => exact ⟨d + 1, rfl, by omega, by go_num, HO2.out.1, (HE.out.2.trans (HF0.out.drew.below (B := V.heap.size) HE.out.2.size (by simp))).trans HO2.out.2⟩
        · have ed : d = 5 := by omega
          subst ed
          have HSX : Hid ((sgs F 6).length ≤ 6) := sgs_len F 6
          have hsz := h155 5
          have HB5 := hidV (HB0.out.2.1.fr (Fr.of_below (bs := []) HE.out.2) (by simp))
          obtain ⟨y, HY⟩ : ∃ y, Hid (bv (inSeg F 5) = y) := ⟨_, hidV rfl⟩
          rw [HY.out] at HA hsz HB5
          go_wp2_with (first | (refine wpList_load_row (by rfl) 155 _ (by rfl) (w.heap.size + 1) (by rfl) 155 y (0, 0) _ (by exact HB5.out) Tryz.underlying155 (by rfl) hsz ?_) | (go_at_call 175; refine (HA.out _ _ _ (by rfl) (by exact HE.out.1) hw5).mono ?_; rintro e w2 ⟨vt, rfl, ho2, hb2, _⟩; have HO2 := hidV (And.intro ho2 hb2); clear ho2 hb2) | (go_at_call 142; refine (Join_sep (sgs F 6) [59, 32] _ _ _ _ (by rfl) HO2.out.1 (by have := HSX.out; omega) (by rw [HR.out]; have := HSL.out; omega)).mono ?_; rintro e w3 ⟨rfl, hb3⟩; have HB3 := hidV hb3; clear hb3))
          rw [HR.out]
          go_ret
          have h1 := HE.out.2.trans HO2.out.2
          refine ⟨rfl, ?_⟩
          have h2 : Below w.heap.size w w2 := HB0.out.2.2.trans (h1.mono HB0.out.2.2.size)
          exact h2.trans (HB3.out.mono h2.size)
end
end Go.Proofs.YthlmgpllapccfaaGreatDoor
/- THE PROGRAM's COMMANDS. -/
namespace Go.Proofs.YthlmgpllapccfaaGreatDoor
open Go.RowKit

theorem Fr.setBlock {bs : List Nat} {a w : World} (h : Fr bs a w) (b : Nat) (o : Obj) (hb : b ∈ bs) : Fr bs a (ChangeMaps.setBlock w b o) :=
  ⟨h.os, h.tape, h.output, by have := h.size; simp [ChangeMaps.setBlock]; omega, fun k hk hn => by
    have : (ChangeMaps.setBlock w b o).heap[k]? = w.heap[k]? := by
      show (w.heap.setIfInBounds b o)[k]? = _
      rw [Array.getElem?_setIfInBounds_ne (by intro q; subst q; exact hn hb)]
    rw [this]; exact h.block k hk hn⟩

set_option maxHeartbeats 1000000 in
theorem GiveDo_any (bm n : Nat) (Ms : List Nat) (st : Nat → Mng) (m : Mng) (T : TypeId) (v : Value) (C : Int) (w : World) (hn : n < 26) (hC : C = ((n + 65 : Nat) : Int)) (hm : Nm w Ms bm st) (hv : NV w Ms m (some (.iface T v))) :
    Calls Tryz.prog 135 #[.agg #[.int .u8 C, .iface T v], .map (some bm)] w fun e w' => e = .returned (.string ⟨#[]⟩) ∧ Nm w' Ms bm (upd st n m) ∧ Fr [bm] w w' := by
  have HCC := hidV hC
  clear hC
  obtain ⟨⟨es, clock, h1, h2, h3⟩, hmem⟩ := hm
  have hbl : bm < w.heap.size := by
    rcases Nat.lt_or_ge bm w.heap.size with q | q
    · exact q
    · rw [Array.getElem?_eq_none q] at h1; simp at h1
  obtain ⟨es', clock', hrun, hK', hget⟩ := run_update_u8 (P := Tryz.prog) (w := w.alloc (.cells #[.int .u8 C, .iface T v] 141)) Tryz.underlying69 Tryz.underlying5 (by rw [((Fr.refl [] w).alloc _).block bm hbl (by simp)]; exact h1) h2 C (.iface T v)
  have HH := hidV (And.intro h3 (And.intro hK' hget))
  have HV := hidV hv
  have HMM := hidV hmem
  clear h1 h2 h3 hK' hget hv hmem
  go_enter Tryz.func135, Tryz.ntmps135
  go_wp2
  go_ret
  have hf : Fr [bm] w (ChangeMaps.setBlock (w.alloc (.cells #[.int .u8 C, .iface T v] 141)) bm (.map es' clock')) := Fr.setBlock ((Fr.refl [bm] w).alloc _) bm _ (by simp)
  refine ⟨rfl, ⟨⟨es', clock', ?_, HH.out.2.1, fun k hk => ?_⟩, HMM.out⟩, hf⟩
  · show ((w.alloc (.cells #[.int .u8 C, .iface T v] 141)).heap.setIfInBounds bm _)[bm]? = _
    rw [Array.getElem?_setIfInBounds_self_of_lt (by simp; omega)]
  · rw [HH.out.2.2]
    unfold upd
    by_cases q : k = n
    · subst q
      rw [if_pos rfl, if_pos HCC.out.symm]
      exact HV.out.fr hf (by simp [HMM.out])
    · rw [if_neg q, if_neg (by rw [HCC.out]; omega)]
      exact (HH.out.1 k hk).fr hf (by simp [HMM.out])

set_option maxHeartbeats 1000000 in
theorem TellDo_sys (ps : List (List Nat)) (g cap N : Nat) (M : Value) (w : World) (hps : Goods ps) (hN : ps.length = N) (hl : N ≤ 4) (hm : Sy w g ps) :
    Calls Tryz.prog 136 #[.agg #[.iface 136 (.slice (some ⟨g, 0, none⟩) N cap)], M] w fun e w' => e = .returned (.string (bs (prn ps N))) ∧ Below w.heap.size w w' := by
  have HTX := hidV (fun w' h => SysText_any ps g cap N w' hps hN hl h)
  have HM := hidV hm
  clear hm hN
  go_enter Tryz.func136, Tryz.ntmps136
  go_wp2_with fail
  refine (HTX.out _ (HM.out.fr ((Fr.refl [] w).alloc _) (by simp))).mono ?_
  rintro e w1 ⟨rfl, hb1⟩
  go_wp2
  go_ret
  exact ⟨rfl, below_alloc hb1⟩

set_option maxHeartbeats 1000000 in
theorem RootsDo_any (ps : List (List Nat)) (g cap N a : Nat) (A : Int) (M : Value) (w : World) (hps : Goods ps) (hN : ps.length = N) (hl : N ≤ 4) (hA : A % 7 = a) (ha : a < 7) (hm : Sy w g ps) :
    Calls Tryz.prog 168 #[.agg #[.slice (some ⟨g, 0, none⟩) N cap, .int .i64 A], M] w fun e w' => e = .returned (.string (bs (lsd (rts (lins a ps)) 7))) ∧ Below w.heap.size w w' := by
  have HTX := hidV (fun w' h => SysRoots_any ps g cap N a A w' hps hN hl hA ha h)
  have HM := hidV hm
  clear hm hN hA
  go_enter Tryz.func168, Tryz.ntmps168
  go_wp2_with fail
  refine (HTX.out _ (HM.out.fr ((Fr.refl [] w).alloc _) (by simp))).mono ?_
  rintro e w1 ⟨rfl, hb1⟩
  go_wp2
  go_ret
  exact ⟨rfl, below_alloc hb1⟩

set_option maxHeartbeats 1000000 in
theorem SplitDo_any (ps : List (List Nat)) (g cap N : Nat) (M : Value) (w : World) (hps : Goods ps) (hN : ps.length = N) (hl : N ≤ 4) (hm : Sy w g ps) :
    Calls Tryz.prog 174 #[.agg #[.slice (some ⟨g, 0, none⟩) N cap], M] w fun e w' => e = .returned (.string (bs (spl (ofD ps) 6))) ∧ Below w.heap.size w w' := by
  have HTX := hidV (fun w' h => Split_any ps g cap N w' hps hN hl h)
  have HM := hidV hm
  clear hm hN
  go_enter Tryz.func174, Tryz.ntmps174
  go_wp2_with fail
  refine (HTX.out _ (HM.out.fr ((Fr.refl [] w).alloc _) (by simp))).mono ?_
  rintro e w1 ⟨rfl, hb1⟩
  go_wp2
  go_ret
  exact ⟨rfl, below_alloc hb1⟩

set_option maxHeartbeats 1000000 in
theorem DivisorDo_any (ps : List (List Nat)) (g cap N a : Nat) (A : Int) (M : Value) (w : World) (hps : Goods ps) (hN : ps.length = N) (hl : N ≤ 4) (hA : A % 7 = a) (ha : a < 7) (hm : Sy w g ps) :
    Calls Tryz.prog 137 #[.agg #[.slice (some ⟨g, 0, none⟩) N cap, .int .i64 A], M] w fun e w' => e = .returned (.string (bs (txt (upL (gall (lins a ps)))))) ∧ Below w.heap.size w w' := by
  have HDV := hidV (fun w' h => SysDivisor_any ps g cap N a A w' hps hN hl hA ha h)
  have HG : Hid (Good (upL (gall (lins a ps)))) := upL_good (fun i _ => ((gall_any _ (lins_vec a ps)).1 i).1)
  have HTX := hidV (fun w' => Text_any (upL (gall (lins a ps))) w' HG.out)
  have HM := hidV hm
  clear hm hN hA
  generalize upL (gall (lins a ps)) = G at *
  go_enter Tryz.func137, Tryz.ntmps137
  go_wp2_with fail
  refine (HDV.out _ (HM.out.fr ((Fr.refl [] w).alloc _) (by simp))).mono ?_
  rintro e w1 ⟨rfl, hb1⟩
  have HB1 := hidV (below_alloc hb1)
  clear hb1
  go_wp2_with fail
  refine (HTX.out _).mono ?_
  rintro e w2 ⟨rfl, hb2⟩
  go_wp2
  go_ret
  exact ⟨rfl, HB1.out.trans (hb2.mono HB1.out.size)⟩
end Go.Proofs.YthlmgpllapccfaaGreatDoor
/- THE PROGRAM: Line; a session's Do. -/
namespace Go.Proofs.YthlmgpllapccfaaGreatDoor
open Go.RowKit

theorem NV.less {w : World} {Ms Mw : List Nat} {m : Mng} {o : Option Value} (h : NV w Mw m o) (hs : ∀ x ∈ Ms, x ∈ Mw) : NV w Ms m o := by
  cases m with
  | sys ps =>
    obtain ⟨g, cap, h1, h2, h3, h4, h5, h6⟩ := h
    exact ⟨g, cap, h1, h2, h3, h4, h5, fun q => h6 (hs g q)⟩
  | non => exact h
  | set b => exact h
theorem Nm.less {w : World} {Ms Mw : List Nat} {bm : Nat} {st : Nat → Mng} (h : Nm w Mw bm st) (hs : ∀ x ∈ Ms, x ∈ Mw) (hb : bm ∈ Ms) : Nm w Ms bm st := by
  obtain ⟨⟨es, clock, h1, h2, h3⟩, hm⟩ := h
  exact ⟨⟨es, clock, h1, h2, fun n hn => (h3 n hn).less hs⟩, hb⟩

/-- The blocks that a line's reading may write. -/
def mw (n : Nat) (Ms : List Nat) : List Nat := n :: (n + 1) :: (n + 2) :: (n + 3) :: Ms
theorem Nm.mw {w : World} {Ms : List Nat} {bm : Nat} {st : Nat → Mng} (h : Nm w Ms bm st) : Nm w (mw w.heap.size Ms) bm st :=
  (((h.more (x := w.heap.size + 3) (by omega)).more (x := w.heap.size + 2) (by omega)).more (x := w.heap.size + 1) (by omega)).more (Nat.le_refl _)

set_option maxRecDepth 100000 in
set_option maxHeartbeats 1000000 in
theorem LineRead_long (s : ByteArray) (bm : Nat) (w : World) (hg : ErrT w) (hl : 90 < s.size) (hm : s.size ≤ 140737488351232) :
    Calls Tryz.prog 31 #[.string s, .map (some bm)] w fun e w' => e = .returned (.tuple #[.nilIface, .int .i64 2, .int .i64 0]) ∧ Fr [] w w' := by
  have HG := hidV hg
  clear hg
  go_enter Tryz.func31, Tryz.ntmps31
  go_wp2_with fail
  refine (readCmd_long s w.heap.size (.map (some bm)) ⟨0, 0, 0, 0⟩ _ (by exact Blk.new w _ _) (HG.out.fr (bs := []) ((Fr.refl [] w).alloc _) (by simp)) hl hm).mono ?_
  rintro e w1 ⟨rfl, hf1⟩
  go_wp2
  go_ret3
  exact ⟨rfl, ((Fr.refl [] w).alloc _).trans hf1 (by simp)⟩

set_option maxRecDepth 100000 in
set_option maxHeartbeats 1000000 in
theorem LineRead_short (s : ByteArray) (bm : Nat) (w : World) (f : Nat → Tok) (S : WS) (V : Value → World → Prop) (hg : ErrT w) (hl : ¬ 90 < s.size) (hs : Str s f)
    (hline : ∀ w', Rd w' w.heap.size s (.map (some bm)) 0 false (tok s 0) → Fr [] w w' → w.heap.size + 4 ≤ w'.heap.size → Calls Tryz.prog 44 #[.pointer (some ⟨w.heap.size, 0, none⟩)] w' (RP w' w.heap.size s (.map (some bm)) 0 false f S V))
    (hVi : ∀ v w, V v w → ∃ T u, v = .iface T u)
    (hV : ∀ v w1 w2, V v w1 → Fr [w.heap.size, w.heap.size + 1, w.heap.size + 2, w.heap.size + 3] w1 w2 → V v w2) :
    Calls Tryz.prog 31 #[.string s, .map (some bm)] w fun e w' =>
      ((enS f S).e = 0 ∧ ∃ v, e = .returned (.tuple #[v, .int .i64 0, .int .i64 0]) ∧ V v w' ∧ Fr [] w w') ∨ ((enS f S).e ≠ 0 ∧ e = .returned (.tuple #[.nilIface, .int .i64 (enS f S).e, .int .i64 (enS f S).bad]) ∧ Fr [] w w') := by
  have HG := hidV hg
  have HRC : Hid (∀ W : World, Rd W w.heap.size s (.map (some bm)) 0 false ⟨0, 0, 0, 0⟩ → ErrT W → Fr [] w W → W.heap.size = w.heap.size + 1 → Calls Tryz.prog 43 #[.pointer (some ⟨w.heap.size, 0, none⟩), .func (.func 44) #[] #[]] W fun e w' =>
      ((enS f S).e = 0 ∧ ∃ v, e = .returned (.tuple #[v, .int .i64 0, .int .i64 0]) ∧ V v w' ∧ Fr [w.heap.size] W w') ∨ ((enS f S).e ≠ 0 ∧ e = .returned (.tuple #[.nilIface, .int .i64 (enS f S).e, .int .i64 (enS f S).bad]) ∧ Fr [w.heap.size] W w')) := by
    intro W hr hgW hfW hsz
    refine readCmd_short s w.heap.size (.map (some bm)) ⟨0, 0, 0, 0⟩ W f S V hr hgW hg.lt hl hs (fun w' h1 h2 h3 => ?_) hVi (fun v w1 w2 h1 h2 => ?_)
    · exact hline w' h1 (hfW.trans h2 (by simp)) (by omega)
    · rw [hsz] at h2
      exact hV v w1 w2 h1 h2
  clear hg hline hVi hV hs
  generalize enS f S = E at *
  go_enter Tryz.func31, Tryz.ntmps31
  go_wp2_with fail
  refine (HRC.out _ (by exact Blk.new w _ _) (HG.out.fr (bs := []) ((Fr.refl [] w).alloc _) (by simp)) ((Fr.refl [] w).alloc _) (by simp)).mono ?_
  rintro e w1 (⟨h, v, rfl, hv, hf1⟩ | ⟨h, rfl, hf1⟩)
  · have HI := hidV (And.intro h (And.intro hv hf1))
    clear h hv hf1
    go_wp2
    go_ret3
    exact Or.inl ⟨HI.out.1, v, rfl, HI.out.2.1, ((Fr.refl [] w).alloc _).trans HI.out.2.2 (by simp)⟩
  · have HI := hidV (And.intro h hf1)
    clear h hf1
    go_wp2
    go_ret3
    exact Or.inr ⟨HI.out.1, rfl, ((Fr.refl [] w).alloc _).trans HI.out.2 (by simp)⟩

theorem pDo_nil (s : ByteArray) (w : World) :
    Calls Tryz.prog 16 #[.pointer none, .string s] w fun e w' => e = .returned (.tuple #[.string ⟨#[]⟩, .int .i64 1, .int .i64 0]) ∧ w' = w := by
  go_enter Tryz.func16, Tryz.ntmps16
  go_wp2
  go_ret3
  exact ⟨rfl, rfl⟩

/-- A session of the program in memory. -/
structure Ps (w : World) (Ms : List Nat) (b bm : Nat) (st : Nat → Mng) : Prop where
  blk : Blk w b #[.map (some bm)] 71
  nm : Nm w Ms bm st

set_option maxHeartbeats 1000000 in
theorem pDo_bad (s : ByteArray) (b bm e bad : Nat) (w : World) (hb : Blk w b #[.map (some bm)] 71) (he : e ≠ 0)
    (h : Calls Tryz.prog 31 #[.string s, .map (some bm)] w fun x w' => x = .returned (.tuple #[.nilIface, .int .i64 e, .int .i64 bad]) ∧ Fr [] w w') :
    Calls Tryz.prog 16 #[.pointer (some ⟨b, 0, none⟩), .string s] w fun x w' => x = .returned (.tuple #[.string ⟨#[]⟩, .int .i64 e, .int .i64 bad]) ∧ Fr [] w w' := by
  have HL := hidV h
  have c0 : w.cell? ⟨b, 0, none⟩ = some (.map (some bm)) := hb.cell 0
  have q : ((e : Int) != 0) = true := by rw [bne_iff_ne]; omega
  clear h hb
  go_enter Tryz.func16, Tryz.ntmps16
  go_wp2_with fail
  refine HL.out.mono ?_
  rintro x w1 ⟨rfl, hf1⟩
  go_wp2
  go_ret3
  exact ⟨rfl, hf1⟩
end Go.Proofs.YthlmgpllapccfaaGreatDoor
/- THE PROGRAM: a session's Do, command by command. -/
namespace Go.Proofs.YthlmgpllapccfaaGreatDoor
open Go.RowKit

/-- What Do comes to. -/
def DoPost (w : World) (Ms : List Nat) (bm : Nat) (R : LnR) (x : Ending) (w' : World) : Prop :=
  x = .returned (.tuple #[.string (bs R.t), .int .i64 R.e, .int .i64 R.bad]) ∧ Nm w' Ms bm R.st ∧ Fr [bm] w w'
theorem nilAhead_Give (fuel : Nat) (v : Value) (w : World) : (nilAhead (fuel + 1) 141 v "Do").run Tryz.prog w = .ok (some false) w := by kernel_rfl
theorem nilAhead_Tell (fuel : Nat) (v : Value) (w : World) : (nilAhead (fuel + 1) 144 v "Do").run Tryz.prog w = .ok (some false) w := by kernel_rfl
theorem nilAhead_CDivisor (fuel : Nat) (v : Value) (w : World) : (nilAhead (fuel + 1) 146 v "Do").run Tryz.prog w = .ok (some false) w := by kernel_rfl
theorem nilAhead_CRoots (fuel : Nat) (v : Value) (w : World) : (nilAhead (fuel + 1) 147 v "Do").run Tryz.prog w = .ok (some false) w := by kernel_rfl
theorem nilAhead_CSplit (fuel : Nat) (v : Value) (w : World) : (nilAhead (fuel + 1) 149 v "Do").run Tryz.prog w = .ok (some false) w := by kernel_rfl
theorem bs_nil : bs [] = ⟨#[]⟩ := rfl

set_option maxRecDepth 100000 in
set_option maxHeartbeats 1000000 in
theorem pDo_print (s : ByteArray) (b bm : Nat) (Ms : List Nat) (st : Nat → Mng) (w : World) (hP : Ps w Ms b bm st) (hg : ErrT w) (hl : ¬ 90 < s.size) (hsm : sml s (w0 s) = true) (hw : wd s = [112, 114, 105, 110, 116]) :
    Calls Tryz.prog 16 #[.pointer (some ⟨b, 0, none⟩), .string s] w (DoPost w Ms bm (ans (enS (lf s) (nmS (lf s) (okS st) ws1)) (prn (ps1 st (lf s)) (ps1 st (lf s)).length) st st)) := by
  have hlt := hP.nm.lt
  have HL := hidV (LineRead_short s bm w (lf s) (nmS (lf s) (okS st) ws1) (fun v w' => ∃ u, v = .iface 144 (.agg #[.iface 136 u]) ∧ SysV w' (mw w.heap.size Ms) st (lf s) u) hg hl (strLf s)
    (fun w' h1 h2 h3 => rline_print s w.heap.size bm (mw w.heap.size Ms) st w' (by omega) h1 (hP.nm.mw.fr h2 (by simp) (by simp)) (by omega) (by simp [mw]) hsm hw)
    (fun v w' h => by obtain ⟨u, rfl, _⟩ := h; exact ⟨_, _, rfl⟩)
    (fun v w1 w2 h hf => by obtain ⟨u, rfl, h2⟩ := h; exact ⟨u, rfl, NV.fr h2 hf (by simp [mw])⟩))
  have c0 : w.cell? ⟨b, 0, none⟩ = some (.map (some bm)) := hP.blk.cell 0
  have HN := hidV hP.nm
  have HB := hidV hP.blk
  have HT : Hid (∀ ps, st ((lf s 1).c - 69) = .sys ps → prn (ps1 st (lf s)) (ps1 st (lf s)).length = prn ps ps.length) := fun ps h => by unfold ps1 nm1; rw [h]; rfl
  clear hP hg hw
  unfold ans
  obtain ⟨E, HE⟩ : ∃ E, Hid (enS (lf s) (nmS (lf s) (okS st) ws1) = E) := ⟨_, hidV rfl⟩
  rw [HE.out] at HL ⊢
  by_cases he : E.e = 0
  · rw [if_neg (by omega)]
    obtain ⟨TX, HTX⟩ : ∃ TX, Hid (prn (ps1 st (lf s)) (ps1 st (lf s)).length = TX) := ⟨_, hidV rfl⟩
    rw [HTX.out] at HT ⊢
    have HE0 := hidV he
    clear he
    go_enter Tryz.func16, Tryz.ntmps16
    go_wp2_with fail
    refine HL.out.mono ?_
    rintro x w1 (⟨_, v, rfl, ⟨u, rfl, hu⟩, hf1⟩ | ⟨h, _⟩)
    · obtain ⟨ps, g, cap, hps, rfl, h2, h3, h4, h5, h6⟩ := NV_sys hu
      have HTT := hidV (HT.out ps hps)
      have c1 : w1.cell? ⟨b, 0, none⟩ = some (.map (some bm)) := (HB.out.fr hf1 (by simp)).cell 0
      have HF1 := hidV hf1
      have HC := hidV (fun (nr : Nat) => TellDo_sys ps g cap ps.length (.map (some bm)) (w1.drewN nr) h3 rfl h5 (h2.fr ((Fr.refl [] w1).drewN nr) (by simp)))
      clear hf1 hu hps h2
      have hna := nilAhead_Tell
      go_wp2
      refine region_quiet_tail 8 (by kernel_rfl) (by kernel_rfl) ?_
      simp only [List.take_succ_cons, List.take_zero, List.drop_succ_cons, List.drop_zero]
      repeat (first | go_big_quiet_step ((fail)) | quiet_step ((fail)))
      refine wpQuiet_nil ?_
      rintro _ ⟨nr, rfl⟩
      go_wp2_with fail
      refine (HC.out nr).mono ?_
      rintro x w2 ⟨rfl, hb2⟩
      have HF2 : Hid (Fr [] w w2) := (HF1.out.drewN nr).trans (Fr.of_below (bs := []) hb2) (by simp)
      clear hb2
      go_wp2
      go_ret3
      refine ⟨by rw [HTT.out]; rfl, HN.out.fr HF2.out (by simp) (by simp), HF2.out.mono (by simp)⟩
    · exact absurd HE0.out h
  · rw [if_pos he]
    refine (pDo_bad s b bm E.e E.bad w HB.out he (HL.out.mono ?_)).mono ?_
    · rintro x w1 (⟨h, _⟩ | ⟨_, rfl, hf⟩)
      · exact absurd h he
      · exact ⟨rfl, hf⟩
    · rintro x w1 ⟨rfl, hf⟩
      exact ⟨rfl, HN.out.fr hf (by simp) (by simp), hf.mono (by simp)⟩

set_option maxRecDepth 100000 in
set_option maxHeartbeats 1000000 in
theorem pDo_split (s : ByteArray) (b bm : Nat) (Ms : List Nat) (st : Nat → Mng) (w : World) (hP : Ps w Ms b bm st) (hg : ErrT w) (hl : ¬ 90 < s.size) (hsm : sml s (w0 s) = true) (hw : wd s = [115, 112, 108, 105, 116]) :
    Calls Tryz.prog 16 #[.pointer (some ⟨b, 0, none⟩), .string s] w (DoPost w Ms bm (ans (enS (lf s) (nmS (lf s) (okS st) ws1)) (spl (ofD (ps1 st (lf s))) 6) st st)) := by
  have hlt := hP.nm.lt
  have HL := hidV (LineRead_short s bm w (lf s) (nmS (lf s) (okS st) ws1) (fun v w' => ∃ u, v = .iface 149 (.agg #[u]) ∧ SysV w' (mw w.heap.size Ms) st (lf s) u) hg hl (strLf s)
    (fun w' h1 h2 h3 => rline_split s w.heap.size bm (mw w.heap.size Ms) st w' (by omega) h1 (hP.nm.mw.fr h2 (by simp) (by simp)) (by omega) (by simp [mw]) hsm hw)
    (fun v w' h => by obtain ⟨u, rfl, _⟩ := h; exact ⟨_, _, rfl⟩)
    (fun v w1 w2 h hf => by obtain ⟨u, rfl, h2⟩ := h; exact ⟨u, rfl, NV.fr h2 hf (by simp [mw])⟩))
  have c0 : w.cell? ⟨b, 0, none⟩ = some (.map (some bm)) := hP.blk.cell 0
  have HN := hidV hP.nm
  have HB := hidV hP.blk
  have HT : Hid (∀ ps, st ((lf s 1).c - 69) = .sys ps → spl (ofD (ps1 st (lf s))) 6 = spl (ofD ps) 6) := fun ps h => by unfold ps1 nm1; rw [h]; rfl
  clear hP hg hw
  unfold ans
  obtain ⟨E, HE⟩ : ∃ E, Hid (enS (lf s) (nmS (lf s) (okS st) ws1) = E) := ⟨_, hidV rfl⟩
  rw [HE.out] at HL ⊢
  by_cases he : E.e = 0
  · rw [if_neg (by omega)]
    obtain ⟨TX, HTX⟩ : ∃ TX, Hid (spl (ofD (ps1 st (lf s))) 6 = TX) := ⟨_, hidV rfl⟩
    rw [HTX.out] at HT ⊢
    have HE0 := hidV he
    clear he
    go_enter Tryz.func16, Tryz.ntmps16
    go_wp2_with fail
    refine HL.out.mono ?_
    rintro x w1 (⟨_, v, rfl, ⟨u, rfl, hu⟩, hf1⟩ | ⟨h, _⟩)
    · obtain ⟨ps, g, cap, hps, rfl, h2, h3, h4, h5, h6⟩ := NV_sys hu
      have HTT := hidV (HT.out ps hps)
      have c1 : w1.cell? ⟨b, 0, none⟩ = some (.map (some bm)) := (HB.out.fr hf1 (by simp)).cell 0
      have HF1 := hidV hf1
      have HC := hidV (fun (nr : Nat) => SplitDo_any ps g cap ps.length (.map (some bm)) (w1.drewN nr) h3 rfl h5 (h2.fr ((Fr.refl [] w1).drewN nr) (by simp)))
      clear hf1 hu hps h2
      have hna := nilAhead_CSplit
      go_wp2
      refine region_quiet_tail 8 (by kernel_rfl) (by kernel_rfl) ?_
      simp only [List.take_succ_cons, List.take_zero, List.drop_succ_cons, List.drop_zero]
      repeat (first | go_big_quiet_step ((fail)) | quiet_step ((fail)))
      refine wpQuiet_nil ?_
      rintro _ ⟨nr, rfl⟩
      go_wp2_with fail
      refine (HC.out nr).mono ?_
      rintro x w2 ⟨rfl, hb2⟩
      have HF2 : Hid (Fr [] w w2) := (HF1.out.drewN nr).trans (Fr.of_below (bs := []) hb2) (by simp)
      clear hb2
      go_wp2
      go_ret3
      refine ⟨by rw [HTT.out]; rfl, HN.out.fr HF2.out (by simp) (by simp), HF2.out.mono (by simp)⟩
    · exact absurd HE0.out h
  · rw [if_pos he]
    refine (pDo_bad s b bm E.e E.bad w HB.out he (HL.out.mono ?_)).mono ?_
    · rintro x w1 (⟨h, _⟩ | ⟨_, rfl, hf⟩)
      · exact absurd h he
      · exact ⟨rfl, hf⟩
    · rintro x w1 ⟨rfl, hf⟩
      exact ⟨rfl, HN.out.fr hf (by simp) (by simp), hf.mono (by simp)⟩

set_option maxRecDepth 100000 in
set_option maxHeartbeats 1000000 in
theorem pDo_gcd (s : ByteArray) (b bm : Nat) (Ms : List Nat) (st : Nat → Mng) (w : World) (hP : Ps w Ms b bm st) (hg : ErrT w) (hl : ¬ 90 < s.size) (hsm : sml s (w0 s) = true) (hw : wd s = [103, 99, 100]) :
    Calls Tryz.prog 16 #[.pointer (some ⟨b, 0, none⟩), .string s] w (DoPost w Ms bm (ans (enS (lf s) (ctS (lf s) (nmS (lf s) (okS st) ws1))) (txt (upL (gall (lins ((lf s 2).v % 7) (ps1 st (lf s)))))) st st)) := by
  have hlt := hP.nm.lt
  have HL := hidV (LineRead_short s bm w (lf s) (ctS (lf s) (nmS (lf s) (okS st) ws1)) (fun v w' => ∃ u, v = .iface 146 (.agg #[u, .int .i64 (lf s 2).v]) ∧ SysV w' (mw w.heap.size Ms) st (lf s) u) hg hl (strLf s)
    (fun w' h1 h2 h3 => rline_gcd s w.heap.size bm (mw w.heap.size Ms) st w' (by omega) h1 (hP.nm.mw.fr h2 (by simp) (by simp)) (by omega) (by simp [mw]) hsm hw)
    (fun v w' h => by obtain ⟨u, rfl, _⟩ := h; exact ⟨_, _, rfl⟩)
    (fun v w1 w2 h hf => by obtain ⟨u, rfl, h2⟩ := h; exact ⟨u, rfl, NV.fr h2 hf (by simp [mw])⟩))
  have c0 : w.cell? ⟨b, 0, none⟩ = some (.map (some bm)) := hP.blk.cell 0
  have HN := hidV hP.nm
  have HB := hidV hP.blk
  have HT : Hid (∀ ps, st ((lf s 1).c - 69) = .sys ps → txt (upL (gall (lins ((lf s 2).v % 7) (ps1 st (lf s))))) = txt (upL (gall (lins ((lf s 2).v % 7) ps)))) := fun ps h => by unfold ps1 nm1; rw [h]; rfl
  clear hP hg hw
  unfold ans
  obtain ⟨E, HE⟩ : ∃ E, Hid (enS (lf s) (ctS (lf s) (nmS (lf s) (okS st) ws1)) = E) := ⟨_, hidV rfl⟩
  rw [HE.out] at HL ⊢
  by_cases he : E.e = 0
  · rw [if_neg (by omega)]
    obtain ⟨TX, HTX⟩ : ∃ TX, Hid (txt (upL (gall (lins ((lf s 2).v % 7) (ps1 st (lf s))))) = TX) := ⟨_, hidV rfl⟩
    rw [HTX.out] at HT ⊢
    have HE0 := hidV he
    clear he
    go_enter Tryz.func16, Tryz.ntmps16
    go_wp2_with fail
    refine HL.out.mono ?_
    rintro x w1 (⟨_, v, rfl, ⟨u, rfl, hu⟩, hf1⟩ | ⟨h, _⟩)
    · obtain ⟨ps, g, cap, hps, rfl, h2, h3, h4, h5, h6⟩ := NV_sys hu
      have HTT := hidV (HT.out ps hps)
      have c1 : w1.cell? ⟨b, 0, none⟩ = some (.map (some bm)) := (HB.out.fr hf1 (by simp)).cell 0
      have HF1 := hidV hf1
      have HC := hidV (fun (nr : Nat) => DivisorDo_any ps g cap ps.length ((lf s 2).v % 7) ((lf s 2).v : Nat) (.map (some bm)) (w1.drewN nr) h3 rfl h5 (by omega) (by omega) (h2.fr ((Fr.refl [] w1).drewN nr) (by simp)))
      clear hf1 hu hps h2
      have hna := nilAhead_CDivisor
      go_wp2
      refine region_quiet_tail 8 (by kernel_rfl) (by kernel_rfl) ?_
      simp only [List.take_succ_cons, List.take_zero, List.drop_succ_cons, List.drop_zero]
      repeat (first | go_big_quiet_step ((fail)) | quiet_step ((fail)))
      refine wpQuiet_nil ?_
      rintro _ ⟨nr, rfl⟩
      go_wp2_with fail
      refine (HC.out nr).mono ?_
      rintro x w2 ⟨rfl, hb2⟩
      have HF2 : Hid (Fr [] w w2) := (HF1.out.drewN nr).trans (Fr.of_below (bs := []) hb2) (by simp)
      clear hb2
      go_wp2
      go_ret3
      refine ⟨by rw [HTT.out]; rfl, HN.out.fr HF2.out (by simp) (by simp), HF2.out.mono (by simp)⟩
    · exact absurd HE0.out h
  · rw [if_pos he]
    refine (pDo_bad s b bm E.e E.bad w HB.out he (HL.out.mono ?_)).mono ?_
    · rintro x w1 (⟨h, _⟩ | ⟨_, rfl, hf⟩)
      · exact absurd h he
      · exact ⟨rfl, hf⟩
    · rintro x w1 ⟨rfl, hf⟩
      exact ⟨rfl, HN.out.fr hf (by simp) (by simp), hf.mono (by simp)⟩

set_option maxRecDepth 100000 in
set_option maxHeartbeats 1000000 in
theorem pDo_roots (s : ByteArray) (b bm : Nat) (Ms : List Nat) (st : Nat → Mng) (w : World) (hP : Ps w Ms b bm st) (hg : ErrT w) (hl : ¬ 90 < s.size) (hsm : sml s (w0 s) = true) (hw : wd s = [114, 111, 111, 116, 115]) :
    Calls Tryz.prog 16 #[.pointer (some ⟨b, 0, none⟩), .string s] w (DoPost w Ms bm (ans (enS (lf s) (ctS (lf s) (nmS (lf s) (okS st) ws1))) (lsd (rts (lins ((lf s 2).v % 7) (ps1 st (lf s)))) 7) st st)) := by
  have hlt := hP.nm.lt
  have HL := hidV (LineRead_short s bm w (lf s) (ctS (lf s) (nmS (lf s) (okS st) ws1)) (fun v w' => ∃ u, v = .iface 147 (.agg #[u, .int .i64 (lf s 2).v]) ∧ SysV w' (mw w.heap.size Ms) st (lf s) u) hg hl (strLf s)
    (fun w' h1 h2 h3 => rline_roots s w.heap.size bm (mw w.heap.size Ms) st w' (by omega) h1 (hP.nm.mw.fr h2 (by simp) (by simp)) (by omega) (by simp [mw]) hsm hw)
    (fun v w' h => by obtain ⟨u, rfl, _⟩ := h; exact ⟨_, _, rfl⟩)
    (fun v w1 w2 h hf => by obtain ⟨u, rfl, h2⟩ := h; exact ⟨u, rfl, NV.fr h2 hf (by simp [mw])⟩))
  have c0 : w.cell? ⟨b, 0, none⟩ = some (.map (some bm)) := hP.blk.cell 0
  have HN := hidV hP.nm
  have HB := hidV hP.blk
  have HT : Hid (∀ ps, st ((lf s 1).c - 69) = .sys ps → lsd (rts (lins ((lf s 2).v % 7) (ps1 st (lf s)))) 7 = lsd (rts (lins ((lf s 2).v % 7) ps)) 7) := fun ps h => by unfold ps1 nm1; rw [h]; rfl
  clear hP hg hw
  unfold ans
  obtain ⟨E, HE⟩ : ∃ E, Hid (enS (lf s) (ctS (lf s) (nmS (lf s) (okS st) ws1)) = E) := ⟨_, hidV rfl⟩
  rw [HE.out] at HL ⊢
  by_cases he : E.e = 0
  · rw [if_neg (by omega)]
    obtain ⟨TX, HTX⟩ : ∃ TX, Hid (lsd (rts (lins ((lf s 2).v % 7) (ps1 st (lf s)))) 7 = TX) := ⟨_, hidV rfl⟩
    rw [HTX.out] at HT ⊢
    have HE0 := hidV he
    clear he
    go_enter Tryz.func16, Tryz.ntmps16
    go_wp2_with fail
    refine HL.out.mono ?_
    rintro x w1 (⟨_, v, rfl, ⟨u, rfl, hu⟩, hf1⟩ | ⟨h, _⟩)
    · obtain ⟨ps, g, cap, hps, rfl, h2, h3, h4, h5, h6⟩ := NV_sys hu
      have HTT := hidV (HT.out ps hps)
      have c1 : w1.cell? ⟨b, 0, none⟩ = some (.map (some bm)) := (HB.out.fr hf1 (by simp)).cell 0
      have HF1 := hidV hf1
      have HC := hidV (fun (nr : Nat) => RootsDo_any ps g cap ps.length ((lf s 2).v % 7) ((lf s 2).v : Nat) (.map (some bm)) (w1.drewN nr) h3 rfl h5 (by omega) (by omega) (h2.fr ((Fr.refl [] w1).drewN nr) (by simp)))
      clear hf1 hu hps h2
      have hna := nilAhead_CRoots
      go_wp2
      refine region_quiet_tail 8 (by kernel_rfl) (by kernel_rfl) ?_
      simp only [List.take_succ_cons, List.take_zero, List.drop_succ_cons, List.drop_zero]
      repeat (first | go_big_quiet_step ((fail)) | quiet_step ((fail)))
      refine wpQuiet_nil ?_
      rintro _ ⟨nr, rfl⟩
      go_wp2_with fail
      refine (HC.out nr).mono ?_
      rintro x w2 ⟨rfl, hb2⟩
      have HF2 : Hid (Fr [] w w2) := (HF1.out.drewN nr).trans (Fr.of_below (bs := []) hb2) (by simp)
      clear hb2
      go_wp2
      go_ret3
      refine ⟨by rw [HTT.out]; rfl, HN.out.fr HF2.out (by simp) (by simp), HF2.out.mono (by simp)⟩
    · exact absurd HE0.out h
  · rw [if_pos he]
    refine (pDo_bad s b bm E.e E.bad w HB.out he (HL.out.mono ?_)).mono ?_
    · rintro x w1 (⟨h, _⟩ | ⟨_, rfl, hf⟩)
      · exact absurd h he
      · exact ⟨rfl, hf⟩
    · rintro x w1 ⟨rfl, hf⟩
      exact ⟨rfl, HN.out.fr hf (by simp) (by simp), hf.mono (by simp)⟩

set_option maxRecDepth 100000 in
set_option maxHeartbeats 1000000 in
theorem pDo_let (s : ByteArray) (b bm : Nat) (Ms : List Nat) (st : Nat → Mng) (w : World) (hP : Ps w Ms b bm st) (hM : ∀ x ∈ Ms, x < w.heap.size) (hg : ErrT w) (hl : ¬ 90 < s.size) (hsm : sml s (w0 s) = true) (hw : wd s = [108, 101, 116]) :
    Calls Tryz.prog 16 #[.pointer (some ⟨b, 0, none⟩), .string s] w (DoPost w Ms bm (ans (letS st (lf s) s.size) [] (upd st (nm1 (lf s)) (.sys (syR (lf s) s.size 4 3).ps)) st)) := by
  have hlt := hP.nm.lt
  have HL := hidV (LineRead_short s bm w (lf s) (sysS (lf s) s.size (wtS (lf s) 65 (nmS (lf s) (ok0 st) ws1))) (fun v w' => ∃ g cap, v = .iface 141 (.agg #[.int .u8 ((lf s 1).c - 4 : Nat), .iface 136 (.slice (some ⟨g, 0, none⟩) (syR (lf s) s.size 4 3).ps.length cap)]) ∧ NV w' (mw w.heap.size Ms) (.sys (syR (lf s) s.size 4 3).ps) (some (.iface 136 (.slice (some ⟨g, 0, none⟩) (syR (lf s) s.size 4 3).ps.length cap)))) hg hl (strLf s)
    (fun w' h1 h2 h3 => (rline_let s w.heap.size bm st w' (by omega) h1 hsm hw).mono (by
      rintro e w2 (⟨k1, v, rfl, ⟨g, cap, rfl, k2, k3, k4, k5, k6⟩, k7⟩ | k1)
      · refine Or.inl ⟨k1, _, rfl, ⟨g, cap, rfl, g, cap, rfl, k2, k3, k4, k5, fun q => ?_⟩, k7⟩
        simp only [mw, List.mem_cons] at q
        rcases q with q | q | q | q | q
        · omega
        · omega
        · omega
        · omega
        · have := hM g q; omega
      · exact Or.inr k1))
    (fun v w' h => by obtain ⟨g, cap, rfl, _⟩ := h; exact ⟨_, _, rfl⟩)
    (fun v w1 w2 h hf => by obtain ⟨g, cap, rfl, h2⟩ := h; exact ⟨g, cap, rfl, NV.fr h2 hf (by simp [mw])⟩))
  have c0 : w.cell? ⟨b, 0, none⟩ = some (.map (some bm)) := hP.blk.cell 0
  have HN := hidV hP.nm
  have HB := hidV hP.blk
  have HMW := hidV hP.nm.mw
  have HNM : Hid ((letS st (lf s) s.size).e = 0 → (lf s 1).c - 69 < 26 ∧ (((lf s 1).c - 4 : Nat) : Int) = (((lf s 1).c - 69 + 65 : Nat) : Int)) := fun h => by
    obtain ⟨_, h6, _⟩ := nmS_ok (wtS_ok (sysS_ok (enS_ok h))).1
    have h7 := (isN_iff _).1 h6
    have e1 : (ws1 : WS).k = 1 := rfl
    rw [e1] at h7
    omega
  clear hP hg hw
  unfold ans
  unfold nm1
  obtain ⟨E, HE⟩ : ∃ E, Hid (letS st (lf s) s.size = E) := ⟨_, hidV rfl⟩
  unfold letS at HE HNM ⊢
  rw [HE.out] at HL HNM ⊢
  by_cases he : E.e = 0
  · rw [if_neg (by omega)]
    have HE0 := hidV he
    clear he
    obtain ⟨PS, HPS⟩ : ∃ PS, Hid ((syR (lf s) s.size 4 3).ps = PS) := ⟨_, hidV rfl⟩
    rw [HPS.out] at HL ⊢
    go_enter Tryz.func16, Tryz.ntmps16
    go_wp2_with fail
    refine HL.out.mono ?_
    rintro x w1 (⟨_, v, rfl, ⟨g, cap, rfl, hu⟩, hf1⟩ | ⟨h, _⟩)
    · have c1 : w1.cell? ⟨b, 0, none⟩ = some (.map (some bm)) := (HB.out.fr hf1 (by simp)).cell 0
      have HF1 := hidV hf1
      have HC := hidV (fun (nr : Nat) => GiveDo_any bm ((lf s 1).c - 69) (mw w.heap.size Ms) st (.sys PS) 136 (.slice (some ⟨g, 0, none⟩) PS.length cap) (((lf s 1).c - 4 : Nat) : Int) (w1.drewN nr) (HNM.out HE0.out).1 (HNM.out HE0.out).2 (HMW.out.fr (hf1.drewN nr) (by simp) (by simp)) (hu.fr ((Fr.refl [] w1).drewN nr) (by simp)))
      clear hf1 hu
      have hna := nilAhead_Give
      go_wp2
      refine region_quiet_tail 8 (by kernel_rfl) (by kernel_rfl) ?_
      simp only [List.take_succ_cons, List.take_zero, List.drop_succ_cons, List.drop_zero]
      repeat (first | go_big_quiet_step ((fail)) | quiet_step ((fail)))
      refine wpQuiet_nil ?_
      rintro _ ⟨nr, rfl⟩
      go_wp2_with fail
      refine (HC.out nr).mono ?_
      rintro x w2 ⟨rfl, hn2, hf2⟩
      have HN2 := hidV (hn2.less (Ms := Ms) (by intro x hx; simp [mw, hx]) HN.out.mem)
      have HF2 : Hid (Fr [bm] w w2) := ((HF1.out.drewN nr).mono (by simp)).trans hf2 (by simp)
      clear hn2 hf2
      go_wp2
      go_ret3
      exact ⟨rfl, HN2.out, HF2.out⟩
    · exact absurd HE0.out h
  · rw [if_pos he]
    refine (pDo_bad s b bm E.e E.bad w HB.out he (HL.out.mono ?_)).mono ?_
    · rintro x w1 (⟨h, _⟩ | ⟨_, rfl, hf⟩)
      · exact absurd h he
      · exact ⟨rfl, hf⟩
    · rintro x w1 ⟨rfl, hf⟩
      exact ⟨rfl, HN.out.fr hf (by simp) (by simp), hf.mono (by simp)⟩
end Go.Proofs.YthlmgpllapccfaaGreatDoor
/- THE PROGRAM: a session's Do, but for lines of sets. -/
namespace Go.Proofs.YthlmgpllapccfaaGreatDoor
open Go.RowKit

theorem pDo_long (s : ByteArray) (b bm : Nat) (Ms : List Nat) (st : Nat → Mng) (w : World) (hP : Ps w Ms b bm st) (hg : ErrT w) (hl : 90 < s.size) (hm : s.size ≤ 140737488351232) :
    Calls Tryz.prog 16 #[.pointer (some ⟨b, 0, none⟩), .string s] w (DoPost w Ms bm ⟨2, 0, [], st⟩) := by
  refine (pDo_bad s b bm 2 0 w hP.blk (by decide) (LineRead_long s bm w hg hl hm)).mono ?_
  rintro x w1 ⟨rfl, hf⟩
  exact ⟨rfl, hP.nm.fr hf (by simp) (by simp), hf.mono (by simp)⟩

theorem pDo_other (s : ByteArray) (b bm : Nat) (Ms : List Nat) (st : Nat → Mng) (w : World) (hP : Ps w Ms b bm st) (hg : ErrT w) (hl : ¬ 90 < s.size)
    (n1 : wd s ≠ [108, 101, 116]) (n2 : wd s ≠ [112, 114, 105, 110, 116]) (n3 : wd s ≠ [103, 99, 100]) (n4 : wd s ≠ [114, 111, 111, 116, 115]) (n5 : wd s ≠ [115, 112, 108, 105, 116])
    (n6 : wd s ≠ [115, 101, 116]) (n7 : wd s ≠ [115, 104, 111, 119]) (n8 : wd s ≠ [104, 97, 115]) (n9 : wd s ≠ [115, 117, 98]) :
    Calls Tryz.prog 16 #[.pointer (some ⟨b, 0, none⟩), .string s] w (DoPost w Ms bm ⟨3, w0 s, [], st⟩) := by
  have hL := LineRead_short s bm w (lf s) ⟨1, 3, w0 s⟩ (fun _ _ => False) hg hl (strLf s)
    (fun w' h1 h2 h3 => (rline_other s w.heap.size bm w' (by omega) h1 n1 n2 n3 n4 n5 n6 n7 n8 n9).mono (by
      rintro e w2 ⟨rfl, hf⟩
      exact Or.inr ⟨by simp, rfl, hf⟩))
    (fun v w' h => h.elim) (fun v w1 w2 h _ => h)
  have hE : enS (lf s) ⟨1, 3, w0 s⟩ = ⟨1, 3, w0 s⟩ := by unfold enS; rw [if_pos (by simp)]
  rw [hE] at hL
  refine (pDo_bad s b bm 3 (w0 s) w hP.blk (by decide) (hL.mono ?_)).mono ?_
  · rintro x w1 (⟨h, _⟩ | ⟨_, rfl, hf⟩)
    · simp at h
    · exact ⟨rfl, hf⟩
  · rintro x w1 ⟨rfl, hf⟩
    exact ⟨rfl, hP.nm.fr hf (by simp) (by simp), hf.mono (by simp)⟩
theorem wd_none {s : ByteArray} (h : sml s (w0 s) = false) : wd s = [] := by
  have e1 : w1 s = w0 s := wend_here (by rw [h]; decide)
  unfold wd
  rw [e1]
  apply List.eq_nil_of_length_eq_zero
  simp

/-- Do, but for lines of sets. -/
theorem pDo_any (s : ByteArray) (b bm : Nat) (Ms : List Nat) (st : Nat → Mng) (w : World) (hP : Ps w Ms b bm st) (hM : ∀ x ∈ Ms, x < w.heap.size) (hg : ErrT w) (hm : s.size ≤ 140737488351232)
    (n6 : wd s ≠ [115, 101, 116]) (n7 : wd s ≠ [115, 104, 111, 119]) (n8 : wd s ≠ [104, 97, 115]) (n9 : wd s ≠ [115, 117, 98]) :
    Calls Tryz.prog 16 #[.pointer (some ⟨b, 0, none⟩), .string s] w (DoPost w Ms bm (lnR st s)) := by
  unfold lnR
  by_cases hl : 90 < s.size
  · rw [if_pos hl]; exact pDo_long s b bm Ms st w hP hg hl hm
  · rw [if_neg hl]
    cases hsm : sml s (w0 s) with
    | false =>
      have hw := wd_none hsm
      rw [if_pos rfl]
      exact pDo_other s b bm Ms st w hP hg hl (by rw [hw]; simp) (by rw [hw]; simp) (by rw [hw]; simp) (by rw [hw]; simp) (by rw [hw]; simp) n6 n7 n8 n9
    | true =>
      rw [if_neg (by simp)]
      by_cases c1 : wd s = [108, 101, 116]
      · rw [if_pos c1]; exact pDo_let s b bm Ms st w hP hM hg hl hsm c1
      · rw [if_neg c1]
        by_cases c2 : wd s = [112, 114, 105, 110, 116]
        · have h := pDo_print s b bm Ms st w hP hg hl hsm c2
          unfold askS askT
          rw [if_pos c2, if_pos c2]; exact h
        · by_cases c3 : wd s = [115, 112, 108, 105, 116]
          · have h := pDo_split s b bm Ms st w hP hg hl hsm c3
            unfold askS askT
            rw [if_neg c2, if_pos c3, if_neg c2, if_pos c3]; exact h
          · by_cases c4 : wd s = [103, 99, 100]
            · have h := pDo_gcd s b bm Ms st w hP hg hl hsm c4
              unfold askS askT
              rw [if_neg c2, if_neg c3, if_pos c4, if_neg c2, if_neg c3, if_pos c4]; exact h
            · by_cases c5 : wd s = [114, 111, 111, 116, 115]
              · have h := pDo_roots s b bm Ms st w hP hg hl hsm c5
                unfold askS askT
                rw [if_neg c2, if_neg c3, if_neg c4, if_pos c5, if_neg c2, if_neg c3, if_neg c4, if_pos c5]; exact h
              · have h := pDo_other s b bm Ms st w hP hg hl c1 c2 c4 c5 c3 n6 n7 n8 n9
                unfold askS askT
                rw [if_neg c2, if_neg c3, if_neg c4, if_neg c5, if_neg c2, if_neg c3, if_neg c4, if_neg c5]
                unfold ans
                rw [if_pos (by simp), lf_at]
                exact h
end Go.Proofs.YthlmgpllapccfaaGreatDoor
/- THE LAWS OF SESSIONS: ofSets, pick, the two New. -/
namespace Go.Proofs.YthlmgpllapccfaaGreatDoor
open Go.RowKit

/-- Is the line's word one of those that speak of sets? -/
def oSets (s : ByteArray) : Bool := decide (wd s = [115, 101, 116] ∨ wd s = [115, 104, 111, 119] ∨ wd s = [104, 97, 115] ∨ wd s = [115, 117, 98])

theorem oSets_cases (s : ByteArray) (k j : Nat) (h0 : w0 s = k) (h1 : w1 s = j) :
    (s.extract k j = ⟨#[115, 101, 116]⟩ ∧ oSets s = true) ∨ (s.extract k j = ⟨#[115, 104, 111, 119]⟩ ∧ oSets s = true) ∨ (s.extract k j = ⟨#[104, 97, 115]⟩ ∧ oSets s = true) ∨ (s.extract k j = ⟨#[115, 117, 98]⟩ ∧ oSets s = true) ∨
    ((s.extract k j).data.toList ≠ [115, 101, 116] ∧ (s.extract k j).data.toList ≠ [115, 104, 111, 119] ∧ (s.extract k j).data.toList ≠ [104, 97, 115] ∧ (s.extract k j).data.toList ≠ [115, 117, 98] ∧ oSets s = false) := by
  have hw : wd s = (s.extract k j).data.toList := by unfold wd; rw [h0, h1]
  unfold oSets
  by_cases c1 : wd s = [115, 101, 116]
  · exact Or.inl ⟨byt_of (hw.symm.trans c1), decide_eq_true (Or.inl c1)⟩
  · by_cases c2 : wd s = [115, 104, 111, 119]
    · exact Or.inr (Or.inl ⟨byt_of (hw.symm.trans c2), decide_eq_true (Or.inr (Or.inl c2))⟩)
    · by_cases c3 : wd s = [104, 97, 115]
      · exact Or.inr (Or.inr (Or.inl ⟨byt_of (hw.symm.trans c3), decide_eq_true (Or.inr (Or.inr (Or.inl c3)))⟩))
      · by_cases c4 : wd s = [115, 117, 98]
        · exact Or.inr (Or.inr (Or.inr (Or.inl ⟨byt_of (hw.symm.trans c4), decide_eq_true (Or.inr (Or.inr (Or.inr c4)))⟩)))
        · rw [hw] at c1 c2 c3 c4
          exact Or.inr (Or.inr (Or.inr (Or.inr ⟨c1, c2, c3, c4, decide_eq_false (fun q => by rw [hw] at q; rcases q with q | q | q | q; exact c1 q; exact c2 q; exact c3 q; exact c4 q)⟩)))

set_option maxRecDepth 100000 in
set_option maxHeartbeats 4000000 in
theorem ofSets_any (s : ByteArray) (w : World) (hs : s.size ≤ 140737488351232) :
    Calls Tryz.prog 28 #[.string s] w fun e w' => e = .returned (.bool (oSets s)) ∧ w' = w := by
  go_enter Tryz.func28, Tryz.ntmps28
  go_wp2
  go_loop [3] (fun v => ∃ k : Nat, k ≤ s.size ∧ v = .int .i64 k ∧ Hid (skip s k = w0 s)) (fun v => s.size - (intOf v).toNat)
  case atStart => exact ⟨0, by omega, rfl, rfl⟩
  case round =>
    obtain ⟨k, hk, rfl, HK⟩ := hrel
    by_cases hsp : byt s k = 32
    · have hlt : k < s.size := byt_in (by omega)
      have hb := byt_cast hlt
      have H2 : Hid (skip s (k + 1) = w0 s) := by unfold Hid; rw [← skip_space hsp]; exact HK.out
      go_wp2
      go_round
      case rel => exact ⟨k + 1, by omega, by go_num, H2⟩
      case measure => simp [intOf]; omega
    · have HW0 : Hid (w0 s = k) := by unfold Hid; rw [← HK.out, skip_here hsp]
      by_cases hlt : k < s.size
      · have hb := byt_cast hlt
        go_wp2
        go_loop [4] (fun v => ∃ j : Nat, k ≤ j ∧ j ≤ s.size ∧ v = .int .i64 j ∧ Hid (wend s j = w1 s)) (fun v => s.size - (intOf v).toNat)
        case atStart => exact ⟨k, Nat.le_refl _, hk, rfl, by unfold Hid w1; rw [HW0.out]⟩
        case round =>
          obtain ⟨j, hkj, hj, rfl, HJ⟩ := hrel
          by_cases h1 : sml s j = true
          · have hjlt := sml_in h1
            have hb2 := byt_cast hjlt
            obtain ⟨h3, h4⟩ := (sml_iff s j).1 h1
            have H2 : Hid (wend s (j + 1) = w1 s) := by unfold Hid; rw [← wend_step h1]; exact HJ.out
            go_wp2
            go_round
            case rel => exact ⟨j + 1, by omega, by omega, by go_num, H2⟩
            case measure => simp [intOf]; omega
          · have HE : Hid (w1 s = j) := by unfold Hid; rw [← HJ.out, wend_here h1]
            rw [sml_iff] at h1
            have hw := oSets_cases s k j HW0.out HE.out
            have hx : ¬ j < s.size ∨ (∃ h : j < s.size, ((s[j].toNat : Nat) : Int) = (byt s j : Int) ∧ ¬ 97 ≤ byt s j) ∨ (∃ h : j < s.size, ((s[j].toNat : Nat) : Int) = (byt s j : Int) ∧ 97 ≤ byt s j ∧ ¬ byt s j ≤ 122) := by
              by_cases q1 : j < s.size
              · by_cases q2 : 97 ≤ byt s j
                · exact Or.inr (Or.inr ⟨q1, byt_cast q1, q2, fun q3 => h1 ⟨q2, q3⟩⟩)
                · exact Or.inr (Or.inl ⟨q1, byt_cast q1, q2⟩)
              · exact Or.inl q1
            clear h1 HJ
            rcases hx with hx | ⟨hx, hx1, hx2⟩ | ⟨hx, hx1, hx2, hx3⟩
            all_goals
              rcases hw with ⟨hS, hO⟩ | ⟨hS, hO⟩ | ⟨hS, hO⟩ | ⟨hS, hO⟩ | ⟨n1, n2, n3, n4, hO⟩
              · have HO := hidV hO
                clear hO
                go_wp2
                go_ret
                exact ⟨by rw [HO.out]; rfl, rfl⟩
              · have HO := hidV hO
                clear hO
                go_wp2
                go_ret
                exact ⟨by rw [HO.out]; rfl, rfl⟩
              · have HO := hidV hO
                clear hO
                go_wp2
                go_ret
                exact ⟨by rw [HO.out]; rfl, rfl⟩
              · have HO := hidV hO
                clear hO
                go_wp2
                go_ret
                exact ⟨by rw [HO.out]; rfl, rfl⟩
              · have HO := hidV hO
                have q1 := str_ne n1
                have q2 := str_ne n2
                have q3 := str_ne n3
                have q4 := str_ne n4
                clear hO n1 n2 n3 n4
                go_wp2
                go_ret
                exact ⟨by rw [HO.out]; rfl, rfl⟩
      · have hb := byt_ge hlt
        go_wp2
        go_loop [4] (fun v => ∃ j : Nat, k ≤ j ∧ j ≤ s.size ∧ v = .int .i64 j ∧ Hid (wend s j = w1 s)) (fun v => s.size - (intOf v).toNat)
        case atStart => exact ⟨k, Nat.le_refl _, hk, rfl, by unfold Hid w1; rw [HW0.out]⟩
        case round =>
          obtain ⟨j, hkj, hj, rfl, HJ⟩ := hrel
          by_cases h1 : sml s j = true
          · have hjlt := sml_in h1
            omega
          · have HE : Hid (w1 s = j) := by unfold Hid; rw [← HJ.out, wend_here h1]
            rw [sml_iff] at h1
            have hw := oSets_cases s k j HW0.out HE.out
            have hx : ¬ j < s.size := by omega
            have hn : (s.extract k j).data.toList = [] := by
              apply List.eq_nil_of_length_eq_zero
              simp; omega
            clear h1 HJ
            rcases hw with ⟨hS, hO⟩ | ⟨hS, hO⟩ | ⟨hS, hO⟩ | ⟨hS, hO⟩ | ⟨n1, n2, n3, n4, hO⟩
            · rw [hS] at hn; simp at hn
            · rw [hS] at hn; simp at hn
            · rw [hS] at hn; simp at hn
            · rw [hS] at hn; simp at hn
            · have HO := hidV hO
              have q1 := str_ne n1
              have q2 := str_ne n2
              have q3 := str_ne n3
              have q4 := str_ne n4
              clear hO n1 n2 n3 n4 hn
              go_wp2
              go_ret
              exact ⟨by rw [HO.out]; rfl, rfl⟩

/-- Which of n things a raw number speaks of. -/
theorem lpick_any (c : Int) (n : Nat) (w : World) (h : 0 < n) (hn : n ≤ 9000000000000000000) (h1 : -9223372036854775808 ≤ c) (h2 : c ≤ 9223372036854775807) :
    Calls Tryz.prog 29 #[.int .i64 c, .int .i64 n] w fun e w' => (∃ k : Nat, k < n ∧ e = .returned (.int .i64 k)) ∧ w' = w := by
  have hn0 : ¬ ((n : Int) = 0) := by omega
  have hn1 : ¬ ((n : Int) = -1) := by omega
  by_cases hc : c < 0
  · obtain ⟨d, hd⟩ : ∃ d : Nat, -(c + 1) = d := ⟨(-(c + 1)).toNat, by omega⟩
    go_enter Tryz.func29, Tryz.ntmps29
    go_wp2
    go_ret
    exact ⟨⟨d % n, Nat.mod_lt _ h, rfl⟩, rfl⟩
  · obtain ⟨d, hd⟩ : ∃ d : Nat, c = d := ⟨c.toNat, by omega⟩
    subst hd
    go_enter Tryz.func29, Tryz.ntmps29
    go_wp2
    go_ret
    exact ⟨⟨d % n, Nat.mod_lt _ h, rfl⟩, rfl⟩

theorem rep_get (L : List Value) (hL : L.length = 9) : ∀ (m n j : Nat), n < m → j < 9 → ((List.replicate m L).flatten)[n * 9 + j]? = L[j]?
  | 0, n, j, hn, _ => by omega
  | m + 1, n, j, hn, hj => by
    rw [List.replicate_succ, List.flatten_cons]
    cases n with
    | zero => rw [List.getElem?_append_left (by omega), Nat.zero_mul, Nat.zero_add]
    | succ n =>
      rw [List.getElem?_append_right (by omega), hL, show (n + 1) * 9 + j - 9 = n * 9 + j by omega]
      exact rep_get L hL m n j (by omega) hj
def zM : List Value := [.int .i64 0, .slice none 0 0, .bool false, .bool false, .bool false, .bool false, .bool false, .bool false, .bool false]
theorem zero_desk : Tryz.zeroCells84 = ((List.replicate 26 zM).flatten).toArray := by kernel_rfl

set_option maxRecDepth 100000 in
theorem rNew_any (w : World) :
    Calls Tryz.prog 27 #[] w fun e w' => e = .returned (.pointer (some ⟨w.heap.size, 0, none⟩)) ∧ Dk w' [w.heap.size] w.heap.size (fun _ => .non) ∧ Fr [] w w' ∧ w'.heap.size = w.heap.size + 1 := by
  go_enter Tryz.func27, Tryz.ntmps27
  go_wp2
  go_ret
  refine ⟨rfl, ⟨⟨Tryz.zeroCells84, Blk.new w _ _, by rw [zero_desk]; rfl, fun n hn => ⟨.slice none 0 0, rfl, ?_, ?_, fun j hj => ?_⟩⟩, by simp⟩, (Fr.refl [] w).alloc _, by simp⟩
  · rw [zero_desk, List.getElem?_toArray]
    exact rep_get zM rfl 26 n 0 hn (by omega)
  · rw [zero_desk, List.getElem?_toArray]
    exact rep_get zM rfl 26 n 1 hn (by omega)
  · rw [zero_desk, List.getElem?_toArray, Nat.add_assoc, rep_get zM rfl 26 n (2 + j) hn (by omega)]
    match j, hj with
    | 0, _ => rfl
    | 1, _ => rfl
    | 2, _ => rfl
    | 3, _ => rfl
    | 4, _ => rfl
    | 5, _ => rfl
    | 6, _ => rfl

theorem pNew_any (w : World) :
    Calls Tryz.prog 26 #[] w fun e w' => ∃ b bm, e = .returned (.pointer (some ⟨b, 0, none⟩)) ∧ Blk w' b #[.map (some bm)] 71 ∧ Nm w' [bm] bm (fun _ => .non) ∧ w.heap.size ≤ b ∧ w.heap.size ≤ bm ∧ Fr [] w w' := by
  have hmm := @run_makeMap Tryz.prog
  go_enter Tryz.func26, Tryz.ntmps26
  go_wp2
  go_ret
  refine ⟨w.heap.size + 1, w.heap.size, rfl, Blk.newAt _ _ _ (by simp), ⟨⟨#[], 0, ?_, fun e he => by simp at he, fun n hn => rfl⟩, by simp⟩, by omega, Nat.le_refl _, ((Fr.refl [] w).alloc _).alloc _⟩
  rw [((Fr.refl [] (w.alloc (.map #[] 0))).alloc _).block w.heap.size (by simp) (by simp)]
  show (w.heap.push _)[w.heap.size]? = _
  simp
end Go.Proofs.YthlmgpllapccfaaGreatDoor
