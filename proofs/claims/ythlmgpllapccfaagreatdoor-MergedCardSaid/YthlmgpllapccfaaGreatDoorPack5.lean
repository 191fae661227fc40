import Derived.Test.YthlmgpllapccfaaGreatDoorPack4
import Derived.Deep.AppendLies
/- THE DOCUMENT's divides. -/
namespace Go.Proofs.YthlmgpllapccfaaGreatDoor
open Go.RowKit

theorem sb_set (p q : Nat → Nat) (f s i : Nat) (h : s + i < 5) (v : Nat) (hv : v = (((q (s + i) : Int) - (f : Int) * (p i : Int)) % 7).toNat) : (lst (sb p q f s i)).set (s + i) v = lst (sb p q f s (i + 1)) := by
  apply lst_set _ _ h
  · unfold sb; rw [if_pos (by omega), show s + i - s = i by omega, hv]
  · intro j hj
    unfold sb
    by_cases h1 : s ≤ j ∧ j < s + i
    · rw [if_pos h1, if_pos (by omega)]
    · rw [if_neg h1, if_neg (by omega)]
theorem sb_at (p q : Nat → Nat) (f s i : Nat) (h : s + i < 5) : (lst (sb p q f s i)).getD (s + i) 0 = q (s + i) := by
  rw [lst_get _ h]; unfold sb; rw [if_neg (by omega)]
theorem sb_zero (p q : Nat → Nat) (f s : Nat) : sb p q f s 0 = q := by
  funext j; unfold sb; rw [if_neg (by omega)]

set_option maxRecDepth 100000 in
set_option maxHeartbeats 800000 in
theorem divides_any (p q : Nat → Nat) (d : Nat) (D : Int) (w : World) (hp : Mon p d) (hq : Vec q) (hD : D = d) :
    Calls Tryz.prog 88 #[.agg (pv (lst p)), .int .i64 D, .agg (pv (lst q))] w fun e w' => e = .returned (.bool (decide (dg (dv p d q (5 - d)) = 0))) ∧ Below w.heap.size w w' := by
  subst hD
  have hd := hp.le
  obtain ⟨L, HL⟩ : ∃ L, Hid (dv p d q (5 - d) = L) := ⟨_, rfl⟩
  rw [HL.out]
  have HDG := hidV (degree_any L)
  generalize dg L = G at *
  go_enter Tryz.func88, Tryz.ntmps88
  go_wp2
  refine wp_forget (fun W => Blk W w.heap.size (pv (lst p)) 121 ∧ Blk W (w.heap.size + 1) (pv (lst (dv p d q 0))) 121 ∧ Below w.heap.size w W) ⟨Blk.alloc (Blk.new w _ _) _, Blk.newAt _ _ _ (by simp), by go_grown⟩ ?_
  rintro W ⟨b1, b2, hbel⟩
  have HH := hidV (And.intro b1 (And.intro b2 hbel))
  clear b1 b2 hbel
  go_loopg [7] (5 - d) (fun gm v7 wr => ∃ k : Nat, gm = 5 - d - k ∧ k ≤ 5 - d ∧ v7 = .int .i64 (((5 - k : Nat) : Int) - 1) ∧ Hid (Blk wr w.heap.size (pv (lst p)) 121 ∧ Blk wr (w.heap.size + 1) (pv (lst (dv p d q k))) 121 ∧ Below w.heap.size w wr))
  case atStart => exact ⟨0, rfl, by omega, rfl, HH⟩
  case round =>
    obtain ⟨k, hgm, hk, rfl, HD⟩ := hrel
    clear HH W
    by_cases h5 : k < 5 - d
    · obtain ⟨x, s, hs, HX⟩ : ∃ x s : Nat, 5 - k = x + 1 ∧ Hid (x = s + d) := ⟨4 - k, 4 - k - d, by omega, by unfold Hid; omega⟩
      have e : (((5 - k : Nat) : Int) - 1) = (x : Int) := by omega
      rw [e]
      have HK1 : Hid ((((5 - (k + 1) : Nat) : Int) - 1) = (x : Int) - 1) := by unfold Hid; omega
      have HR : Hid (dv p d q (k + 1) = sb p (dv p d q k) (dv p d q k x) s (d + 1)) := by
        unfold Hid; rw [dv, show 4 - k = x by omega, show x - d = s by have := HX.out; omega]
      have hx5 : x < 5 := by omega
      have hrv : Vec (dv p d q k) := (dv_any hp hq k (by omega)).1
      clear e hs
      generalize dv p d q k = r at *
      have hcell := pv_get (p := lst r) (j := x) (by rw [lst_len]; omega)
      rw [lst_get r hx5] at hcell
      have hc : wr.cell? ⟨w.heap.size + 1, x, none⟩ = some (.int .i64 (r x)) := by rw [HD.out.2.1.cell]; exact hcell
      clear hcell
      have hf7 := (hrv x).1
      generalize r x = f at *
      have i0 : (0 : Int) ≤ (x : Int) := by omega
      have i1 : (x : Int) < 5 := by omega
      have i2 : (d : Int) ≤ (x : Int) := by have := HX.out; omega
      go_wp2
      go_loopg [9] (d + 1) (fun gm v9 ws => ∃ i : Nat, gm = d + 1 - i ∧ i ≤ d + 1 ∧ v9 = .int .i64 i ∧ Hid (Blk ws w.heap.size (pv (lst p)) 121 ∧ Blk ws (w.heap.size + 1) (pv (lst (sb p r f s i))) 121 ∧ Below w.heap.size w ws))
      case atStart => exact ⟨0, rfl, by omega, rfl, by rw [sb_zero]; exact HD⟩
      case round =>
        obtain ⟨i, hgm2, hi, rfl, HE⟩ := hrel
        clear HD
        by_cases h7 : i < d + 1
        · have hsi : s + i < 5 := by have := HX.out; omega
          have HST := hidV (sb_set p r f s i hsi)
          have hcell1 := pv_get (p := lst (sb p r f s i)) (j := s + i) (by rw [lst_len]; omega)
          rw [sb_at p r f s i hsi] at hcell1
          have hcell2 := pv_get (p := lst p) (j := i) (by rw [lst_len]; omega)
          rw [lst_get p (by omega)] at hcell2
          have hc1 : wr.cell? ⟨w.heap.size + 1, s + i, none⟩ = some (.int .i64 (r (s + i))) := by rw [HE.out.2.1.cell]; exact hcell1
          have hc2 : wr.frozen? ⟨w.heap.size + 1, s + i, none⟩ = false := HE.out.2.1.frozen _
          have hc3 : wr.cell? ⟨w.heap.size, i, none⟩ = some (.int .i64 (p i)) := by rw [HE.out.1.cell]; exact hcell2
          have hv7 := (hrv (s + i)).1
          have hp7 := (hp.vec i).1
          have hpb := prod_bd hf7 hp7
          have j0 : (0 : Int) ≤ (i : Int) := by omega
          have j1 : (i : Int) < 5 := by omega
          have j2 : (0 : Int) ≤ ((s + i : Nat) : Int) := by omega
          have j3 : ((s + i : Nat) : Int) < 5 := by omega
          have hxi : (x : Int) - (d : Int) + (i : Int) = ((s + i : Nat) : Int) := by have := HX.out; omega
          clear hcell1 hcell2 hc
          generalize r (s + i) = v at *
          generalize p i = pi at *
          go_wp2
          refine region_quiet_tail 20 (by kernel_rfl) (by kernel_rfl) ?_
          simp only [List.take_succ_cons, List.take_zero, List.drop_succ_cons, List.drop_zero]
          repeat (first | go_big_quiet_step ((go_at_call 100; exact Calls.quiet_of_same (modulo_any _ _))) | quiet_step ((go_at_call 100; exact Calls.quiet_of_same (modulo_any _ _))))
          refine wpQuiet_nil ?_
          rintro _ ⟨nq, rfl⟩
          go_wp2
          go_roundg (d + 1 - (i + 1))
          case measure => omega
          case rel =>
            refine ⟨i + 1, rfl, by omega, by go_num, ⟨?_, ?_, ?_⟩⟩
            · exact Blk.setOther (by exact HE.out.1) _ _ (by show ¬ w.heap.size = w.heap.size + 1; omega)
            · rw [← HST.out _ rfl]
              exact Blk.putN (by exact HE.out.2.1) _ _ _ (by omega)
            · exact Below.setCell (below_drewN HE.out.2.2 nq) (by show w.heap.size ≤ w.heap.size + 1; omega) _
        · have e7 : i = d + 1 := by omega
          subst e7
          go_wp2
          go_roundg (5 - d - (k + 1))
          case measure => omega
          case rel => exact ⟨k + 1, rfl, by omega, by rw [HK1.out], by rw [HR.out]; exact HE⟩
    · have e5 : k = 5 - d := by omega
      subst e5
      have hsz := size_line (lst_len L)
      have HB : Hid (Blk wr (w.heap.size + 1) (pv (lst L)) 121 ∧ Below w.heap.size w wr) := ⟨by rw [← HL.out]; exact HD.out.2.1, HD.out.2.2⟩
      have hx1 : ¬ (d : Int) ≤ ((5 - (5 - d) : Nat) : Int) - 1 := by omega
      clear HD HL
      go_wp2_with (first | (refine wpList_load_row (by rfl) 121 _ (by rfl) (w.heap.size + 1) (by rfl) 121 (pv (lst L)) (0, 0) _ (by exact HB.out.1) Tryz.underlying121 (by rfl) hsz ?_) | (go_at_call 86; refine (HDG.out _).mono ?_; rintro e w1 ⟨rfl, hb1⟩; have HB1 := hidV hb1; clear hb1))
      go_ret
      refine ⟨?_, Fr.below (bs := []) ((Fr.of_below HB.out.2).trans (Fr.of_below (bs := []) HB1.out) (by simp)) (Nat.le_refl _) (by simp)⟩
      by_cases hg : G = 0
      · subst hg; rfl
      · show Ending.returned (.bool (decide ((G : Int) - 1 < 0))) = _
        rw [decide_eq_false hg, decide_eq_false (by omega)]
end Go.Proofs.YthlmgpllapccfaaGreatDoor
/- THE DOCUMENT's common: the search among all monic polynomials. -/
namespace Go.Proofs.YthlmgpllapccfaaGreatDoor
open Go.RowKit

/-- Lines in memory, one behind the other. -/
def Lns (w : World) (g : Nat) (ls : List (Nat → Nat)) : Prop := g < w.heap.size ∧ ∀ i, i < ls.length → w.rangeAt g (i * 5) (pv (lst (ls.getD i zv))).toList
theorem rangeAt_fr {bs : List Nat} {w w' : World} (hf : Fr bs w w') {g o : Nat} {cs : List Value} (hg : g < w.heap.size) (hn : g ∉ bs) (h : w.rangeAt g o cs) : w'.rangeAt g o cs := fun j v hv => by
  rw [hf.cell (b := g) (o + j) hg hn]; exact h j v hv
theorem Lns.fr {bs : List Nat} {w w' : World} {g : Nat} {ls : List (Nat → Nat)} (h : Lns w g ls) (hf : Fr bs w w') (hn : g ∉ bs) : Lns w' g ls :=
  ⟨Nat.lt_of_lt_of_le h.1 hf.size, fun i hi => rangeAt_fr hf h.1 hn (h.2 i hi)⟩

/-- The load of a line, under a name that the walk does not open. -/
def ldLine (x : Value) : Sem Value := Instr.loadAt 121 x
theorem ldLine_eq (x : Value) : Instr.loadAt 121 x = ldLine x := rfl
theorem run_ldL (w : World) (b o : Nat) (l : List Nat) (hl : l.length = 5) (h : w.rangeAt b o (pv l).toList) : (ldLine (.pointer (some ⟨b, o, none⟩))).run Tryz.prog w = .ok (.agg (pv l)) w := by
  unfold ldLine
  have e : (pv l) = (pv l).toList.toArray := by simp
  rw [e]
  exact run_loadAt_mid w b o 121 (pv l).toList _ h Tryz.underlying121 rfl (by rw [Array.length_toList]; exact size_line hl)
theorem wpList_load_lin {ops : Array Oper} {rest : List Oper} {op : Oper} {a : Act} {w : World} {Q : Exit → Act → World → Prop} (hgd : op.guard = none) (x : Operand) (ho : op.op = .load 121 x)
    (b o : Nat) (hx : a.eval x = .pointer (some ⟨b, o, none⟩)) (l : List Nat) (hl : l.length = 5) (hc : w.rangeAt b o (pv l).toList)
    (h : wpList Tryz.prog ops Q rest (a.put op.dst (.agg (pv l))) w) : wpList Tryz.prog ops Q (op :: rest) a w :=
  wpList_load_mid hgd 121 x ho b o hx (pv l).toList _ hc Tryz.underlying121 rfl (by rw [Array.length_toList]; exact size_line hl) (by rw [Array.toArray_toList]; exact h)

theorem mem_L {ls : List (Nat → Nat)} {i : Nat} (hi : i < ls.length) : ls.getD i zv ∈ ls := by
  rw [List.getD_eq_getElem?_getD, List.getElem?_eq_getElem hi]; exact List.getElem_mem hi

section
attribute [local go_sem ↓] ldLine_eq
set_option maxRecDepth 100000 in
set_option maxHeartbeats 1000000 in
theorem common_any (ls : List (Nat → Nat)) (g cap : Nat) (w : World) (hl : ls.length ≤ 4) (hv : ∀ l ∈ ls, Vec l) (hm : Lns w g ls) :
    Calls Tryz.prog 60 #[.slice (some ⟨g, 0, none⟩) ls.length cap] w fun e w' => e = .returned (.agg (pv (lst (gall ls)))) ∧ Below w.heap.size w w' := by
  have hgw := hm.1
  have HM := hidV hm
  clear hm
  obtain ⟨L, HL, hlen⟩ : ∃ L, Hid (lst (gall ls) = L) ∧ L.length = 5 := ⟨_, rfl, rfl⟩
  rw [HL.out]
  obtain ⟨N, HN, hN4⟩ : ∃ N, Hid (ls.length = N) ∧ N ≤ 4 := ⟨_, rfl, hl⟩
  rw [HN.out]
  clear hl
  go_enter Tryz.func60, Tryz.ntmps60
  go_wp2
  refine wp_forget (fun W => Blk W w.heap.size (pv [0, 0, 0, 0, 0]) 121 ∧ Lns W g ls ∧ Below w.heap.size w W) ⟨Blk.new w _ _, HM.out.fr (Fr.alloc (Fr.refl [] w) _) (by simp), by go_grown⟩ ?_
  rintro W ⟨b1, b2, hbel⟩
  have HH := hidV (And.intro b1 (And.intro b2 hbel))
  clear b1 b2 hbel
  go_loopg [3, 4] N (fun gm v3 v4 wr => ∃ i : Nat, ∃ z : Bool, gm = N - i ∧ i ≤ N ∧ v4 = .int .i64 i ∧ v3 = .bool z ∧ Hid (z = true ↔ ∀ j, j < i → dg (ls.getD j zv) = 0) ∧ Hid (Blk wr w.heap.size (pv [0, 0, 0, 0, 0]) 121 ∧ Lns wr g ls ∧ Below w.heap.size w wr))
  case atStart => exact ⟨0, true, rfl, by omega, rfl, rfl, ⟨fun _ j hj => by omega, fun _ => rfl⟩, HH⟩
  case round =>
    obtain ⟨i, z, hgm, hi, rfl, rfl, HZ, HD⟩ := hrel
    clear HH W
    by_cases h5 : i < N
    · have HR : Hid (wr.rangeAt g (i * 5) (pv (lst (ls.getD i zv))).toList) := HD.out.2.1.2 i (by rw [HN.out]; exact h5)
      have HDG := hidV (degree_any (ls.getD i zv))
      generalize hli : ls.getD i zv = li at *
      have HLI := hidV hli
      clear hli
      have hd5 := dg_le li
      have HZ2 : Hid ((decide (dg li = 0) && z) = true ↔ ∀ j, j < i + 1 → dg (ls.getD j zv) = 0) := by
        unfold Hid
        rw [Bool.and_eq_true, HZ.out, decide_eq_true_iff]
        constructor
        · rintro ⟨a, b⟩ j hj
          by_cases e : j = i
          · rw [e, HLI.out]; exact a
          · exact b j (by omega)
        · intro h
          exact ⟨by have := h i (by omega); rwa [HLI.out] at this, fun j hj => h j (by omega)⟩
      have i0 : (0 : Int) ≤ (i : Int) := by omega
      have i1 : (i : Int) < (N : Int) := by omega
      generalize dg li = G at *
      by_cases hz : G = 0
      · subst hz
        have HZ3 : Hid (z = true ↔ ∀ j, j < i + 1 → dg (ls.getD j zv) = 0) := by unfold Hid; rw [← HZ2.out]; simp
        clear HZ2 HZ
        go_wp2_with (first | (refine wpList_load_lin (by rfl) _ (by rfl) g (i * 5) (by rfl) (lst li) (lst_len _) (by exact HR.out) ?_) | (go_at_call 86; refine (HDG.out _).mono ?_; rintro e w1 ⟨rfl, hb1⟩; have HB1 := hidV hb1; clear hb1))
        go_roundg (N - (i + 1))
        case measure => omega
        case rel =>
          have hf := Fr.of_below (bs := []) HB1.out
          exact ⟨i + 1, z, rfl, by omega, by go_num, rfl, HZ3, HD.out.1.fr hf (by simp), HD.out.2.1.fr hf (by simp), HD.out.2.2.trans (HB1.out.mono HD.out.2.2.size)⟩
      · have hg1 : (1 : Int) ≤ (G : Int) := by omega
        have HZ3 : Hid (false = true ↔ ∀ j, j < i + 1 → dg (ls.getD j zv) = 0) := by unfold Hid; rw [← HZ2.out]; simp [hz]
        clear HZ2 HZ hz
        go_wp2_with (first | (refine wpList_load_lin (by rfl) _ (by rfl) g (i * 5) (by rfl) (lst li) (lst_len _) (by exact HR.out) ?_) | (go_at_call 86; refine (HDG.out _).mono ?_; rintro e w1 ⟨rfl, hb1⟩; have HB1 := hidV hb1; clear hb1))
        go_roundg (N - (i + 1))
        case measure => omega
        case rel =>
          have hf := Fr.of_below (bs := []) HB1.out
          exact ⟨i + 1, false, rfl, by omega, by go_num, rfl, HZ3, HD.out.1.fr hf (by simp), HD.out.2.1.fr hf (by simp), HD.out.2.2.trans (HB1.out.mono HD.out.2.2.size)⟩
    · have ei : i = N := by omega
      subst ei
      by_cases hz : dg (gall ls) = 0
      · have hz1 : z = true := HZ.out.2 (fun j hj => (gall_zero_iff hv).1 hz _ (mem_L (by rw [HN.out]; exact hj)))
        subst hz1
        have HE : Hid (pv L = #[.int .i64 0, .int .i64 0, .int .i64 0, .int .i64 0, .int .i64 0]) := by
          unfold Hid
          rw [← HL.out, gall_zero hv ((gall_zero_iff hv).1 hz)]; rfl
        clear HZ hz
        have hB := hidV HD.out.1
        obtain ⟨c0, c1, c2, c3, c4⟩ : wr.frozen? ⟨w.heap.size, 0, none⟩ = false ∧ wr.frozen? ⟨w.heap.size, 1, none⟩ = false ∧ wr.frozen? ⟨w.heap.size, 2, none⟩ = false ∧ wr.frozen? ⟨w.heap.size, 3, none⟩ = false ∧ wr.frozen? ⟨w.heap.size, 4, none⟩ = false := ⟨HD.out.1.frozen 0, HD.out.1.frozen 1, HD.out.1.frozen 2, HD.out.1.frozen 3, HD.out.1.frozen 4⟩
        go_wp2_with (refine wpList_store_mid (by rfl) 121 _ _ (by rfl) w.heap.size 0 (pv L) (by rfl) (by rw [HE.out]; rfl) (by exact Blk.there hB.out (by rw [pv_size, pv_size, hlen]; exact Nat.le_refl _)) (size_line hlen) (pv_one _) ?_)
        refine bodyPost_ret (results_cell_row Tryz.results60 _ _ w.heap.size 121 (pv L) (0, 0) _ (by rfl) (Blk.setAll (by exact hB.out) _ (by rw [pv_size, pv_size, hlen]; rfl)) Tryz.underlying121 rfl (size_line hlen)) rfl ⟨rfl, ?_⟩
        exact Below.setCells HD.out.2.2 _ _ _ (Nat.le_refl _)
      · have hz1 : z = false := by
          cases z with
          | false => rfl
          | true => exact absurd ((gall_zero_iff hv).2 (fun l hl => by obtain ⟨j, hj, e⟩ := List.getElem_of_mem hl; have := HZ.out.1 rfl j (by rw [← HN.out]; exact hj); rw [List.getD_eq_getElem?_getD, List.getElem?_eq_getElem hj] at this; rw [← e]; exact this)) hz
        subst hz1
        clear HZ
        have HZ := hidV hz
        clear hz
        go_wp2
        go_loopg [5] 4 (fun gm v5 wr => ∃ k : Nat, gm = 4 - k ∧ k ≤ 4 ∧ v5 = .int .i64 ((4 - k : Nat) : Int) ∧ Hid (noneDv (4 - k) ls) ∧ Hid (Blk wr w.heap.size (pv [0, 0, 0, 0, 0]) 121 ∧ Lns wr g ls ∧ Below w.heap.size w wr))
        case atStart => exact ⟨0, rfl, by omega, rfl, fun e h1 h2 => by omega, HD⟩
        case round =>
          obtain ⟨k, hgm, hk, rfl, HNO, HE⟩ := hrel
          clear HD
          by_cases h4 : k < 4
          · obtain ⟨d, hd, hd1, hd4⟩ : ∃ d : Nat, 4 - k = d ∧ 1 ≤ d ∧ d ≤ 4 := ⟨4 - k, rfl, by omega, by omega⟩
            have HK1 : Hid (((4 - (k + 1) : Nat) : Int) = (d : Int) - 1 ∧ 4 - (k + 1) = d - 1) := by unfold Hid; omega
            have HDK := hidV hd
            rw [hd]
            clear hd
            have d0 : (0 : Int) < (d : Int) := by omega
            have d1 : 0 < d := by omega
            go_wp2
            go_loopg [6, 7] d (fun gm v6 v7 wr => ∃ y : Nat, gm = d - y ∧ y ≤ d ∧ v7 = .int .i64 y ∧ v6 = .int .i64 ((7 ^ y : Nat) : Int) ∧ Hid (Blk wr w.heap.size (pv [0, 0, 0, 0, 0]) 121 ∧ Lns wr g ls ∧ Below w.heap.size w wr))
            case atStart => exact ⟨0, rfl, by omega, rfl, rfl, HE⟩
            case round =>
              obtain ⟨y, hgm2, hy, rfl, rfl, HF⟩ := hrel
              clear HE
              by_cases hid : y < d
              · have hpw : 7 ^ y ≤ 343 := Nat.pow_le_pow_right (by decide) (show y ≤ 3 by omega)
                have HS : Hid ((7 ^ (y + 1) : Nat) = 7 ^ y * 7) := rfl
                generalize 7 ^ y = P at *
                go_wp2
                go_roundg (d - (y + 1))
                case measure => omega
                case rel => exact ⟨y + 1, rfl, by omega, by go_num, by rw [HS.out]; go_num, HF⟩
              · have ei : y = d := by omega
                rw [ei]
                clear ei hid hy hgm2
                have hpw : 7 ^ d ≤ 2401 := Nat.pow_le_pow_right (by decide) hd4
                obtain ⟨P, HP, hP⟩ : ∃ P, Hid (7 ^ d = P) ∧ P ≤ 2401 := ⟨_, hidV rfl, hpw⟩
                rw [HP.out]
                clear hpw
                go_wp2
                go_loopg [8] P (fun gm v8 wr => ∃ n : Nat, gm = P - n ∧ n ≤ P ∧ v8 = .int .i64 n ∧ Hid (∀ m, m < n → ¬ allDv (cand m d) d ls) ∧ Hid (Blk wr w.heap.size (pv [0, 0, 0, 0, 0]) 121 ∧ Lns wr g ls ∧ Below w.heap.size w wr))
                case atStart => exact ⟨0, rfl, by omega, rfl, fun m h => by omega, HF⟩
                case round =>
                  obtain ⟨n, hgm3, hn, rfl, HA, HG⟩ := hrel
                  clear HF
                  by_cases hnP : n < P
                  · obtain ⟨C, HC, hClen⟩ : ∃ C, Hid (lst (cand n d) = C) ∧ C.length = 5 := ⟨_, hidV rfl, rfl⟩
                    have HCA := hidV (candidate_any n d n d)
                    rw [HC.out] at HCA
                    go_wp2_with (first | (go_at_call 87; refine (HCA.out _ rfl rfl (by omega) hd4).mono ?_; rintro e w1 ⟨rfl, hb1⟩; have HB1 := hidV hb1; clear hb1) | (refine wpList_store_mid (by rfl) 121 _ _ (by rfl) w1.heap.size 0 (pv C) (by rfl) (by rfl) (by exact Blk.there (Blk.new w1 _ _) (by rw [pv_size, hClen]; decide)) (size_line hClen) (pv_one _) ?_))
                    refine wp_forget (fun W => Blk W w1.heap.size (pv C) 121 ∧ Blk W w.heap.size (pv [0, 0, 0, 0, 0]) 121 ∧ Lns W g ls ∧ Below w.heap.size w W) ?_ ?_
                    · have hf1 : Fr [] wr w1 := Fr.of_below HB1.out
                      have hf2 : Fr [w1.heap.size] w1 ((w1.alloc (.cells (pv [0, 0, 0, 0, 0]) 121)).setCells w1.heap.size 0 (pv C).toList) := Fr.setCells (Fr.alloc (Fr.refl _ _) _) _ _ _ (Or.inr (Nat.le_refl _))
                      have hg1 := HG.out.2.1.fr hf1 (by simp)
                      have hb0 := HG.out.1.fr hf1 (by simp)
                      refine ⟨Blk.setAll (Blk.new w1 _ _) _ (by rw [pv_size, hClen]; rfl), hb0.fr hf2 (by have := hb0.lt; simp; omega), hg1.fr hf2 (by have := hg1.1; simp; omega), ?_⟩
                      exact Below.setCells (Below.alloc (HG.out.2.2.trans (HB1.out.mono HG.out.2.2.size)) (by have := HG.out.2.2.size; have := HB1.out.size; omega) _) _ _ _ (by have := HG.out.2.2.size; have := HB1.out.size; omega)
                    rintro V ⟨v1, v2, v3, v4⟩
                    have HV := hidV (And.intro v1 (And.intro v2 (And.intro v3 v4)))
                    clear v1 v2 v3 v4 HB1
                    generalize w1.heap.size = B at *
                    clear w1
                    go_loopg [10, 11] i (fun gm v10 v11 wr => ∃ y : Nat, ∃ ok : Bool, gm = i - y ∧ y ≤ i ∧ v11 = .int .i64 y ∧ v10 = .bool ok ∧ Hid (ok = true → ∀ j, j < y → dg (dv (cand n d) d (ls.getD j zv) (5 - d)) = 0) ∧ Hid (ok = false → ¬ allDv (cand n d) d ls) ∧ Hid (Blk wr B (pv C) 121 ∧ Blk wr w.heap.size (pv [0, 0, 0, 0, 0]) 121 ∧ Lns wr g ls ∧ Below w.heap.size w wr))
                    case atStart => exact ⟨0, true, rfl, by omega, rfl, rfl, fun _ j hj => by omega, fun h => by simp at h, HV⟩
                    case round =>
                      obtain ⟨y, ok, hgm4, hy, rfl, rfl, H1, H2, HX⟩ := hrel
                      clear HV V HG
                      cases ok with
                      | false =>
                        have HN2 : Hid (∀ m, m < n + 1 → ¬ allDv (cand m d) d ls) := fun m hm => by
                          by_cases e : m = n
                          · rw [e]; exact H2.out rfl
                          · exact HA.out m (by omega)
                        by_cases hyN : (y : Int) < (i : Int)
                        all_goals
                          go_wp2
                          go_roundg (P - (n + 1))
                          case measure => omega
                          case rel => exact ⟨n + 1, rfl, by omega, by go_num, HN2, HX.out.2⟩
                      | true =>
                        by_cases hyN : y < i
                        · have HR : Hid (wr.rangeAt g (y * 5) (pv (lst (ls.getD y zv))).toList) := HX.out.2.2.1.2 y (by rw [HN.out]; exact hyN)
                          have hmem := mem_L (ls := ls) (i := y) (by rw [HN.out]; exact hyN)
                          have HDV := hidV (divides_any (cand n d) (ls.getD y zv) d d · (cand_mon n hd4) (hv _ hmem) rfl)
                          rw [HC.out] at HDV
                          have HMEM := hidV hmem
                          clear hmem
                          have y0 : (0 : Int) ≤ (y : Int) := by omega
                          have y1 : (y : Int) < (i : Int) := by omega
                          have H3 : Hid (decide (dg (dv (cand n d) d (ls.getD y zv) (5 - d)) = 0) = true → ∀ j, j < y + 1 → dg (dv (cand n d) d (ls.getD j zv) (5 - d)) = 0) := fun h j hj => by
                            by_cases e : j = y
                            · rw [e]; exact of_decide_eq_true h
                            · exact H1.out rfl j (by omega)
                          have H4 : Hid (decide (dg (dv (cand n d) d (ls.getD y zv) (5 - d)) = 0) = false → ¬ allDv (cand n d) d ls) := fun h k => absurd (k _ HMEM.out) (of_decide_eq_false h)
                          generalize decide (dg (dv (cand n d) d (ls.getD y zv) (5 - d)) = 0) = ok2 at *
                          generalize ls.getD y zv = ly at *
                          have hld1 := fun (w' : World) (h : Blk w' B (pv C) 121) => run_ldL w' B 0 C hClen (fun j v hv => by rw [Nat.zero_add, h.cell]; simpa using hv)
                          have hld2 := fun (w' : World) (h : w'.rangeAt g (y * 5) (pv (lst ly)).toList) => run_ldL w' g (y * 5) (lst ly) (lst_len _) h
                          have HS := hidV (And.intro HX.out.1 HR.out)
                          go_wp2
                          go_region_held3 (fun w' => Blk w' B (pv C) 121 ∧ w'.rangeAt g (y * 5) (pv (lst ly)).toList) (first | assumption | exact HS.out) ((go_at_call 88; refine (HDV.out _).mono ?_; rintro e w2 ⟨rfl, hb2⟩; have HB2 := hidV hb2; have hS2 : Blk w2 B (pv C) 121 ∧ w2.rangeAt g (y * 5) (pv (lst ly)).toList := ⟨Blk.fr (by exact HS.out.1) (Fr.of_below (bs := []) hb2) (by simp), rangeAt_fr (Fr.of_below (bs := []) hb2) (by exact HX.out.2.2.1.1) (by simp) (by exact HS.out.2)⟩; clear hb2))
                          go_wp2
                          go_roundg (i - (y + 1))
                          case measure => omega
                          case rel =>
                            have hf := (Fr.refl [] wr).drew.trans (Fr.of_below (bs := []) HB2.out) (by simp)
                            exact ⟨y + 1, ok2, rfl, by omega, by go_num, rfl, H3, H4, HX.out.1.fr hf (by simp), HX.out.2.1.fr hf (by simp), HX.out.2.2.1.fr hf (by simp), HX.out.2.2.2.trans (hf.below (Nat.le_refl _) (by simp) |>.mono HX.out.2.2.2.size)⟩
                        · have ey : y = i := by omega
                          have HAD : Hid (allDv (cand n d) d ls) := fun l hl => by
                            obtain ⟨j, hj, e⟩ := List.getElem_of_mem hl
                            have := H1.out rfl j (by rw [ey, ← HN.out]; exact hj)
                            rw [List.getD_eq_getElem?_getD, List.getElem?_eq_getElem hj] at this
                            rw [← e]; exact this
                          have HCL : Hid (C = L) := by
                            unfold Hid
                            rw [← HC.out, ← HL.out, search_found hv HZ.out hd4 HAD.out (by have := HNO.out; rw [HDK.out] at this; exact this)]
                          have y1 : ¬ (y : Int) < (i : Int) := by omega
                          have HY := hidV (And.intro HX.out.1 HX.out.2.1)
                          rw [HCL.out] at HY
                          go_wp2_with (first | (refine wpList_load_row (by rfl) 121 _ (by rfl) B (by rfl) 121 (pv L) (0, 0) _ (by exact HY.out.1) Tryz.underlying121 (by rfl) (size_line hlen) ?_) | (refine wpList_store_mid (by rfl) 121 _ _ (by rfl) w.heap.size 0 (pv L) (by rfl) (by rfl) (by exact Blk.there HY.out.2 (by rw [pv_size, pv_size, hlen]; exact Nat.le_refl _)) (size_line hlen) (pv_one _) ?_))
                          refine bodyPost_ret (results_cell_row Tryz.results60 _ _ w.heap.size 121 (pv L) (0, 0) _ (by rfl) (Blk.setAll (by exact HY.out.2) _ (by rw [pv_size, pv_size, hlen]; rfl)) Tryz.underlying121 rfl (size_line hlen)) rfl ⟨rfl, ?_⟩
                          exact Below.setCells HX.out.2.2.2 _ _ _ (Nat.le_refl _)
                  · have en : n = P := by omega
                    have HNO2 : Hid (noneDv (d - 1) ls) := fun e h1 h2 m hm => by
                      by_cases ee : e = d
                      · subst ee; exact HA.out m (by rw [en, ← HP.out]; exact hm)
                      · exact HNO.out e (by have := HDK.out; omega) h2 m hm
                    go_wp2
                    go_roundg (4 - (k + 1))
                    case measure => omega
                    case rel => exact ⟨k + 1, rfl, by omega, by rw [HK1.out.1], by rw [HK1.out.2]; exact HNO2, HG⟩
          · have ek : k = 4 := by omega
            subst ek
            have HE2 : Hid (lst (cand 0 0) = L) := by unfold Hid; rw [search_none hv HZ.out HNO.out]; exact HL.out
            have HCA := hidV (candidate_any 0 0 0 0)
            rw [HE2.out] at HCA
            go_wp2_with (first | (go_at_call 87; refine (HCA.out _ rfl rfl (by omega) (by omega)).mono ?_; rintro e w1 ⟨rfl, hb1⟩; have HB1 := hidV hb1; clear hb1; have HB2 := hidV (Blk.fr HE.out.1 (Fr.of_below (bs := []) HB1.out) (by simp))) | (refine wpList_store_mid (by rfl) 121 _ _ (by rfl) w.heap.size 0 (pv L) (by rfl) (by rfl) (by exact Blk.there HB2.out (by rw [pv_size, pv_size, hlen]; exact Nat.le_refl _)) (size_line hlen) (pv_one _) ?_))
            refine bodyPost_ret (results_cell_row Tryz.results60 _ _ w.heap.size 121 (pv L) (0, 0) _ (by rfl) (Blk.setAll (by exact HB2.out) _ (by rw [pv_size, pv_size, hlen]; rfl)) Tryz.underlying121 rfl (size_line hlen)) rfl ⟨rfl, ?_⟩
            exact Below.setCells (HE.out.2.2.trans (HB1.out.mono HE.out.2.2.size)) _ _ _ (Nat.le_refl _)
end
end Go.Proofs.YthlmgpllapccfaaGreatDoor
/- PLAIN: a polynomial at u = a; a polynomial without u as one with it. -/
namespace Go.Proofs.YthlmgpllapccfaaGreatDoor

/-- A polynomial at u = a, as numbers of the powers of x. -/
def lnF (a : Nat) (p : List Nat) : Nat → Nat := fun i => if i < 5 then pows (rowN p i) a 7 else 0
theorem lnF_vec (a : Nat) (p : List Nat) : Vec (lnF a p) := fun n => by
  unfold lnF
  split
  · exact ⟨pows_lt _ _ _, fun h => by omega⟩
  · exact ⟨by omega, fun _ => rfl⟩
/-- A polynomial without u as one with it. -/
def upL (g : Nat → Nat) : List Nat := [g 0, 0, 0, 0, 0, 0, 0, g 1, 0, 0, 0, 0, 0, 0, g 2, 0, 0, 0, 0, 0, 0, g 3, 0, 0, 0, 0, 0, 0, g 4, 0, 0, 0, 0, 0, 0]
def cutF (g : Nat → Nat) (k : Nat) : Nat → Nat := fun i => if i < k then g i else 0
theorem upL_set (g d : Nat → Nat) {k v : Nat} (hk : k < 5) (hv : d k = v) (ho : ∀ i, i ≠ k → d i = g i) : (upL g).set (k * 7) v = upL d := by
  subst hv
  unfold upL
  match k, hk with
  | 0, _ => simp [ho 1, ho 2, ho 3, ho 4]
  | 1, _ => simp [ho 0, ho 2, ho 3, ho 4]
  | 2, _ => simp [ho 0, ho 1, ho 3, ho 4]
  | 3, _ => simp [ho 0, ho 1, ho 2, ho 4]
  | 4, _ => simp [ho 0, ho 1, ho 2, ho 3]
theorem upL_step (g : Nat → Nat) {k : Nat} (hk : k < 5) : (upL (cutF g k)).set (k * 7) (g k) = upL (cutF g (k + 1)) := by
  apply upL_set _ _ hk
  · unfold cutF; rw [if_pos (by omega)]
  · intro i hi
    unfold cutF
    by_cases h : i < k
    · rw [if_pos h, if_pos (by omega)]
    · rw [if_neg h, if_neg (by omega)]
theorem upL_end (g : Nat → Nat) : upL (cutF g 5) = upL g := rfl
theorem upL_zero (g : Nat → Nat) : upL (cutF g 0) = zeros := rfl
theorem upL_at (g : Nat → Nat) {k : Nat} (hk : k < 5) : (upL g).getD (k * 7) 0 = g k := by
  match k, hk with
  | 0, _ => rfl
  | 1, _ => rfl
  | 2, _ => rfl
  | 3, _ => rfl
  | 4, _ => rfl
theorem upL_off (g : Nat → Nat) {k u : Nat} (hu : 0 < u) (hu7 : u < 7) (hk : k < 5) : (upL g).getD (k * 7 + u) 0 = 0 := by
  have h1 : k = 0 ∨ k = 1 ∨ k = 2 ∨ k = 3 ∨ k = 4 := by omega
  have h2 : u = 1 ∨ u = 2 ∨ u = 3 ∨ u = 4 ∨ u = 5 ∨ u = 6 := by omega
  rcases h1 with rfl | rfl | rfl | rfl | rfl <;> rcases h2 with rfl | rfl | rfl | rfl | rfl | rfl <;> rfl
theorem upL_len (g : Nat → Nat) : (upL g).length = 35 := rfl
theorem upL_good {g : Nat → Nat} (hg : ∀ i, i < 5 → g i < 7) : Good (upL g) := by
  refine ⟨rfl, fun i => ?_⟩
  by_cases h : i < 35
  · by_cases hu : i % 7 = 0
    · rw [show i = i / 7 * 7 by omega, upL_at g (by omega)]
      exact hg _ (by omega)
    · rw [show i = i / 7 * 7 + i % 7 by omega, upL_off g (by omega) (by omega) (by omega)]
      omega
  · rw [List.getD_eq_getElem?_getD, List.getElem?_eq_none (by rw [upL_len]; omega)]; simp

end Go.Proofs.YthlmgpllapccfaaGreatDoor
/- THE DOCUMENT's seen. -/
namespace Go.Proofs.YthlmgpllapccfaaGreatDoor
open Go.RowKit

/-- A system in memory. -/
def Sy (w : World) (g : Nat) (ps : List (List Nat)) : Prop := g < w.heap.size ∧ ∀ i, i < ps.length → w.rangeAt g (i * 35) (pv (ps.getD i [])).toList
theorem Sy.fr {bs : List Nat} {w w' : World} {g : Nat} {ps : List (List Nat)} (h : Sy w g ps) (hf : Fr bs w w') (hn : g ∉ bs) : Sy w' g ps :=
  ⟨Nat.lt_of_lt_of_le h.1 hf.size, fun i hi => rangeAt_fr hf h.1 hn (h.2 i hi)⟩
def Goods (ps : List (List Nat)) : Prop := ∀ p ∈ ps, Good p
theorem Goods.at {ps : List (List Nat)} (h : Goods ps) {i : Nat} (hi : i < ps.length) : Good (ps.getD i []) := by
  rw [List.getD_eq_getElem?_getD, List.getElem?_eq_getElem hi]; exact h _ (List.getElem_mem hi)

theorem lnF_lst (a : Nat) (p : List Nat) : lst (lnF a p) = lineR p a := rfl
def lins (a : Nat) (ps : List (List Nat)) : List (Nat → Nat) := ps.map (lnF a)
theorem lins_vec (a : Nat) (ps : List (List Nat)) : ∀ l ∈ lins a ps, Vec l := fun l hl => by
  simp only [lins, List.mem_map] at hl
  obtain ⟨p, _, rfl⟩ := hl
  exact lnF_vec a p
theorem lins_len (a : Nat) (ps : List (List Nat)) : (lins a ps).length = ps.length := by simp [lins]
theorem lins_at (a : Nat) (ps : List (List Nat)) {i : Nat} (hi : i < ps.length) : (lins a ps).getD i zv = lnF a (ps.getD i []) := by
  simp [lins, List.getD_eq_getElem?_getD, List.getElem?_eq_getElem hi]

def linL (ps : List (List Nat)) (a : Nat) : Nat → List Value
  | 0 => []
  | k + 1 => linL ps a k ++ (pv (lineR (ps.getD k []) a)).toList
theorem linL_length (ps : List (List Nat)) (a : Nat) : ∀ k, (linL ps a k).length = k * 5
  | 0 => rfl
  | k + 1 => by simp [linL, linL_length ps a k, pv, lineR]; omega
theorem linL_get (ps : List (List Nat)) (a : Nat) : ∀ (k j i : Nat), j < k → i < 5 → (linL ps a k)[j * 5 + i]? = (pv (lineR (ps.getD j []) a)).toList[i]?
  | 0, _, _, h, _ => by omega
  | k + 1, j, i, h, hi => by
    show (linL ps a k ++ (pv (lineR (ps.getD k []) a)).toList)[j * 5 + i]? = _
    by_cases hj : j < k
    · rw [List.getElem?_append_left (by rw [linL_length]; omega)]
      exact linL_get ps a k j i hj hi
    · have e : j = k := by omega
      subst e
      rw [List.getElem?_append_right (by rw [linL_length]; omega), linL_length]
      congr 1; omega
theorem Line_info : (Tryz.prog.info? 121).map (fun i => (i.zero, i.size, i.bytes)) = some (some (.agg #[.int .i64 0, .int .i64 0, .int .i64 0, .int .i64 0, .int .i64 0]), 5, 40) := by kernel_rfl
theorem pv_oneL (l : List Nat) : ∀ u ∈ (pv l).toList, u.oneCell' = true := by
  intro u hu
  simp only [pv, List.mem_map] at hu
  obtain ⟨n, _, rfl⟩ := hu
  rfl
theorem Lns.of_owns {w : World} {base g n cap : Nat} {ps : List (List Nat)} {a : Nat} (h : w.ownsRow base 121 5 (.slice (some ⟨g, 0, none⟩) n cap) n (linL ps a n)) (hn : n = ps.length) : Lns w g (lins a ps) := by
  refine ⟨(h.lt g rfl).2, fun i hi => ?_⟩
  rw [lins_len] at hi
  intro j v hv
  rw [lins_at a ps hi, lnF_lst] at hv
  have hj : j < 5 := by
    have : j < (pv (lineR (ps.getD i []) a)).toList.length := by
      rcases Nat.lt_or_ge j (pv (lineR (ps.getD i []) a)).toList.length with q | q
      · exact q
      · rw [List.getElem?_eq_none q] at hv; simp at hv
    rw [Array.length_toList, pv_size] at this; exact this
  rw [← linL_get ps a n i j (by omega) hj] at hv
  have := h.cells (g := g) rfl (i * 5 + j) v hv
  have hadd : (⟨g, 0, none⟩ : Addr).add (i * 5 + j) = ⟨g, i * 5 + j, none⟩ := by rw [Addr.add_mid]; simp
  rw [hadd] at this
  exact this
theorem wpList_load_rp {ops : Array Oper} {rest : List Oper} {op : Oper} {a : Act} {w : World} {Q : Exit → Act → World → Prop} (hgd : op.guard = none) (x : Operand) (ho : op.op = .load 116 x)
    (b o : Nat) (hx : a.eval x = .pointer (some ⟨b, o, none⟩)) (p : List Nat) (hp : Good p) (hc : w.rangeAt b o (pv p).toList)
    (h : wpList Tryz.prog ops Q rest (a.put op.dst (.agg (pv p))) w) : wpList Tryz.prog ops Q (op :: rest) a w :=
  wpList_load_mid hgd 116 x ho b o hx (pv p).toList _ hc Tryz.underlying116 rfl (by rw [Array.length_toList]; exact size_rPoly hp) (by rw [Array.toArray_toList]; exact h)

theorem build5 {C : List Nat} (h : C.length = 5) : Array.foldl (fun (cs : Array Value) (x : Value × Nat) => cs.setIfInBounds x.snd x.fst) #[.int .i64 0, .int .i64 0, .int .i64 0, .int .i64 0, .int .i64 0] (pv C).zipIdx 0 5 = pv C := by
  match C, h with
  | [a, b, c, d, e], _ => rfl

set_option maxRecDepth 100000 in
set_option maxHeartbeats 1000000 in
theorem seen_any (ps : List (List Nat)) (a g cap : Nat) (A : Int) (s0 s1 s2 s3 s4 s5 s6 kd : Value) (w : World) (hA : A = a) (ha : a < 7) (hps : Goods ps) (hl : ps.length ≤ 4) (h0 : ps ≠ []) (hm : Sy w g ps) :
    Calls Tryz.prog 58 #[.agg #[kd, .slice (some ⟨g, 0, none⟩) ps.length cap, s0, s1, s2, s3, s4, s5, s6], .int .i64 A] w fun e w' => ∃ g' cap', e = .returned (.slice (some ⟨g', 0, none⟩) ps.length cap') ∧ Lns w' g' (lins a ps) ∧ Below w.heap.size w w' := by
  subst hA
  have HM := hidV hm
  have hgw := hm.1
  clear hm
  have H0 := hidV h0
  clear h0
  obtain ⟨i0, hi, hz0, hz1, hz2⟩ := info_parts Line_info
  obtain ⟨N, HN, hN4⟩ : ∃ N, Hid (ps.length = N) ∧ N ≤ 4 := ⟨_, hidV rfl, hl⟩
  rw [HN.out]
  clear hl
  go_enter Tryz.func58, Tryz.ntmps58
  go_wp2
  refine wp_forget (fun W => W.cell? ⟨w.heap.size, 1, none⟩ = some (.slice (some ⟨g, 0, none⟩) N cap) ∧ w.heap.size < W.heap.size ∧ Sy W g ps ∧ Below w.heap.size w W) ⟨by rw [(Blk.new w _ _).cell]; rfl, by simp, HM.out.fr (Fr.alloc (Fr.refl [] w) _) (by simp), by go_grown⟩ ?_
  rintro W ⟨b1, hW, b2, hbel⟩
  have HH := hidV (And.intro b1 (And.intro b2 hbel))
  clear b1 b2 hbel
  go_loopg [5, 6] N (fun gm v5 v6 wr => ∃ k : Nat, gm = N - k ∧ k ≤ N ∧ v6 = .int .i64 k ∧ Hid (wr.ownsRow W.heap.size 121 5 v5 k (linL ps a k) ∧ Below W.heap.size W wr))
  case atStart => exact ⟨0, rfl, by omega, rfl, World.ownsRow_nil _ _ _ _, Below.refl _ _⟩
  case round =>
    obtain ⟨k, hgm, hk, rfl, HD⟩ := hrel
    have hf : Fr [] W wr := Fr.of_below HD.out.2
    have hc1 : wr.cell? ⟨w.heap.size, 1, none⟩ = some (.slice (some ⟨g, 0, none⟩) N cap) := by rw [hf.cell 1 hW (by simp)]; exact HH.out.1
    have HSY := hidV (HH.out.2.1.fr hf (by simp))
    clear hf
    by_cases h5 : k < N
    · have HR : Hid (wr.rangeAt g (k * 35) (pv (ps.getD k [])).toList) := HSY.out.2 k (by rw [HN.out]; exact h5)
      have hgd : Good (ps.getD k []) := hps.at (by rw [HN.out]; exact h5)
      obtain ⟨C, HC, hClen⟩ : ∃ C, Hid (lineR (ps.getD k []) a = C) ∧ C.length = 5 := ⟨_, hidV rfl, rfl⟩
      have HCA := hidV (at_any (ps.getD k []) a a · hgd rfl ha)
      rw [HC.out] at HCA
      have HLL : Hid (linL ps a (k + 1) = linL ps a k ++ (pv C).toList) := by unfold Hid; rw [← HC.out]; rfl
      have hCs : (pv C).size = 5 := by rw [pv_size]; exact hClen
      have hfold := build5 hClen
      generalize ps.getD k [] = p at *
      have k0 : (0 : Int) ≤ (k : Int) := by omega
      have k1 : (k : Int) < (N : Int) := by omega
      go_upto_region 6 with (first | (refine wpList_load_rp (by rfl) _ (by rfl) g (k * 35) (by rfl) p hgd (by exact HR.out) ?_) | (go_at_call 85; refine (HCA.out _).mono ?_; rintro e w1 ⟨rfl, hb1⟩; have HB1 := hidV hb1; clear hb1) | (refine wpList_store_mid (by rfl) 121 _ _ (by rfl) w1.heap.size 0 (pv C) (by rfl) (by rfl) (by exact Blk.there (Blk.new w1 _ _) (by rw [pv_size, hClen]; decide)) (size_line hClen) (pv_one _) ?_))
      refine wp_forget (fun V => Blk V w1.heap.size (pv C) 121 ∧ V.ownsRow W.heap.size 121 5 u5 k (linL ps a k) ∧ Below W.heap.size W V) ?_ ?_
      · have hf1 : Fr [w1.heap.size] wr w1 := Fr.of_below HB1.out
        have hf2 : Fr [w1.heap.size] wr ((w1.alloc (.cells (pv [0, 0, 0, 0, 0]) 121)).setCells w1.heap.size 0 (pv C).toList) := Fr.setCells (Fr.alloc hf1 _) _ _ _ (Or.inl (by simp))
        refine ⟨Blk.setAll (Blk.new w1 _ _) _ (by rw [pv_size, hClen]; rfl), ownsRow_fr HD.out.1 hf2 (ownsRow_ne HD.out.1 HB1.out.size), ?_⟩
        exact Below.setCells (Below.alloc (HD.out.2.trans (HB1.out.mono HD.out.2.size)) (by have := HD.out.2.size; have := HB1.out.size; omega) _) _ _ _ (by have := HD.out.2.size; have := HB1.out.size; omega)
      rintro V ⟨v1, v2, v3⟩
      have HOWN := hidV v2
      have HBEL := hidV v3
      have HBK := hidV v1
      clear v1 v2 v3 HB1
      generalize w1.heap.size = B at *
      clear w1
      go_wp2_with (first | (refine wpList_load_row (by rfl) 121 _ (by rfl) B (by rfl) 121 (pv C) (0, 0) _ (by exact HBK.out) Tryz.underlying121 (by rfl) (size_line hClen) ?_) | (at_builtin; refine wpList_append_lies _ (by rfl) (.tmp 22) (.tmp 24) 118 (by rfl) W.heap.size 121 i0 _ 5 40 Tryz.underlying118 hi hz0 hz1 hz2 (by rfl) (by decide) _ k (linL ps a k) (by rfl) (by exact HOWN.out.alloc _) ⟨V.heap.size, 0, none⟩ 1 1 (pv C).toList (by rfl) (by rw [Array.length_toList, hCs]) (by exact World.news_of_block (Blk.new V _ _)) (pv_oneL _) (by decide) (by unfold maxLen; omega) (by omega) (by have := HBEL.out.size; simp; omega) _ rfl ?_; intro g2 cap2 w3 hown1 hgrow hat hlt1))
      go_roundg (N - (k + 1))
      case measure => omega
      case rel =>
        refine ⟨k + 1, rfl, by omega, by go_num, ?_, ?_⟩
        · rw [HLL.out]; exact hown1
        · exact (HBEL.out.alloc (by have := HBEL.out.size; omega) _).grown hgrow (by have := HBEL.out.size; simp; omega) (fun b hb => (HOWN.out.lt b hb).1)
    · have ek : k = N := by omega
      obtain ⟨_, q | ⟨g2, cap2, cur, hu5, _⟩⟩ := HD.out.1
      · exfalso
        apply H0.out
        have := q.2
        have := HN.out
        exact List.length_eq_zero_iff.1 (by omega)
      · subst hu5
        have HO := hidV HD.out.1
        have HB := hidV HD.out.2
        clear HD
        have k1 : ¬ (k : Int) < (N : Int) := by omega
        have HEK := hidV ek
        rw [ek] at HO ⊢
        clear ek k1 h5
        go_wp2
        go_ret
        refine ⟨g2, cap2, rfl, Lns.of_owns HO.out HN.out.symm, ?_⟩
        exact HH.out.2.2.trans (HB.out.mono HH.out.2.2.size)
end Go.Proofs.YthlmgpllapccfaaGreatDoor
/- THE DOCUMENT's roots and written. -/
namespace Go.Proofs.YthlmgpllapccfaaGreatDoor
open Go.RowKit

/-- The common zeros. -/
def rts (ls : List (Nat → Nat)) : Nat → Bool := fun x => ls.all fun l => decide (pows l x 5 = 0)
theorem valL_lst (l : Nat → Nat) (x : Nat) : valL (lst l) x = pows l x 5 := by
  unfold valL
  exact pows_congr 5 (fun j hj => lst_get l hj)
theorem rts_iff (ls : List (Nat → Nat)) (x : Nat) : rts ls x = true ↔ ∀ j, j < ls.length → pows (ls.getD j zv) x 5 = 0 := by
  unfold rts
  rw [List.all_eq_true]
  constructor
  · intro h j hj
    exact of_decide_eq_true (h _ (mem_L hj))
  · intro h l hl
    obtain ⟨j, hj, e⟩ := List.getElem_of_mem hl
    have := h j hj
    rw [List.getD_eq_getElem?_getD, List.getElem?_eq_getElem hj] at this
    rw [← e]; exact decide_eq_true this
theorem lst_lt7 {l : Nat → Nat} (h : Vec l) (i : Nat) : (lst l).getD i 0 < 7 := by
  by_cases hi : i < 5
  · rw [lst_get l hi]; exact (h i).1
  · rw [List.getD_eq_getElem?_getD, List.getElem?_eq_none (by rw [lst_len]; omega)]; simp
theorem size_meaning (a b c d e f g h i : Value) : (Tryz.prog.info? 81).map (·.size) = some (#[a, b, c, d, e, f, g, h, i] : Array Value).size := by kernel_rfl
theorem size_bool7 (b : Nat → Bool) : (Tryz.prog.info? 45).map (·.size) = some (bv b).size := by kernel_rfl
theorem bv_upd (b : Nat → Bool) {i : Nat} (v : Bool) (h : i < 7) : (bv b).setIfInBounds i (.bool v) = bv (fun j => if j = i then v else b j) :=
  bv_set b _ h (by simp) (fun j hj => by simp [hj])

set_option maxRecDepth 100000 in
set_option maxHeartbeats 1000000 in
theorem roots_any (ps : List (List Nat)) (a g cap : Nat) (A : Int) (s0 s1 s2 s3 s4 s5 s6 kd : Value) (w : World) (hA : A = a) (ha : a < 7) (hps : Goods ps) (hl : ps.length ≤ 4) (h0 : ps ≠ []) (hm : Sy w g ps) :
    Calls Tryz.prog 57 #[.agg #[kd, .slice (some ⟨g, 0, none⟩) ps.length cap, s0, s1, s2, s3, s4, s5, s6], .int .i64 A] w fun e w' => e = .returned (.string (bs (lsd (rts (lins a ps)) 7))) ∧ Below w.heap.size w w' := by
  subst hA
  have HSE := hidV (fun W h => seen_any ps a g cap a s0 s1 s2 s3 s4 s5 s6 kd W rfl ha hps hl h0 h)
  have HM := hidV hm
  have hgw := hm.1
  clear hm h0
  obtain ⟨N, HN, hN4⟩ : ∃ N, Hid (ps.length = N) ∧ N ≤ 4 := ⟨_, hidV rfl, hl⟩
  rw [HN.out] at HSE ⊢
  clear hl
  obtain ⟨R, HR⟩ : ∃ R, Hid (rts (lins a ps) = R) := ⟨_, hidV rfl⟩
  rw [HR.out]
  have HV := hidV (lins_vec a ps)
  have HLN : Hid ((lins a ps).length = N) := by unfold Hid; rw [lins_len]; exact HN.out
  generalize lins a ps = ls at *
  have HRI : Hid (∀ x, R x = true ↔ ∀ j, j < N → pows (ls.getD j zv) x 5 = 0) := by unfold Hid; intro x; rw [← HR.out, ← HLN.out]; exact rts_iff ls x
  clear HR
  go_enter Tryz.func57, Tryz.ntmps57
  have HM1 := hidV (Sy.fr HM.out (Fr.alloc (Fr.refl [] w) (.cells #[kd, .slice (some ⟨g, 0, none⟩) N cap, s0, s1, s2, s3, s4, s5, s6] 81)) (by simp))
  go_wp2_with (first | (refine wpList_load_row (by rfl) 81 _ (by rfl) w.heap.size (by rfl) 81 #[kd, .slice (some ⟨g, 0, none⟩) N cap, s0, s1, s2, s3, s4, s5, s6] (0, 0) _ (by exact Blk.new w _ _) Tryz.underlying81 (by rfl) (size_meaning ..) ?_) | (go_at_call 58; refine (HSE.out _ HM1.out).mono ?_; rintro e w1 ⟨g1, cap1, rfl, hLn, hb1⟩; have HB1 := hidV (And.intro hLn hb1); clear hLn hb1))
  refine wp_forget (fun W => Blk W w1.heap.size (bv (fun _ => false)) 45 ∧ Lns W g1 ls ∧ Below w.heap.size w W) ⟨Blk.new w1 _ _, HB1.out.1.fr (Fr.alloc (Fr.refl [] w1) _) (by simp), Fr.below (bs := []) (Fr.alloc ((Fr.alloc (Fr.refl [] w) _).trans (Fr.of_below (bs := []) HB1.out.2) (by simp)) _) (Nat.le_refl _) (by simp)⟩ ?_
  rintro W ⟨b1, b2, hbel⟩
  have hBw : w.heap.size ≤ w1.heap.size := by have := HB1.out.2.size; simp at this; omega
  have hgB : g1 < w1.heap.size := HB1.out.1.1
  have HH := hidV (And.intro b1 (And.intro b2 hbel))
  clear b1 b2 hbel HB1 HM1
  generalize w1.heap.size = B at *
  clear w1
  go_loopg [7] 7 (fun gm v7 wr => ∃ x : Nat, ∃ c : Nat → Bool, gm = 7 - x ∧ x ≤ 7 ∧ v7 = .int .i64 x ∧ Hid (∀ v, v < x → c v = R v) ∧ Hid (Blk wr B (bv c) 45 ∧ Lns wr g1 ls ∧ Below w.heap.size w wr))
  case atStart => exact ⟨0, fun _ => false, rfl, by omega, rfl, fun v hv => by omega, HH⟩
  case round =>
    obtain ⟨x, c, hgm, hx, rfl, HC, HD⟩ := hrel
    clear HH W
    by_cases hx7 : x < 7
    · have x0 : (0 : Int) ≤ (x : Int) := by omega
      have x1 : (x : Int) < 7 := by omega
      have hc : wr.cell? ⟨B, x, none⟩ = some (.bool (c x)) := by rw [HD.out.1.cell]; exact bv_get c hx7
      have hfz : wr.frozen? ⟨B, x, none⟩ = false := HD.out.1.frozen _
      generalize c x = cx at *
      go_wp2
      refine wp_forget (fun W => Blk W B (bv (fun j => if j = x then true else c j)) 45 ∧ Lns W g1 ls ∧ Below w.heap.size w W) ⟨by rw [← bv_upd c true hx7]; exact HD.out.1.set _ _, HD.out.2.1.fr (Fr.setCell (Fr.refl [B] wr) ⟨B, x, none⟩ (.bool true) (Or.inl (by simp))) (by simp; omega), Below.setCell HD.out.2.2 (by exact hBw) _⟩ ?_
      rintro W ⟨b1, b2, hbel⟩
      have HH := hidV (And.intro b1 (And.intro b2 hbel))
      clear b1 b2 hbel hc hfz
      go_loopg [8] N (fun gm v8 wr => ∃ i : Nat, ∃ d : Nat → Bool, gm = N - i ∧ i ≤ N ∧ v8 = .int .i64 i ∧ Hid (∀ v, v < x → d v = R v) ∧ Hid (d x = true ↔ ∀ j, j < i → pows (ls.getD j zv) x 5 = 0) ∧ Hid (Blk wr B (bv d) 45 ∧ Lns wr g1 ls ∧ Below w.heap.size w wr))
      case atStart => exact ⟨0, _, rfl, by omega, rfl, (fun v hv => by rw [if_neg (by omega)]; exact HC.out v hv), ⟨fun _ j hj => by omega, fun _ => by simp⟩, HH⟩
      case round =>
        obtain ⟨i, d, hgm2, hi, rfl, HC2, HX2, HE⟩ := hrel
        clear HH W HD
        by_cases hiN : i < N
        · have hmem : ls.getD i zv ∈ ls := mem_L (by rw [HLN.out]; exact hiN)
          have HVi := hidV (HV.out _ hmem)
          have HRg : Hid (wr.rangeAt g1 (i * 5) (pv (lst (ls.getD i zv))).toList) := HE.out.2.1.2 i (by rw [HLN.out]; exact hiN)
          have HWO := hidV (fun w' => worth_any (lst (ls.getD i zv)) x x w' (lst_len _) (lst_lt7 HVi.out) rfl hx7)
          rw [valL_lst] at HWO
          have HP7 := hidV (pows_lt (ls.getD i zv) x 5)
          have HX3 : Hid (d x = true ∧ pows (ls.getD i zv) x 5 = 0 ↔ ∀ j, j < i + 1 → pows (ls.getD j zv) x 5 = 0) := by
            unfold Hid
            rw [HX2.out]
            constructor
            · rintro ⟨p, q⟩ j hj
              by_cases e : j = i
              · rw [e]; exact q
              · exact p j (by omega)
            · intro p; exact ⟨fun j hj => p j (by omega), p i (by omega)⟩
          have hli : (lst (ls.getD i zv)).length = 5 := lst_len _
          generalize pows (ls.getD i zv) x 5 = V at *
          generalize lst (ls.getD i zv) = li at *
          have i0 : (0 : Int) ≤ (i : Int) := by omega
          have i1 : (i : Int) < (N : Int) := by omega
          by_cases hV : V = 0
          · subst hV
            have HX4 : Hid (d x = true ↔ ∀ j, j < i + 1 → pows (ls.getD j zv) x 5 = 0) := by unfold Hid; rw [← HX3.out]; simp
            clear HX3 HX2
            go_wp2_with (first | (refine wpList_load_lin (by rfl) _ (by rfl) g1 (i * 5) (by rfl) li hli (by exact HRg.out) ?_) | (go_at_call 84; refine (HWO.out _).mono ?_; rintro e w2 ⟨rfl, hb2⟩; have HB2 := hidV hb2; clear hb2))
            go_roundg (N - (i + 1))
            case measure => omega
            case rel =>
              have hf := Fr.of_below (bs := []) HB2.out
              exact ⟨i + 1, d, rfl, by omega, by go_num, HC2, HX4, HE.out.1.fr hf (by simp), HE.out.2.1.fr hf (by simp), HE.out.2.2.trans (HB2.out.mono HE.out.2.2.size)⟩
          · have hne : ¬ ((V : Int) = 0) := by omega
            have HX4 : Hid (¬ ∀ j, j < i + 1 → pows (ls.getD j zv) x 5 = 0) := by unfold Hid; rw [← HX3.out]; simp [hV]
            clear HX3 HX2 hV
            have hBl := HE.out.1.lt
            go_wp2_with (first | (refine wpList_load_lin (by rfl) _ (by rfl) g1 (i * 5) (by rfl) li hli (by exact HRg.out) ?_) | (go_at_call 84; refine (HWO.out _).mono ?_; rintro e w2 ⟨rfl, hb2⟩; have HB2 := hidV hb2; have hc2 : w2.cell? ⟨B, x, none⟩ = some (.bool (d x)) := (by rw [(Fr.of_below (bs := []) hb2).cell x hBl (by simp), HE.out.1.cell]; exact bv_get d hx7); have hf2 : w2.frozen? ⟨B, x, none⟩ = false := (by rw [(Fr.of_below (bs := []) hb2).frozen x hBl (by simp)]; exact HE.out.1.frozen _); clear hb2))
            go_roundg (N - (i + 1))
            case measure => omega
            case rel =>
              have hf := Fr.of_below (bs := []) HB2.out
              refine ⟨i + 1, fun j => if j = x then false else d j, rfl, by omega, by go_num, (fun v hv => by dsimp only; rw [if_neg (by omega)]; exact HC2.out v hv), ⟨fun h => by simp at h, fun h => absurd h HX4.out⟩, ?_, ?_, ?_⟩
              · rw [← bv_upd d false hx7]; exact (HE.out.1.fr hf (by simp)).set _ _
              · exact (HE.out.2.1.fr hf (by simp)).fr (Fr.setCell (Fr.refl [B] w2) ⟨B, x, none⟩ (.bool false) (Or.inl (by simp))) (by simp; omega)
              · exact Below.setCell (HE.out.2.2.trans (HB2.out.mono HE.out.2.2.size)) (by exact hBw) _
        · have ei : i = N := by omega
          have hi1 : ¬ (i : Int) < (N : Int) := by omega
          have HC3 : Hid (∀ v, v < x + 1 → d v = R v) := fun v hv => by
            by_cases e : v = x
            · rw [e, Bool.eq_iff_iff, HX2.out, HRI.out, ei]
            · exact HC2.out v (by omega)
          clear HX2 HC2 hiN
          go_wp2
          go_roundg (7 - (x + 1))
          case measure => omega
          case rel => exact ⟨x + 1, d, rfl, by omega, by go_num, HC3, HE⟩
    · have ex : x = 7 := by omega
      subst ex
      have HLI := hidV (listed_any c)
      rw [lsd_congr 7 HC.out] at HLI
      go_wp2_with (first | (refine wpList_load_row (by rfl) 45 _ (by rfl) B (by rfl) 45 (bv c) (0, 0) _ (by exact HD.out.1) Tryz.underlying45 (by rfl) (size_bool7 c) ?_) | (go_at_call 62; refine (HLI.out _).mono ?_; rintro e w2 ⟨rfl, hb2⟩; have HB2 := hidV hb2; clear hb2))
      go_ret
      exact ⟨rfl, HD.out.2.2.trans (HB2.out.mono HD.out.2.2.size)⟩
end Go.Proofs.YthlmgpllapccfaaGreatDoor
/- THE DOCUMENT's written and split. -/
namespace Go.Proofs.YthlmgpllapccfaaGreatDoor
open Go.RowKit

set_option maxRecDepth 100000 in
set_option maxHeartbeats 1000000 in
theorem written_any (g : Nat → Nat) (w : World) (hg : ∀ i, i < 5 → g i < 7) :
    Calls Tryz.prog 59 #[.agg (pv (lst g))] w fun e w' => e = .returned (.string (bs (txt (upL g)))) ∧ Below w.heap.size w w' := by
  have HW := hidV (fun w' => write_any (upL g) w' (upL_good hg))
  generalize txt (upL g) = T at *
  obtain ⟨z, HZ, hzl⟩ : ∃ z : List Nat, Hid (z = upL (cutF g 0)) ∧ z.length = 35 := ⟨_, hidV rfl, rfl⟩
  have hzp : pv z = pv zeros := by rw [HZ.out]; rfl
  go_enter Tryz.func59, Tryz.ntmps59
  go_wp2
  refine wp_forget (fun W => Blk W w.heap.size (pv (lst g)) 121 ∧ Blk W (w.heap.size + 1) (pv z) 116 ∧ Below w.heap.size w W) ⟨Blk.alloc (Blk.new w _ _) _, by rw [hzp]; exact Blk.newAt _ _ _ (by simp), by go_grown⟩ ?_
  rintro W ⟨b1, b2, hbel⟩
  rw [HZ.out] at b2
  have HH := hidV (And.intro b1 (And.intro b2 hbel))
  clear b1 b2 hbel hzp HZ hzl z
  go_loopg [4] 5 (fun gm v4 wr => ∃ k : Nat, gm = 5 - k ∧ k ≤ 5 ∧ v4 = .int .i64 k ∧ Hid (Blk wr w.heap.size (pv (lst g)) 121 ∧ Blk wr (w.heap.size + 1) (pv (upL (cutF g k))) 116 ∧ Below w.heap.size w wr))
  case atStart => exact ⟨0, rfl, by omega, rfl, HH⟩
  case round =>
    obtain ⟨k, hgm, hk, rfl, HD⟩ := hrel
    clear HH W
    by_cases h5 : k < 5
    · have k0 : (0 : Int) ≤ (k : Int) := by omega
      have k1 : (k : Int) < 5 := by omega
      have HS := hidV (upL_step g h5)
      have hcell := pv_get (p := lst g) (j := k) (by rw [lst_len]; omega)
      rw [lst_get g h5] at hcell
      have hc : wr.cell? ⟨w.heap.size, k, none⟩ = some (.int .i64 (g k)) := by rw [HD.out.1.cell]; exact hcell
      have hc1 : wr.cell? ⟨w.heap.size + 1, k * 7, none⟩ = some (.int .i64 ((upL (cutF g k)).getD (k * 7) 0)) := by rw [HD.out.2.1.cell]; exact pv_get (by rw [upL_len]; omega)
      have hc2 : wr.frozen? ⟨w.heap.size + 1, k * 7, none⟩ = false := HD.out.2.1.frozen _
      clear hcell
      generalize (upL (cutF g k)).getD (k * 7) 0 = cc at *
      generalize g k = v at *
      go_wp2
      refine region_quiet_tail 6 (by kernel_rfl) (by kernel_rfl) ?_
      simp only [List.take_succ_cons, List.take_zero, List.drop_succ_cons, List.drop_zero]
      repeat (first | go_big_quiet_step (fail) | quiet_step (fail))
      refine wpQuiet_nil ?_
      rintro _ ⟨nq, rfl⟩
      go_wp2
      go_roundg (5 - (k + 1))
      case measure => omega
      case rel =>
        refine ⟨k + 1, rfl, by omega, by go_num, ⟨?_, ?_, ?_⟩⟩
        · exact Blk.setOther (by exact HD.out.1) _ _ (by show ¬ w.heap.size = w.heap.size + 1; omega)
        · rw [← HS.out]
          exact Blk.putN (by exact HD.out.2.1) _ _ _ rfl
        · exact Below.setCell (below_drewN HD.out.2.2 nq) (by show w.heap.size ≤ w.heap.size + 1; omega) _
    · have ek : k = 5 := by omega
      subst ek
      have HB : Hid (Blk wr (w.heap.size + 1) (pv (upL g)) 116) := by unfold Hid; rw [← upL_end]; exact HD.out.2.1
      have hgd := upL_good hg
      generalize upL g = U at *
      go_wp2_with (first | (refine wpList_load_row (by rfl) 116 _ (by rfl) (w.heap.size + 1) (by rfl) 116 (pv U) (0, 0) _ (by exact HB.out) Tryz.underlying116 (by rfl) (size_rPoly hgd) ?_) | (go_at_call 55; refine (HW.out _).mono ?_; rintro e w2 ⟨rfl, hb2⟩; have HB2 := hidV hb2; clear hb2))
      go_ret
      exact ⟨rfl, HD.out.2.2.trans (HB2.out.mono HD.out.2.2.size)⟩
end Go.Proofs.YthlmgpllapccfaaGreatDoor
/- THE DOCUMENT's split. -/
namespace Go.Proofs.YthlmgpllapccfaaGreatDoor
open Go.RowKit

/-- Of each value of u the degree and 1 more (0: none). -/
def ofD (ps : List (List Nat)) : Nat → Nat := fun a => dg (gall (lins a ps))
def ofN (n : Nat) : Nat := if n = 0 then 5 else n - 1
theorem ofN_iff {n d : Nat} (hd : d ≤ 5) (hn : n ≤ 5) : ((ofN n : Int) == (d : Int)) = decide (n = if d = 5 then 0 else d + 1) := by
  rw [Bool.eq_iff_iff, beq_iff_eq, decide_eq_true_iff]
  unfold ofN
  by_cases h0 : n = 0 <;> by_cases h5 : d = 5 <;> simp [h0, h5] <;> omega
theorem size_row {l : List Nat} (hl : l.length = 7) : (Tryz.prog.info? 50).map (·.size) = some (pv l).size := by rw [pv_size, hl]; kernel_rfl
theorem spl_skip (of : Nat → Nat) (d : Nat) (h : lsd (inSeg of d) 7 = []) : spl of (d + 1) = spl of d := by rw [spl, if_pos h]
theorem spl_add (of : Nat → Nat) (d : Nat) (h : lsd (inSeg of d) 7 ≠ []) : spl of (d + 1) = (if spl of d = [] then [] else spl of d ++ [59, 32]) ++ (lab d ++ [58, 32] ++ lsd (inSeg of d) 7) := by rw [spl, if_neg h]; rfl
theorem common_to (ls : List (Nat → Nat)) (g cap N : Nat) (w : World) (hN : ls.length = N) (hl : N ≤ 4) (hv : ∀ l ∈ ls, Vec l) (hm : Lns w g ls) :
    Calls Tryz.prog 60 #[.slice (some ⟨g, 0, none⟩) N cap] w fun e w' => e = .returned (.agg (pv (lst (gall ls)))) ∧ Below w.heap.size w w' := by
  subst hN; exact common_any ls g cap w hl hv hm

set_option maxRecDepth 100000 in
set_option maxHeartbeats 2000000 in
theorem split_any (ps : List (List Nat)) (g cap : Nat) (s0 s1 s2 s3 s4 s5 s6 kd : Value) (w : World) (hps : Goods ps) (hl : ps.length ≤ 4) (h0 : ps ≠ []) (hm : Sy w g ps) :
    Calls Tryz.prog 61 #[.agg #[kd, .slice (some ⟨g, 0, none⟩) ps.length cap, s0, s1, s2, s3, s4, s5, s6]] w fun e w' => e = .returned (.string (bs (spl (ofD ps) 6))) ∧ Below w.heap.size w w' := by
  have HSE := hidV (fun a W ha h => seen_any ps a g cap a s0 s1 s2 s3 s4 s5 s6 kd W rfl ha hps hl h0 h)
  have HM := hidV hm
  have hgw := hm.1
  clear hm h0
  obtain ⟨N, HN, hN4⟩ : ∃ N, Hid (ps.length = N) ∧ N ≤ 4 := ⟨_, hidV rfl, hl⟩
  rw [HN.out] at HSE ⊢
  clear hl
  obtain ⟨F, HF⟩ : ∃ F, Hid (ofD ps = F) := ⟨_, hidV rfl⟩
  rw [HF.out]
  have HF5 : Hid (∀ a, F a ≤ 5) := by unfold Hid; intro a; rw [← HF.out]; exact dg_le _
  go_enter Tryz.func61, Tryz.ntmps61
  go_wp2
  refine wp_forget (fun W => Blk W w.heap.size #[kd, .slice (some ⟨g, 0, none⟩) N cap, s0, s1, s2, s3, s4, s5, s6] 81 ∧ Blk W (w.heap.size + 1) (pv [0, 0, 0, 0, 0, 0, 0]) 50 ∧ Sy W g ps ∧ Below w.heap.size w W) ⟨Blk.alloc (Blk.new w _ _) _, Blk.newAt _ _ _ (by simp), HM.out.fr (Fr.alloc (Fr.alloc (Fr.refl [] w) _) _) (by simp), by go_grown⟩ ?_
  rintro W ⟨b1, b2, b3, hbel⟩
  have HH := hidV (And.intro b1 (And.intro b2 (And.intro b3 hbel)))
  clear b1 b2 b3 hbel HM
  go_loopg [4] 7 (fun gm v4 wr => ∃ x : Nat, ∃ L : List Nat, gm = 7 - x ∧ x ≤ 7 ∧ v4 = .int .i64 x ∧ L.length = 7 ∧ Hid (∀ v, v < x → L.getD v 0 = ofN (F v)) ∧ Hid (Blk wr w.heap.size #[kd, .slice (some ⟨g, 0, none⟩) N cap, s0, s1, s2, s3, s4, s5, s6] 81 ∧ Blk wr (w.heap.size + 1) (pv L) 50 ∧ Sy wr g ps ∧ Below w.heap.size w wr))
  case atStart => exact ⟨0, _, rfl, by omega, rfl, rfl, fun v hv => by omega, HH⟩
  case round =>
    obtain ⟨x, L, hgm, hx, rfl, hL, HC, HD⟩ := hrel
    clear HH W
    by_cases hx7 : x < 7
    · have x0 : (0 : Int) ≤ (x : Int) := by omega
      have x1 : (x : Int) < 7 := by omega
      have HG : Hid (dg (gall (lins x ps)) = F x) := by unfold Hid; rw [← HF.out]; rfl
      have HDG := hidV (degree_any (gall (lins x ps)))
      rw [HG.out] at HDG
      have HSX := hidV (fun W h => HSE.out x W hx7 h)
      have HCO := hidV (fun g1 c1 W h => common_to (lins x ps) g1 c1 N W (by rw [lins_len]; exact HN.out) hN4 (lins_vec x ps) h)
      have hF5 := HF5.out x
      have hGl := lst_len (gall (lins x ps))
      have HFX := hidV (show F x = F x from rfl)
      generalize hfx : F x = G at HDG HG hF5
      have HGX := hidV hfx
      clear hfx HFX HG
      generalize lins x ps = ls at *
      generalize lst (gall ls) = GL at *
      have hc1 : wr.cell? ⟨w.heap.size + 1, x, none⟩ = some (.int .i64 (L.getD x 0)) := by rw [HD.out.2.1.cell]; exact pv_get (by omega)
      by_cases hG : G = 0
      all_goals
        first
        | (have hneg : (0 : Int) ≤ (G : Int) - 1 := by omega)
        | (have hneg : ¬ (0 : Int) ≤ (G : Int) - 1 := by omega)
        go_wp2_with (first | (refine wpList_load_row (by rfl) 81 _ (by rfl) w.heap.size (by rfl) 81 #[kd, .slice (some ⟨g, 0, none⟩) N cap, s0, s1, s2, s3, s4, s5, s6] (0, 0) _ (by exact HD.out.1) Tryz.underlying81 (by rfl) (size_meaning ..) ?_) | (go_at_call 58; refine (HSX.out _ HD.out.2.2.1).mono ?_; rintro e w1 ⟨g1, cap1, rfl, hLn, hb1⟩; have HB1 := hidV (And.intro hLn hb1); clear hLn hb1) | (go_at_call 60; refine (HCO.out g1 cap1 _ HB1.out.1).mono ?_; rintro e w2 ⟨rfl, hb2⟩; have HB2 := hidV hb2; clear hb2) | (go_at_call 86; refine (HDG.out _).mono ?_; rintro e w3 ⟨rfl, hb3⟩; have HB3 := hidV (((Fr.of_below HB1.out.2).trans (Fr.of_below (bs := []) HB2.out) (by simp)).trans (Fr.of_below (bs := []) hb3) (by simp) : Fr [] wr w3); have hc2 : w3.cell? ⟨w.heap.size + 1, x, none⟩ = some (.int .i64 (L.getD x 0)) := (by rw [HB3.out.cell x HD.out.2.1.lt (by simp)]; exact hc1); have hc3 : w3.frozen? ⟨w.heap.size + 1, x, none⟩ = false := (by rw [HB3.out.frozen x HD.out.2.1.lt (by simp)]; exact HD.out.2.1.frozen _); clear hb3))
        go_roundg (7 - (x + 1))
        case measure => omega
        case rel =>
          have hf := HB3.out
          have hb := hf.below (B := w.heap.size) HD.out.2.2.2.size (by simp)
          refine ⟨x + 1, L.set x (ofN G), rfl, by omega, by go_num, by rw [List.length_set]; exact hL, ?_, ?_, ?_, ?_, ?_⟩
          · intro v hv
            by_cases e : v = x
            · rw [e, HGX.out, List.getD_eq_getElem?_getD, List.getElem?_set_self (by omega)]; rfl
            · rw [List.getD_eq_getElem?_getD, List.getElem?_set_ne (Ne.symm e), ← List.getD_eq_getElem?_getD]; exact HC.out v (by omega)
          · exact (HD.out.1.fr hf (by simp)).setOther _ _ (by show ¬ w.heap.size = w.heap.size + 1; omega)
          · exact Blk.putN (HD.out.2.1.fr hf (by simp)) _ _ _ (by unfold ofN; first | (rw [if_pos hG]; rfl) | (rw [if_neg hG]; omega))
          · have hsy := HD.out.2.2.1.fr hf (by simp)
            exact hsy.fr (Fr.setCell (Fr.refl [w.heap.size + 1] w3) _ _ (Or.inl (by simp))) (by simp; omega)
          · exact Below.setCell (HD.out.2.2.2.trans hb) (by show w.heap.size ≤ w.heap.size + 1; omega) _
    · have ex : x = 7 := by omega
      subst ex
      have HE := hidV (And.intro HD.out.2.1 HD.out.2.2.2)
      clear HD
      go_wp2
      go_loopg [7, 8] 6 (fun gm v7 v8 wr => ∃ d : Nat, gm = 6 - d ∧ d ≤ 6 ∧ v8 = .int .i64 d ∧ v7 = .string (bs (spl F d)) ∧ Hid (Blk wr (w.heap.size + 1) (pv L) 50 ∧ Below w.heap.size w wr))
      case atStart => exact ⟨0, rfl, by omega, rfl, rfl, HE⟩
      case round =>
        obtain ⟨d, hgm2, hd, rfl, rfl, HX⟩ := hrel
        clear HE
        by_cases hd6 : d < 6
        · have hd5 : (d : Int) ≤ 5 := by omega
          have HSK := hidV (spl_skip F d)
          have HSD := hidV (spl_add F d)
          have HLX : Hid ((spl F d).length ≤ 126) := by unfold Hid; have := spl_len F d; omega
          have HLO : Hid ((lsd (inSeg F d) 7).length ≤ 14) := lsd_len _ 7
          have HIN : Hid (∀ v, v < 7 → ((L.getD v 0 : Int) == (d : Int)) = inSeg F d v) := fun v hv => by rw [HC.out v hv, ofN_iff (by omega) (HF5.out v)]; rfl
          have HLC := hidV (fun (c : Nat → Bool) (h : ∀ v, v < 7 → c v = inSeg F d v) => lsd_congr 7 h)
          have HLS := hidV listed_any
          generalize inSeg F d = I at *
          generalize hXX : spl F d = X at *
          clear hXX
          go_wp2
          refine wp_forget (fun W => Blk W wr.heap.size (bv (fun _ => false)) 45 ∧ Blk W (w.heap.size + 1) (pv L) 50 ∧ Below w.heap.size w W) ⟨Blk.new wr _ _, Blk.alloc HX.out.1 _, Below.alloc HX.out.2 HX.out.2.size _⟩ ?_
          rintro V ⟨b1, b2, hbel⟩
          have hBw : w.heap.size + 1 < wr.heap.size := HX.out.1.lt
          have HY := hidV (And.intro b1 (And.intro b2 hbel))
          clear b1 b2 hbel HX
          generalize wr.heap.size = B at *
          go_loopg [10] 7 (fun gm v10 wr => ∃ x : Nat, ∃ c : Nat → Bool, gm = 7 - x ∧ x ≤ 7 ∧ v10 = .int .i64 x ∧ Hid (∀ v, v < x → c v = I v) ∧ Hid (Blk wr B (bv c) 45 ∧ Blk wr (w.heap.size + 1) (pv L) 50 ∧ Below w.heap.size w wr))
          case atStart => exact ⟨0, _, rfl, by omega, rfl, fun v hv => by omega, HY⟩
          case round =>
            obtain ⟨x, c, hgm3, hx3, rfl, HC2, HX2⟩ := hrel
            clear HY V
            by_cases hx7 : x < 7
            · have x0 : (0 : Int) ≤ (x : Int) := by omega
              have x1 : (x : Int) < 7 := by omega
              have hc1 : wr.cell? ⟨w.heap.size + 1, x, none⟩ = some (.int .i64 (L.getD x 0)) := by rw [HX2.out.2.1.cell]; exact pv_get (by omega)
              have hc2 : wr.cell? ⟨B, x, none⟩ = some (.bool (c x)) := by rw [HX2.out.1.cell]; exact bv_get c hx7
              have hc3 : wr.frozen? ⟨B, x, none⟩ = false := HX2.out.1.frozen _
              have hin := HIN.out x hx7
              generalize L.getD x 0 = lx at *
              generalize c x = cx at *
              go_wp2
              go_roundg (7 - (x + 1))
              case measure => omega
              case rel =>
                refine ⟨x + 1, fun j => if j = x then I x else c j, rfl, by omega, by go_num, ?_, ?_, ?_, ?_⟩
                · intro v hv
                  dsimp only
                  by_cases e : v = x
                  · rw [if_pos e, e]
                  · rw [if_neg e]; exact HC2.out v (by omega)
                · rw [← bv_upd c (I x) hx7]; exact HX2.out.1.set _ _
                · exact HX2.out.2.1.setOther _ _ (by show ¬ w.heap.size + 1 = B; omega)
                · exact Below.setCell HX2.out.2.2 (by show w.heap.size ≤ B; omega) _
            · have ex : x = 7 := by omega
              subst ex
              have HLI := hidV (HLS.out c)
              rw [HLC.out c HC2.out] at HLI
              clear HLS HLC HIN hgm3 hx3 hx7
              generalize hOO : lsd I 7 = O at *
              clear hOO
              by_cases hO : O = []
              · have hO' : (bs O).toList.isEmpty = true := by rw [bs_empty, hO]; rfl
                have HSS := hidV (HSK.out hO)
                clear HSK HSD hO
                go_wp2_with (first | (refine wpList_load_row (by rfl) 45 _ (by rfl) B (by rfl) 45 (bv c) (0, 0) _ (by exact HX2.out.1) Tryz.underlying45 (by rfl) (size_bool7 c) ?_) | (go_at_call 62; refine (HLI.out _).mono ?_; rintro e w2 ⟨rfl, hb2⟩; have HB2 := hidV hb2; clear hb2))
                go_roundg (6 - (d + 1))
                case measure => omega
                case rel => exact ⟨d + 1, rfl, by omega, by go_num, by rw [HSS.out], HX2.out.2.1.fr (Fr.of_below (bs := []) HB2.out) (by simp), HX2.out.2.2.trans (HB2.out.mono HX2.out.2.2.size)⟩
              · have hO' : (bs O).toList.isEmpty = false := by rw [bs_empty]; cases O with | nil => exact absurd rfl hO | cons _ _ => rfl
                have HSA := hidV (HSD.out hO)
                clear HSK HSD hO
                by_cases hXE : X = []
                · have HXE := hidV hXE
                  clear hXE
                  by_cases hd5' : d = 5
                  · have HD5 := hidV hd5'
                    have hE' : (bs X).toList.isEmpty = true := by rw [bs_empty, HXE.out]; rfl
                    obtain ⟨Y2, HY2⟩ : ∃ Y, Hid (X ++ [97, 108, 108, 58, 32] = Y) := ⟨_, hidV rfl⟩
                    have HL2 : Hid (Y2.length ≤ 140) := by unfold Hid; rw [← HY2.out, List.length_append]; have := HLX.out; simp only [List.length_cons, List.length_nil]; omega
                    have hadd2 := fun (w' : World) => add_to X [97, 108, 108, 58, 32] Y2 ⟨#[97, 108, 108, 58, 32]⟩ rfl HY2.out (by have := HLX.out; omega) (by simp) w'
                    obtain ⟨Y3, HY3⟩ : ∃ Y, Hid (Y2 ++ O = Y) := ⟨_, hidV rfl⟩
                    have hadd3 := fun (w' : World) => add_to Y2 O Y3 (bs O) rfl HY3.out (by have := HL2.out; omega) (by have := HLO.out; omega) w'
                    have hd4 : (4 : Int) < (d : Int) := by omega
                    go_wp2_with (first | (refine wpList_load_row (by rfl) 45 _ (by rfl) B (by rfl) 45 (bv c) (0, 0) _ (by exact HX2.out.1) Tryz.underlying45 (by rfl) (size_bool7 c) ?_) | (go_at_call 62; refine (HLI.out _).mono ?_; rintro e w2 ⟨rfl, hb2⟩; have HB2 := hidV hb2; clear hb2))
                    go_roundg (6 - (d + 1))
                    case measure => omega
                    case rel =>
                      refine ⟨d + 1, rfl, by omega, by go_num, ?_, ?_, ?_⟩
                      · rw [HSA.out, ← HY3.out, ← HY2.out]; simp [HXE.out, lab, HD5.out]
                      · exact HX2.out.2.1.fr (Fr.of_below (bs := []) HB2.out) (by simp)
                      · exact (HX2.out.2.2.trans (HB2.out.mono HX2.out.2.2.size))
                  · have HD5 := hidV hd5'
                    have hE' : (bs X).toList.isEmpty = true := by rw [bs_empty, HXE.out]; rfl
                    obtain ⟨Y2, HY2⟩ : ∃ Y, Hid (X ++ [dgt d] = Y) := ⟨_, hidV rfl⟩
                    have HL2 : Hid (Y2.length ≤ 140) := by unfold Hid; rw [← HY2.out, List.length_append]; have := HLX.out; simp only [List.length_cons, List.length_nil]; omega
                    have hadd2 := fun (w' : World) => add_to X [dgt d] Y2 (bs [dgt d]) rfl HY2.out (by have := HLX.out; omega) (by simp) w'
                    obtain ⟨Y4, HY4⟩ : ∃ Y, Hid (Y2 ++ [58, 32] = Y) := ⟨_, hidV rfl⟩
                    have HL4 : Hid (Y4.length ≤ 142) := by unfold Hid; rw [← HY4.out, List.length_append]; have := HL2.out; simp only [List.length_cons, List.length_nil]; omega
                    have hadd4 := fun (w' : World) => add_to Y2 [58, 32] Y4 ⟨#[58, 32]⟩ rfl HY4.out (by have := HL2.out; omega) (by simp) w'
                    obtain ⟨Y3, HY3⟩ : ∃ Y, Hid (Y4 ++ O = Y) := ⟨_, hidV rfl⟩
                    have hadd3 := fun (w' : World) => add_to Y4 O Y3 (bs O) rfl HY3.out (by have := HL4.out; omega) (by have := HLO.out; omega) w'
                    have hd4 : ¬ (4 : Int) < (d : Int) := by omega
                    have hcv := fun (w' : World) => conv_new d (by omega) w'
                    go_wp2_with (first | (refine wpList_load_row (by rfl) 45 _ (by rfl) B (by rfl) 45 (bv c) (0, 0) _ (by exact HX2.out.1) Tryz.underlying45 (by rfl) (size_bool7 c) ?_) | (go_at_call 62; refine (HLI.out _).mono ?_; rintro e w2 ⟨rfl, hb2⟩; have HB2 := hidV hb2; clear hb2))
                    go_roundg (6 - (d + 1))
                    case measure => omega
                    case rel =>
                      refine ⟨d + 1, rfl, by omega, by go_num, ?_, ?_, ?_⟩
                      · rw [HSA.out, ← HY3.out, ← HY4.out, ← HY2.out]; simp [HXE.out, lab, HD5.out]
                      · exact Blk.alloc (HX2.out.2.1.fr (Fr.of_below (bs := []) HB2.out) (by simp)) _
                      · exact Below.alloc (HX2.out.2.2.trans (HB2.out.mono HX2.out.2.2.size)) (by have := HX2.out.2.2.size; have := HB2.out.size; omega) _
                · have HXE := hidV hXE
                  clear hXE
                  by_cases hd5' : d = 5
                  · have HD5 := hidV hd5'
                    have hE' : (bs X).toList.isEmpty = false := by rw [bs_empty]; cases X with | nil => exact absurd rfl HXE.out | cons _ _ => rfl
                    obtain ⟨Y1, HY1⟩ : ∃ Y, Hid (X ++ [59, 32] = Y) := ⟨_, hidV rfl⟩
                    have HL1 : Hid (Y1.length ≤ 130) := by unfold Hid; rw [← HY1.out, List.length_append]; have := HLX.out; simp only [List.length_cons, List.length_nil]; omega
                    have hadd1 := fun (w' : World) => add_to X [59, 32] Y1 ⟨#[59, 32]⟩ rfl HY1.out (by have := HLX.out; omega) (by simp) w'
                    obtain ⟨Y2, HY2⟩ : ∃ Y, Hid (Y1 ++ [97, 108, 108, 58, 32] = Y) := ⟨_, hidV rfl⟩
                    have HL2 : Hid (Y2.length ≤ 140) := by unfold Hid; rw [← HY2.out, List.length_append]; have := HL1.out; simp only [List.length_cons, List.length_nil]; omega
                    have hadd2 := fun (w' : World) => add_to Y1 [97, 108, 108, 58, 32] Y2 ⟨#[97, 108, 108, 58, 32]⟩ rfl HY2.out (by have := HL1.out; omega) (by simp) w'
                    obtain ⟨Y3, HY3⟩ : ∃ Y, Hid (Y2 ++ O = Y) := ⟨_, hidV rfl⟩
                    have hadd3 := fun (w' : World) => add_to Y2 O Y3 (bs O) rfl HY3.out (by have := HL2.out; omega) (by have := HLO.out; omega) w'
                    have hd4 : (4 : Int) < (d : Int) := by omega
                    go_wp2_with (first | (refine wpList_load_row (by rfl) 45 _ (by rfl) B (by rfl) 45 (bv c) (0, 0) _ (by exact HX2.out.1) Tryz.underlying45 (by rfl) (size_bool7 c) ?_) | (go_at_call 62; refine (HLI.out _).mono ?_; rintro e w2 ⟨rfl, hb2⟩; have HB2 := hidV hb2; clear hb2))
                    go_roundg (6 - (d + 1))
                    case measure => omega
                    case rel =>
                      refine ⟨d + 1, rfl, by omega, by go_num, ?_, ?_, ?_⟩
                      · rw [HSA.out, ← HY3.out, ← HY2.out, ← HY1.out]; simp [HXE.out, lab, HD5.out]
                      · exact HX2.out.2.1.fr (Fr.of_below (bs := []) HB2.out) (by simp)
                      · exact (HX2.out.2.2.trans (HB2.out.mono HX2.out.2.2.size))
                  · have HD5 := hidV hd5'
                    have hE' : (bs X).toList.isEmpty = false := by rw [bs_empty]; cases X with | nil => exact absurd rfl HXE.out | cons _ _ => rfl
                    obtain ⟨Y1, HY1⟩ : ∃ Y, Hid (X ++ [59, 32] = Y) := ⟨_, hidV rfl⟩
                    have HL1 : Hid (Y1.length ≤ 130) := by unfold Hid; rw [← HY1.out, List.length_append]; have := HLX.out; simp only [List.length_cons, List.length_nil]; omega
                    have hadd1 := fun (w' : World) => add_to X [59, 32] Y1 ⟨#[59, 32]⟩ rfl HY1.out (by have := HLX.out; omega) (by simp) w'
                    obtain ⟨Y2, HY2⟩ : ∃ Y, Hid (Y1 ++ [dgt d] = Y) := ⟨_, hidV rfl⟩
                    have HL2 : Hid (Y2.length ≤ 140) := by unfold Hid; rw [← HY2.out, List.length_append]; have := HL1.out; simp only [List.length_cons, List.length_nil]; omega
                    have hadd2 := fun (w' : World) => add_to Y1 [dgt d] Y2 (bs [dgt d]) rfl HY2.out (by have := HL1.out; omega) (by simp) w'
                    obtain ⟨Y4, HY4⟩ : ∃ Y, Hid (Y2 ++ [58, 32] = Y) := ⟨_, hidV rfl⟩
                    have HL4 : Hid (Y4.length ≤ 142) := by unfold Hid; rw [← HY4.out, List.length_append]; have := HL2.out; simp only [List.length_cons, List.length_nil]; omega
                    have hadd4 := fun (w' : World) => add_to Y2 [58, 32] Y4 ⟨#[58, 32]⟩ rfl HY4.out (by have := HL2.out; omega) (by simp) w'
                    obtain ⟨Y3, HY3⟩ : ∃ Y, Hid (Y4 ++ O = Y) := ⟨_, hidV rfl⟩
                    have hadd3 := fun (w' : World) => add_to Y4 O Y3 (bs O) rfl HY3.out (by have := HL4.out; omega) (by have := HLO.out; omega) w'
                    have hd4 : ¬ (4 : Int) < (d : Int) := by omega
                    have hcv := fun (w' : World) => conv_new d (by omega) w'
                    go_wp2_with (first | (refine wpList_load_row (by rfl) 45 _ (by rfl) B (by rfl) 45 (bv c) (0, 0) _ (by exact HX2.out.1) Tryz.underlying45 (by rfl) (size_bool7 c) ?_) | (go_at_call 62; refine (HLI.out _).mono ?_; rintro e w2 ⟨rfl, hb2⟩; have HB2 := hidV hb2; clear hb2))
                    go_roundg (6 - (d + 1))
                    case measure => omega
                    case rel =>
                      refine ⟨d + 1, rfl, by omega, by go_num, ?_, ?_, ?_⟩
                      · rw [HSA.out, ← HY3.out, ← HY4.out, ← HY2.out, ← HY1.out]; simp [HXE.out, lab, HD5.out]
                      · exact Blk.alloc (HX2.out.2.1.fr (Fr.of_below (bs := []) HB2.out) (by simp)) _
                      · exact Below.alloc (HX2.out.2.2.trans (HB2.out.mono HX2.out.2.2.size)) (by have := HX2.out.2.2.size; have := HB2.out.size; omega) _
        · have ed : d = 6 := by omega
          subst ed
          go_wp2
          go_ret
          exact ⟨rfl, HX.out.2⟩
end Go.Proofs.YthlmgpllapccfaaGreatDoor
/- THE DOCUMENT's ANSWER: a line's steps, each of which does nothing behind an error: plain, and the way in memory. -/
namespace Go.Proofs.YthlmgpllapccfaaGreatDoor
open Go.RowKit

/-- How far a line is read; what is wrong (0: nothing), and where. -/
structure WS where
  k : Nat
  e : Nat
  bad : Nat
/-- A name must come; ok: whether it may mean what it means. -/
def isN (t : Tok) : Bool := decide (69 ≤ t.c) && decide (t.c ≤ 94)
def nmS (f : Nat → Tok) (ok : Nat → Bool) (s : WS) : WS :=
  if s.e ≠ 0 then s else if isN (f s.k) = true then (if ok ((f s.k).c - 69) = true then ⟨s.k + 1, 0, 0⟩ else ⟨s.k, 6, (f s.k).at'⟩) else ⟨s.k, 4, (f s.k).at'⟩
def nmN (f : Nat → Tok) (s : WS) : Nat := if isN (f s.k) = true then (f s.k).c - 69 else 0
/-- A number must come. -/
def ctS (f : Nat → Tok) (s : WS) : WS := if s.e ≠ 0 then s else if (f s.k).c = 1 then ⟨s.k + 1, 0, 0⟩ else ⟨s.k, 4, (f s.k).at'⟩
/-- Nothing may come. -/
def enS (f : Nat → Tok) (s : WS) : WS := if s.e ≠ 0 then s else if (f s.k).c = 0 then s else ⟨s.k, 4, (f s.k).at'⟩
/-- The sign c must come. -/
def wtS (f : Nat → Tok) (c : Nat) (s : WS) : WS := if s.e ≠ 0 then s else if (f s.k).c = c then ⟨s.k + 1, 0, 0⟩ else ⟨s.k, 4, (f s.k).at'⟩

/-- The way in memory, at such a place. -/
def WyS (w : World) (b g n cap : Nat) (s : WS) (op : Int) : Prop :=
  (s.e = 0 ∧ Wy w b g n cap s.k 0 0 op ∧ s.k < n) ∨ (s.e ≠ 0 ∧ ∃ k', k' < n ∧ Wy w b g n cap k' s.e s.bad op)
/-- The tokens, one end behind the others. -/
structure TkS (w : World) (b g n N : Nat) (f : Nat → Tok) : Prop where
  tk : Tk w g n f
  le : n ≤ N + 1
  N : N ≤ 1000
  fin : ∀ j, j < n → (f j).c ≠ 0 → j + 1 < n
  v : ∀ j, (f j).v ≤ 99
  ne : b ≠ g
theorem TkS.fr {bs : List Nat} {w w' : World} {b g n N : Nat} {f : Nat → Tok} (h : TkS w b g n N f) (hf : Fr bs w w') (hn : g ∉ bs) : TkS w' b g n N f :=
  ⟨h.tk.fr hf hn, h.le, h.N, h.fin, h.v, h.ne⟩

theorem isN_iff (t : Tok) : isN t = true ↔ 69 ≤ t.c ∧ t.c ≤ 94 := by simp [isN]
theorem rk_3 {c : Nat} : rk c = 3 ↔ 69 ≤ c ∧ c ≤ 94 := by
  constructor
  · intro h
    unfold rk at h
    repeat' split at h
    all_goals first | omega | (rename_i q; have := sgn_big q; omega)
  · intro h
    unfold rk
    rw [if_neg (by omega), if_neg (by omega), if_neg (by omega), if_pos h]
theorem rk_1 {c : Nat} : rk c = 1 ↔ c = 1 := ⟨fun h => by by_cases q : c = 1; exact q; exact absurd h (rk_not1 q), fun h => rk_one h⟩
theorem rs_name {c : Nat} (h : 69 ≤ c ∧ c ≤ 94) : rs c = ⟨#[UInt8.ofNat (c - 4)]⟩ := by
  unfold rs
  rw [if_neg (by omega), if_neg (by omega), if_pos h]
theorem rk_61 {c : Nat} : rk c = 61 ↔ c = 65 := by
  constructor
  · intro h
    unfold rk at h
    repeat' split at h
    all_goals first | omega | (rename_i q; have := sgn_big q; omega)
  · intro h; subst h; rfl
theorem rk_44 {c : Nat} : rk c = 44 ↔ c = 48 := by
  constructor
  · intro h
    unfold rk at h
    repeat' split at h
    all_goals first | omega | (rename_i q; have := sgn_big q; omega)
  · intro h; subst h; rfl

/-- end. -/
theorem wendS (b g n cap N : Nat) (f : Nat → Tok) (s : WS) (op : Int) (w : World) (h : WyS w b g n cap s op) (ht : TkS w b g n N f) :
    Calls Tryz.prog 42 #[.pointer (some ⟨b, 0, none⟩)] w fun e w' => e = .returned (.tuple #[]) ∧ WyS w' b g n cap (enS f s) op ∧ Fr [b] w w' := by
  have hn : n ≤ 2000 := by have := ht.le; have := ht.N; omega
  unfold enS
  rcases h with ⟨h1, h2, h3⟩ | ⟨h1, k', h2, h3⟩
  · rw [if_neg (by omega)]
    by_cases hc : (f s.k).c = 0
    · rw [if_pos hc]
      refine (wend_ok b g n cap s.k f 0 0 op w h2 ht.tk h3 hn (rk_end.2 hc)).mono ?_
      rintro e w1 ⟨rfl, q1, q2⟩
      exact ⟨rfl, Or.inl ⟨h1, q1, h3⟩, q2⟩
    · rw [if_neg hc]
      refine (wend_first b g n cap s.k f 0 op w h2 ht.tk h3 hn (fun q => hc (rk_end.1 q))).mono ?_
      rintro e w1 ⟨rfl, q1, q2⟩
      exact ⟨rfl, Or.inr ⟨by simp, s.k, h3, q1⟩, q2⟩
  · rw [if_pos h1]
    refine (wend_later b g n cap k' f s.e s.bad op w h3 ht.tk h2 hn (by omega)).mono ?_
    rintro e w1 ⟨rfl, q1, q2⟩
    exact ⟨rfl, Or.inr ⟨h1, k', h2, q1⟩, q2⟩
end Go.Proofs.YthlmgpllapccfaaGreatDoor
/- THE DOCUMENT's ANSWER: the desk in memory; wants, counted, named. -/
namespace Go.Proofs.YthlmgpllapccfaaGreatDoor
open Go.RowKit

/-- What a name means. -/
inductive Mng where
  | non
  | sys (ps : List (List Nat))
  | set (b : Nat → Bool)
def Mng.kd : Mng → Nat
  | .non => 0
  | .sys _ => 1
  | .set _ => 2
def Mng.bit : Mng → Nat → Bool
  | .set b, j => b j
  | _, _ => false
/-- The slice of a system; M: the blocks that may be written. -/
def SV (w : World) (M : List Nat) : Mng → Value → Prop
  | .sys ps, v => ∃ g cap, v = .slice (some ⟨g, 0, none⟩) ps.length cap ∧ Sy w g ps ∧ Goods ps ∧ ps ≠ [] ∧ ps.length ≤ 4 ∧ g ∉ M
  | _, v => v = .slice none 0 0
theorem SV.fr {bs : List Nat} {w w' : World} {M : List Nat} {m : Mng} {v : Value} (h : SV w M m v) (hf : Fr bs w w') (hs : ∀ x ∈ bs, x ∈ M ∨ w.heap.size ≤ x) : SV w' M m v := by
  cases m with
  | sys ps =>
    obtain ⟨g, cap, h1, h2, h3, h4, h5, h6⟩ := h
    exact ⟨g, cap, h1, h2.fr hf (fun hx => by rcases hs g hx with q | q; exact h6 q; have := h2.1; omega), h3, h4, h5, h6⟩
  | non => exact h
  | set b => exact h
theorem SV.more {w : World} {M : List Nat} {m : Mng} {v : Value} (h : SV w M m v) {x : Nat} (hx : w.heap.size ≤ x) : SV w (x :: M) m v := by
  cases m with
  | sys ps =>
    obtain ⟨g, cap, h1, h2, h3, h4, h5, h6⟩ := h
    exact ⟨g, cap, h1, h2, h3, h4, h5, fun q => by
      rw [List.mem_cons] at q
      rcases q with q | q
      · have := h2.1; omega
      · exact h6 q⟩
  | non => exact h
  | set b => exact h
/-- A desk in memory. -/
structure Dk (w : World) (M : List Nat) (b : Nat) (st : Nat → Mng) : Prop where
  cs : ∃ cs : Array Value, Blk w b cs 84 ∧ cs.size = 234 ∧ ∀ n, n < 26 → ∃ v, SV w M (st n) v ∧ cs[n * 9]? = some (.int .i64 ((st n).kd : Nat)) ∧ cs[n * 9 + 1]? = some v ∧ ∀ j, j < 7 → cs[n * 9 + 2 + j]? = some (.bool ((st n).bit j))
  mem : b ∈ M
theorem Dk.fr {bs : List Nat} {w w' : World} {M : List Nat} {b : Nat} {st : Nat → Mng} (h : Dk w M b st) (hf : Fr bs w w') (hb : b ∉ bs) (hs : ∀ x ∈ bs, x ∈ M ∨ w.heap.size ≤ x) : Dk w' M b st := by
  obtain ⟨⟨cs, h1, h2, h3⟩, hm⟩ := h
  refine ⟨⟨cs, h1.fr hf hb, h2, fun n hn => ?_⟩, hm⟩
  obtain ⟨v, k1, k2⟩ := h3 n hn
  exact ⟨v, k1.fr hf hs, k2⟩
theorem Dk.more {w : World} {M : List Nat} {b : Nat} {st : Nat → Mng} (h : Dk w M b st) {x : Nat} (hx : w.heap.size ≤ x) : Dk w (x :: M) b st := by
  obtain ⟨⟨cs, h1, h2, h3⟩, hm⟩ := h
  refine ⟨⟨cs, h1, h2, fun n hn => ?_⟩, by simp [hm]⟩
  obtain ⟨v, k1, k2⟩ := h3 n hn
  exact ⟨v, k1.more hx, k2⟩
theorem Dk.lt {w : World} {M : List Nat} {b : Nat} {st : Nat → Mng} (h : Dk w M b st) : b < w.heap.size := by
  obtain ⟨⟨cs, h1, _⟩, _⟩ := h; exact h1.lt
theorem Dk.kind {w : World} {M : List Nat} {b : Nat} {st : Nat → Mng} (h : Dk w M b st) {n : Nat} (hn : n < 26) : w.cell? ⟨b, n * 9, none⟩ = some (.int .i64 ((st n).kd : Nat)) := by
  obtain ⟨⟨cs, h1, h2, h3⟩, _⟩ := h
  obtain ⟨v, k1, k2, k3⟩ := h3 n hn
  rw [h1.cell]; exact k2

set_option maxRecDepth 100000 in
set_option maxHeartbeats 1000000 in
theorem countedS (b g n cap N : Nat) (f : Nat → Tok) (s : WS) (op : Int) (w : World) (h : WyS w b g n cap s op) (ht : TkS w b g n N f) :
    Calls Tryz.prog 56 #[.pointer (some ⟨b, 0, none⟩)] w fun e w' => (∃ a : Nat, a < 7 ∧ e = .returned (.int .i64 a) ∧ (s.e = 0 → (f s.k).c = 1 → a = (f s.k).v % 7)) ∧ WyS w' b g n cap (ctS f s) op ∧ Fr [b] w w' := by
  have hn : n ≤ 2000 := by have := ht.le; have := ht.N; omega
  have HT := hidV ht
  unfold ctS
  rcases h with ⟨h1, h2, h3⟩ | ⟨h1, k', h2, h3⟩
  · rw [if_neg (by omega)]
    have HF := hidV (ht.fin s.k h3)
    obtain ⟨c0, c1, c2, c3, c4⟩ := h2.cells
    have HW := hidV h2
    clear ht h2
    by_cases hc : (f s.k).c = 1
    · rw [if_pos hc]
      have hrk := rk_1.2 hc
      have HN1 : Hid (s.k + 1 < n) := HF.out (by omega)
      have hvv := HT.out.v s.k
      have HS1 := hidV h1
      have HC := hidV hc
      go_enter Tryz.func56, Tryz.ntmps56
      go_wp2_with fail
      refine (next_any b g n cap s.k f 0 0 op _ HW.out HT.out.tk h3 hn).mono ?_
      rintro e w1 ⟨rfl, hb1⟩
      rw [hrk]
      have hw1 : Wy w1 b g n cap s.k 0 0 op := Blk.fr HW.out (Fr.of_below (bs := []) hb1) (by simp)
      have hbl : b < w1.heap.size := hw1.lt
      obtain ⟨d0, d1, d2, d3, d4⟩ := hw1.cells
      obtain ⟨f0, f1, f2, f3, f4⟩ := hw1.free
      have HW1 := hidV hw1
      have HB1 := hidV hb1
      clear hw1 hb1 hrk c0 c1 c2 c3 c4 hc h1
      have nbd : ¬ b = w1.heap.size := by omega
      have hk1 : (s.k : Int) < 2000 := by omega
      generalize (f s.k).at' = AT at *
      generalize rs (f s.k).c = RS at *
      generalize hVV : (f s.k).v = V at *
      have HVV := hidV hVV
      clear hVV
      go_wp2
      go_ret
      refine ⟨⟨V % 7, by omega, by go_num, fun _ _ => by rw [HVV.out]⟩, Or.inl ⟨rfl, ?_, HN1.out⟩, ?_⟩
      · unfold Wy
        have e : ((s.k + 1 : Nat) : Int) = (s.k : Int) + 1 := by omega
        dsimp only
        rw [e]
        exact Blk.alloc (Blk.set HW1.out 1 _) _
      · exact Fr.alloc (Fr.setCell (Fr.of_below HB1.out) ⟨b, 1, none⟩ _ (Or.inl (List.mem_singleton.2 rfl))) _
    · rw [if_neg hc]
      have q1 : (rk (f s.k).c != 1) = true := by rw [bne_iff_ne]; exact fun q => hc (rk_1.1 q)
      have HC := hidV hc
      clear hc
      go_enter Tryz.func56, Tryz.ntmps56
      go_wp2_with fail
      refine (next_any b g n cap s.k f 0 0 op _ HW.out HT.out.tk h3 hn).mono ?_
      rintro e w1 ⟨rfl, hb1⟩
      have hw1 : Wy w1 b g n cap s.k 0 0 op := Blk.fr HW.out (Fr.of_below (bs := []) hb1) (by simp)
      have HW1 := hidV hw1
      have HB1 := hidV hb1
      clear hw1 hb1 c0 c1 c2 c3 c4
      go_wp2_with fail
      refine (wrong_first b g n cap s.k _ _ 0 op _ (by exact Blk.alloc HW1.out _)).mono ?_
      rintro e w5 ⟨rfl, h5, hf5⟩
      go_wp2
      go_ret
      exact ⟨⟨0, by omega, rfl, fun _ q => absurd q HC.out⟩, Or.inr ⟨by simp, s.k, h3, h5⟩, ((Fr.of_below (bs := [b]) HB1.out).alloc _).trans hf5 (by simp)⟩
  · rw [if_pos h1]
    obtain ⟨c0, c1, c2, c3, c4⟩ := h3.cells
    have HW := hidV h3
    have q : ((s.e : Int) != 0) = true := by rw [bne_iff_ne]; omega
    have HE := hidV h1
    clear h3 h1
    go_enter Tryz.func56, Tryz.ntmps56
    go_wp2
    go_ret
    exact ⟨⟨0, by omega, rfl, fun q => absurd q HE.out⟩, Or.inr ⟨HE.out, k', h2, HW.out⟩, Fr.refl _ _⟩

set_option maxRecDepth 100000 in
set_option maxHeartbeats 1000000 in
theorem wantsS (b g n cap N c : Nat) (C : Int) (f : Nat → Tok) (s : WS) (op : Int) (w : World) (hC0 : 0 ≤ C) (hC1 : C ≤ 255) (hC : ∀ d, rk d = C ↔ d = c) (hc0 : c ≠ 0) (h : WyS w b g n cap s op) (ht : TkS w b g n N f) :
    Calls Tryz.prog 39 #[.pointer (some ⟨b, 0, none⟩), .int .u8 C] w fun e w' => e = .returned (.tuple #[]) ∧ WyS w' b g n cap (wtS f c s) op ∧ Fr [b] w w' := by
  have hn : n ≤ 2000 := by have := ht.le; have := ht.N; omega
  have HT := hidV ht
  have HBG := hidV ht.ne
  unfold wtS
  rcases h with ⟨h1, h2, h3⟩ | ⟨h1, k', h2, h3⟩
  · rw [if_neg (by omega)]
    have HF := hidV (ht.fin s.k h3)
    have HW := hidV h2
    clear ht h2
    by_cases hc : (f s.k).c = c
    · rw [if_pos hc]
      have HN1 : Hid (s.k + 1 < n) := HF.out (by omega)
      have hrk := (hC _).2 hc
      go_enter Tryz.func39, Tryz.ntmps39
      go_wp2_with fail
      refine (passes_yes b g n cap s.k f C 0 op _ HW.out HT.out.tk h3 hn hC0 hC1 hrk).mono ?_
      rintro e w1 ⟨rfl, q1, q2⟩
      go_wp2
      go_end0
      exact ⟨rfl, Or.inl ⟨rfl, q1, HN1.out⟩, q2⟩
    · rw [if_neg hc]
      have hrk : rk (f s.k).c ≠ C := fun q => hc ((hC _).1 q)
      go_enter Tryz.func39, Tryz.ntmps39
      go_wp2_with fail
      refine (passes_no b g n cap s.k f C 0 op _ HW.out HT.out.tk h3 hn hC0 hC1 hrk).mono ?_
      rintro e w1 ⟨rfl, q1, q2⟩
      have ht1 := HT.out.tk.fr q2 (by simp; exact fun q => HBG.out q.symm)
      obtain ⟨c0, c1, c2, c3, c4⟩ := q1.cells
      obtain ⟨d0, d1, d2, d3⟩ := ht1.cells h3
      have i0 : (0 : Int) ≤ (s.k : Int) := by omega
      have i1 : (s.k : Int) < (n : Int) := by omega
      have HQ1 := hidV q1
      have HQ2 := hidV q2
      clear q1 q2 ht1 hrk
      go_wp2
      refine region_quiet_tail 12 (by kernel_rfl) (by kernel_rfl) ?_
      simp only [List.take_succ_cons, List.take_zero, List.drop_succ_cons, List.drop_zero]
      repeat (first | go_big_quiet_step ((fail)) | quiet_step ((fail)))
      refine wpQuiet_nil ?_
      rintro _ ⟨nr, rfl⟩
      go_wp2_with fail
      refine (wrong_first b g n cap s.k _ _ 0 op _ (by exact HQ1.out)).mono ?_
      rintro e w5 ⟨rfl, h5, hf5⟩
      go_wp2
      go_end0
      exact ⟨rfl, Or.inr ⟨by simp, s.k, h3, h5⟩, (HQ2.out.drewN _).trans hf5 (by simp)⟩
  · rw [if_pos h1]
    have HW := hidV h3
    have hxe : (s.e : Int) ≠ 0 := by omega
    clear h3 ht
    go_enter Tryz.func39, Tryz.ntmps39
    go_wp2_with fail
    refine (passes_later b g n cap k' C s.e s.bad op _ HW.out hxe).mono ?_
    rintro e w1 ⟨rfl, q1, q2⟩
    have ht1 := HT.out.tk.fr q2 (by simp; exact fun q => HBG.out q.symm)
    obtain ⟨c0, c1, c2, c3, c4⟩ := q1.cells
    obtain ⟨d0, d1, d2, d3⟩ := ht1.cells h2
    have i0 : (0 : Int) ≤ (k' : Int) := by omega
    have i1 : (k' : Int) < (n : Int) := by omega
    have HQ1 := hidV q1
    have HQ2 := hidV q2
    clear q1 q2 ht1
    go_wp2
    refine region_quiet_tail 12 (by kernel_rfl) (by kernel_rfl) ?_
    simp only [List.take_succ_cons, List.take_zero, List.drop_succ_cons, List.drop_zero]
    repeat (first | go_big_quiet_step ((fail)) | quiet_step ((fail)))
    refine wpQuiet_nil ?_
    rintro _ ⟨nr, rfl⟩
    go_wp2_with fail
    refine (wrong_later b g n cap k' _ _ s.e s.bad op _ (by exact HQ1.out) hxe).mono ?_
    rintro e w5 ⟨rfl, rfl⟩
    go_wp2
    go_end0
    exact ⟨rfl, Or.inr ⟨h1, k', h2, by exact HQ1.out⟩, HQ2.out.drewN _⟩
end Go.Proofs.YthlmgpllapccfaaGreatDoor
