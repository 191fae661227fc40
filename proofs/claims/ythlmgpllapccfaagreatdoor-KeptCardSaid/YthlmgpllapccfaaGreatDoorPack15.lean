import Derived.Test.YthlmgpllapccfaaGreatDoorPack14
/- THE STATEMENTS' own plain, at canonical texts. -/
namespace Go.Proofs.YthlmgpllapccfaaGreatDoor
open Go.RowKit

theorem At.digit {s : ByteArray} {i c : Nat} {l : List UInt8} (hc : c < 7) (h : At s i (dgt c :: l)) : ∃ hi : i < s.size, ((s[i]'hi).toNat : Int) = 48 + (c : Int) ∧ At s (i + 1) l := by
  obtain ⟨h1, h2, h3⟩ := h.cons
  refine ⟨h2, ?_, h3⟩
  rw [byt_cast h2, h1]
  exact dgt_int (by omega)
theorem At.byte {s : ByteArray} {i : Nat} {b : UInt8} {l : List UInt8} (h : At s i (b :: l)) : ∃ hi : i < s.size, ((s[i]'hi).toNat : Int) = (b.toNat : Int) ∧ At s (i + 1) l := by
  obtain ⟨h1, h2, h3⟩ := h.cons
  exact ⟨h2, by rw [byt_cast h2, h1], h3⟩
theorem ktl_pos {t : List (Nat × Nat)} (h : t ≠ []) : 0 < (ktl t).length := List.length_pos_iff.2 (ktl_ne h)
theorem str_some {s : ByteArray} {l : List UInt8} (hs : At s 0 l) (hl : l ≠ []) : s.toList.isEmpty = false := by
  have h1 := hs.1
  have h2 : 0 < l.length := List.length_pos_iff.2 hl
  rw [ByteArray.toList_eq]
  have h3 : s.data.toList.length = s.size := rfl
  cases h4 : s.data.toList with
  | nil => rw [h4] at h3; simp at h3; omega
  | cons _ _ => rfl
set_option maxRecDepth 100000 in
theorem results_pl {fn : Func} {p u : Tmp} (h : fn.results = #[.cell p 30, .tmp u]) (tmps : Array Value) (w : World) (g : Nat) (L : List Nat)
    (hp : tmps.getD p undef = .pointer (some ⟨g, 0, none⟩)) (hg : Blk w g (pv L) 30) (hL : L.length = 5) :
    (results fn tmps).run Tryz.prog w = .ok (.tuple #[.agg (pv L), tmps.getD u undef]) w := by
  rw [results_cell_tmp h, hp]
  simp [asAddr, run_loadVar_row (P := Tryz.prog) w g 30 30 (pv L) (0, 0) _ hg Tryz.underlying30 rfl (size_line hL)]

set_option maxRecDepth 100000 in
set_option maxHeartbeats 8000000 in
theorem kplain_any (s : ByteArray) (l : List (Nat × Nat)) (w : World) (hl : l ≠ []) (hs : At s 0 (ktl l)) (hok : Okl (fun _ => 0) l) (hsz : s.size ≤ 1000) :
    Calls Tryz.prog 18 #[.string s] w fun e w' => e = .returned (.tuple #[.agg (pv (lst (putl (fun _ => 0) l))), .bool true]) ∧ Below w.heap.size w w' := by
  obtain ⟨L, HL, hlen⟩ : ∃ L, Hid (lst (putl (fun _ => 0) l) = L) ∧ L.length = 5 := ⟨_, rfl, rfl⟩
  rw [HL.out]
  have hne := str_some hs (ktl_ne hl)
  go_enter Tryz.func18, Tryz.ntmps18
  go_wp2
  refine wp_forget (fun W => Blk W w.heap.size (pv [0, 0, 0, 0, 0]) 30 ∧ Blk W (w.heap.size + 1) (pv (lst fun _ => 0)) 30 ∧ Below w.heap.size w W) ⟨Blk.alloc (Blk.new w _ _) _, Blk.newAt _ _ _ (by simp), by go_grown⟩ ?_
  rintro W ⟨b1, b2, hbel⟩
  have HH := hidV (And.intro b1 (And.intro b2 hbel))
  clear b1 b2 hbel
  go_loopg [5] l.length (fun gm v5 wr => ∃ (i : Nat) (t : List (Nat × Nat)) (f : Nat → Nat), gm = t.length ∧ v5 = .int .i64 i ∧ Hid (At s i (ktl t) ∧ Okl f t ∧ lst (putl f t) = L) ∧ Hid (Blk wr w.heap.size (pv [0, 0, 0, 0, 0]) 30 ∧ Blk wr (w.heap.size + 1) (pv (lst f)) 30 ∧ Below w.heap.size w wr))
  case atStart => exact ⟨0, l, _, rfl, rfl, ⟨hs, hok, HL.out⟩, HH⟩
  case round =>
    obtain ⟨i, t, f, hgm, rfl, HT, HD⟩ := hrel
    clear HH W HL hl hs hok
    match t with
    | [] =>
      have hi := HT.out.1.nil
      have hF : lst f = L := HT.out.2.2
      have hsz5 := size_line hlen
      have HB : Hid (Blk wr (w.heap.size + 1) (pv L) 30) := by rw [← hF]; exact HD.out.2.1
      have hx1 : ¬ ((i : Int) < (s.size : Int)) := by omega
      clear hF HT
      go_wp2_with (first | (refine wpList_load_row (by rfl) 30 _ (by rfl) (w.heap.size + 1) (by rfl) 30 (pv L) (0, 0) _ (by exact HB.out) Tryz.underlying30 (by rfl) hsz5 ?_) | (refine wpList_store_mid (by rfl) 30 _ _ (by rfl) w.heap.size 0 (pv L) (by rfl) (by rfl) (by exact Blk.there HD.out.1 (by rw [pv_size, pv_size, hlen]; exact Nat.le_refl _)) hsz5 (pv_one _) ?_))
      refine bodyPost_ret (results_pl Tryz.results18 _ _ w.heap.size L (by rfl) (Blk.setAll (by exact HD.out.1) _ (by rw [pv_size, pv_size, hlen]; rfl)) hlen) rfl ⟨rfl, ?_⟩
      exact Below.setCells HD.out.2.2 _ _ _ (Nat.le_refl _)
    | (c, x) :: t =>
      obtain ⟨hc7, hx5, hf0, hok2⟩ := HT.out.2.1
      have HP : Hid (lst (putl (updp f x c) t) = L) := HT.out.2.2
      have HO := hidV hok2
      have hat := HT.out.1
      have HU := hidV (updp_set f c hx5)
      have hcell := pv_get (p := lst f) (j := x) (by rw [lst_len]; omega)
      rw [lst_get f hx5, hf0] at hcell
      have hpc : wr.cell? ⟨w.heap.size + 1, x, none⟩ = some (.int .i64 (0 : Nat)) := by rw [HD.out.2.1.cell]; exact hcell
      have hpf : wr.frozen? ⟨w.heap.size + 1, x, none⟩ = false := HD.out.2.1.frozen _
      clear hcell hok2 hf0 HT
      rw [ktl] at hat
      by_cases hx0 : x = 0
      · subst hx0
        have e1 : tmx c 0 0 = [dgt c] := by simp [tmx, pws, ptx]
        rw [e1] at hat
        clear e1
        simp only [List.cons_append, List.nil_append] at hat
        obtain ⟨hi1, hb1, hat1⟩ := hat.digit hc7
        clear hat
        have hat := hat1
        clear hat1
        by_cases ht : t = []
        · subst ht
          rw [if_pos rfl] at hat
          have hn := hat.nil
          have hy1 : ¬ ((i : Int) + 1 < (s.size : Int)) := by omega
          go_wp2
          go_roundg 0
          case measure => simp only [List.length_cons] at hgm; omega
          case rel =>
            refine ⟨i + 1, [], updp f 0 c, rfl, by go_num, ⟨hat, HO.out, HP.out⟩, ⟨?_, ?_, ?_⟩⟩
            · exact Blk.setOther (by exact HD.out.1) _ _ (by show ¬ w.heap.size = w.heap.size + 1; omega)
            · rw [← HU.out]
              exact Blk.putN (by exact HD.out.2.1) _ _ _ (by omega)
            · exact Below.setCell HD.out.2.2 (by show w.heap.size ≤ w.heap.size + 1; omega) _
        · rw [if_neg ht] at hat
          obtain ⟨hi9, hb9, hat1⟩ := hat.byte
          clear hat
          have hat := hat1
          clear hat1
          have hb9' : ((s[i + 1]'hi9).toNat : Int) = 43 := hb9
          clear hb9
          have hne9 := ktl_pos ht
          have hs9 := hat.1
          have hy2 : ¬ ((i : Int) + 1 + 1 = (s.size : Int)) := by omega
          clear hne9 hs9
          go_wp2
          go_roundg t.length
          case measure => simp only [List.length_cons] at hgm; omega
          case rel =>
            refine ⟨i + 1 + 1, t, updp f 0 c, rfl, by go_num, ⟨hat, HO.out, HP.out⟩, ⟨?_, ?_, ?_⟩⟩
            · exact Blk.setOther (by exact HD.out.1) _ _ (by show ¬ w.heap.size = w.heap.size + 1; omega)
            · rw [← HU.out]
              exact Blk.putN (by exact HD.out.2.1) _ _ _ (by omega)
            · exact Below.setCell HD.out.2.2 (by show w.heap.size ≤ w.heap.size + 1; omega) _
      · by_cases hc1 : c = 1
        · subst hc1
          by_cases hx1 : x = 1
          · subst hx1
            have e1 : tmx 1 0 1 = [120] := by simp [tmx, pws, ptx]
            rw [e1] at hat
            clear e1
            simp only [List.cons_append, List.nil_append] at hat
            obtain ⟨hi2, hb2, hat1⟩ := hat.byte
            clear hat
            have hat := hat1
            clear hat1
            have hb2' : ((s[i]'hi2).toNat : Int) = 120 := hb2
            clear hb2
            by_cases ht : t = []
            · subst ht
              rw [if_pos rfl] at hat
              have hn := hat.nil
              have hy1 : ¬ ((i : Int) + 1 < (s.size : Int)) := by omega
              go_wp2
              go_roundg 0
              case measure => simp only [List.length_cons] at hgm; omega
              case rel =>
                refine ⟨i + 1, [], updp f 1 1, rfl, by go_num, ⟨hat, HO.out, HP.out⟩, ⟨?_, ?_, ?_⟩⟩
                · exact Blk.setOther (by exact HD.out.1) _ _ (by show ¬ w.heap.size = w.heap.size + 1; omega)
                · rw [← HU.out]
                  exact Blk.putN (by exact HD.out.2.1) _ _ _ (by omega)
                · exact Below.setCell HD.out.2.2 (by show w.heap.size ≤ w.heap.size + 1; omega) _
            · rw [if_neg ht] at hat
              obtain ⟨hi9, hb9, hat1⟩ := hat.byte
              clear hat
              have hat := hat1
              clear hat1
              have hb9' : ((s[i + 1]'hi9).toNat : Int) = 43 := hb9
              clear hb9
              have hne9 := ktl_pos ht
              have hs9 := hat.1
              have hy2 : ¬ ((i : Int) + 1 + 1 = (s.size : Int)) := by omega
              clear hne9 hs9
              go_wp2
              go_roundg t.length
              case measure => simp only [List.length_cons] at hgm; omega
              case rel =>
                refine ⟨i + 1 + 1, t, updp f 1 1, rfl, by go_num, ⟨hat, HO.out, HP.out⟩, ⟨?_, ?_, ?_⟩⟩
                · exact Blk.setOther (by exact HD.out.1) _ _ (by show ¬ w.heap.size = w.heap.size + 1; omega)
                · rw [← HU.out]
                  exact Blk.putN (by exact HD.out.2.1) _ _ _ (by omega)
                · exact Below.setCell HD.out.2.2 (by show w.heap.size ≤ w.heap.size + 1; omega) _
          · have e1 : tmx 1 0 x = [120, dgt x] := by simp [tmx, pws, ptx, hx0, hx1]
            rw [e1] at hat
            clear e1
            simp only [List.cons_append, List.nil_append] at hat
            obtain ⟨hi2, hb2, hat1⟩ := hat.byte
            clear hat
            have hat := hat1
            clear hat1
            have hb2' : ((s[i]'hi2).toNat : Int) = 120 := hb2
            clear hb2
            obtain ⟨hi3, hb3, hat1⟩ := hat.digit (by omega : x < 7)
            clear hat
            have hat := hat1
            clear hat1
            have hxx : 48 + (x : Int) - 48 = (x : Int) := by omega
            have hxl : (2 : Int) ≤ (x : Int) := by omega
            by_cases ht : t = []
            · subst ht
              rw [if_pos rfl] at hat
              have hn := hat.nil
              have hy1 : ¬ ((i : Int) + 1 + 1 < (s.size : Int)) := by omega
              go_wp2
              go_roundg 0
              case measure => simp only [List.length_cons] at hgm; omega
              case rel =>
                refine ⟨i + 1 + 1, [], updp f x 1, rfl, by go_num, ⟨hat, HO.out, HP.out⟩, ⟨?_, ?_, ?_⟩⟩
                · exact Blk.setOther (by exact HD.out.1) _ _ (by show ¬ w.heap.size = w.heap.size + 1; omega)
                · rw [← HU.out]
                  exact Blk.putN (by exact HD.out.2.1) _ _ _ (by omega)
                · exact Below.setCell HD.out.2.2 (by show w.heap.size ≤ w.heap.size + 1; omega) _
            · rw [if_neg ht] at hat
              obtain ⟨hi9, hb9, hat1⟩ := hat.byte
              clear hat
              have hat := hat1
              clear hat1
              have hb9' : ((s[i + 1 + 1]'hi9).toNat : Int) = 43 := hb9
              clear hb9
              have hne9 := ktl_pos ht
              have hs9 := hat.1
              have hy2 : ¬ ((i : Int) + 1 + 1 + 1 = (s.size : Int)) := by omega
              clear hne9 hs9
              go_wp2
              go_roundg t.length
              case measure => simp only [List.length_cons] at hgm; omega
              case rel =>
                refine ⟨i + 1 + 1 + 1, t, updp f x 1, rfl, by go_num, ⟨hat, HO.out, HP.out⟩, ⟨?_, ?_, ?_⟩⟩
                · exact Blk.setOther (by exact HD.out.1) _ _ (by show ¬ w.heap.size = w.heap.size + 1; omega)
                · rw [← HU.out]
                  exact Blk.putN (by exact HD.out.2.1) _ _ _ (by omega)
                · exact Below.setCell HD.out.2.2 (by show w.heap.size ≤ w.heap.size + 1; omega) _
        · by_cases hx1 : x = 1
          · subst hx1
            have e1 : tmx c 0 1 = [dgt c, 120] := by simp [tmx, pws, ptx, hc1]
            rw [e1] at hat
            clear e1
            simp only [List.cons_append, List.nil_append] at hat
            obtain ⟨hi1, hb1, hat1⟩ := hat.digit hc7
            clear hat
            have hat := hat1
            clear hat1
            obtain ⟨hi2, hb2, hat1⟩ := hat.byte
            clear hat
            have hat := hat1
            clear hat1
            have hb2' : ((s[i + 1]'hi2).toNat : Int) = 120 := hb2
            clear hb2
            by_cases ht : t = []
            · subst ht
              rw [if_pos rfl] at hat
              have hn := hat.nil
              have hy1 : ¬ ((i : Int) + 1 + 1 < (s.size : Int)) := by omega
              go_wp2
              go_roundg 0
              case measure => simp only [List.length_cons] at hgm; omega
              case rel =>
                refine ⟨i + 1 + 1, [], updp f 1 c, rfl, by go_num, ⟨hat, HO.out, HP.out⟩, ⟨?_, ?_, ?_⟩⟩
                · exact Blk.setOther (by exact HD.out.1) _ _ (by show ¬ w.heap.size = w.heap.size + 1; omega)
                · rw [← HU.out]
                  exact Blk.putN (by exact HD.out.2.1) _ _ _ (by omega)
                · exact Below.setCell HD.out.2.2 (by show w.heap.size ≤ w.heap.size + 1; omega) _
            · rw [if_neg ht] at hat
              obtain ⟨hi9, hb9, hat1⟩ := hat.byte
              clear hat
              have hat := hat1
              clear hat1
              have hb9' : ((s[i + 1 + 1]'hi9).toNat : Int) = 43 := hb9
              clear hb9
              have hne9 := ktl_pos ht
              have hs9 := hat.1
              have hy2 : ¬ ((i : Int) + 1 + 1 + 1 = (s.size : Int)) := by omega
              clear hne9 hs9
              go_wp2
              go_roundg t.length
              case measure => simp only [List.length_cons] at hgm; omega
              case rel =>
                refine ⟨i + 1 + 1 + 1, t, updp f 1 c, rfl, by go_num, ⟨hat, HO.out, HP.out⟩, ⟨?_, ?_, ?_⟩⟩
                · exact Blk.setOther (by exact HD.out.1) _ _ (by show ¬ w.heap.size = w.heap.size + 1; omega)
                · rw [← HU.out]
                  exact Blk.putN (by exact HD.out.2.1) _ _ _ (by omega)
                · exact Below.setCell HD.out.2.2 (by show w.heap.size ≤ w.heap.size + 1; omega) _
          · have e1 : tmx c 0 x = [dgt c, 120, dgt x] := by simp [tmx, pws, ptx, hc1, hx0, hx1]
            rw [e1] at hat
            clear e1
            simp only [List.cons_append, List.nil_append] at hat
            obtain ⟨hi1, hb1, hat1⟩ := hat.digit hc7
            clear hat
            have hat := hat1
            clear hat1
            obtain ⟨hi2, hb2, hat1⟩ := hat.byte
            clear hat
            have hat := hat1
            clear hat1
            have hb2' : ((s[i + 1]'hi2).toNat : Int) = 120 := hb2
            clear hb2
            obtain ⟨hi3, hb3, hat1⟩ := hat.digit (by omega : x < 7)
            clear hat
            have hat := hat1
            clear hat1
            have hxx : 48 + (x : Int) - 48 = (x : Int) := by omega
            have hxl : (2 : Int) ≤ (x : Int) := by omega
            by_cases ht : t = []
            · subst ht
              rw [if_pos rfl] at hat
              have hn := hat.nil
              have hy1 : ¬ ((i : Int) + 1 + 1 + 1 < (s.size : Int)) := by omega
              go_wp2
              go_roundg 0
              case measure => simp only [List.length_cons] at hgm; omega
              case rel =>
                refine ⟨i + 1 + 1 + 1, [], updp f x c, rfl, by go_num, ⟨hat, HO.out, HP.out⟩, ⟨?_, ?_, ?_⟩⟩
                · exact Blk.setOther (by exact HD.out.1) _ _ (by show ¬ w.heap.size = w.heap.size + 1; omega)
                · rw [← HU.out]
                  exact Blk.putN (by exact HD.out.2.1) _ _ _ (by omega)
                · exact Below.setCell HD.out.2.2 (by show w.heap.size ≤ w.heap.size + 1; omega) _
            · rw [if_neg ht] at hat
              obtain ⟨hi9, hb9, hat1⟩ := hat.byte
              clear hat
              have hat := hat1
              clear hat1
              have hb9' : ((s[i + 1 + 1 + 1]'hi9).toNat : Int) = 43 := hb9
              clear hb9
              have hne9 := ktl_pos ht
              have hs9 := hat.1
              have hy2 : ¬ ((i : Int) + 1 + 1 + 1 + 1 = (s.size : Int)) := by omega
              clear hne9 hs9
              go_wp2
              go_roundg t.length
              case measure => simp only [List.length_cons] at hgm; omega
              case rel =>
                refine ⟨i + 1 + 1 + 1 + 1, t, updp f x c, rfl, by go_num, ⟨hat, HO.out, HP.out⟩, ⟨?_, ?_, ?_⟩⟩
                · exact Blk.setOther (by exact HD.out.1) _ _ (by show ¬ w.heap.size = w.heap.size + 1; omega)
                · rw [← HU.out]
                  exact Blk.putN (by exact HD.out.2.1) _ _ _ (by omega)
                · exact Below.setCell HD.out.2.2 (by show w.heap.size ≤ w.heap.size + 1; omega) _
end Go.Proofs.YthlmgpllapccfaaGreatDoor
/- COMMON: what holds of the greatest common divisor of two products. -/
namespace Go.Proofs.YthlmgpllapccfaaGreatDoor
open Go.RowKit

theorem tim_vec (p q : Nat → Nat) : Vec (tim p q) := tmr_vec p q 5 0
theorem tim_dvd {d p : Nat → Nat} {e : Nat} (hd : Mon d e) (he : e ≤ 2) (hp : ∀ n, 3 ≤ n → p n = 0) : Dvd (iv d) (iv (tim d p)) := by
  refine ⟨iv p, 3, fun k hk => by unfold iv; rw [hp k hk]; rfl, fun n => ?_⟩
  have c : ∀ a b, (iv p a) * (iv d b) = ((d b * p a : Nat) : Int) := fun a b => by unfold iv; rw [Int.natCast_mul, Int.mul_comm]
  by_cases hn : 5 ≤ n
  · have h1 : cnv (iv p) (iv d) n = 0 := by
      unfold cnv
      refine sg_zero _ fun k hk => ?_
      rw [c]
      by_cases h3 : 3 ≤ k
      · rw [hp k h3]; simp
      · rw [hd.above (n - k) (by omega)]; simp
    rw [h1]
    unfold iv
    rw [((tim_vec d p) n).2 hn]
    rfl
  · unfold cnv iv tim tmr
    rw [if_neg hn]
    have c' : ∀ a b, ((p a : Nat) : Int) * ((d b : Nat) : Int) = ((d b * p a : Nat) : Int) := c
    match n, hn with
    | 0, _ => simp only [sg, c', List.range, List.range.loop, List.map, List.sum_cons, List.sum_nil]; simp
    | 1, _ => simp only [sg, c', List.range, List.range.loop, List.map, List.sum_cons, List.sum_nil]; simp; omega
    | 2, _ => simp only [sg, c', List.range, List.range.loop, List.map, List.sum_cons, List.sum_nil]; simp; omega
    | 3, _ => simp only [sg, c', List.range, List.range.loop, List.map, List.sum_cons, List.sum_nil]; simp; omega
    | 4, _ => simp only [sg, c', List.range, List.range.loop, List.map, List.sum_cons, List.sum_nil]; simp; omega
    | n + 5, hn => exact absurd (by omega) hn

/-- Of two products with the factor d: what their greatest common divisor is. -/
theorem common_law {d p q : Nat → Nat} {e : Nat} (hd : Mon d e) (he : e ≤ 2) (hp : ∀ n, 3 ≤ n → p n = 0) (hq : ∀ n, 3 ≤ n → q n = 0) :
    let g := gall [tim d p, tim d q]
    Vec g ∧ (dg (tim d p) = 0 ∧ dg (tim d q) = 0 → g = zv) ∧
    (¬ (dg (tim d p) = 0 ∧ dg (tim d q) = 0) → dg g ≠ 0 ∧ Mon g (dg g - 1) ∧ dg (dv g (dg g - 1) (tim d p) (5 - (dg g - 1))) = 0 ∧ dg (dv g (dg g - 1) (tim d q) (5 - (dg g - 1))) = 0 ∧ dg (dv d e g (5 - e)) = 0) := by
  intro g
  have hv : ∀ l ∈ [tim d p, tim d q], Vec l := by
    intro l hl
    simp only [List.mem_cons, List.not_mem_nil, or_false] at hl
    rcases hl with rfl | rfl
    · exact tim_vec d p
    · exact tim_vec d q
  obtain ⟨h1, h2, h3⟩ := gall_any _ hv
  refine ⟨h1, fun h => gall_zero hv ?_, fun h => ?_⟩
  · intro l hl
    simp only [List.mem_cons, List.not_mem_nil, or_false] at hl
    rcases hl with rfl | rfl
    · exact h.1
    · exact h.2
  · have h0 : dg g ≠ 0 := fun h0 => h ⟨(gall_zero_iff hv).1 h0 _ (by simp), (gall_zero_iff hv).1 h0 _ (by simp)⟩
    have hm := h2 h0
    have hall := (h3 (Dvd (iv g)) (Dvd.idl _)).2 (Dvd.refl _)
    refine ⟨h0, hm, (dv_iff hm (tim_vec d p)).2 (hall _ (by simp)), (dv_iff hm (tim_vec d q)).2 (hall _ (by simp)), (dv_iff hd h1).2 ((h3 (Dvd (iv d)) (Dvd.idl _)).1 ?_)⟩
    intro l hl
    simp only [List.mem_cons, List.not_mem_nil, or_false] at hl
    rcases hl with rfl | rfl
    · exact tim_dvd hd he hp
    · exact tim_dvd hd he hq
end Go.Proofs.YthlmgpllapccfaaGreatDoor
/- PLAIN: the lines of Common, Rooted and Parted. -/
namespace Go.Proofs.YthlmgpllapccfaaGreatDoor
open Go.RowKit

theorem upd_at (st : Nat → Mng) (n : Nat) (m : Mng) : upd st n m n = m := by unfold upd; rw [if_pos rfl]
theorem ktw_let {p q : Nat → Nat} (n : Nat) : (letL n (ktw p 4 ++ ([44] ++ ktw q 4))).length ≤ 90 := by
  unfold letL
  simp only [List.length_append, List.length_cons, List.length_nil, ktw_len]
  omega
/-- Two polynomials without u are let, and asked for their greatest common divisor. -/
theorem two_let (st : Nat → Mng) {n : Nat} (hn : n < 26) {p q : Nat → Nat} (hp : Vec p) (hq : Vec q) :
    lnR st (bs (letL n (ktw p 4 ++ ([44] ++ ktw q 4)))) = ⟨0, 0, [], upd st n (.sys [upL p, upL q])⟩ := by
  have h := line_let st hn (wSm p) (wSm q) (wSm_ok hp) (wSm_ok hq) [44] (Or.inl rfl) (by rw [wSm_txt hp, wSm_txt hq]; exact ktw_let n)
  rw [wSm_txt hp, wSm_txt hq, wSm_val hp, wSm_val hq] at h
  exact h
theorem two_gcd (st : Nat → Mng) {n d : Nat} (hn : n < 26) (hd : d < 10) {p q : Nat → Nat} (hp : Vec p) (hq : Vec q) :
    lnR (upd st n (.sys [upL p, upL q])) (bs (qG n d)) = ⟨0, 0, ktl (tml (gall [p, q])), upd st n (.sys [upL p, upL q])⟩ := by
  rw [ask_gcd _ hn hd (by rw [upd_at]; rfl), upd_at]
  have e : lins (d % 7) (Mng.sys [upL p, upL q]).ps = [p, q] := by
    show [lnF (d % 7) (upL p), lnF (d % 7) (upL q)] = _
    rw [lnF_up hp, lnF_up hq]
  rw [e, txt_tml]
/-- Two polynomials out of raw numbers are let; what may be asked. -/
theorem raw_let (st : Nat → Mng) {n : Nat} (hn : n < 26) (a b : List Int) (cm : List UInt8) (hc : cm = [44] ∨ cm = [32, 44, 32]) (hl : (letL n (kX a ++ (cm ++ kX b))).length ≤ 90) :
    lnR st (bs (letL n (kX a ++ (cm ++ kX b)))) = ⟨0, 0, [], upd st n (.sys [sumP (kTs a), sumP (kTs b)])⟩ := by
  have h := line_let st hn (kSm a) (kSm b) (kSm_ok a) (kSm_ok b) cm hc (by rw [kSm_txt, kSm_txt]; exact hl)
  rw [kSm_txt, kSm_txt, kSm_val, kSm_val] at h
  exact h
theorem raw_gcd (st : Nat → Mng) {n d : Nat} (hn : n < 26) (hd : d < 10) (P Q : List Nat) :
    lnR (upd st n (.sys [P, Q])) (bs (qG n d)) = ⟨0, 0, ktl (tml (gall [lnF (d % 7) P, lnF (d % 7) Q])), upd st n (.sys [P, Q])⟩ := by
  rw [ask_gcd _ hn hd (by rw [upd_at]; rfl), upd_at, ← txt_tml]
  rfl
theorem raw_roots (st : Nat → Mng) {n d : Nat} (hn : n < 26) (hd : d < 10) (P Q : List Nat) :
    lnR (upd st n (.sys [P, Q])) (bs (qR n d)) = ⟨0, 0, lsd (rts [lnF (d % 7) P, lnF (d % 7) Q]) 7, upd st n (.sys [P, Q])⟩ := by
  rw [ask_roots _ hn hd (by rw [upd_at]; rfl), upd_at]
  rfl
theorem raw_split (st : Nat → Mng) {n : Nat} (hn : n < 26) (P Q : List Nat) :
    lnR (upd st n (.sys [P, Q])) (bs (qS n)) = ⟨0, 0, spl (ofD [P, Q]) 6, upd st n (.sys [P, Q])⟩ := by
  rw [ask_split _ hn (by rw [upd_at]; rfl), upd_at]
  rfl
end Go.Proofs.YthlmgpllapccfaaGreatDoor
/- PLAIN: ROOTED and PARTED: what their answers come to. -/
namespace Go.Proofs.YthlmgpllapccfaaGreatDoor
open Go.RowKit

theorem ktl_len : ∀ l : List (Nat × Nat), (ktl l).length ≤ 6 * l.length
  | [] => by simp [ktl]
  | (c, x) :: t => by
    rw [ktl, List.length_append, List.length_cons]
    have h1 := tmx_len c 0 x
    have h2 := ktl_len t
    split
    · simp only [List.length_nil]; omega
    · rw [List.length_cons]; omega
theorem trm_len (g : Nat → Nat) : ∀ x, (trm g x).length ≤ x
  | 0 => by simp [trm]
  | x + 1 => by
    rw [trm]
    have h := trm_len g x
    split
    · omega
    · rw [List.length_cons]; omega
theorem tml_len (g : Nat → Nat) : (tml g).length ≤ 5 := by
  unfold tml
  split
  · simp
  · exact trm_len g 5
theorem up_len (g : Nat → Nat) : (txt (upL g)).length ≤ 30 := by
  rw [txt_tml]
  have := ktl_len (tml g)
  have := tml_len g
  omega
/-- The text of a greatest common divisor is read as that. -/
theorem up_read {g : Nat → Nat} (hg : Vec g) : rd (bs (ktl (tml g))) = ⟨0, 0, upL g⟩ := by
  rw [← txt_tml]
  exact round_trip (upL_good fun i _ => (hg i).1) (by have := up_len g; omega)
/-- The values of x at which two polynomials, and their greatest common divisor, are 0. -/
theorem rooted_law (u : Nat) (P Q : List Nat) (x : Nat) : (pows (lnF u P) x 5 = 0 ∧ pows (lnF u Q) x 5 = 0) ↔ pows (gall [lnF u P, lnF u Q]) x 5 = 0 := by
  have hv : ∀ l ∈ [lnF u P, lnF u Q], Vec l := by
    intro l hl
    simp only [List.mem_cons, List.not_mem_nil, or_false] at hl
    rcases hl with rfl | rfl
    · exact lnF_vec u P
    · exact lnF_vec u Q
  rw [← gall_roots hv x]
  simp
theorem valP_pows (p : List Nat) (u x : Nat) : valP p u x = pows (lnF u p) x 5 := by rw [← val_same, ← lnF_lst, valL_lst]
theorem valP_up {g : Nat → Nat} (hg : Vec g) (u x : Nat) : valP (upL g) u x = pows g x 5 := by rw [valP_pows, lnF_up hg]
/-- A segment of Parted: the values of u with this degree (behind the last: with none). -/
theorem parted_in (of : Nat → Nat) (h : ∀ u, of u ≤ 5) (d u : Nat) (hd : d ≤ 5) : inSeg of d u = (decide ((of u : Int) - 1 = (d : Int)) || (decide (4 < (d : Int)) && decide ((of u : Int) - 1 < 0))) := by
  have h1 := h u
  unfold inSeg
  rw [Bool.eq_iff_iff, decide_eq_true_iff, Bool.or_eq_true, Bool.and_eq_true, decide_eq_true_iff, decide_eq_true_iff, decide_eq_true_iff]
  split <;> omega
theorem ofD_le (ps : List (List Nat)) (u : Nat) : ofD ps u ≤ 5 := dg_le _
end Go.Proofs.YthlmgpllapccfaaGreatDoor
/- THE STATEMENTS' own listed. -/
namespace Go.Proofs.YthlmgpllapccfaaGreatDoor
open Go.RowKit

set_option maxRecDepth 100000 in
set_option maxHeartbeats 1000000 in
theorem klisted_any (b : Nat → Bool) (w : World) :
    Calls Tryz.prog 23 #[.agg (bv b)] w fun e w' => e = .returned (.string (bs (lsd b 7))) ∧ Below w.heap.size w w' := by
  go_enter Tryz.func23, Tryz.ntmps23
  go_wp2
  refine wp_forget (fun W => Blk W w.heap.size (bv b) 45 ∧ Below w.heap.size w W) ⟨Blk.new w _ _, by go_grown⟩ ?_
  rintro W ⟨b1, hbel⟩
  have HH := hidV (And.intro b1 hbel)
  clear b1 hbel
  go_loopg [3, 4] 7 (fun gm v3 v4 wr => ∃ k : Nat, gm = 7 - k ∧ k ≤ 7 ∧ v4 = .int .i64 k ∧ v3 = .string (bs (lsd b k)) ∧ Hid (Blk wr w.heap.size (bv b) 45 ∧ Below w.heap.size w wr))
  case atStart => exact ⟨0, rfl, by omega, rfl, rfl, HH⟩
  case round =>
    obtain ⟨k, hgm, hk, rfl, rfl, HD⟩ := hrel
    clear HH W
    by_cases h7 : k < 7
    · have hc : wr.cell? ⟨w.heap.size, k, none⟩ = some (.bool (b k)) := by rw [HD.out.1.cell]; exact bv_get b h7
      have k0 : (0 : Int) ≤ (k : Int) := by omega
      have k1 : (k : Int) < 7 := by omega
      have HL := hidV (lsd_len b k)
      have HY := hidV (@lsd_yes b k)
      have HN := hidV (@lsd_no b k)
      generalize b k = bk at *
      cases bk with
      | false =>
        have HS := hidV (HN.out rfl)
        clear HN HY
        go_wp2
        go_roundg (7 - (k + 1))
        case measure => omega
        case rel => exact ⟨k + 1, rfl, by omega, by go_num, by rw [HS.out], HD⟩
      | true =>
        have HS := hidV (HY.out rfl)
        clear HN HY
        generalize hX : lsd b k = X at *
        have HX := hidV hX
        clear hX
        by_cases hE : X = []
        · have hE' : (bs X).toList.isEmpty = true := by rw [bs_empty, hE]; rfl
          rw [if_pos hE] at HS
          have HXE := hidV hE
          clear hE
          obtain ⟨Y, HYY⟩ : ∃ Y, Hid (X ++ [dgt k] = Y) := ⟨_, hidV rfl⟩
          have hadd := fun (w' : World) => add_to X [dgt k] Y (bs [dgt k]) rfl HYY.out (by have := HL.out; omega) (by simp) w'
          go_wp2_with (go_at_call 17; refine (kdigit_any k _ _ (by rfl) (by omega)).mono ?_; rintro e w1 ⟨rfl, hb1⟩; have HB1 := hidV hb1; clear hb1)
          go_roundg (7 - (k + 1))
          case measure => omega
          case rel => exact ⟨k + 1, rfl, by omega, by go_num, by rw [HS.out, ← HYY.out, HXE.out], HD.out.1.fr (Fr.of_below (bs := []) HB1.out) (by simp), bel2 HD.out.2 HB1.out⟩
        · have hE' : (bs X).toList.isEmpty = false := by rw [bs_empty]; cases X with | nil => exact absurd rfl hE | cons _ _ => rfl
          rw [if_neg hE] at HS
          clear hE
          obtain ⟨Y, HYY⟩ : ∃ Y, Hid (X ++ [32] = Y) := ⟨_, hidV rfl⟩
          have HLY : Hid (Y.length ≤ 2 * k + 1) := by unfold Hid; rw [← HYY.out, List.length_append]; have := HL.out; simp only [List.length_cons, List.length_nil]; omega
          have hadd := fun (w' : World) => add_to X [32] Y ⟨#[32]⟩ rfl HYY.out (by have := HL.out; omega) (by simp) w'
          obtain ⟨Z, HZ⟩ : ∃ Z, Hid (Y ++ [dgt k] = Z) := ⟨_, hidV rfl⟩
          have hadd2 := fun (w' : World) => add_to Y [dgt k] Z (bs [dgt k]) rfl HZ.out (by have := HLY.out; omega) (by simp) w'
          go_wp2_with (go_at_call 17; refine (kdigit_any k _ _ (by rfl) (by omega)).mono ?_; rintro e w1 ⟨rfl, hb1⟩; have HB1 := hidV hb1; clear hb1)
          go_roundg (7 - (k + 1))
          case measure => omega
          case rel => exact ⟨k + 1, rfl, by omega, by go_num, by rw [HS.out, HYY.out, HZ.out], HD.out.1.fr (Fr.of_below (bs := []) HB1.out) (by simp), bel2 HD.out.2 HB1.out⟩
    · have ek : k = 7 := by omega
      subst ek
      go_wp2
      go_ret
      exact ⟨rfl, HD.out.2⟩
end Go.Proofs.YthlmgpllapccfaaGreatDoor
/- ADDED: the statement's own function text. -/
namespace Go.Proofs.YthlmgpllapccfaaGreatDoor
open Go.RowKit
/-- The text behind k rounds. -/
def kP (xs : List Int) (k : Nat) : List UInt8 := if k = 0 then [] else kX (xs.take k)
theorem kP_len (xs : List Int) (k : Nat) : (kP xs k).length ≤ 27 := by
  unfold kP; split
  · simp
  · exact kX_len _
theorem kP_one {xs : List Int} {x : Int} (h : xs[0]? = some x) : kP xs 1 = ktx (kT 1 (Int.tdiv x 2) 4).n (kT 1 (Int.tdiv x 2) 4).u (kT 1 (Int.tdiv x 2) 4).x := by
  cases xs with
  | nil => simp at h
  | cons y ys =>
    simp at h; subst h
    simp [kP, kX, kF, kR, its]
theorem kP_more {xs : List Int} {k : Nat} {x : Int} (h : xs[k]? = some x) (h0 : 0 < k) (h2 : k ≤ 2) : kP xs (k + 1) = kP xs k ++ (kI x).sep ++ ktx (kI x).t.n (kI x).t.u (kI x).t.x := by
  obtain ⟨k, rfl⟩ : ∃ j, k = j + 1 := ⟨k - 1, by omega⟩
  cases xs with
  | nil => simp at h
  | cons y ys =>
    have h' : ys[k]? = some x := by simpa using h
    unfold kP
    rw [if_neg (by omega), if_neg (by omega)]
    simp only [List.take_succ_cons, kX, kF, kR]
    rw [List.take_take, List.take_take, show min 2 (k + 1) = k + 1 by omega, show min 2 k = k by omega, List.take_add_one, h', List.map_append, its_append]
    simp [its]
theorem kP_end {xs : List Int} {k : Nat} (h : k = min xs.length 3) (h0 : 0 < k) : kP xs k = kX xs := by
  unfold kP
  rw [if_neg (by omega)]
  cases xs with
  | nil => simp at h; omega
  | cons y ys =>
    obtain ⟨j, rfl⟩ : ∃ j, k = j + 1 := ⟨k - 1, by omega⟩
    simp only [List.length_cons] at h
    simp only [List.take_succ_cons, kX, kF, kR]
    rw [List.take_take]
    by_cases hl : ys.length < 2
    · rw [List.take_of_length_le (by omega), List.take_of_length_le (by omega)]
    · rw [show min 2 j = 2 by omega]
end Go.Proofs.YthlmgpllapccfaaGreatDoor
/- ADDED: the statement's own function text, walked. -/
namespace Go.Proofs.YthlmgpllapccfaaGreatDoor
open Go.RowKit
set_option maxRecDepth 100000 in
set_option maxHeartbeats 2000000 in
theorem ktext_nil (a : Option Addr) (cap : Nat) (w : World) : Calls Tryz.prog 21 #[.slice a 0 cap, .int .i64 4] w fun e w' => e = .returned (.string (bs (kX []))) ∧ Below w.heap.size w w' := by
  have e : kX [] = [48] := by decide +kernel
  rw [e]
  go_enter Tryz.func21, Tryz.ntmps21
  go_wp2
  go_loopg [5, 6] 1 (fun gm v4 v5 wr => gm = 1 ∧ v4 = .string ⟨#[]⟩ ∧ v5 = .int .i64 0 ∧ wr = w)
  case atStart => exact ⟨rfl, rfl, rfl, rfl⟩
  case round =>
    obtain ⟨_, rfl, rfl, rfl⟩ := hrel
    go_wp2
    go_ret
    exact ⟨rfl, Below.refl _ _⟩
theorem add_block (a : Addr) (j : Nat) : (a.add j).block = a.block := by unfold Addr.add; split <;> rfl
set_option maxRecDepth 100000 in
set_option maxHeartbeats 2000000 in
theorem ktext_some (xs : List Int) (ad : Addr) (cap : Nat) (w : World) (hne : 0 < xs.length) (hcells : ∀ j x, xs[j]? = some x → w.cell? (ad.add j) = some (.int .i64 x) ∧ -9223372036854775808 ≤ x ∧ x ≤ 9223372036854775807) (hb : ad.block < w.heap.size) (hl : xs.length ≤ 9223372036854775807) :
    Calls Tryz.prog 21 #[.slice (some ad) xs.length cap, .int .i64 4] w fun e w' => e = .returned (.string (bs (kX xs))) ∧ Below w.heap.size w w' := by
  have HC := hidT hcells
  clear hcells
  go_enter Tryz.func21, Tryz.ntmps21
  go_wp2
  go_loopg [5, 6] 3 (fun gm v4 v5 wr => ∃ k : Nat, gm = 3 - k ∧ k ≤ 3 ∧ k ≤ xs.length ∧ v5 = .int .i64 k ∧ v4 = .string (bs (kP xs k)) ∧ Hid (Below w.heap.size w wr))
  case atStart => exact ⟨0, rfl, by omega, by omega, rfl, rfl, Below.refl _ _⟩
  case round =>
    obtain ⟨k, hgm, hk3, hkl, rfl, rfl, HB⟩ := hrel
    by_cases hlt : k < xs.length ∧ k < 3
    · obtain ⟨x, hx⟩ : ∃ x, xs[k]? = some x := ⟨_, List.getElem?_eq_getElem hlt.1⟩
      obtain ⟨c1, c2, c3⟩ := HC.out k x hx
      have c4 : wr.cell? (ad.add k) = some (.int .i64 x) := by
        rw [← c1]
        exact World.cell?_of_block (by rw [add_block]; exact HB.out.block _ hb)
      have d1 := tdiv_bd x 2 (by omega) c2 c3
      have d1' : -9223372036854775808 ≤ Int.tdiv x 2 ∧ Int.tdiv x 2 ≤ 9223372036854775807 := d1
      have hk0 : (0 : Int) ≤ (k : Int) := by omega
      have hkx : (k : Int) < (xs.length : Int) := by omega
      have hk3' : (k : Int) < 3 := by omega
      have HL := hidT (kP_len xs k)
      clear d1 c1
      by_cases h0 : k = 0
      · subst h0
        have HP := hidT (kP_one hx)
        have hE : kP xs 0 = [] := rfl
        rw [hE]
        obtain ⟨Y, HY⟩ : ∃ Y, Hid (ktx (kT 1 (Int.tdiv x 2) 4).n (kT 1 (Int.tdiv x 2) 4).u (kT 1 (Int.tdiv x 2) 4).x = Y) := ⟨_, hidT rfl⟩
        have HK := fun (w' : World) => kterm_any 1 (Int.tdiv x 2) 4 4 w' rfl (by omega) d1'.1 d1'.2
        rw [HY.out] at HK HP
        have HHK := hidT HK
        clear HK
        have hadd := fun (w' : World) => add_to [] Y Y (bs Y) rfl (by simp) (by simp) (by rw [← HY.out]; have := ktx_le (kT 1 (Int.tdiv x 2) 4).n (kT 1 (Int.tdiv x 2) 4).u (kT 1 (Int.tdiv x 2) 4).x; omega) w'
        have c5 : wr.cell? ad = some (.int .i64 x) := by simpa [Addr.add] using c4
        simp only [Int.natCast_zero] at *
        go_wp2_with (go_at_call 32; refine (HHK.out _).mono ?_; rintro e w1 ⟨rfl, hb1⟩; have HB1 := hidT hb1)
        go_roundg (3 - 1)
        case measure => omega
        case rel => exact ⟨1, rfl, by omega, by omega, rfl, by rw [HP.out], bel2 HB.out HB1.out⟩
      · by_cases hp : pck x 2 = 0
        · have HP : Hid (kP xs (k + 1) = kP xs k ++ [32, 45, 32] ++ ktx (kT 6 (Int.tdiv x 2) 4).n (kT 6 (Int.tdiv x 2) 4).u (kT 6 (Int.tdiv x 2) 4).x) := by
            unfold Hid
            rw [kP_more hx (by omega) (by omega)]
            unfold kI
            rw [if_pos hp]
          obtain ⟨Y, HY⟩ : ∃ Y, Hid (ktx (kT 6 (Int.tdiv x 2) 4).n (kT 6 (Int.tdiv x 2) 4).u (kT 6 (Int.tdiv x 2) 4).x = Y) := ⟨_, hidT rfl⟩
          have HK := fun (w' : World) => kterm_any 6 (Int.tdiv x 2) 4 4 w' rfl (by omega) d1'.1 d1'.2
          have HYL : Hid (Y.length ≤ 7) := by unfold Hid; rw [← HY.out]; exact ktx_le _ _ _
          rw [HY.out] at HK HP
          have HHK := hidT HK
          clear HK
          generalize hX : kP xs k = X at *
          have HX := hidT hX
          clear hX
          obtain ⟨Y1, HY1⟩ : ∃ Y', Hid (X ++ [32, 45, 32] = Y') := ⟨_, hidT rfl⟩
          have HL1 : Hid (Y1.length ≤ 30) := by unfold Hid; rw [← HY1.out, List.length_append]; have := HL.out; simp; omega
          obtain ⟨Y2, HY2⟩ : ∃ Y', Hid (Y1 ++ Y = Y') := ⟨_, hidT rfl⟩
          have hadd1 := fun (w' : World) => add_to X [32, 45, 32] Y1 ⟨#[32, 45, 32]⟩ rfl HY1.out (by have := HL.out; omega) (by simp) w'
          have hadd2 := fun (w' : World) => add_to Y1 Y Y2 (bs Y) rfl HY2.out (by have := HL1.out; omega) (by have := HYL.out; omega) w'
          have hk1 : (0 : Int) < (k : Int) := by omega
          have hpq : (pck x 2 : Int) = 0 := by omega
          go_wp2_with (first | (go_at_call 12; refine (kpick_to x 2 _ _ _ (by rfl) (by rfl) (by omega) (by omega) c2 c3).mono ?_; rintro e w0 ⟨rfl, rfl⟩) | (go_at_call 32; refine (HHK.out _).mono ?_; rintro e w1 ⟨rfl, hb1⟩; have HB1 := hidT hb1))
          go_roundg (3 - (k + 1))
          case measure => omega
          case rel => exact ⟨k + 1, rfl, by omega, by omega, by go_num, by rw [HP.out, HY1.out, HY2.out], bel2 HB.out HB1.out⟩
        · have HP : Hid (kP xs (k + 1) = kP xs k ++ [43] ++ ktx (kT 1 (Int.tdiv x 2) 4).n (kT 1 (Int.tdiv x 2) 4).u (kT 1 (Int.tdiv x 2) 4).x) := by
            unfold Hid
            rw [kP_more hx (by omega) (by omega)]
            unfold kI
            rw [if_neg hp]
          obtain ⟨Y, HY⟩ : ∃ Y, Hid (ktx (kT 1 (Int.tdiv x 2) 4).n (kT 1 (Int.tdiv x 2) 4).u (kT 1 (Int.tdiv x 2) 4).x = Y) := ⟨_, hidT rfl⟩
          have HK := fun (w' : World) => kterm_any 1 (Int.tdiv x 2) 4 4 w' rfl (by omega) d1'.1 d1'.2
          have HYL : Hid (Y.length ≤ 7) := by unfold Hid; rw [← HY.out]; exact ktx_le _ _ _
          rw [HY.out] at HK HP
          have HHK := hidT HK
          clear HK
          generalize hX : kP xs k = X at *
          have HX := hidT hX
          clear hX
          obtain ⟨Y1, HY1⟩ : ∃ Y', Hid (X ++ [43] = Y') := ⟨_, hidT rfl⟩
          have HL1 : Hid (Y1.length ≤ 30) := by unfold Hid; rw [← HY1.out, List.length_append]; have := HL.out; simp; omega
          obtain ⟨Y2, HY2⟩ : ∃ Y', Hid (Y1 ++ Y = Y') := ⟨_, hidT rfl⟩
          have hadd1 := fun (w' : World) => add_to X [43] Y1 ⟨#[43]⟩ rfl HY1.out (by have := HL.out; omega) (by simp) w'
          have hadd2 := fun (w' : World) => add_to Y1 Y Y2 (bs Y) rfl HY2.out (by have := HL1.out; omega) (by have := HYL.out; omega) w'
          have hk1 : (0 : Int) < (k : Int) := by omega
          have hpq : ¬ ((pck x 2 : Int) = 0) := by omega
          go_wp2_with (first | (go_at_call 12; refine (kpick_to x 2 _ _ _ (by rfl) (by rfl) (by omega) (by omega) c2 c3).mono ?_; rintro e w0 ⟨rfl, rfl⟩) | (go_at_call 32; refine (HHK.out _).mono ?_; rintro e w1 ⟨rfl, hb1⟩; have HB1 := hidT hb1))
          go_roundg (3 - (k + 1))
          case measure => omega
          case rel => exact ⟨k + 1, rfl, by omega, by omega, by go_num, by rw [HP.out, HY1.out, HY2.out], bel2 HB.out HB1.out⟩
    · have hke := kP_end (xs := xs) (k := k) (by omega) (by omega)
      rw [hke]
      have hpos : kX xs ≠ [] := fun q => by
        have := ktx_pos (kF xs).n (kF xs).u (kF xs).x
        unfold kX at q
        rw [List.append_eq_nil_iff] at q
        rw [q.1] at this
        simp at this
      have hE : (bs (kX xs)).toList.isEmpty = false := by rw [bs_empty]; simp [hpos]
      by_cases h1 : k < xs.length
      · have e1 : (k : Int) < (xs.length : Int) := by omega
        have e2 : ¬ ((k : Int) < 3) := by omega
        clear hpos hke
        go_wp2
        go_ret
        exact ⟨rfl, HB.out⟩
      · have e1 : ¬ ((k : Int) < (xs.length : Int)) := by omega
        clear hpos hke
        go_wp2
        go_ret
        exact ⟨rfl, HB.out⟩
end Go.Proofs.YthlmgpllapccfaaGreatDoor
/- WHAT Common, Rooted AND Parted SHARE. -/
namespace Go.Proofs.YthlmgpllapccfaaGreatDoor
open Go.RowKit

theorem os_let (n : Nat) (T : List UInt8) : oSets (bs (letL n T)) = false := by
  unfold oSets
  rw [(let_word n T).2.2]
  decide
theorem os_gcd {n d : Nat} (hn : n < 26) (hd : d < 10) : oSets (bs (qG n d)) = false := by
  have h := List.all_eq_true.1 (List.all_eq_true.1 chG_all n (List.mem_range.2 hn)) d (List.mem_range.2 hd)
  simp only [chG, Bool.and_eq_true, beq_iff_eq] at h
  unfold oSets
  rw [h.1.1.1.1.2]
  decide
theorem os_roots {n d : Nat} (hn : n < 26) (hd : d < 10) : oSets (bs (qR n d)) = false := by
  have h := List.all_eq_true.1 (List.all_eq_true.1 chR_all n (List.mem_range.2 hn)) d (List.mem_range.2 hd)
  simp only [chR, Bool.and_eq_true, beq_iff_eq] at h
  unfold oSets
  rw [h.1.1.1.1.2]
  decide
theorem os_split {n : Nat} (hn : n < 26) : oSets (bs (qS n)) = false := by
  have h := List.all_eq_true.1 chS_all n (List.mem_range.2 hn)
  simp only [chS, Bool.and_eq_true, beq_iff_eq] at h
  unfold oSets
  rw [h.1.1.2]
  decide
/-- 35 numbers without u, out of their text. -/
theorem kplain_to (g : Nat → Nat) (hg : Vec g) (S : ByteArray) (w : World) (hS : S = bs (ktl (tml g))) :
    Calls Tryz.prog 18 #[.string S] w fun e w' => e = .returned (.tuple #[.agg #[.int .i64 (g 0 : Nat), .int .i64 (g 1 : Nat), .int .i64 (g 2 : Nat), .int .i64 (g 3 : Nat), .int .i64 (g 4 : Nat)], .bool true]) ∧ Below w.heap.size w w' := by
  have h := kplain_any S (tml g) w (tml_ne g) (by rw [hS]; exact At.start _) (tml_ok g fun n _ => (hg n).1) (by rw [hS, bs_size]; have := ktl_len (tml g); have := tml_len g; omega)
  rw [tml_put] at h
  exact h
theorem kdegree_to (g : Nat → Nat) (X : Array Value) (w : World) (hX : X = #[.int .i64 (g 0 : Nat), .int .i64 (g 1 : Nat), .int .i64 (g 2 : Nat), .int .i64 (g 3 : Nat), .int .i64 (g 4 : Nat)]) :
    Calls Tryz.prog 19 #[.agg X] w fun e w' => e = .returned (.int .i64 ((dg g : Int) - 1)) ∧ Below w.heap.size w w' := by
  subst hX
  exact kdegree_any g w
def zv7 (c : Nat → Int) : Array Value := #[.int .i64 (c 0), .int .i64 (c 1), .int .i64 (c 2), .int .i64 (c 3), .int .i64 (c 4), .int .i64 (c 5), .int .i64 (c 6)]
theorem zv7_get (c : Nat → Int) {x : Nat} (h : x < 7) : (zv7 c)[x]? = some (.int .i64 (c x)) := by
  match x, h with
  | 0, _ => rfl
  | 1, _ => rfl
  | 2, _ => rfl
  | 3, _ => rfl
  | 4, _ => rfl
  | 5, _ => rfl
  | 6, _ => rfl
theorem zv7_upd (c : Nat → Int) (n : Int) {x : Nat} (h : x < 7) : (zv7 c).setIfInBounds x (.int .i64 n) = zv7 (fun j => if j = x then n else c j) := by
  match x, h with
  | 0, _ => rfl
  | 1, _ => rfl
  | 2, _ => rfl
  | 3, _ => rfl
  | 4, _ => rfl
  | 5, _ => rfl
  | 6, _ => rfl

end Go.Proofs.YthlmgpllapccfaaGreatDoor
/- THE PROGRAM's Value. -/
namespace Go.Proofs.YthlmgpllapccfaaGreatDoor
open Go.RowKit

/-- What Value answers. -/
def vv (s : ByteArray) (u x : Int) : Nat := if (rd s).e = 0 then valP (rd s).p (u % 7).toNat (x % 7).toNat else 0
def vb (s : ByteArray) : Nat := if (rd s).e = 0 then 0 else (rd s).bad
theorem m7 (u : Int) : u % 7 = ((u % 7).toNat : Int) ∧ (u % 7).toNat < 7 := by omega
set_option maxRecDepth 100000 in
set_option maxHeartbeats 2000000 in
theorem pValue_any (s : ByteArray) (u x : Int) (w : World) (hg : ErrT w) (hm : s.size ≤ 140737488351232) :
    Calls Tryz.prog 22 #[.string s, .int .i64 u, .int .i64 x] w fun e w' => e = .returned (.tuple #[.int .i64 (vv s u x), .int .i64 (rd s).e, .int .i64 (vb s)]) ∧ Below w.heap.size w w' := by
  have hu := m7 u
  have hx := m7 x
  have HU := hidV hu
  have HX := hidV hx
  clear hu hx
  have HP := hidV (Polynomial_any s w hg hm)
  clear hg hm
  unfold vv vb
  generalize rd s = R at *
  by_cases he : R.e = 0
  · rw [if_pos he, if_pos he]
    rw [he] at HP ⊢
    go_enter Tryz.func22, Tryz.ntmps22
    go_wp2_with fail
    refine HP.out.mono ?_
    rintro e w1 ⟨rfl, hgd, hbel⟩
    have HB := hidV hbel
    clear hbel HP
    go_wp2_with (first | (refine wpList_store_mid (by rfl) 76 _ _ (by rfl) w1.heap.size 0 (pv R.p) (by rfl) (by rfl) (Blk.there (Blk.new w1 _ _) (by rw [pv_size, hgd.1]; decide)) (size_poly hgd) (pv_one _) ?_) | (refine wpList_load_row (by rfl) 76 _ (by rfl) w1.heap.size (by rfl) 76 (pv R.p) (0, 0) _ (by exact Blk.setAll (Blk.new w1 _ _) _ (by rw [pv_size, hgd.1]; rfl)) Tryz.underlying76 (by rfl) (size_poly hgd) ?_))
    refine (pVal_any R.p u x _ _ _ hgd HU.out.1 HX.out.1 HU.out.2 HX.out.2).mono ?_
    rintro e w2 ⟨rfl, hbel2⟩
    have HB2 := hidV hbel2
    clear hbel2
    go_wp2
    go_ret3
    refine ⟨rfl, ?_⟩
    refine Fr.below (bs := []) ((Fr.setCells (Fr.alloc (Fr.of_below HB.out) _) _ _ _ (Or.inr HB.out.size)).trans (Fr.of_below (bs := []) (by exact HB2.out)) (by simp)) (Nat.le_refl _) (by simp)
  · rw [if_neg he, if_neg he]
    have he' : ((R.e : Int) != 0) = true := by rw [bne_iff_ne]; omega
    go_enter Tryz.func22, Tryz.ntmps22
    go_wp2_with fail
    refine HP.out.mono ?_
    rintro e w1 ⟨rfl, hgd, hbel⟩
    have HB := hidV hbel
    clear hbel HP
    go_wp2_with (first | (refine wpList_store_mid (by rfl) 76 _ _ (by rfl) w1.heap.size 0 (pv R.p) (by rfl) (by rfl) (Blk.there (Blk.new w1 _ _) (by rw [pv_size, hgd.1]; decide)) (size_poly hgd) (pv_one _) ?_))
    go_ret3
    refine ⟨rfl, ?_⟩
    exact Fr.below (bs := []) (Fr.setCells (Fr.alloc (Fr.of_below HB.out) _) _ _ _ (Or.inr HB.out.size)) (Nat.le_refl _) (by simp)
theorem pV_at {s : ByteArray} {p : List Nat} (h : rd s = ⟨0, 0, p⟩) (hs : s.size ≤ 1000) (u x : Nat) {V : Nat} (hV : valP p (u % 7) (x % 7) = V) (S : ByteArray) (U X : Int) (w : World) (hg : ErrT w) (hS : S = s) (hU : U = u) (hX : X = x) :
    Calls Tryz.prog 22 #[.string S, .int .i64 U, .int .i64 X] w fun e w' => e = .returned (.tuple #[.int .i64 V, .int .i64 0, .int .i64 0]) ∧ Below w.heap.size w w' := by
  subst hS hU hX
  have k := pValue_any S u x w hg (by omega)
  have e1 : ((u : Int) % 7).toNat = u % 7 := by omega
  have e2 : ((x : Int) % 7).toNat = x % 7 := by omega
  unfold vv vb at k
  rw [h] at k
  simp only [if_true, e1, e2] at k
  rw [hV] at k
  exact k
end Go.Proofs.YthlmgpllapccfaaGreatDoor
/- ROOTED: THE WALK. -/
namespace Go.Proofs.YthlmgpllapccfaaGreatDoor
open Go.RowKit

theorem wpQuiet_val {P : Program} {ops : Array Oper} {C : World → Prop} {Q : Act → Prop} {a : Act} {o : Oper} {rest : List Oper} (hgd : o.guard = none) (v : Value) (hr : ∀ w, (execOp a.eval o).run P w = .ok (.value v) w)
    (h : wpQuiet P ops C Q rest (a.put o.dst v)) : wpQuiet P ops C Q (o :: rest) a :=
  BigFrame.wpQuiet_want (by unfold Region.wanted; rw [hgd]) (fun K hK => ⟨v, fun w _ => by
    unfold Oper.quietAt
    rw [hr w]
    exact ⟨rfl, rfl⟩, hK _ h⟩)

set_option maxRecDepth 100000 in
set_option maxHeartbeats 2000000 in
theorem lawRooted_any (x y : Value) (u : Int) (xs ys : List Int) (W : World) (hg : ErrT W) (hu : -9223372036854775808 ≤ u ∧ u ≤ 9223372036854775807)
    (hX : ∀ w', Below W.heap.size W w' → Calls Tryz.prog 21 #[x, .int .i64 4] w' fun e w'' => e = .returned (.string (bs (kX xs))) ∧ Below w'.heap.size w' w'')
    (hY : ∀ w', Below W.heap.size W w' → Calls Tryz.prog 21 #[y, .int .i64 4] w' fun e w'' => e = .returned (.string (bs (kX ys))) ∧ Below w'.heap.size w' w'') :
    Calls Tryz.prog 5 #[x, y, .int .i64 u] W fun e w' => e = .returned (.bool true) ∧ Below W.heap.size W w' := by
  have HG := hidV hg
  have HX := hidT hX
  have HY := hidT hY
  clear hg hX hY
  have HLX := hidV (kX_len xs)
  have HLY := hidV (kX_len ys)
  have HLET := hidV (raw_let st1 (n := 25) (by omega) xs ys [32, 44, 32] (Or.inr rfl) (by unfold letL; simp only [List.length_append, List.length_cons, List.length_nil]; have := HLX.out; have := HLY.out; omega))
  have HOS := hidV (os_let 25 (kX xs ++ ([32, 44, 32] ++ kX ys)))
  obtain ⟨P, HP⟩ : ∃ P, Hid (sumP (kTs xs) = P) := ⟨_, rfl⟩
  obtain ⟨Q, HQ⟩ : ∃ Q, Hid (sumP (kTs ys) = Q) := ⟨_, rfl⟩
  rw [HP.out, HQ.out] at HLET
  obtain ⟨S2, HS2⟩ : ∃ S, Hid (upd st1 25 (.sys [P, Q]) = S) := ⟨_, rfl⟩
  rw [HS2.out] at HLET
  obtain ⟨n, HN⟩ : ∃ n, Hid (pck u 10 = n) := ⟨_, hidV rfl⟩
  have hn : n < 10 := by rw [← HN.out]; exact pck_lt _ (by omega)
  have HGC := hidV (raw_gcd st1 (n := 25) (by omega) hn P Q)
  have HRT := hidV (raw_roots st1 (n := 25) (by omega) hn P Q)
  rw [HS2.out] at HGC HRT
  have HRX : Hid (rd (bs (kX xs)) = ⟨0, 0, P⟩) := by unfold Hid; rw [← HP.out]; exact rd_one xs
  have HRY : Hid (rd (bs (kX ys)) = ⟨0, 0, Q⟩) := by unfold Hid; rw [← HQ.out]; exact rd_one ys
  have HGV : Hid (Vec (gall [lnF (n % 7) P, lnF (n % 7) Q])) := (gall_any _ (by intro l hl; simp only [List.mem_cons, List.not_mem_nil, or_false] at hl; rcases hl with e | e <;> (rw [e]; exact lnF_vec _ _))).1
  have HLAW := hidV (rooted_law (n % 7) P Q)
  obtain ⟨G, HGG⟩ : ∃ G, Hid (gall [lnF (n % 7) P, lnF (n % 7) Q] = G) := ⟨_, hidV rfl⟩
  rw [HGG.out] at HGC HGV HLAW
  obtain ⟨I, HI⟩ : ∃ I, Hid (rts [lnF (n % 7) P, lnF (n % 7) Q] = I) := ⟨_, hidV rfl⟩
  rw [HI.out] at HRT
  have HIN : Hid (∀ z, I z = (decide (pows (lnF (n % 7) P) z 5 = 0) && decide (pows (lnF (n % 7) Q) z 5 = 0))) := by
    unfold Hid
    intro z
    rw [← HI.out]
    unfold rts
    simp
  have HOG := hidV (os_gcd (n := 25) (by omega) hn)
  have HOR := hidV (os_roots (n := 25) (by omega) hn)
  obtain ⟨LG, HLG⟩ : ∃ L, Hid (qG 25 n = L) := ⟨_, hidV rfl⟩
  obtain ⟨LR, HLR⟩ : ∃ L, Hid (qR 25 n = L) := ⟨_, hidV rfl⟩
  have HLG' : Hid ([103, 99, 100, 32, 90, 32] ++ [dgt n] = LG) := HLG.out
  have HLR' : Hid ([114, 111, 111, 116, 115, 32, 90, 32] ++ [dgt n] = LR) := HLR.out
  have hl7 : LG.length = 7 := by rw [← HLG.out]; rfl
  have hl9 : LR.length = 9 := by rw [← HLR.out]; rfl
  rw [HLG.out] at HGC HOG
  rw [HLR.out] at HRT HOR
  obtain ⟨T, HT⟩ : ∃ T, Hid (ktl (tml G) = T) := ⟨_, hidV rfl⟩
  have HTR : Hid (rd (bs T) = ⟨0, 0, upL G⟩) := by unfold Hid; rw [← HT.out]; exact up_read HGV.out
  have HTL : Hid (T.length ≤ 30) := by unfold Hid; rw [← HT.out, ← txt_tml]; exact up_len G
  rw [HT.out] at HGC
  generalize kX xs = X at *
  generalize kX ys = Y at *
  obtain ⟨Z1, HZ1⟩ : ∃ Z, Hid ([108, 101, 116, 32, 90, 32, 61, 32] ++ X = Z) := ⟨_, hidV rfl⟩
  obtain ⟨Z2, HZ2⟩ : ∃ Z, Hid (Z1 ++ [32, 44, 32] = Z) := ⟨_, hidV rfl⟩
  obtain ⟨Z3, HZ3⟩ : ∃ Z, Hid (Z2 ++ Y = Z) := ⟨_, hidV rfl⟩
  have HZE : Hid (letL 25 (X ++ ([32, 44, 32] ++ Y)) = Z3) := by unfold Hid; rw [← HZ3.out, ← HZ2.out, ← HZ1.out]; unfold letL; simp only [List.append_assoc]; rfl
  have HZ1L : Hid (Z1.length ≤ 35) := by unfold Hid; rw [← HZ1.out]; simp only [List.length_append, List.length_cons, List.length_nil]; have := HLX.out; omega
  have HZ2L : Hid (Z2.length ≤ 38) := by unfold Hid; rw [← HZ2.out]; simp only [List.length_append, List.length_cons, List.length_nil]; have := HZ1L.out; omega
  have HZ3L : Hid (Z3.length ≤ 65) := by unfold Hid; rw [← HZ3.out]; simp only [List.length_append]; have := HZ2L.out; have := HLY.out; omega
  rw [HZE.out] at HLET HOS
  have ha1 := fun (w' : World) => add_to0 [108, 101, 116, 32, 90, 32, 61, 32] ⟨#[108, 101, 116, 32, 90, 32, 61, 32]⟩ X Z1 (bs X) rfl rfl HZ1.out (by simp) (by have := HLX.out; omega) w'
  have ha2 := fun (w' : World) => add_to Z1 [32, 44, 32] Z2 ⟨#[32, 44, 32]⟩ rfl HZ2.out (by have := HZ1L.out; omega) (by simp) w'
  have ha3 := fun (w' : World) => add_to Z2 Y Z3 (bs Y) rfl HZ3.out (by have := HZ2L.out; omega) (by have := HLY.out; omega) w'
  have hB : 0 < W.heap.size := HG.out.lt
  have ha4 := fun (w' : World) => add_to0 [103, 99, 100, 32, 90, 32] ⟨#[103, 99, 100, 32, 90, 32]⟩ [dgt n] LG (bs [dgt n]) rfl rfl HLG'.out (by simp) (by simp) w'
  have ha5 := fun (w' : World) => add_to0 [114, 111, 111, 116, 115, 32, 90, 32] ⟨#[114, 111, 111, 116, 115, 32, 90, 32]⟩ [dgt n] LR (bs [dgt n]) rfl rfl HLR'.out (by simp) (by simp) w'
  go_enter Tryz.func5, Tryz.ntmps5
  go_wp2_with fail
  refine (begun_any W HG.out).mono ?_
  rintro e w1 ⟨sb, bm, rfl, s1, f1⟩
  have HS1 := hidV s1
  have HF1 := hidV f1
  clear s1 f1
  go_wp2_with fail
  refine (HX.out w1 (HF1.out.below (Nat.le_refl _) (by simp))).mono ?_
  rintro e w2 ⟨rfl, b2⟩
  have HF2 : Hid (Fr [] W w2 ∧ Sess W.heap.size w2 [bm] sb bm st1) := ⟨HF1.out.trans (Fr.of_below (bs := []) b2) (by simp), HS1.out.fr (Fr.of_below b2)⟩
  clear b2 HF1 HS1
  go_wp2_with fail
  refine (HY.out w2 (HF2.out.1.below (Nat.le_refl _) (by simp))).mono ?_
  rintro e w3 ⟨rfl, b3⟩
  have HF3 : Hid (Fr [] W w3 ∧ Sess W.heap.size w3 [bm] sb bm st1) := ⟨HF2.out.1.trans (Fr.of_below (bs := []) b3) (by simp), HF2.out.2.fr (Fr.of_below b3)⟩
  clear b3 HF2
  go_wp2_with fail
  have HPK := hidV (kpick_to u 10 u 10 w3 rfl rfl (by omega) (by omega) hu.1 hu.2)
  rw [HN.out] at HPK
  refine HPK.out.mono ?_
  rintro e w ⟨rfl, rfl⟩
  clear HPK
  go_wp2_with fail
  refine (HF3.out.2.says hB (bs Z3) _ S2 [] (by rw [bs_size]; have := HZ3L.out; omega) HOS.out HLET.out rfl).mono ?_
  rintro e w4 ⟨rfl, s4, f4⟩
  have HF4 : Hid (Fr [] W w4 ∧ Sess W.heap.size w4 [bm] sb bm S2) := ⟨HF3.out.1.trans f4 (by simp; exact HF3.out.2.lo), s4⟩
  clear s4 f4 HF3 ha1 ha2 ha3
  go_wp2_with fail
  refine (kdigit_any n _ _ (by rfl) hn).mono ?_
  rintro e w5 ⟨rfl, b5⟩
  have HF5 : Hid (Fr [] W w5 ∧ Sess W.heap.size w5 [bm] sb bm S2) := ⟨HF4.out.1.trans (Fr.of_below (bs := []) b5) (by simp), HF4.out.2.fr (Fr.of_below b5)⟩
  clear b5 HF4
  go_wp2_with fail
  refine (HF5.out.2.does hB (bs LG) S2 _ (by rw [bs_size]; omega) HOG.out HGC.out).mono ?_
  rintro e w6 ⟨rfl, s6, f6⟩
  have HF6 : Hid (Fr [] W w6 ∧ Sess W.heap.size w6 [bm] sb bm S2) := ⟨HF5.out.1.trans f6 (by simp; exact HF5.out.2.lo), s6⟩
  clear s6 f6 HF5
  go_wp2
  refine wp_forget (fun V => Blk V w6.heap.size (bv fun _ => false) 45 ∧ Fr [] W V ∧ Sess W.heap.size V [w6.heap.size, bm] sb bm S2) ⟨Blk.new w6 _ _, HF6.out.1.alloc _, HF6.out.2.alloc _⟩ ?_
  rintro V ⟨b1, b2, b3⟩
  have HV := hidV (And.intro b1 (And.intro b2 b3))
  have hob : W.heap.size ≤ w6.heap.size := HF6.out.1.size
  clear b1 b2 b3 HF6
  generalize w6.heap.size = ob at *
  go_loopg [16] 7 (fun gm v16 wr => ∃ z : Nat, ∃ c : Nat → Bool, gm = 7 - z ∧ z ≤ 7 ∧ v16 = .int .i64 z ∧ Hid (∀ v, v < z → c v = I v) ∧ Hid (Blk wr ob (bv c) 45 ∧ Fr [] W wr ∧ Sess W.heap.size wr [ob, bm] sb bm S2))
  case atStart => exact ⟨0, _, rfl, by omega, rfl, fun v hv => by omega, HV⟩
  case round =>
    obtain ⟨z, c, hgm, hz, rfl, HC, HD⟩ := hrel
    clear HV V
    by_cases hz7 : z < 7
    · have z0 : (0 : Int) ≤ (z : Int) := by omega
      have z1 : (z : Int) < 7 := by omega
      obtain ⟨A, HA⟩ : ∃ A, Hid (pows (lnF (n % 7) P) z 5 = A) := ⟨_, hidV rfl⟩
      obtain ⟨E, HE⟩ : ∃ A, Hid (pows (lnF (n % 7) Q) z 5 = A) := ⟨_, hidV rfl⟩
      obtain ⟨C, HCC⟩ : ∃ A, Hid (pows G z 5 = A) := ⟨_, hidV rfl⟩
      have hlaw : (A = 0 ∧ E = 0) ↔ C = 0 := by rw [← HA.out, ← HE.out, ← HCC.out]; exact HLAW.out z
      have HIX : Hid (I z = (decide (A = 0) && decide (E = 0))) := by unfold Hid; rw [← HA.out, ← HE.out]; exact HIN.out z
      have HVA := hidV (fun S U X w h a b c => pV_at HRX.out (by rw [bs_size]; have := HLX.out; omega) n z (V := A) (by rw [show z % 7 = z by omega, valP_pows]; exact HA.out) S U X w h a b c)
      have HVE := hidV (fun S U X w h a b c => pV_at HRY.out (by rw [bs_size]; have := HLY.out; omega) n z (V := E) (by rw [show z % 7 = z by omega, valP_pows]; exact HE.out) S U X w h a b c)
      have HVC := hidV (fun S U X w h a b c => pV_at HTR.out (by rw [bs_size]; have := HTL.out; omega) 0 z (V := C) (by rw [show z % 7 = z by omega, valP_up HGV.out]; exact HCC.out) S U X w h a b c)
      go_wp2_with fail
      refine (HVA.out _ _ _ _ HD.out.2.2.err rfl rfl rfl).mono ?_
      rintro e w1 ⟨rfl, b1⟩
      have HD1 : Hid (Blk w1 ob (bv c) 45 ∧ Fr [] W w1 ∧ Sess W.heap.size w1 [ob, bm] sb bm S2) := ⟨HD.out.1.fr (Fr.of_below (bs := []) b1) (by simp), HD.out.2.1.trans (Fr.of_below (bs := []) b1) (by simp), HD.out.2.2.fr (Fr.of_below b1)⟩
      clear b1 HD
      go_wp2_with fail
      refine (HVE.out _ _ _ _ HD1.out.2.2.err rfl rfl rfl).mono ?_
      rintro e w2 ⟨rfl, b2⟩
      have HD2 : Hid (Blk w2 ob (bv c) 45 ∧ Fr [] W w2 ∧ Sess W.heap.size w2 [ob, bm] sb bm S2) := ⟨HD1.out.1.fr (Fr.of_below (bs := []) b2) (by simp), HD1.out.2.1.trans (Fr.of_below (bs := []) b2) (by simp), HD1.out.2.2.fr (Fr.of_below b2)⟩
      clear b2 HD1
      go_wp2_with fail
      refine (HVC.out _ _ _ _ HD2.out.2.2.err rfl rfl rfl).mono ?_
      rintro e w3 ⟨rfl, b3⟩
      have HD3 : Hid (Blk w3 ob (bv c) 45 ∧ Fr [] W w3 ∧ Sess W.heap.size w3 [ob, bm] sb bm S2) := ⟨HD2.out.1.fr (Fr.of_below (bs := []) b3) (by simp), HD2.out.2.1.trans (Fr.of_below (bs := []) b3) (by simp), HD2.out.2.2.fr (Fr.of_below b3)⟩
      clear b3 HD2
      have hc2 : w3.cell? ⟨ob, z, none⟩ = some (.bool (c z)) := by rw [HD3.out.1.cell]; exact bv_get c hz7
      have hc3 : w3.frozen? ⟨ob, z, none⟩ = false := HD3.out.1.frozen _
      generalize c z = dz at hc2
      have key : ∀ v : Bool, v = I z → Hid (∃ c'' : Nat → Bool, (∀ u, u < z + 1 → c'' u = I u) ∧ Blk (w3.setCell ⟨ob, z, none⟩ (.bool v)) ob (bv c'') 45 ∧ Fr [] W (w3.setCell ⟨ob, z, none⟩ (.bool v)) ∧ Sess W.heap.size (w3.setCell ⟨ob, z, none⟩ (.bool v)) [ob, bm] sb bm S2) := by
        intro v hv
        have f9 : Fr [ob] w3 (w3.setCell ⟨ob, z, none⟩ (.bool v)) := Fr.setCell (Fr.refl _ _) _ _ (Or.inl (by simp))
        refine ⟨fun j => if j = z then v else c j, fun u hu => ?_, ?_, ?_, ?_⟩
        · dsimp only
          by_cases e : u = z
          · rw [if_pos e, e, hv]
          · rw [if_neg e]; exact HC.out u (by omega)
        · rw [← bv_upd c v hz7]; exact HD3.out.1.set _ _
        · exact HD3.out.2.1.trans f9 (by simp; omega)
        · exact HD3.out.2.2.frs hB f9 (by intro k hk; simp at hk; subst hk; exact ⟨by simp, HD3.out.2.2.ne HD3.out.1⟩)
      by_cases hA : A = 0
      · have hA' : ((A : Int) == 0) = true := by rw [beq_iff_eq]; omega
        by_cases hB2 : E = 0
        · have hE' : ((E : Int) == 0) = true := by rw [beq_iff_eq]; omega
          have hC' : ((C : Int) == 0) = true := by rw [beq_iff_eq]; have := hlaw.1 ⟨hA, hB2⟩; omega
          have KEY := key true (by rw [HIX.out]; simp [hA, hB2])
          clear key
          obtain ⟨c'', k1, k2⟩ := KEY
          have K1 := hidV k1
          have K2 := hidV k2
          clear k1 k2
          go_wp2
          go_roundg (7 - (z + 1))
          case measure => omega
          case rel => exact ⟨z + 1, c'', rfl, by omega, by go_num, K1, K2⟩
        · have hE' : ((E : Int) == 0) = false := by rw [beq_eq_false_iff_ne]; omega
          have hC' : ((C : Int) == 0) = false := by rw [beq_eq_false_iff_ne]; intro q; exact hB2 (hlaw.2 (by omega)).2
          have KEY := key false (by rw [HIX.out]; simp [hA, hB2])
          clear key
          obtain ⟨c'', k1, k2⟩ := KEY
          have K1 := hidV k1
          have K2 := hidV k2
          clear k1 k2
          go_wp2
          go_roundg (7 - (z + 1))
          case measure => omega
          case rel => exact ⟨z + 1, c'', rfl, by omega, by go_num, K1, K2⟩
      · have hA' : ((A : Int) == 0) = false := by rw [beq_eq_false_iff_ne]; omega
        have hC' : ((C : Int) == 0) = false := by rw [beq_eq_false_iff_ne]; intro q; exact hA (hlaw.2 (by omega)).1
        have KEY := key false (by rw [HIX.out]; simp [hA])
        clear key
        obtain ⟨c'', k1, k2⟩ := KEY
        have K1 := hidV k1
        have K2 := hidV k2
        clear k1 k2
        go_wp2
        go_roundg (7 - (z + 1))
        case measure => omega
        case rel => exact ⟨z + 1, c'', rfl, by omega, by go_num, K1, K2⟩
    · have ez : z = 7 := by omega
      subst ez
      have HLI := hidV (klisted_any c)
      rw [lsd_congr 7 HC.out] at HLI
      generalize hYL : lsd I 7 = YL at HLI HRT
      clear hYL
      have hsz := size_bool7 c
      obtain ⟨y, HYY⟩ : ∃ y, Hid (bv c = y) := ⟨_, hidV rfl⟩
      rw [HYY.out] at HLI HD hsz
      go_wp2_with fail
      refine region_class_tail (fun w' => Fr [] wr w') ((Fr.refl [] wr).drew) 6 (by kernel_rfl) (by kernel_rfl) ?_
      simp only [List.take_succ_cons, List.take_zero, List.drop_succ_cons, List.drop_zero]
      refine wpQuiet_mv (by rfl) _ (by rfl) ?_
      go_frame
      refine wpQuiet_mv (by rfl) _ (by rfl) ?_
      go_frame
      refine wpQuiet_calls (by rfl) 17 #[.int .i64 n] (.string (bs [dgt n])) (fun w' => by go_simp) (fun w' hw' => (kdigit_any n _ w' (by rfl) hn).mono (fun e w'' h => ⟨h.1, hw'.trans (Fr.of_below (bs := []) h.2) (by simp)⟩)) ?_
      go_frame
      refine wpQuiet_val (by rfl) (.string (bs LR)) (fun w' => by go_simp) ?_
      go_frame
      refine wpQuiet_ld (by rfl) 45 _ (by rfl) ob (by rfl) y _ (fun w' hw' => HD.out.1.fr hw' (by simp)) Tryz.underlying45 rfl hsz ?_
      go_frame
      refine wpQuiet_calls (by rfl) 23 #[.agg y] (.string (bs YL)) (fun w' => by go_simp) (fun w' hw' => (HLI.out w').mono (fun e w'' h => ⟨h.1, hw'.trans (Fr.of_below (bs := []) h.2) (by simp)⟩)) ?_
      go_frame
      refine wpQuiet_nil ?_
      intro w5 hw5
      have HD5 : Hid (Fr [] W w5 ∧ Sess W.heap.size w5 [ob, bm] sb bm S2) := ⟨HD.out.2.1.trans hw5 (by simp), HD.out.2.2.fr hw5⟩
      clear hw5
      go_wp2_with fail
      refine (HD5.out.2.says hB (bs LR) _ S2 _ (by rw [bs_size]; omega) HOR.out HRT.out rfl).mono ?_
      rintro e w6 ⟨rfl, s6, f6⟩
      have HE : Hid (Fr [] W w6) := HD5.out.1.trans f6 (by simp; exact HD5.out.2.lo)
      clear s6 f6
      go_wp2
      go_ret
      exact ⟨rfl, HE.out.below (Nat.le_refl _) (by simp)⟩
end Go.Proofs.YthlmgpllapccfaaGreatDoor
/- THE PROGRAM's COMMANDS OF SETS. -/
namespace Go.Proofs.YthlmgpllapccfaaGreatDoor
open Go.RowKit

theorem wpQuiet_valC {P : Program} {ops : Array Oper} {C : World → Prop} {Q : Act → Prop} {a : Act} {o : Oper} {rest : List Oper} (hgd : o.guard = none) (v : Value) (hr : ∀ w, C w → (execOp a.eval o).run P w = .ok (.value v) w)
    (h : wpQuiet P ops C Q rest (a.put o.dst v)) : wpQuiet P ops C Q (o :: rest) a :=
  BigFrame.wpQuiet_want (by unfold Region.wanted; rw [hgd]) (fun K hK => ⟨v, fun w hw => by
    unfold Oper.quietAt
    rw [hr w hw]
    exact ⟨rfl, rfl⟩, hK _ h⟩)
theorem yesOrNo_any (y : Bool) (w : World) : Calls Tryz.prog 185 #[.bool y] w fun e w' => e = .returned (.string (bs (yesno y))) ∧ w' = w := by
  cases y <;> (go_enter Tryz.func185, Tryz.ntmps185) <;> go_wp2 <;> go_ret <;> exact ⟨rfl, rfl⟩
set_option maxRecDepth 100000 in
set_option maxHeartbeats 1000000 in
theorem TellDo_set (c : Nat → Bool) (M : Value) (w : World) :
    Calls Tryz.prog 136 #[.agg #[.iface 155 (.agg (bv c))], M] w fun e w' => e = .returned (.string (bs (lsd c 7))) ∧ Below w.heap.size w w' := by
  have HTX := hidV (fun (w' : World) => SetText_any c w')
  go_enter Tryz.func136, Tryz.ntmps136
  go_wp2_with fail
  refine (HTX.out _).mono ?_
  rintro e w1 ⟨rfl, hb1⟩
  go_wp2
  go_ret
  exact ⟨rfl, below_alloc hb1⟩
set_option maxRecDepth 100000 in
set_option maxHeartbeats 1000000 in
theorem SetHas_any (c : Nat → Bool) (n : Nat) (w : World) :
    Calls Tryz.prog 186 #[.agg (bv c), .int .i64 n] w fun e w' => e = .returned (.bool (c (n % 7))) ∧ Below w.heap.size w w' := by
  have hm : n % 7 < 7 := by omega
  have HB : Hid (Blk (w.alloc (.cells (bv c) 155)) w.heap.size (bv c) 155 ∧ Below w.heap.size w (w.alloc (.cells (bv c) 155))) := ⟨Blk.new w _ _, by go_grown⟩
  have HMD : Hid (∀ w', Calls Tryz.prog 48 #[.int .i64 n] w' fun e w'' => e = .returned (.int .i64 ((n % 7 : Nat) : Int)) ∧ w'' = w') := fun w' => by
    have h := Mod_any n w'
    rw [show ((n : Int) % 7) = ((n % 7 : Nat) : Int) by omega] at h
    exact h
  generalize n % 7 = m at *
  go_enter Tryz.func186, Tryz.ntmps186
  go_wp2_with fail
  generalize w.alloc (.cells (bv c) 155) = V at *
  refine (HMD.out _).mono ?_
  rintro e w1 ⟨rfl, rfl⟩
  have k0 : (0 : Int) ≤ (m : Int) := by omega
  have k1 : (m : Int) < 7 := by omega
  have cc : w1.cell? ⟨w.heap.size, m, none⟩ = some (.bool (c m)) := by rw [HB.out.1.cell]; exact bv_get c hm
  go_wp2
  go_ret
  exact ⟨rfl, HB.out.2⟩
theorem sets_eq (a b : Nat → Bool) (w : World) : (Op.equalIn 10000 155 (.agg (bv a)) (.agg (bv b))).run Tryz.prog w = .ok ((List.range 7).all fun j => a j == b j) w := by
  obtain ⟨i, hi⟩ := info_some (P := Tryz.prog) (t := 4) (by kernel_rfl)
  have hc : Tryz.prog.cellsOf 4 = 1 := by kernel_rfl
  have hk : Tryz.prog.plainKey 4 = true := by kernel_rfl
  refine (run_equalIn_array w 9999 (bv a) (bv b) Tryz.underlying155 hi).trans ?_
  rw [hc]
  refine eqItems_all w 9999 4 1 (bv a) (bv b) _ _ ?_
  intro j hj
  rw [List.mem_range] at hj
  refine ⟨_, _, run_part_plain w hk (by rw [Nat.mul_one]; exact bv_get a hj), run_part_plain w hk (by rw [Nat.mul_one]; exact bv_get b hj), ?_⟩
  exact run_equalIn_bool w 9998 4 _ _ Tryz.underlying4
theorem within_eq (c d : Nat → Bool) : ((List.range 7).all fun j => (c j && d j) == c j) = withB c d := by
  unfold withB
  congr 1
  funext j
  cases c j <;> cases d j <;> rfl
set_option maxRecDepth 100000 in
set_option maxHeartbeats 1000000 in
theorem Within_any (c d : Nat → Bool) (w : World) :
    Calls Tryz.prog 188 #[.agg (bv c), .agg (bv d)] w fun e w' => e = .returned (.bool (withB c d)) ∧ Below w.heap.size w w' := by
  have HOF := hidV (fun w' => setOf_any (Tree.both (Tree.set c) (Tree.set d)) w')
  have HEQ := hidV (fun w' => sets_eq (fun i => c i && d i) c w')
  rw [within_eq] at HEQ
  have HSC := hidV (size_bv c)
  have HSD := hidV (size_bv d)
  have HV0 : Hid (Blk ((w.alloc (.cells (bv c) 155)).alloc (.cells (bv d) 155)) w.heap.size (bv c) 155 ∧ Blk ((w.alloc (.cells (bv c) 155)).alloc (.cells (bv d) 155)) (w.heap.size + 1) (bv d) 155 ∧ Fr [] w ((w.alloc (.cells (bv c) 155)).alloc (.cells (bv d) 155))) := ⟨Blk.alloc (Blk.new w _ _) _, Blk.newAt _ _ _ (by simp), ((Fr.refl [] w).alloc _).alloc _⟩
  obtain ⟨X, HX⟩ : ∃ X, Hid (bv (fun i => c i && d i) = X) := ⟨_, hidV rfl⟩
  rw [HX.out] at HOF HEQ
  generalize bv c = y at *
  generalize bv d = z at *
  generalize withB c d = R at *
  go_enter Tryz.func188, Tryz.ntmps188
  go_wp2_with fail
  generalize (w.alloc (.cells y 155)).alloc (.cells z 155) = V at *
  refine region_class_tail (fun w' => Fr [] V w') ((Fr.refl [] V).drew) 9 (by kernel_rfl) (by kernel_rfl) ?_
  simp only [List.take_succ_cons, List.take_zero, List.drop_succ_cons, List.drop_zero]
  refine wpQuiet_ld (by rfl) 155 _ (by rfl) w.heap.size (by rfl) y _ (fun w' hw' => HV0.out.1.fr hw' (by simp)) Tryz.underlying155 rfl HSC.out ?_
  go_frame
  refine wpQuiet_val (by rfl) (.iface 155 (.agg y)) (fun w' => by go_simp) ?_
  go_frame
  refine wpQuiet_ld (by rfl) 155 _ (by rfl) (w.heap.size + 1) (by rfl) z _ (fun w' hw' => HV0.out.2.1.fr hw' (by simp)) Tryz.underlying155 rfl HSD.out ?_
  go_frame
  refine wpQuiet_val (by rfl) (.iface 155 (.agg z)) (fun w' => by go_simp) ?_
  go_frame
  refine wpQuiet_val (by rfl) (.agg #[.iface 155 (.agg y), .iface 155 (.agg z)]) (fun w' => by go_simp) ?_
  go_frame
  refine wpQuiet_val (by rfl) (.iface 211 (.agg #[.iface 155 (.agg y), .iface 155 (.agg z)])) (fun w' => by go_simp) ?_
  go_frame
  refine wpQuiet_calls (by rfl) 177 #[.iface 211 (.agg #[.iface 155 (.agg y), .iface 155 (.agg z)])] (.agg X) (fun w' => by go_simp) (fun w' hw' => (HOF.out w').mono (fun e w'' h => ⟨h.1, hw'.trans (Fr.of_below (bs := []) h.2) (by simp)⟩)) ?_
  go_frame
  refine wpQuiet_ld (by rfl) 155 _ (by rfl) w.heap.size (by rfl) y _ (fun w' hw' => HV0.out.1.fr hw' (by simp)) Tryz.underlying155 rfl HSC.out ?_
  go_frame
  refine wpQuiet_val (by rfl) (.bool R) (fun w' => by have he := HEQ.out w'
                                                      go_simp) ?_
  go_frame
  refine wpQuiet_nil ?_
  intro w5 hw5
  have HF : Hid (Fr [] w w5) := HV0.out.2.2.trans hw5 (by simp)
  clear hw5
  go_wp2
  go_ret
  exact ⟨rfl, HF.out.below (Nat.le_refl _) (by simp)⟩
set_option maxRecDepth 100000 in
set_option maxHeartbeats 1000000 in
theorem HasDo_any (c : Nat → Bool) (n : Nat) (M : Value) (w : World) :
    Calls Tryz.prog 184 #[.agg #[.bool (c 0), .bool (c 1), .bool (c 2), .bool (c 3), .bool (c 4), .bool (c 5), .bool (c 6), .int .i64 n], M] w fun e w' => e = .returned (.string (bs (yesno (c (n % 7))))) ∧ Below w.heap.size w w' := by
  have HSH := hidV (fun w' => SetHas_any c n w')
  rw [bv_lit c] at HSH
  go_enter Tryz.func184, Tryz.ntmps184
  go_wp2_with fail
  refine (HSH.out _).mono ?_
  rintro e w1 ⟨rfl, hb1⟩
  have HB1 := hidV hb1
  clear hb1
  go_wp2_with fail
  refine (yesOrNo_any _ _).mono ?_
  rintro e w2 ⟨rfl, rfl⟩
  go_wp2
  go_ret
  exact ⟨rfl, below_alloc HB1.out⟩
set_option maxRecDepth 100000 in
set_option maxHeartbeats 1000000 in
theorem WithinDo_any (c d : Nat → Bool) (M : Value) (w : World) :
    Calls Tryz.prog 187 #[.agg #[.bool (c 0), .bool (c 1), .bool (c 2), .bool (c 3), .bool (c 4), .bool (c 5), .bool (c 6), .bool (d 0), .bool (d 1), .bool (d 2), .bool (d 3), .bool (d 4), .bool (d 5), .bool (d 6)], M] w fun e w' => e = .returned (.string (bs (yesno (withB c d)))) ∧ Below w.heap.size w w' := by
  have HSH := hidV (fun w' => Within_any c d w')
  rw [bv_lit c, bv_lit d] at HSH
  go_enter Tryz.func187, Tryz.ntmps187
  go_wp2_with fail
  refine (HSH.out _).mono ?_
  rintro e w1 ⟨rfl, hb1⟩
  have HB1 := hidV hb1
  clear hb1
  go_wp2_with fail
  refine (yesOrNo_any _ _).mono ?_
  rintro e w2 ⟨rfl, rfl⟩
  go_wp2
  go_ret
  exact ⟨rfl, below_alloc HB1.out⟩
set_option maxRecDepth 100000 in
set_option maxHeartbeats 1000000 in
theorem CollectDo_any (bm n : Nat) (Ms : List Nat) (st : Nat → Mng) (b : Nat → Bool) (tr : Value) (C : Int) (w : World) (hn : n < 26) (hC : C = ((n + 65 : Nat) : Int)) (hm : Nm w Ms bm st) (htr : Tree tr b) :
    Calls Tryz.prog 176 #[.agg #[.int .u8 C, tr], .map (some bm)] w fun e w' => e = .returned (.string ⟨#[]⟩) ∧ Nm w' Ms bm (upd st n (.set b)) ∧ Fr [bm] w w' := by
  have HOF := hidV (setOf_any htr)
  obtain ⟨T, x, hx⟩ := htr.form
  subst hx
  have HM := hidV hm
  have HG := hidV (fun w' h => GiveDo_any bm n Ms st (.set b) 155 (.agg (bv b)) C w' hn hC h rfl)
  clear htr hm
  generalize bv b = y at *
  have HV0 : Hid (Blk (w.alloc (.cells #[.int .u8 C, .iface T x] 154)) w.heap.size #[.int .u8 C, .iface T x] 154 ∧ Fr [] w (w.alloc (.cells #[.int .u8 C, .iface T x] 154))) := ⟨Blk.new w _ _, (Fr.refl [] w).alloc _⟩
  have HCC := hidV hC
  clear hC
  go_enter Tryz.func176, Tryz.ntmps176
  go_wp2_with fail
  generalize w.alloc (.cells #[.int .u8 C, .iface T x] 154) = V at *
  refine region_class_tail (fun w' => Fr [] V w') ((Fr.refl [] V).drew) 8 (by kernel_rfl) (by kernel_rfl) ?_
  simp only [List.take_succ_cons, List.take_zero, List.drop_succ_cons, List.drop_zero]
  refine wpQuiet_val (by rfl) (.pointer (some ⟨w.heap.size, 0, none⟩)) (fun w' => by go_simp) ?_
  go_frame
  refine wpQuiet_valC (by rfl) (.int .u8 C) (fun w' hw' => by have c : w'.cell? ⟨w.heap.size, 0, none⟩ = some (.int .u8 C) := (HV0.out.1.fr hw' (by simp)).cell 0
                                                              go_simp) ?_
  go_frame
  refine wpQuiet_val (by rfl) (.pointer (some ⟨w.heap.size, 1, none⟩)) (fun w' => by go_simp) ?_
  go_frame
  refine wpQuiet_valC (by rfl) (.iface T x) (fun w' hw' => by have c : w'.cell? ⟨w.heap.size, 1, none⟩ = some (.iface T x) := (HV0.out.1.fr hw' (by simp)).cell 1
                                                              go_simp) ?_
  go_frame
  refine wpQuiet_calls (by rfl) 177 #[.iface T x] (.agg y) (fun w' => by go_simp) (fun w' hw' => (HOF.out w').mono (fun e w'' h => ⟨h.1, hw'.trans (Fr.of_below (bs := []) h.2) (by simp)⟩)) ?_
  go_frame
  refine wpQuiet_val (by rfl) (.iface 155 (.agg y)) (fun w' => by go_simp) ?_
  go_frame
  refine wpQuiet_val (by rfl) (.agg #[.int .u8 C, .iface 155 (.agg y)]) (fun w' => by go_simp) ?_
  go_frame
  refine wpQuiet_mv (by rfl) _ (by rfl) ?_
  go_frame
  refine wpQuiet_nil ?_
  intro w5 hw5
  have HF : Hid (Fr [] w w5) := HV0.out.2.trans hw5 (by simp)
  clear hw5
  go_wp2_with fail
  refine (HG.out _ (HM.out.fr HF.out (by simp) (by simp))).mono ?_
  rintro e w6 ⟨rfl, hn6, hf6⟩
  have HI6 : Hid (Nm w6 Ms bm (upd st n (.set b)) ∧ Fr [bm] w w6) := ⟨hn6, (HF.out.mono (by simp)).trans hf6 (by simp)⟩
  clear hn6 hf6
  go_wp2
  go_ret
  exact ⟨rfl, HI6.out.1, HI6.out.2⟩
end Go.Proofs.YthlmgpllapccfaaGreatDoor
/- THE PROGRAM: a session's Do, any line. -/
namespace Go.Proofs.YthlmgpllapccfaaGreatDoor
open Go.RowKit

theorem nilAhead_CHas (fuel : Nat) (v : Value) (w : World) : (nilAhead (fuel + 1) 158 v "Do").run Tryz.prog w = .ok (some false) w := by kernel_rfl
theorem nilAhead_CWithin (fuel : Nat) (v : Value) (w : World) : (nilAhead (fuel + 1) 160 v "Do").run Tryz.prog w = .ok (some false) w := by kernel_rfl
theorem nilAhead_Collect (fuel : Nat) (v : Value) (w : World) : (nilAhead (fuel + 1) 154 v "Do").run Tryz.prog w = .ok (some false) w := by kernel_rfl
theorem stS_ok {f : Nat → Tok} {N : Nat} {st : Nat → Mng} {s : WS} (h : (stS f N st s).e = 0) : s.e = 0 := by
  unfold stS at h
  split at h
  · rename_i q; exact absurd h q
  · rename_i q; omega
set_option maxRecDepth 100000 in
set_option maxHeartbeats 1000000 in
theorem pDo_show (s : ByteArray) (b bm : Nat) (Ms : List Nat) (st : Nat → Mng) (w : World) (hP : Ps w Ms b bm st) (hg : ErrT w) (hl : ¬ 90 < s.size) (hsm : sml s (w0 s) = true) (hw : wd s = [115, 104, 111, 119]) :
    Calls Tryz.prog 16 #[.pointer (some ⟨b, 0, none⟩), .string s] w (DoPost w Ms bm (ans (enS (lf s) (nmS (lf s) (okSt st) ws1)) (lsd (st (nm1 (lf s))).bit 7) st st)) := by
  have hlt := hP.nm.lt
  have HL := hidV (LineRead_short s bm w (lf s) (nmS (lf s) (okSt st) ws1) (fun v _ => ∃ c, st ((lf s 1).c - 69) = .set c ∧ v = .iface 144 (.agg #[.iface 155 (.agg (bv c))])) hg hl (strLf s)
    (fun w' h1 h2 h3 => rline_show s w.heap.size bm (mw w.heap.size Ms) st w' (by omega) h1 (hP.nm.mw.fr h2 (by simp) (by simp)) (by omega) (by simp [mw]) hsm hw)
    (fun v w' h => by obtain ⟨c, _, rfl⟩ := h; exact ⟨_, _, rfl⟩)
    (fun v w1 w2 h _ => h))
  have c0 : w.cell? ⟨b, 0, none⟩ = some (.map (some bm)) := hP.blk.cell 0
  have HN := hidV hP.nm
  have HB := hidV hP.blk
  have HT : Hid (∀ c, st ((lf s 1).c - 69) = .set c → lsd (st (nm1 (lf s))).bit 7 = lsd c 7) := fun c h => by unfold nm1; rw [h]; rfl
  clear hP hg hw
  unfold ans
  obtain ⟨E, HE⟩ : ∃ E, Hid (enS (lf s) (nmS (lf s) (okSt st) ws1) = E) := ⟨_, hidV rfl⟩
  rw [HE.out] at HL ⊢
  by_cases he : E.e = 0
  · rw [if_neg (by omega)]
    obtain ⟨TX, HTX⟩ : ∃ TX, Hid (lsd (st (nm1 (lf s))).bit 7 = TX) := ⟨_, hidV rfl⟩
    rw [HTX.out] at HT ⊢
    have HE0 := hidV he
    clear he
    go_enter Tryz.func16, Tryz.ntmps16
    go_wp2_with fail
    refine HL.out.mono ?_
    rintro x w1 (⟨_, v, rfl, ⟨c, hst, rfl⟩, hf1⟩ | ⟨h, _⟩)
    · have HTT := hidV (HT.out c hst)
      have c1 : w1.cell? ⟨b, 0, none⟩ = some (.map (some bm)) := (HB.out.fr hf1 (by simp)).cell 0
      have HF1 := hidV hf1
      have HC := hidV (fun (nr : Nat) => TellDo_set c (.map (some bm)) (w1.drewN nr))
      clear hf1 hst
      have hna := nilAhead_Tell
      go_wp2
      refine region_quiet_tail 8 (by kernel_rfl) (by kernel_rfl) ?_
      simp only [List.take_succ_cons, List.take_zero, List.drop_succ_cons, List.drop_zero]
      repeat (first | go_big_quiet_step ((fail)) | quiet_step ((fail)))
      refine wpQuiet_nil ?_
      rintro _ ⟨nr, rfl⟩
      go_wp2_with fail
      refine (HC.out nr).mono ?_
      rintro x w2 ⟨rfl, hb2⟩
      have HF2 : Hid (Fr [] w w2) := (HF1.out.drewN nr).trans (Fr.of_below (bs := []) hb2) (by simp)
      clear hb2
      go_wp2
      go_ret3
      refine ⟨by rw [HTT.out]; rfl, HN.out.fr HF2.out (by simp) (by simp), HF2.out.mono (by simp)⟩
    · exact absurd HE0.out h
  · rw [if_pos he]
    refine (pDo_bad s b bm E.e E.bad w HB.out he (HL.out.mono ?_)).mono ?_
    · rintro x w1 (⟨h, _⟩ | ⟨_, rfl, hf⟩)
      · exact absurd h he
      · exact ⟨rfl, hf⟩
    · rintro x w1 ⟨rfl, hf⟩
      exact ⟨rfl, HN.out.fr hf (by simp) (by simp), hf.mono (by simp)⟩

set_option maxRecDepth 100000 in
set_option maxHeartbeats 1000000 in
theorem pDo_has (s : ByteArray) (b bm : Nat) (Ms : List Nat) (st : Nat → Mng) (w : World) (hP : Ps w Ms b bm st) (hg : ErrT w) (hl : ¬ 90 < s.size) (hsm : sml s (w0 s) = true) (hw : wd s = [104, 97, 115]) :
    Calls Tryz.prog 16 #[.pointer (some ⟨b, 0, none⟩), .string s] w (DoPost w Ms bm (ans (enS (lf s) (ctS (lf s) (nmS (lf s) (okSt st) ws1))) (yesno ((st (nm1 (lf s))).bit ((lf s 2).v % 7))) st st)) := by
  have hlt := hP.nm.lt
  have HL := hidV (LineRead_short s bm w (lf s) (ctS (lf s) (nmS (lf s) (okSt st) ws1)) (fun v _ => ∃ c, st ((lf s 1).c - 69) = .set c ∧ v = .iface 158 (.agg #[.bool (c 0), .bool (c 1), .bool (c 2), .bool (c 3), .bool (c 4), .bool (c 5), .bool (c 6), .int .i64 (lf s 2).v])) hg hl (strLf s)
    (fun w' h1 h2 h3 => rline_has s w.heap.size bm (mw w.heap.size Ms) st w' (by omega) h1 (hP.nm.mw.fr h2 (by simp) (by simp)) (by omega) (by simp [mw]) hsm hw)
    (fun v w' h => by obtain ⟨c, _, rfl⟩ := h; exact ⟨_, _, rfl⟩)
    (fun v w1 w2 h _ => h))
  have c0 : w.cell? ⟨b, 0, none⟩ = some (.map (some bm)) := hP.blk.cell 0
  have HN := hidV hP.nm
  have HB := hidV hP.blk
  have HT : Hid (∀ c, st ((lf s 1).c - 69) = .set c → yesno ((st (nm1 (lf s))).bit ((lf s 2).v % 7)) = yesno (c ((lf s 2).v % 7))) := fun c h => by unfold nm1; rw [h]; rfl
  clear hP hg hw
  unfold ans
  obtain ⟨E, HE⟩ : ∃ E, Hid (enS (lf s) (ctS (lf s) (nmS (lf s) (okSt st) ws1)) = E) := ⟨_, hidV rfl⟩
  rw [HE.out] at HL ⊢
  by_cases he : E.e = 0
  · rw [if_neg (by omega)]
    obtain ⟨TX, HTX⟩ : ∃ TX, Hid (yesno ((st (nm1 (lf s))).bit ((lf s 2).v % 7)) = TX) := ⟨_, hidV rfl⟩
    rw [HTX.out] at HT ⊢
    have HE0 := hidV he
    clear he
    go_enter Tryz.func16, Tryz.ntmps16
    go_wp2_with fail
    refine HL.out.mono ?_
    rintro x w1 (⟨_, v, rfl, ⟨c, hst, rfl⟩, hf1⟩ | ⟨h, _⟩)
    · have HTT := hidV (HT.out c hst)
      have c1 : w1.cell? ⟨b, 0, none⟩ = some (.map (some bm)) := (HB.out.fr hf1 (by simp)).cell 0
      have HF1 := hidV hf1
      have HC := hidV (fun (nr : Nat) => HasDo_any c (lf s 2).v (.map (some bm)) (w1.drewN nr))
      clear hf1 hst
      have hna := nilAhead_CHas
      go_wp2
      refine region_quiet_tail 8 (by kernel_rfl) (by kernel_rfl) ?_
      simp only [List.take_succ_cons, List.take_zero, List.drop_succ_cons, List.drop_zero]
      repeat (first | go_big_quiet_step ((fail)) | quiet_step ((fail)))
      refine wpQuiet_nil ?_
      rintro _ ⟨nr, rfl⟩
      go_wp2_with fail
      refine (HC.out nr).mono ?_
      rintro x w2 ⟨rfl, hb2⟩
      have HF2 : Hid (Fr [] w w2) := (HF1.out.drewN nr).trans (Fr.of_below (bs := []) hb2) (by simp)
      clear hb2
      go_wp2
      go_ret3
      refine ⟨by rw [HTT.out]; rfl, HN.out.fr HF2.out (by simp) (by simp), HF2.out.mono (by simp)⟩
    · exact absurd HE0.out h
  · rw [if_pos he]
    refine (pDo_bad s b bm E.e E.bad w HB.out he (HL.out.mono ?_)).mono ?_
    · rintro x w1 (⟨h, _⟩ | ⟨_, rfl, hf⟩)
      · exact absurd h he
      · exact ⟨rfl, hf⟩
    · rintro x w1 ⟨rfl, hf⟩
      exact ⟨rfl, HN.out.fr hf (by simp) (by simp), hf.mono (by simp)⟩

set_option maxRecDepth 100000 in
set_option maxHeartbeats 1000000 in
theorem pDo_sub (s : ByteArray) (b bm : Nat) (Ms : List Nat) (st : Nat → Mng) (w : World) (hP : Ps w Ms b bm st) (hg : ErrT w) (hl : ¬ 90 < s.size) (hsm : sml s (w0 s) = true) (hw : wd s = [115, 117, 98]) :
    Calls Tryz.prog 16 #[.pointer (some ⟨b, 0, none⟩), .string s] w (DoPost w Ms bm (ans (enS (lf s) (nmS (lf s) (okSt st) (nmS (lf s) (okSt st) ws1))) (yesno (withB (st (nm1 (lf s))).bit (st (nm2 (lf s))).bit)) st st)) := by
  have hlt := hP.nm.lt
  have HL := hidV (LineRead_short s bm w (lf s) (nmS (lf s) (okSt st) (nmS (lf s) (okSt st) ws1)) (fun v _ => ∃ c d, st ((lf s 1).c - 69) = .set c ∧ st ((lf s 2).c - 69) = .set d ∧ v = .iface 160 (.agg #[.bool (c 0), .bool (c 1), .bool (c 2), .bool (c 3), .bool (c 4), .bool (c 5), .bool (c 6), .bool (d 0), .bool (d 1), .bool (d 2), .bool (d 3), .bool (d 4), .bool (d 5), .bool (d 6)])) hg hl (strLf s)
    (fun w' h1 h2 h3 => rline_sub s w.heap.size bm (mw w.heap.size Ms) st w' (by omega) h1 (hP.nm.mw.fr h2 (by simp) (by simp)) (by omega) (by simp [mw]) hsm hw)
    (fun v w' h => by obtain ⟨c, d, _, _, rfl⟩ := h; exact ⟨_, _, rfl⟩)
    (fun v w1 w2 h _ => h))
  have c0 : w.cell? ⟨b, 0, none⟩ = some (.map (some bm)) := hP.blk.cell 0
  have HN := hidV hP.nm
  have HB := hidV hP.blk
  have HT : Hid (∀ c d, st ((lf s 1).c - 69) = .set c → st ((lf s 2).c - 69) = .set d → yesno (withB (st (nm1 (lf s))).bit (st (nm2 (lf s))).bit) = yesno (withB c d)) := fun c d h g => by unfold nm1 nm2; rw [h, g]; rfl
  clear hP hg hw
  unfold ans
  obtain ⟨E, HE⟩ : ∃ E, Hid (enS (lf s) (nmS (lf s) (okSt st) (nmS (lf s) (okSt st) ws1)) = E) := ⟨_, hidV rfl⟩
  rw [HE.out] at HL ⊢
  by_cases he : E.e = 0
  · rw [if_neg (by omega)]
    obtain ⟨TX, HTX⟩ : ∃ TX, Hid (yesno (withB (st (nm1 (lf s))).bit (st (nm2 (lf s))).bit) = TX) := ⟨_, hidV rfl⟩
    rw [HTX.out] at HT ⊢
    have HE0 := hidV he
    clear he
    go_enter Tryz.func16, Tryz.ntmps16
    go_wp2_with fail
    refine HL.out.mono ?_
    rintro x w1 (⟨_, v, rfl, ⟨c, d, hst, hst2, rfl⟩, hf1⟩ | ⟨h, _⟩)
    · have HTT := hidV (HT.out c d hst hst2)
      have c1 : w1.cell? ⟨b, 0, none⟩ = some (.map (some bm)) := (HB.out.fr hf1 (by simp)).cell 0
      have HF1 := hidV hf1
      have HC := hidV (fun (nr : Nat) => WithinDo_any c d (.map (some bm)) (w1.drewN nr))
      clear hf1 hst hst2
      have hna := nilAhead_CWithin
      go_wp2
      refine region_quiet_tail 8 (by kernel_rfl) (by kernel_rfl) ?_
      simp only [List.take_succ_cons, List.take_zero, List.drop_succ_cons, List.drop_zero]
      repeat (first | go_big_quiet_step ((fail)) | quiet_step ((fail)))
      refine wpQuiet_nil ?_
      rintro _ ⟨nr, rfl⟩
      go_wp2_with fail
      refine (HC.out nr).mono ?_
      rintro x w2 ⟨rfl, hb2⟩
      have HF2 : Hid (Fr [] w w2) := (HF1.out.drewN nr).trans (Fr.of_below (bs := []) hb2) (by simp)
      clear hb2
      go_wp2
      go_ret3
      refine ⟨by rw [HTT.out]; rfl, HN.out.fr HF2.out (by simp) (by simp), HF2.out.mono (by simp)⟩
    · exact absurd HE0.out h
  · rw [if_pos he]
    refine (pDo_bad s b bm E.e E.bad w HB.out he (HL.out.mono ?_)).mono ?_
    · rintro x w1 (⟨h, _⟩ | ⟨_, rfl, hf⟩)
      · exact absurd h he
      · exact ⟨rfl, hf⟩
    · rintro x w1 ⟨rfl, hf⟩
      exact ⟨rfl, HN.out.fr hf (by simp) (by simp), hf.mono (by simp)⟩

set_option maxRecDepth 100000 in
set_option maxHeartbeats 1000000 in
theorem pDo_set (s : ByteArray) (b bm : Nat) (Ms : List Nat) (st : Nat → Mng) (w : World) (hP : Ps w Ms b bm st) (hg : ErrT w) (hl : ¬ 90 < s.size) (hsm : sml s (w0 s) = true) (hw : wd s = [115, 101, 116]) :
    Calls Tryz.prog 16 #[.pointer (some ⟨b, 0, none⟩), .string s] w (DoPost w Ms bm (ans (setS st (lf s) s.size) [] (upd st (nm1 (lf s)) (.set (stR (lf s) s.size st 6 3).b)) st)) := by
  have hlt := hP.nm.lt
  have HL := hidV (LineRead_short s bm w (lf s) (stS (lf s) s.size st (wtS (lf s) 65 (nmS (lf s) (ok0 st) ws1))) (fun v _ => ∃ tr, v = .iface 154 (.agg #[.int .u8 ((lf s 1).c - 4 : Nat), tr]) ∧ Tree tr (stR (lf s) s.size st 6 3).b) hg hl (strLf s)
    (fun w' h1 h2 h3 => rline_set s w.heap.size bm (mw w.heap.size Ms) st w' (by omega) h1 (hP.nm.mw.fr h2 (by simp) (by simp)) (by omega) (by simp [mw]) hsm hw)
    (fun v w' h => by obtain ⟨tr, rfl, _⟩ := h; exact ⟨_, _, rfl⟩)
    (fun v w1 w2 h _ => h))
  have c0 : w.cell? ⟨b, 0, none⟩ = some (.map (some bm)) := hP.blk.cell 0
  have HN := hidV hP.nm
  have HB := hidV hP.blk
  have HMW := hidV hP.nm.mw
  have HNM : Hid ((setS st (lf s) s.size).e = 0 → (lf s 1).c - 69 < 26 ∧ (((lf s 1).c - 4 : Nat) : Int) = (((lf s 1).c - 69 + 65 : Nat) : Int)) := fun h => by
    obtain ⟨_, h6, _⟩ := nmS_ok (wtS_ok (stS_ok (enS_ok h))).1
    have h7 := (isN_iff _).1 h6
    have e1 : (ws1 : WS).k = 1 := rfl
    rw [e1] at h7
    omega
  clear hP hg hw
  unfold ans
  unfold nm1
  obtain ⟨E, HE⟩ : ∃ E, Hid (setS st (lf s) s.size = E) := ⟨_, hidV rfl⟩
  unfold setS at HE HNM ⊢
  rw [HE.out] at HL HNM ⊢
  by_cases he : E.e = 0
  · rw [if_neg (by omega)]
    have HE0 := hidV he
    clear he
    obtain ⟨PS, HPS⟩ : ∃ PS, Hid ((stR (lf s) s.size st 6 3).b = PS) := ⟨_, hidV rfl⟩
    rw [HPS.out] at HL ⊢
    go_enter Tryz.func16, Tryz.ntmps16
    go_wp2_with fail
    refine HL.out.mono ?_
    rintro x w1 (⟨_, v, rfl, ⟨tr, rfl, hu⟩, hf1⟩ | ⟨h, _⟩)
    · have c1 : w1.cell? ⟨b, 0, none⟩ = some (.map (some bm)) := (HB.out.fr hf1 (by simp)).cell 0
      have HF1 := hidV hf1
      have HC := hidV (fun (nr : Nat) => CollectDo_any bm ((lf s 1).c - 69) (mw w.heap.size Ms) st PS tr (((lf s 1).c - 4 : Nat) : Int) (w1.drewN nr) (HNM.out HE0.out).1 (HNM.out HE0.out).2 (HMW.out.fr (hf1.drewN nr) (by simp) (by simp)) hu)
      clear hf1 hu
      have hna := nilAhead_Collect
      go_wp2
      refine region_quiet_tail 8 (by kernel_rfl) (by kernel_rfl) ?_
      simp only [List.take_succ_cons, List.take_zero, List.drop_succ_cons, List.drop_zero]
      repeat (first | go_big_quiet_step ((fail)) | quiet_step ((fail)))
      refine wpQuiet_nil ?_
      rintro _ ⟨nr, rfl⟩
      go_wp2_with fail
      refine (HC.out nr).mono ?_
      rintro x w2 ⟨rfl, hn2, hf2⟩
      have HN2 := hidV (hn2.less (Ms := Ms) (by intro x hx; simp [mw, hx]) HN.out.mem)
      have HF2 : Hid (Fr [bm] w w2) := ((HF1.out.drewN nr).mono (by simp)).trans hf2 (by simp)
      clear hn2 hf2
      go_wp2
      go_ret3
      exact ⟨rfl, HN2.out, HF2.out⟩
    · exact absurd HE0.out h
  · rw [if_pos he]
    refine (pDo_bad s b bm E.e E.bad w HB.out he (HL.out.mono ?_)).mono ?_
    · rintro x w1 (⟨h, _⟩ | ⟨_, rfl, hf⟩)
      · exact absurd h he
      · exact ⟨rfl, hf⟩
    · rintro x w1 ⟨rfl, hf⟩
      exact ⟨rfl, HN.out.fr hf (by simp) (by simp), hf.mono (by simp)⟩
/-- DO. -/
theorem pDo_all (s : ByteArray) (b bm : Nat) (Ms : List Nat) (st : Nat → Mng) (w : World) (hP : Ps w Ms b bm st) (hM : ∀ x ∈ Ms, x < w.heap.size) (hg : ErrT w) (hm : s.size ≤ 1000000000000000) :
    Calls Tryz.prog 16 #[.pointer (some ⟨b, 0, none⟩), .string s] w (DoPost w Ms bm (lnA st s)) := by
  unfold lnA
  by_cases hl : 90 < s.size
  · rw [if_pos hl]; exact pDo_far s b bm Ms st w hP hg hl hm
  · rw [if_neg hl]
    cases hsm : sml s (w0 s) with
    | false =>
      have hw := wd_none hsm
      rw [if_pos rfl]
      exact pDo_other s b bm Ms st w hP hg hl (by rw [hw]; simp) (by rw [hw]; simp) (by rw [hw]; simp) (by rw [hw]; simp) (by rw [hw]; simp) (by rw [hw]; simp) (by rw [hw]; simp) (by rw [hw]; simp) (by rw [hw]; simp)
    | true =>
      rw [if_neg (by simp)]
      by_cases c1 : wd s = [115, 101, 116]
      · rw [if_pos c1]; exact pDo_set s b bm Ms st w hP hg hl hsm c1
      · rw [if_neg c1]
        by_cases c2 : wd s = [115, 104, 111, 119]
        · rw [if_pos c2]; exact pDo_show s b bm Ms st w hP hg hl hsm c2
        · rw [if_neg c2]
          by_cases c3 : wd s = [104, 97, 115]
          · rw [if_pos c3]; exact pDo_has s b bm Ms st w hP hg hl hsm c3
          · rw [if_neg c3]
            by_cases c4 : wd s = [115, 117, 98]
            · rw [if_pos c4]; exact pDo_sub s b bm Ms st w hP hg hl hsm c4
            · rw [if_neg c4]; exact pDo_any s b bm Ms st w hP hM hg (by omega) c1 c2 c3 c4
end Go.Proofs.YthlmgpllapccfaaGreatDoor
