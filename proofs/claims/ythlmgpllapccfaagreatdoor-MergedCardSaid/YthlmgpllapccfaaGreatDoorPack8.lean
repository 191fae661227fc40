import Derived.Test.YthlmgpllapccfaaGreatDoorPack7
import Derived.Deep.Cut
/- THE DOCUMENT's ANSWER: let; Do whole. -/
namespace Go.Proofs.YthlmgpllapccfaaGreatDoor
open Go.RowKit

theorem mcl_one (m : Mng) (v : Value) (hv : v.oneCell' = true) : (mcl m v).toArray.all (·.oneCell') = true := all_oneCell_toArray (fun u hu => by
  simp only [mcl, List.mem_cons, List.not_mem_nil, or_false] at hu
  rcases hu with rfl | rfl | rfl | rfl | rfl | rfl | rfl | rfl | rfl <;> first | rfl | exact hv)
theorem mcl_size (m : Mng) (v : Value) : (Tryz.prog.info? 81).map (·.size) = some (mcl m v).toArray.size := by kernel_rfl
theorem mcl_len (m : Mng) (v : Value) : (mcl m v).length = 9 := rfl
theorem Dk.store {w : World} {M : List Nat} {b : Nat} {st : Nat → Mng} (h : Dk w M b st) {n : Nat} (hn : n < 26) (m : Mng) (v : Value) (hv : SV w M m v) : Dk (w.setCells b (n * 9) (mcl m v)) M b (upd st n m) := by
  have hf : Fr [b] w (w.setCells b (n * 9) (mcl m v)) := Fr.setCells (Fr.refl _ _) _ _ _ (Or.inl (by simp))
  obtain ⟨⟨cs, h1, h2, h3⟩, hm⟩ := h
  have hs : ∀ x ∈ [b], x ∈ M ∨ w.heap.size ≤ x := fun x hx => by simp at hx; rw [hx]; exact Or.inl hm
  obtain ⟨ds, k1, k2, k3⟩ := Blk.over b 84 (mcl m v) (n * 9) w cs h1
  refine ⟨⟨ds, k1, by omega, fun i hi => ?_⟩, hm⟩
  by_cases hin : i = n
  · subst hin
    refine ⟨v, ?_, ?_, ?_, fun j hj => ?_⟩
    · unfold upd; rw [if_pos rfl]; exact hv.fr hf hs
    · rw [k3 _ (by omega), if_pos (by rw [mcl_len]; omega), Nat.sub_self]; unfold upd; rw [if_pos rfl]; rfl
    · rw [k3 _ (by omega), if_pos (by rw [mcl_len]; omega), show i * 9 + 1 - i * 9 = 1 by omega]; rfl
    · rw [k3 _ (by omega), if_pos (by rw [mcl_len]; omega), show i * 9 + 2 + j - i * 9 = 2 + j by omega]
      unfold upd; rw [if_pos rfl]
      match j, hj with
      | 0, _ => rfl
      | 1, _ => rfl
      | 2, _ => rfl
      | 3, _ => rfl
      | 4, _ => rfl
      | 5, _ => rfl
      | 6, _ => rfl
  · obtain ⟨u, q1, q2, q3, q4⟩ := h3 i hi
    have hu : upd st n m i = st i := by unfold upd; rw [if_neg hin]
    rw [hu]
    refine ⟨u, q1.fr hf hs, ?_, ?_, fun j hj => ?_⟩
    · rw [k3 _ (by omega), if_neg (by rw [mcl_len]; omega)]; exact q2
    · rw [k3 _ (by omega), if_neg (by rw [mcl_len]; omega)]; exact q3
    · rw [k3 _ (by omega), if_neg (by rw [mcl_len]; omega)]; exact q4 j hj

theorem Dk.there {w : World} {M : List Nat} {b : Nat} {st : Nat → Mng} (h : Dk w M b st) {n : Nat} (hn : n < 26) : w.there b (n * 9) 9 := by
  obtain ⟨⟨cs, h1, h2, h3⟩, _⟩ := h
  intro j hj
  rw [h1.cell, h1.frozen]
  exact ⟨by simp; omega, rfl⟩
theorem wtS_ok {f : Nat → Tok} {c : Nat} {s : WS} (h : (wtS f c s).e = 0) : s.e = 0 ∧ (wtS f c s).k = s.k + 1 := by
  unfold wtS at *
  by_cases h0 : s.e ≠ 0
  · rw [if_pos h0] at h; exact absurd h h0
  · rw [if_neg h0] at h ⊢
    by_cases h1 : (f s.k).c = c
    · rw [if_pos h1]; exact ⟨by omega, rfl⟩
    · rw [if_neg h1] at h; simp at h
theorem sysS_ok {f : Nat → Tok} {N : Nat} {s : WS} (h : (sysS f N s).e = 0) : s.e = 0 := by
  unfold sysS at h
  by_cases h0 : s.e ≠ 0
  · rw [if_pos h0] at h; exact absurd h h0
  · omega

set_option maxRecDepth 100000 in
set_option maxHeartbeats 2000000 in
theorem rDo_let (M : List Nat) (bd : Nat) (st : Nat → Mng) (s : ByteArray) (w : World) (hd : Dk w M bd st) (hM : ∀ x ∈ M, x < w.heap.size) (hl : ¬ 90 < s.size) (hsm1 : sml s (w0 s) = true) (n4 : wd s = [108, 101, 116]) :
    Calls Tryz.prog 30 #[.pointer (some ⟨bd, 0, none⟩), .string s] w fun e w' => e = .returned (.tuple #[.string (bs (lnR st s).t), .int .i64 (lnR st s).e, .int .i64 (lnR st s).bad]) ∧ Dk w' M bd (lnR st s).st ∧ Fr [bd] w w' := by
    have HD := hidV hd
    have hbdw := hd.lt
    clear hd
    have hl' : ¬ (90 : Int) < ((s.size : Nat) : Int) := by omega
    have HSM := hidV hsm1
    have HLN : Hid (lnR st s = ans (letS st (lf s) s.size) [] (upd st (nm1 (lf s)) (.sys (syR (lf s) s.size 4 3).ps)) st) := by
      unfold Hid lnR; rw [if_neg hl, if_neg (by rw [hsm1]; decide), if_pos n4]
    have HS0 : Hid (s.extract (w0 s) (w1 s) = ⟨#[108, 101, 116]⟩) := byt_of n4
    obtain ⟨R, HR⟩ : ∃ R, Hid (lnR st s = R) := ⟨_, hidV rfl⟩
    rw [HR.out] at HLN ⊢
    obtain ⟨nn, HNN⟩ : ∃ nn, Hid (nm1 (lf s) = nn) := ⟨_, hidV rfl⟩
    obtain ⟨ps, HPS⟩ : ∃ ps, Hid ((syR (lf s) s.size 4 3).ps = ps) := ⟨_, hidV rfl⟩
    rw [HNN.out, HPS.out] at HLN
    clear n4 hsm1
    go_enter Tryz.func30, Tryz.ntmps30
    go_wp2_with fail
    refine (cut_line s _ (by omega)).mono ?_
    rintro e w1 ⟨n, g, cap, rfl, hn, hc1, hc2, hown, hgb, hbel⟩
    have HT1 := hidV (Tk.of_ownsF hown)
    have hg1 : g < w1.heap.size := HT1.out.1
    have F1 : Hid (Fr [] w w1) := Fr.of_below hbel
    have HEND : Hid (∀ j, j < n + 1 → (lf s j).c ≠ 0 → j + 1 < n + 1) := fun j hj hne => by
      by_cases q : j = n
      · subst q; exact absurd hc2 hne
      · omega
    have HN1 : Hid (sml s (w0 s) = true → 1 < n + 1) := fun h => HEND.out 0 (by omega) (by rw [lf_word h]; dsimp only; omega)
    have HDK : Hid (Dk w1 (w1.heap.size :: M) bd st) := (HD.out.fr F1.out (by simp) (by simp)).more (Nat.le_refl _)
    have hsz1 := hbel.size
    clear hown hbel hc1 hc2
    have FA : Hid (Fr [] w1 (w1.alloc (.cells #[.slice (some ⟨g, 0, none⟩) (n + 1) cap, .int .i64 0, .int .i64 0, .int .i64 0, .int .i64 0] 89))) := (Fr.refl [] w1).alloc _
    have HW1 : Hid (Wy (w1.alloc (.cells #[.slice (some ⟨g, 0, none⟩) (n + 1) cap, .int .i64 0, .int .i64 0, .int .i64 0, .int .i64 0] 89)) w1.heap.size g (n + 1) cap 0 0 0 0) := Blk.new w1 _ _
    have HT2 := hidV (HT1.out.fr FA.out (by simp))
    go_wp2_with fail
    refine (next_any w1.heap.size g (n + 1) cap 0 (lf s) 0 0 0 _ HW1.out HT2.out (by omega) (by omega)).mono ?_
    rintro e w2 ⟨rfl, hb2⟩
    have F2 : Hid (Fr [] w1 w2) := FA.out.trans (Fr.of_below (bs := []) hb2) (by simp)
    have hsz2 : w1.heap.size < w2.heap.size := by have := hb2.size; simp at this; omega
    have HBG : Hid (Begun w (w2.alloc (.cells #[.int .i64 (rk (lf s 0).c), .int .i64 (lf s 0).at', .int .i64 (lf s 0).v, .string (rs (lf s 0).c)] 91)) M bd st s w1.heap.size g (n + 1) cap w2.heap.size 0) := by
      have F3 : Fr [] w1 (w2.alloc (.cells #[.int .i64 (rk (lf s 0).c), .int .i64 (lf s 0).at', .int .i64 (lf s 0).v, .string (rs (lf s 0).c)] 91)) := F2.out.alloc _
      have F4 : Fr [] (w1.alloc (.cells #[.slice (some ⟨g, 0, none⟩) (n + 1) cap, .int .i64 0, .int .i64 0, .int .i64 0, .int .i64 0] 89)) (w2.alloc (.cells #[.int .i64 (rk (lf s 0).c), .int .i64 (lf s 0).at', .int .i64 (lf s 0).v, .string (rs (lf s 0).c)] 91)) := (Fr.of_below hb2).alloc _
      exact ⟨Blk.fr HW1.out F4 (by simp), Blk.new w2 _ _, ⟨HT2.out.fr F4 (by simp), by omega, by omega, HEND.out, lf_v s, by omega⟩, HDK.out.fr F3 (by simp) (by simp), F1.out.trans F3 (by simp), hsz1, by omega, by omega, by omega, by omega, HN1.out⟩
    clear HW1 HT2 FA F2 HT1 hb2 HEND HN1 HDK F1
    go_upto_region 7 with fail
    refine wp_forget (fun V => Begun w V M bd st s w1.heap.size g (n + 1) cap w2.heap.size 0) HBG.out ?_
    rintro V hV
    clear HBG
    generalize w1.heap.size = b at *
    generalize w2.heap.size = tb at *
    clear w1 w2
    have HV := hidV hV
    obtain ⟨t0, t1, t2, t3⟩ := hV.tok.cells4
    obtain ⟨c0, c1, c2, c3, c4⟩ := hV.wy.cells
    obtain ⟨f0, f1, f2, f3, f4⟩ := hV.wy.free
    have htb := hV.ne
    clear hV
    have hw := lf_word HSM.out
    have hrk := rk_word (s.extract (w0 s) (w1 s))
    have h4 : rk (lf s 0).c = 4 := by rw [hw]; exact hrk.1
    have HHS : Hid (rs (lf s 0).c = ⟨#[108, 101, 116]⟩) := by unfold Hid; rw [hw, ← HS0.out]; exact hrk.2
    rw [h4] at t0
    rw [HHS.out] at t3
    clear hw hrk h4
    have HN1 := hidV (HV.out.n1 HSM.out)
    go_upto_region 10 with fail
    refine wp_forget (fun V2 => Begun w V2 M bd st s b g (n + 1) cap tb 1) ?_ ?_
    · have hf : Fr [b] V (V.setCell ⟨b, 1, none⟩ (.int .i64 1)) := (Fr.refl [b] V).setCell _ _ (Or.inl (by simp))
      have hh := HV.out
      exact ⟨Blk.set hh.wy 1 _, hh.tok.fr hf (by simp; exact hh.ne), hh.tks.fr hf (by simp; exact fun q => hh.tks.ne q.symm), hh.dk.fr hf (by simp; exact fun q => hh.bd q.symm) (by simp), hh.fr.trans hf (by simp; exact hh.b0), hh.b0, hh.t0, hh.ne, hh.bd, hh.n0, hh.n1⟩
    rintro V2 hV2
    clear HV t0 t1 t2 t3 c0 c1 c2 c3 c4 f0 f1 f2 f3 f4
    clear V
    have HV := hidV hV2
    obtain ⟨t0, t1, t2, t3⟩ := hV2.tok.cells4
    obtain ⟨c0, c1, c2, c3, c4⟩ := hV2.wy.cells
    clear hV2
    rw [HHS.out] at t3
    have hbl : b < V2.heap.size := HV.out.wy.lt
    have htl : tb < V2.heap.size := HV.out.tok.lt
    have HBW := hidV HV.out.b0
    go_wp2_with fail
    refine (namedS b g (n + 1) cap s.size bd 0 _ (b :: M) st (lf s) ws1 0 _ rfl HV.out.dk HV.out.bd (Or.inl ⟨rfl, HV.out.wy, HN1.out⟩) HV.out.tks).mono ?_
    rintro e w3 ⟨⟨a, ha, rfl, haa⟩, hw3, hf3⟩
    have HW3 := hidV (show WyS w3 b g (n + 1) cap (nmS (lf s) (ok0 st) ws1) 0 from hw3)
    have HF3 := hidV hf3
    have HAA := hidV haa
    clear hw3 hf3 haa c0 c1 c2 c3 c4 t0 t1 t2
    have hs3 := HF3.out.size
    have HMB : Hid (Blk (w3.alloc (.cells #[.int .i64 1, .slice none 0 0, .bool false, .bool false, .bool false, .bool false, .bool false, .bool false, .bool false] 81)) w3.heap.size #[.int .i64 1, .slice none 0 0, .bool false, .bool false, .bool false, .bool false, .bool false, .bool false, .bool false] 81) := Blk.new w3 _ _
    have HF3a := hidV (HF3.out.alloc (.cells #[.int .i64 1, .slice none 0 0, .bool false, .bool false, .bool false, .bool false, .bool false, .bool false, .bool false] 81))
    have hgb2 : g ∉ [b] := by simp; exact fun q => HV.out.tks.ne q.symm
    go_wp2_with fail
    refine (wantsS b g (n + 1) cap s.size 65 _ (lf s) _ 0 _ (by decide) (by decide) (fun d => rk_61) (by decide) (HW3.out.fr ((Fr.refl [] w3).alloc _) (by simp)) (HV.out.tks.fr HF3a.out hgb2)).mono ?_
    rintro e w4 ⟨rfl, hw4, hf4⟩
    have hmb : w3.heap.size ≠ b := by omega
    have HMB4 := hidV (HMB.out.fr hf4 (by simp; exact hmb))
    have HF4 := hidV (HF3a.out.trans hf4 (by simp))
    have HW4 := hidV hw4
    have t34 : w4.cell? ⟨tb, 3, none⟩ = some (.string ⟨#[108, 101, 116]⟩) := by rw [HF4.out.cell 3 htl (by simp; exact htb)]; exact t3
    have hs4 : w3.heap.size < w4.heap.size := by have := hf4.size; simp at this; omega
    clear hw4 hf4 t3
    go_wp2_with fail
    refine (wsystemS b g (n + 1) cap s.size (lf s) _ 0 _ HW4.out (HV.out.tks.fr HF4.out hgb2)).mono ?_
    rintro e w5 ⟨⟨p, l, ⟨c5, rfl⟩, hsys⟩, hw5, hf5⟩
    have HMB5 := hidV (HMB4.out.fr hf5 (by simp; exact hmb))
    have HF5 := hidV (HF4.out.trans hf5 (by simp))
    have HW5 := hidV hw5
    have HSY := hidV hsys
    have m51 : w5.cell? ⟨w3.heap.size, 1, none⟩ = some (.slice none 0 0) := HMB5.out.cell 1
    have m5f : w5.frozen? ⟨w3.heap.size, 1, none⟩ = false := HMB5.out.frozen 1
    have hs5 : w4.heap.size ≤ w5.heap.size := hf5.size
    have HM6 : Hid (Blk (w5.setCell ⟨w3.heap.size, 1, none⟩ (.slice p l c5)) w3.heap.size #[.int .i64 1, .slice p l c5, .bool false, .bool false, .bool false, .bool false, .bool false, .bool false, .bool false] 81) := Blk.set HMB5.out 1 _
    have HF5b : Hid (Fr [w3.heap.size] w5 (w5.setCell ⟨w3.heap.size, 1, none⟩ (.slice p l c5))) := (Fr.refl _ _).setCell _ _ (Or.inl (by simp))
    have HF6 := hidV (HF5.out.trans HF5b.out (by simp; exact Or.inr hs3))
    clear hw5 hf5 hsys t34
    go_wp2_with fail
    refine (wendS b g (n + 1) cap s.size (lf s) _ 0 _ (HW5.out.fr HF5b.out (by simp; exact fun q => hmb q.symm)) (HV.out.tks.fr HF6.out hgb2)).mono ?_
    rintro e w6 ⟨rfl, hw6, hf6⟩
    have HW6 := hidV (show WyS w6 b g (n + 1) cap (letS st (lf s) s.size) 0 from hw6)
    have HM7 := hidV (HM6.out.fr hf6 (by simp; exact hmb))
    have HF7 := hidV (HF6.out.trans hf6 (by simp))
    have HF56 : Hid (Fr [w3.heap.size, b] w5 w6) := Fr.trans (HF5b.out.mono (by simp)) hf6 (by simp)
    clear hw6 hf6
    have HD7 := hidV (HV.out.dk.fr HF7.out (by simp; exact fun q => HV.out.bd q.symm) (by simp))
    obtain ⟨m0, m1, m2, m3, m4⟩ : w6.cell? ⟨w3.heap.size, 0, none⟩ = some (.int .i64 1) ∧ w6.cell? ⟨w3.heap.size, 1, none⟩ = some (.slice p l c5) ∧ w6.cell? ⟨w3.heap.size, 2, none⟩ = some (.bool false) ∧ w6.cell? ⟨w3.heap.size, 3, none⟩ = some (.bool false) ∧ w6.cell? ⟨w3.heap.size, 4, none⟩ = some (.bool false) := ⟨HM7.out.cell 0, HM7.out.cell 1, HM7.out.cell 2, HM7.out.cell 3, HM7.out.cell 4⟩
    obtain ⟨m5, m6, m7, m8⟩ : w6.cell? ⟨w3.heap.size, 5, none⟩ = some (.bool false) ∧ w6.cell? ⟨w3.heap.size, 6, none⟩ = some (.bool false) ∧ w6.cell? ⟨w3.heap.size, 7, none⟩ = some (.bool false) ∧ w6.cell? ⟨w3.heap.size, 8, none⟩ = some (.bool false) := ⟨HM7.out.cell 5, HM7.out.cell 6, HM7.out.cell 7, HM7.out.cell 8⟩
    have a0 : (0 : Int) ≤ (a : Int) := by omega
    have a1 : (a : Int) < 26 := by omega
    by_cases hz : (letS st (lf s) s.size).e = 0
    · have hR : R = ⟨0, 0, [], upd st nn (.sys ps)⟩ := by rw [HLN.out]; unfold ans; rw [if_neg (by omega)]
      subst hR
      have hz1 := enS_ok hz
      have hz2 := sysS_ok hz1
      obtain ⟨hz3, hz4⟩ := wtS_ok hz2
      have hz5 := nmS_k hz3
      obtain ⟨_, hz6, _⟩ := nmS_ok hz3
      have ek : (wtS (lf s) 65 (nmS (lf s) (ok0 st) ws1)).k = 3 := by rw [hz4, hz5]; rfl
      have hsy := HSY.out hz1 hz2
      rw [ek, HPS.out] at hsy
      have HA1 : Hid (a = nn) := by unfold Hid; rw [← HNN.out]; exact HAA.out rfl hz6
      have hsv : SV w6 (b :: M) (.sys ps) (.slice p l c5) := by
        obtain ⟨g', rfl, rfl, x1, x2, x3, x4, x5⟩ := hsy
        refine ⟨g', c5, rfl, x1.fr HF56.out (by simp; omega), x2, x3, x4, ?_⟩
        intro hx
        rw [List.mem_cons] at hx
        rcases hx with hx | hx
        · omega
        · have := hM g' hx; have := HV.out.fr.size; omega
      have HSV := hidV hsv
      obtain ⟨kk, hkk, hwy⟩ : ∃ k', k' < n + 1 ∧ Wy w6 b g (n + 1) cap k' 0 0 0 := by
        rcases HW6.out with ⟨_, x1, x2⟩ | ⟨x1, _⟩
        · exact ⟨_, x2, x1⟩
        · exact absurd hz x1
      obtain ⟨c0, c1, c2, c3, c4⟩ := hwy.cells
      have HTH := hidV (HD7.out.there ha)
      have HA := hidV ha
      clear hsv hsy hz hz1 hz2 hz3 hz4 hz5 hz6 ek hwy ha
      go_wp2
      refine region_quiet_tail 6 (by kernel_rfl) (by kernel_rfl) ?_
      simp only [List.take_succ_cons, List.take_zero, List.drop_succ_cons, List.drop_zero]
      repeat (first | go_big_quiet_step ((fail)) | quiet_step ((fail)))
      refine wpQuiet_nil ?_
      rintro _ ⟨nr, rfl⟩
      go_wp2_with (refine wpList_store_mid (by rfl) 81 _ _ (by rfl) bd (a * 9) (mcl (.sys ps) (.slice p l c5)).toArray (by rfl) (by rfl) (by exact HTH.out) (mcl_size _ _) (mcl_one _ _ rfl) ?_)
      go_ret3
      have hfd : Fr [] w6 (w6.drewN nr) := (Fr.refl [] w6).drewN _
      have hdd := Dk.store (HD7.out.fr hfd (by simp) (by simp)) HA.out (.sys ps) (.slice p l c5) (HSV.out.fr hfd (by simp))
      rw [HA1.out] at hdd
      refine ⟨rfl, ?_, ?_⟩
      · have e9 : a * 9 = nn * 9 := by rw [HA1.out]
        rw [e9]
        exact hdd.less HD.out.mem
      · exact Fr.setCells ((HV.out.fr.trans (HF7.out.drewN nr) (by simp; exact HBW.out)).mono (by simp)) _ _ _ (Or.inl (by simp))
    · have hR : R = ⟨(letS st (lf s) s.size).e, (letS st (lf s) s.size).bad, [], st⟩ := by rw [HLN.out]; unfold ans; rw [if_pos hz]
      subst hR
      obtain ⟨kk, hkk, hwy⟩ : ∃ k', k' < n + 1 ∧ Wy w6 b g (n + 1) cap k' (letS st (lf s) s.size).e (letS st (lf s) s.size).bad 0 := by
        rcases HW6.out with ⟨x1, _⟩ | ⟨_, x1⟩
        · exact absurd x1 hz
        · exact x1
      obtain ⟨c0, c1, c2, c3, c4⟩ := hwy.cells
      have q : (((letS st (lf s) s.size).e : Int) != 0) = true := by rw [bne_iff_ne]; omega
      clear hwy hz
      go_wp2
      go_quiet (fail)
      go_wp2
      go_ret3
      refine ⟨rfl, ?_, ?_⟩
      · exact (HD7.out.fr ((Fr.refl [] w6).drewN _) (by simp) (by simp)).less HD.out.mem
      · exact (HV.out.fr.trans (HF7.out.drewN _) (by simp; exact HBW.out)).mono (by simp)

/-- Do, but for lines of sets. -/
theorem rDo_any (M : List Nat) (bd : Nat) (st : Nat → Mng) (s : ByteArray) (w : World) (hd : Dk w M bd st) (hM : ∀ x ∈ M, x < w.heap.size) (hs : s.size ≤ 140737488351232)
    (n5 : wd s ≠ [115, 104, 111, 119]) (n6 : wd s ≠ [104, 97, 115]) (n7 : wd s ≠ [115, 117, 98]) (n8 : wd s ≠ [115, 101, 116]) :
    Calls Tryz.prog 30 #[.pointer (some ⟨bd, 0, none⟩), .string s] w fun e w' => e = .returned (.tuple #[.string (bs (lnR st s).t), .int .i64 (lnR st s).e, .int .i64 (lnR st s).bad]) ∧ Dk w' M bd (lnR st s).st ∧ Fr [bd] w w' := by
  by_cases n4 : wd s = [108, 101, 116]
  · by_cases hl : 90 < s.size
    · have e : lnR st s = ⟨2, 0, [], st⟩ := by unfold lnR; rw [if_pos hl]
      rw [e]
      have HD := hidV hd
      have hl' : (90 : Int) < ((s.size : Nat) : Int) := by omega
      clear hd
      go_enter Tryz.func30, Tryz.ntmps30
      go_wp2
      go_ret3
      exact ⟨rfl, HD.out, Fr.refl _ _⟩
    · cases hsm : sml s (w0 s) with
      | true => exact rDo_let M bd st s w hd hM hl hsm n4
      | false =>
        exfalso
        have e1 : w1 s = w0 s := wend_here (by rw [hsm]; decide)
        unfold wd at n4
        rw [e1] at n4
        have := congrArg List.length n4
        simp at this
  · exact rDo_ask M bd st s w hd hs n4 n5 n6 n7 n8
end Go.Proofs.YthlmgpllapccfaaGreatDoor
/- THE READER: a line, by its word. -/
namespace Go.Proofs.YthlmgpllapccfaaGreatDoor
open Go.RowKit

theorem tok_lf {s : ByteArray} (h : sml s (w0 s) = true) : tok s (w1 s) = lf s 1 := by rw [lf_rest h]; rfl
theorem wtS_eq0 {f : Nat → Tok} {ok : Nat → Bool} {k : Nat} (h : (wtS f 65 (nmS f ok ⟨k, 0, 0⟩)).e = 0) : wtS f 65 (nmS f ok ⟨k, 0, 0⟩) = ⟨k + 1 + 1, 0, 0⟩ ∧ (f (k + 1)).c = 65 := by
  obtain ⟨h1, h2⟩ := wtS_ok h
  have h3 := nmS_k h1
  unfold wtS at h ⊢
  rw [if_neg (by omega)] at h ⊢
  rw [h3] at h ⊢
  split at h
  · rename_i q; rw [if_pos q]; exact ⟨rfl, q⟩
  · simp at h

set_option maxHeartbeats 2000000 in
theorem rline_let (s : ByteArray) (b bm : Nat) (st : Nat → Mng) (w : World) (hs : s.size ≤ 1000) (hr : Rd w b s (.map (some bm)) 0 false (tok s 0)) (hsm : sml s (w0 s) = true) (hw : wd s = [108, 101, 116]) :
    Calls Tryz.prog 44 #[.pointer (some ⟨b, 0, none⟩)] w (RP w b s (.map (some bm)) 0 false (lf s) (sysS (lf s) s.size (wtS (lf s) 65 (nmS (lf s) (ok0 st) ws1)))
      (fun v w' => ∃ g cap, v = .iface 141 (.agg #[.int .u8 ((lf s 1).c - 4 : Nat), .iface 136 (.slice (some ⟨g, 0, none⟩) (syR (lf s) s.size 4 3).ps.length cap)]) ∧ Sy w' g (syR (lf s) s.size 4 3).ps ∧ Goods (syR (lf s) s.size 4 3).ps ∧ (syR (lf s) s.size 4 3).ps ≠ [] ∧ (syR (lf s) s.size 4 3).ps.length ≤ 4 ∧ w.heap.size ≤ g)) := by
  have HR := hidV hr
  have hb : b < w.heap.size := Blk.lt hr
  have c2 := hr.cells.2.2.1
  have hS : s.extract (w0 s) (w1 s) = ⟨#[108, 101, 116]⟩ := byt_of hw
  have HWD := hidV (pWord_any (M := .map (some bm)) (D := 0) (O := false) s b w hs hr)
  rw [hS, tok_lf hsm] at HWD
  have HNN := hidV (fun w' hr' => newName_any (M := .map (some bm)) (D := 0) (O := false) s (lf s) 1 b (ok0 st) w' hs (strLf s) (namLf s) hr' (fun a => by simp [ok0]))
  have HSY := hidV (fun w' (hk : 3 ≤ s.size) hr' => pSystem_any (M := .map (some bm)) (D := 0) s (lf s) 3 b w' hs (strLf s) hk hr')
  have HLT : Hid (∀ k, (lf s k).c ≠ 0 → k < s.size) := fun k hk => (strLf s).lt hk
  clear hr hw hS
  have e1 : ws1 = ⟨1, 0, 0⟩ := rfl
  rw [e1]
  by_cases h0 : (wtS (lf s) 65 (nmS (lf s) (ok0 st) ⟨1, 0, 0⟩)).e = 0
  · obtain ⟨h1, h2⟩ := wtS_eq0 h0
    have HK3 := hidV (HLT.out 2 (by rw [show (2 : Nat) = 1 + 1 from rfl, h2]; decide))
    rw [h1] at HNN ⊢
    clear h0 h1
    go_enter Tryz.func44, Tryz.ntmps44
    go_wp2_with fail
    refine HWD.out.mono ?_
    rintro e w1 ⟨rfl, hr1, hf1⟩
    have HI1 : Hid (Rd w1 b s (.map (some bm)) 0 false (lf s 1) ∧ Fr [b] w w1) := ⟨hr1, hf1⟩
    clear hr1 hf1
    go_wp2_with fail
    refine (HNN.out _ HI1.out.1).mono ?_
    rintro e w2 (⟨_, v, rfl, rfl, hr2, hf2⟩ | ⟨h, _⟩)
    · have HI2 : Hid (Rd w2 b s (.map (some bm)) 0 false (lf s 3) ∧ Fr [b] w w2) := ⟨hr2, HI1.out.2.trans hf2 (by simp)⟩
      clear hr2 hf2
      go_wp2_with fail
      refine (HSY.out _ (by have := HK3.out; omega) HI2.out.1).mono ?_
      rintro e w3 (⟨h3, v, rfl, hv, hr3, hf3⟩ | ⟨h3, rfl, hf3⟩)
      · have HI3 := hidV (And.intro hv (And.intro hr3 (HI2.out.2.trans hf3 (by simp))))
        have HH3 := hidV h3
        obtain ⟨g, cap, rfl, _⟩ := hv
        clear hr3 hf3 h3
        go_wp2
        go_ret
        obtain ⟨⟨g', cap', he, hv2, hv3, hv4, hv5, hv6⟩, hr3, hf3⟩ := HI3.out
        injection he with q1 q2 q3
        injection q1 with q1
        injection q1 with q1
        subst q1 q3
        exact Or.inl ⟨HH3.out, _, rfl, ⟨g, cap, rfl, hv2, hv3, hv4, hv5, Nat.le_trans HI2.out.2.size hv6⟩, hr3, hf3⟩
      · go_wp2
        exact ⟨rfl, Or.inr ⟨h3, rfl, HI2.out.2.trans hf3 (by simp)⟩⟩
    · simp at h
  · have HE0 := hidV h0
    have HSS : Hid (sysS (lf s) s.size (wtS (lf s) 65 (nmS (lf s) (ok0 st) ⟨1, 0, 0⟩)) = wtS (lf s) 65 (nmS (lf s) (ok0 st) ⟨1, 0, 0⟩)) := by unfold Hid sysS; rw [if_pos h0]
    rw [HSS.out]
    generalize wtS (lf s) 65 (nmS (lf s) (ok0 st) ⟨1, 0, 0⟩) = S at *
    clear h0
    go_enter Tryz.func44, Tryz.ntmps44
    go_wp2_with fail
    refine HWD.out.mono ?_
    rintro e w1 ⟨rfl, hr1, hf1⟩
    have HI1 : Hid (Rd w1 b s (.map (some bm)) 0 false (lf s 1) ∧ Fr [b] w w1) := ⟨hr1, hf1⟩
    clear hr1 hf1
    go_wp2_with fail
    refine (HNN.out _ HI1.out.1).mono ?_
    rintro e w2 (⟨h, _⟩ | ⟨h, rfl, hf2⟩)
    · exact absurd h HE0.out
    · go_wp2
      exact ⟨rfl, Or.inr ⟨h, rfl, HI1.out.2.trans hf2 (by simp)⟩⟩

/-- The system that the name behind the word means. -/
def SysV (w : World) (Ms : List Nat) (st : Nat → Mng) (f : Nat → Tok) (v : Value) : Prop := NV w Ms (st ((f 1).c - 69)) (some (.iface 136 v))
theorem NV_sys {w : World} {Ms : List Nat} {m : Mng} {v : Value} (h : NV w Ms m (some (.iface 136 v))) : ∃ ps g cap, m = .sys ps ∧ v = .slice (some ⟨g, 0, none⟩) ps.length cap ∧ Sy w g ps ∧ Goods ps ∧ ps ≠ [] ∧ ps.length ≤ 4 ∧ g ∉ Ms := by
  cases m with
  | non => simp [NV] at h
  | set b => simp [NV] at h
  | sys ps =>
    obtain ⟨g, cap, h1, h2⟩ := h
    injection h1 with h1
    injection h1 with h0 h1
    exact ⟨ps, g, cap, rfl, h1, h2⟩
theorem okS_kd (st : Nat → Mng) (a : Nat) : okS st a = decide ((st a).kd = 1) := by simp [okS]

set_option maxHeartbeats 2000000 in
theorem rline_print (s : ByteArray) (b bm : Nat) (Ms : List Nat) (st : Nat → Mng) (w : World) (hs : s.size ≤ 1000) (hr : Rd w b s (.map (some bm)) 0 false (tok s 0)) (hm : Nm w Ms bm st) (hbm : b ≠ bm) (hbM : b ∈ Ms) (hsm : sml s (w0 s) = true) (hw : wd s = [112, 114, 105, 110, 116]) :
    Calls Tryz.prog 44 #[.pointer (some ⟨b, 0, none⟩)] w (RP w b s (.map (some bm)) 0 false (lf s) (nmS (lf s) (okS st) ws1) (fun v w' => ∃ u, v = .iface 144 (.agg #[.iface 136 u]) ∧ SysV w' Ms st (lf s) u)) := by
  have hb : b < w.heap.size := Blk.lt hr
  have c2 := hr.cells.2.2.1
  have hS : s.extract (w0 s) (w1 s) = ⟨#[112, 114, 105, 110, 116]⟩ := byt_of hw
  have HWD := hidV (pWord_any (M := .map (some bm)) (D := 0) (O := false) s b w hs hr)
  rw [hS, tok_lf hsm] at HWD
  have HNN := hidV (fun w' hr' hm' => namedSys_any (D := 0) (O := false) s (lf s) 1 b bm Ms st (okS st) w' hs (strLf s) (namLf s) hr' hm' hbm hbM (okS_kd st))
  have HM := hidV hm
  clear hr hw hS hm
  have e1 : ws1 = ⟨1, 0, 0⟩ := rfl
  rw [e1]
  generalize nmS (lf s) (okS st) ⟨1, 0, 0⟩ = S at *
  go_enter Tryz.func44, Tryz.ntmps44
  go_wp2_with fail
  refine HWD.out.mono ?_
  rintro e w1 ⟨rfl, hr1, hf1⟩
  have HI1 : Hid (Rd w1 b s (.map (some bm)) 0 false (lf s 1) ∧ Fr [b] w w1) := ⟨hr1, hf1⟩
  clear hr1 hf1
  go_wp2_with fail
  refine (HNN.out _ HI1.out.1 (HM.out.fr HI1.out.2 (by simp; exact fun q => hbm q.symm) (by simp [hbM]))).mono ?_
  rintro e w2 (⟨h, v, rfl, hv, hr2, hf2⟩ | ⟨h, rfl, hf2⟩)
  · have HI2 := hidV (And.intro h (And.intro hv (And.intro hr2 (HI1.out.2.trans hf2 (by simp)))))
    clear h hv hr2 hf2
    go_wp2
    go_ret
    exact Or.inl ⟨HI2.out.1, _, rfl, ⟨v, rfl, HI2.out.2.1⟩, HI2.out.2.2.1, HI2.out.2.2.2⟩
  · go_wp2
    exact ⟨rfl, Or.inr ⟨h, rfl, HI1.out.2.trans hf2 (by simp)⟩⟩

set_option maxHeartbeats 2000000 in
theorem rline_split (s : ByteArray) (b bm : Nat) (Ms : List Nat) (st : Nat → Mng) (w : World) (hs : s.size ≤ 1000) (hr : Rd w b s (.map (some bm)) 0 false (tok s 0)) (hm : Nm w Ms bm st) (hbm : b ≠ bm) (hbM : b ∈ Ms) (hsm : sml s (w0 s) = true) (hw : wd s = [115, 112, 108, 105, 116]) :
    Calls Tryz.prog 44 #[.pointer (some ⟨b, 0, none⟩)] w (RP w b s (.map (some bm)) 0 false (lf s) (nmS (lf s) (okS st) ws1) (fun v w' => ∃ u, v = .iface 149 (.agg #[u]) ∧ SysV w' Ms st (lf s) u)) := by
  have hb : b < w.heap.size := Blk.lt hr
  have c2 := hr.cells.2.2.1
  have hS : s.extract (w0 s) (w1 s) = ⟨#[115, 112, 108, 105, 116]⟩ := byt_of hw
  have HWD := hidV (pWord_any (M := .map (some bm)) (D := 0) (O := false) s b w hs hr)
  rw [hS, tok_lf hsm] at HWD
  have HNN := hidV (fun w' hr' hm' => namedSys_any (D := 0) (O := false) s (lf s) 1 b bm Ms st (okS st) w' hs (strLf s) (namLf s) hr' hm' hbm hbM (okS_kd st))
  have HM := hidV hm
  clear hr hw hS hm
  have e1 : ws1 = ⟨1, 0, 0⟩ := rfl
  rw [e1]
  generalize nmS (lf s) (okS st) ⟨1, 0, 0⟩ = S at *
  go_enter Tryz.func44, Tryz.ntmps44
  go_wp2_with fail
  refine HWD.out.mono ?_
  rintro e w1 ⟨rfl, hr1, hf1⟩
  have HI1 : Hid (Rd w1 b s (.map (some bm)) 0 false (lf s 1) ∧ Fr [b] w w1) := ⟨hr1, hf1⟩
  clear hr1 hf1
  go_wp2_with fail
  refine (HNN.out _ HI1.out.1 (HM.out.fr HI1.out.2 (by simp; exact fun q => hbm q.symm) (by simp [hbM]))).mono ?_
  rintro e w2 (⟨h, v, rfl, hv, hr2, hf2⟩ | ⟨h, rfl, hf2⟩)
  · obtain ⟨ps, g, cap, hps, rfl, _⟩ := NV_sys hv
    have HI2 := hidV (And.intro h (And.intro hv (And.intro hr2 (HI1.out.2.trans hf2 (by simp)))))
    clear h hv hr2 hf2
    go_wp2
    go_ret
    exact Or.inl ⟨HI2.out.1, _, rfl, ⟨_, rfl, HI2.out.2.1⟩, HI2.out.2.2.1, HI2.out.2.2.2⟩
  · go_wp2
    exact ⟨rfl, Or.inr ⟨h, rfl, HI1.out.2.trans hf2 (by simp)⟩⟩

set_option maxHeartbeats 2000000 in
theorem rline_gcd (s : ByteArray) (b bm : Nat) (Ms : List Nat) (st : Nat → Mng) (w : World) (hs : s.size ≤ 1000) (hr : Rd w b s (.map (some bm)) 0 false (tok s 0)) (hm : Nm w Ms bm st) (hbm : b ≠ bm) (hbM : b ∈ Ms) (hsm : sml s (w0 s) = true) (hw : wd s = [103, 99, 100]) :
    Calls Tryz.prog 44 #[.pointer (some ⟨b, 0, none⟩)] w (RP w b s (.map (some bm)) 0 false (lf s) (ctS (lf s) (nmS (lf s) (okS st) ws1)) (fun v w' => ∃ u, v = .iface 146 (.agg #[u, .int .i64 (lf s 2).v]) ∧ SysV w' Ms st (lf s) u)) := by
  have hb : b < w.heap.size := Blk.lt hr
  have c2 := hr.cells.2.2.1
  have hS : s.extract (w0 s) (w1 s) = ⟨#[103, 99, 100]⟩ := byt_of hw
  have HWD := hidV (pWord_any (M := .map (some bm)) (D := 0) (O := false) s b w hs hr)
  rw [hS, tok_lf hsm] at HWD
  have HNN := hidV (fun w' hr' hm' => namedSys_any (D := 0) (O := false) s (lf s) 1 b bm Ms st (okS st) w' hs (strLf s) (namLf s) hr' hm' hbm hbM (okS_kd st))
  have HM := hidV hm
  have hfl := field_tok
  clear hr hw hS hm
  have e1 : ws1 = ⟨1, 0, 0⟩ := rfl
  rw [e1]
  have HK : Hid ((nmS (lf s) (okS st) ⟨1, 0, 0⟩).e = 0 → (nmS (lf s) (okS st) ⟨1, 0, 0⟩).k = 2) := fun h => nmS_k h
  have HCT : Hid ((nmS (lf s) (okS st) ⟨1, 0, 0⟩).e ≠ 0 → ctS (lf s) (nmS (lf s) (okS st) ⟨1, 0, 0⟩) = nmS (lf s) (okS st) ⟨1, 0, 0⟩) := fun h => by unfold ctS; rw [if_pos h]
  have HCO : Hid ((nmS (lf s) (okS st) ⟨1, 0, 0⟩).e = 0 → ctS (lf s) (nmS (lf s) (okS st) ⟨1, 0, 0⟩) = if (lf s 2).c = 1 then ⟨3, 0, 0⟩ else ⟨2, 4, (lf s 2).at'⟩) := fun h => by
    unfold ctS; rw [if_neg (by omega), nmS_k h]
  obtain ⟨C, HC⟩ : ∃ C, Hid (ctS (lf s) (nmS (lf s) (okS st) ⟨1, 0, 0⟩) = C) := ⟨_, hidV rfl⟩
  rw [HC.out] at HCT HCO ⊢
  generalize nmS (lf s) (okS st) ⟨1, 0, 0⟩ = S at *
  go_enter Tryz.func44, Tryz.ntmps44
  go_wp2_with fail
  refine HWD.out.mono ?_
  rintro e w1 ⟨rfl, hr1, hf1⟩
  have HI1 : Hid (Rd w1 b s (.map (some bm)) 0 false (lf s 1) ∧ Fr [b] w w1) := ⟨hr1, hf1⟩
  clear hr1 hf1
  go_wp2_with fail
  refine (HNN.out _ HI1.out.1 (HM.out.fr HI1.out.2 (by simp; exact fun q => hbm q.symm) (by simp [hbM]))).mono ?_
  rintro e w2 (⟨h, v, rfl, hv, hr2, hf2⟩ | ⟨h, rfl, hf2⟩)
  · have HCE := hidV (HCO.out h)
    rw [HK.out h] at hr2
    obtain ⟨ps, g, cap, hps, rfl, _⟩ := NV_sys hv
    have HI2 := hidV (And.intro hv (And.intro hr2 (HI1.out.2.trans hf2 (by simp))))
    clear h hv hr2 hf2
    by_cases h1 : (lf s 2).c = 1
    · have HPK : Hid (pk (lf s 2).c = 1) := pk_1.2 h1
      have HCF : Hid (C = ⟨3, 0, 0⟩) := by unfold Hid; rw [HCE.out, if_pos h1]
      clear h1
      go_wp2_with fail
      refine (expect_ok s (lf s) 2 b 1 _ hs (strLf s) HI2.out.2.1 HPK.out).mono ?_
      rintro e w3 ⟨rfl, hr3, hf3⟩
      have HI3 := hidV (And.intro (HI2.out.1.fr hf3 (by simp [hbM])) (And.intro hr3 (HI2.out.2.2.trans hf3 (by simp))))
      clear hr3 hf3
      go_wp2
      go_ret
      rw [HCF.out]
      exact Or.inl ⟨rfl, _, rfl, ⟨_, rfl, HI3.out.1⟩, HI3.out.2.1, HI3.out.2.2⟩
    · have HPK : Hid (pk (lf s 2).c ≠ 1) := fun q => h1 (pk_1.1 q)
      have HCF : Hid (C = ⟨2, 4, (lf s 2).at'⟩) := by unfold Hid; rw [HCE.out, if_neg h1]
      clear h1
      go_wp2_with fail
      refine (expect_not s (lf s 2) b 1 _ HI2.out.2.1 HPK.out).mono ?_
      rintro e w3 ⟨rfl, hf3⟩
      go_wp2
      exact ⟨rfl, by rw [HCF.out]; exact Or.inr ⟨by simp, rfl, HI2.out.2.2.trans hf3 (by simp)⟩⟩
  · have HCF := hidV (HCT.out h)
    go_wp2
    exact ⟨rfl, by rw [HCF.out]; exact Or.inr ⟨h, rfl, HI1.out.2.trans hf2 (by simp)⟩⟩

set_option maxHeartbeats 2000000 in
theorem rline_roots (s : ByteArray) (b bm : Nat) (Ms : List Nat) (st : Nat → Mng) (w : World) (hs : s.size ≤ 1000) (hr : Rd w b s (.map (some bm)) 0 false (tok s 0)) (hm : Nm w Ms bm st) (hbm : b ≠ bm) (hbM : b ∈ Ms) (hsm : sml s (w0 s) = true) (hw : wd s = [114, 111, 111, 116, 115]) :
    Calls Tryz.prog 44 #[.pointer (some ⟨b, 0, none⟩)] w (RP w b s (.map (some bm)) 0 false (lf s) (ctS (lf s) (nmS (lf s) (okS st) ws1)) (fun v w' => ∃ u, v = .iface 147 (.agg #[u, .int .i64 (lf s 2).v]) ∧ SysV w' Ms st (lf s) u)) := by
  have hb : b < w.heap.size := Blk.lt hr
  have c2 := hr.cells.2.2.1
  have hS : s.extract (w0 s) (w1 s) = ⟨#[114, 111, 111, 116, 115]⟩ := byt_of hw
  have HWD := hidV (pWord_any (M := .map (some bm)) (D := 0) (O := false) s b w hs hr)
  rw [hS, tok_lf hsm] at HWD
  have HNN := hidV (fun w' hr' hm' => namedSys_any (D := 0) (O := false) s (lf s) 1 b bm Ms st (okS st) w' hs (strLf s) (namLf s) hr' hm' hbm hbM (okS_kd st))
  have HM := hidV hm
  have hfl := field_tok
  clear hr hw hS hm
  have e1 : ws1 = ⟨1, 0, 0⟩ := rfl
  rw [e1]
  have HK : Hid ((nmS (lf s) (okS st) ⟨1, 0, 0⟩).e = 0 → (nmS (lf s) (okS st) ⟨1, 0, 0⟩).k = 2) := fun h => nmS_k h
  have HCT : Hid ((nmS (lf s) (okS st) ⟨1, 0, 0⟩).e ≠ 0 → ctS (lf s) (nmS (lf s) (okS st) ⟨1, 0, 0⟩) = nmS (lf s) (okS st) ⟨1, 0, 0⟩) := fun h => by unfold ctS; rw [if_pos h]
  have HCO : Hid ((nmS (lf s) (okS st) ⟨1, 0, 0⟩).e = 0 → ctS (lf s) (nmS (lf s) (okS st) ⟨1, 0, 0⟩) = if (lf s 2).c = 1 then ⟨3, 0, 0⟩ else ⟨2, 4, (lf s 2).at'⟩) := fun h => by
    unfold ctS; rw [if_neg (by omega), nmS_k h]
  obtain ⟨C, HC⟩ : ∃ C, Hid (ctS (lf s) (nmS (lf s) (okS st) ⟨1, 0, 0⟩) = C) := ⟨_, hidV rfl⟩
  rw [HC.out] at HCT HCO ⊢
  generalize nmS (lf s) (okS st) ⟨1, 0, 0⟩ = S at *
  go_enter Tryz.func44, Tryz.ntmps44
  go_wp2_with fail
  refine HWD.out.mono ?_
  rintro e w1 ⟨rfl, hr1, hf1⟩
  have HI1 : Hid (Rd w1 b s (.map (some bm)) 0 false (lf s 1) ∧ Fr [b] w w1) := ⟨hr1, hf1⟩
  clear hr1 hf1
  go_wp2_with fail
  refine (HNN.out _ HI1.out.1 (HM.out.fr HI1.out.2 (by simp; exact fun q => hbm q.symm) (by simp [hbM]))).mono ?_
  rintro e w2 (⟨h, v, rfl, hv, hr2, hf2⟩ | ⟨h, rfl, hf2⟩)
  · have HCE := hidV (HCO.out h)
    rw [HK.out h] at hr2
    obtain ⟨ps, g, cap, hps, rfl, _⟩ := NV_sys hv
    have HI2 := hidV (And.intro hv (And.intro hr2 (HI1.out.2.trans hf2 (by simp))))
    clear h hv hr2 hf2
    by_cases h1 : (lf s 2).c = 1
    · have HPK : Hid (pk (lf s 2).c = 1) := pk_1.2 h1
      have HCF : Hid (C = ⟨3, 0, 0⟩) := by unfold Hid; rw [HCE.out, if_pos h1]
      clear h1
      go_wp2_with fail
      refine (expect_ok s (lf s) 2 b 1 _ hs (strLf s) HI2.out.2.1 HPK.out).mono ?_
      rintro e w3 ⟨rfl, hr3, hf3⟩
      have HI3 := hidV (And.intro (HI2.out.1.fr hf3 (by simp [hbM])) (And.intro hr3 (HI2.out.2.2.trans hf3 (by simp))))
      clear hr3 hf3
      go_wp2
      go_ret
      rw [HCF.out]
      exact Or.inl ⟨rfl, _, rfl, ⟨_, rfl, HI3.out.1⟩, HI3.out.2.1, HI3.out.2.2⟩
    · have HPK : Hid (pk (lf s 2).c ≠ 1) := fun q => h1 (pk_1.1 q)
      have HCF : Hid (C = ⟨2, 4, (lf s 2).at'⟩) := by unfold Hid; rw [HCE.out, if_neg h1]
      clear h1
      go_wp2_with fail
      refine (expect_not s (lf s 2) b 1 _ HI2.out.2.1 HPK.out).mono ?_
      rintro e w3 ⟨rfl, hf3⟩
      go_wp2
      exact ⟨rfl, by rw [HCF.out]; exact Or.inr ⟨by simp, rfl, HI2.out.2.2.trans hf3 (by simp)⟩⟩
  · have HCF := hidV (HCT.out h)
    go_wp2
    exact ⟨rfl, by rw [HCF.out]; exact Or.inr ⟨h, rfl, HI1.out.2.trans hf2 (by simp)⟩⟩

end Go.Proofs.YthlmgpllapccfaaGreatDoor
/- THE READER: the deferred function. -/
namespace Go.Proofs.YthlmgpllapccfaaGreatDoor
open Go.RowKit

theorem wp_named {P : Program} {c : Code} {Q : Exit → Act → World → Prop} {a : Act} {w : World} (a' : Act) (h : a = a') (k : ∀ Q' : Exit → Act → World → Prop, Q' = Q → Code.wp P c Q' a' w) : Code.wp P c Q a w := h ▸ k Q rfl

set_option maxRecDepth 100000 in
set_option maxHeartbeats 1000000 in
theorem catch_panicking (p q r : Nat) (x y : Int) (p0 : List Nat) (q0 r0 : Int) (w : World) (hp : Blk w p (pv p0) 76) (hp0 : Good p0) (hq : Blk w q #[.int .i64 q0] 34) (hr : Blk w r #[.int .i64 r0] 3) (hpq : p ≠ q) (hpr : p ≠ r) (hqr : q ≠ r)
    (hg : w.cell? ⟨0, 0, none⟩ = some (.iface 195 (.agg #[.pointer (some ⟨5, 127, none⟩)]))) :
    CallsD Tryz.prog 79 #[.pointer (some ⟨p, 0, none⟩), .pointer (some ⟨q, 0, none⟩), .pointer (some ⟨r, 0, none⟩)] (.panicking (faulty x y)) w fun e u' w' =>
      e = .returned (.tuple #[]) ∧ u' = .panicking [{ v := .iface 130 (.agg #[.int .i64 x, .int .i64 y]), recovered := true }] ∧ Blk w' p (pv zeros) 76 ∧ Blk w' q #[.int .i64 x] 34 ∧ Blk w' r #[.int .i64 y] 3 ∧ Fr [p, q, r] w w' := by
  have ta : ∀ (v : Value) (w : World), (Instr.typeAssert (.iface 130 v) 20 127 true).run Tryz.prog w = .ok (.tuple #[.iface 130 v, .bool true]) w := fun _ _ => by kernel_rfl
  refine callsD_of_wpS Tryz.func79 rfl fun c₀ cs hu => ?_
  apply wpS_seq
  apply wpS_region
  simp [wpOpsS, go_sem, recoverD, hu, Tryz.ntmps79, Exit.thenS, faulty]
  refine wpS_of_wp ?_
  refine wp_named ⟨#[Value.pointer (some ⟨p, 0, none⟩), Value.pointer (some ⟨q, 0, none⟩), Value.pointer (some ⟨r, 0, none⟩), Value.iface 130 (Value.agg #[Value.int IntKind.i64 x, Value.int IntKind.i64 y]), undef, undef, undef, undef, Value.iface 130 (Value.agg #[Value.int IntKind.i64 x, Value.int IntKind.i64 y]), undef, undef, undef, undef, undef, undef, undef, undef, undef, undef, undef, undef, undef, undef, undef, undef, undef], []⟩ (by kernel_rfl) ?_
  intro Q' hQ
  have HQ := hidV hQ
  clear hQ
  have hb0 : 0 < w.heap.size := by have := Blk.lt hp; omega
  have hpl := Blk.lt hp
  have hql := Blk.lt hq
  have hrl := Blk.lt hr
  have HP := hidV hp
  have HQQ := hidV hq
  have HRR := hidV hr
  clear hp hq hr hu
  go_wp2_with fail
  refine (as_hit x y 0 0 w.heap.size _ (by rw [World.cell?_alloc_lt _ _ ⟨0, 0, none⟩ hb0]; exact hg) (Blk.new w _ _)).mono ?_
  rintro e w1 ⟨rfl, ht1, hf1⟩
  have hp1 : Blk w1 p (pv p0) 76 := Blk.fr (Blk.alloc HP.out _) hf1 (by simp; omega)
  have hq1 : Blk w1 q #[.int .i64 q0] 34 := Blk.fr (Blk.alloc HQQ.out _) hf1 (by simp; omega)
  have hr1 : Blk w1 r #[.int .i64 r0] 3 := Blk.fr (Blk.alloc HRR.out _) hf1 (by simp; omega)
  have hfw : Fr [p, q, r] w w1 := ((Fr.refl [p, q, r] w).alloc _).trans hf1 (by simp)
  have HH1 : Hid (Blk w1 p (pv p0) 76 ∧ Blk w1 q #[.int .i64 q0] 34 ∧ Blk w1 r #[.int .i64 r0] 3 ∧ Blk w1 w.heap.size #[.int .i64 x, .int .i64 y] 130 ∧ Fr [p, q, r] w w1) := ⟨hp1, hq1, hr1, ht1, hfw⟩
  clear hp1 hq1 hr1 hfw ht1 hf1
  obtain ⟨z, HZ⟩ : ∃ z, Hid (z = pv zeros) := ⟨_, rfl⟩
  go_upto_region 7 with fail
  refine wp_forget (fun V => Blk V p (pv p0) 76 ∧ Blk V q #[.int .i64 q0] 34 ∧ Blk V r #[.int .i64 r0] 3 ∧ Blk V w.heap.size #[.int .i64 x, .int .i64 y] 130 ∧ Blk V w1.heap.size z 76 ∧ Fr [p, q, r] w V) ?_ ?_
  · obtain ⟨i1, i2, i3, i4, i5⟩ := HH1.out
    refine ⟨i1.alloc _, i2.alloc _, i3.alloc _, i4.alloc _, ?_, i5.alloc _⟩
    rw [HZ.out]; exact Blk.new w1 _ _
  rintro V ⟨hp1, hq1, hr1, ht1, hz1, hfw⟩
  generalize w1.heap.size = nb at *
  clear HH1
  have t0 : V.cell? ⟨w.heap.size, 0, none⟩ = some (.int .i64 x) := ht1.cell 0
  have t1 : V.cell? ⟨w.heap.size, 1, none⟩ = some (.int .i64 y) := ht1.cell 1
  have hzs : z.size = 35 := by rw [HZ.out]; rfl
  have hq2 : Blk (V.setCells p 0 z.toList) q #[.int .i64 q0] 34 := Blk.setCellsOther hq1 _ _ _ (Ne.symm hpq)
  have hr2 : Blk (V.setCells p 0 z.toList) r #[.int .i64 r0] 3 := Blk.setCellsOther hr1 _ _ _ (Ne.symm hpr)
  have hp2 : Blk (V.setCells p 0 z.toList) p z 76 := Blk.setAll hp1 _ (by rw [hzs, pv_size, hp0.1])
  have u0 : (V.setCells p 0 z.toList).cell? ⟨q, 0, none⟩ = some (.int .i64 q0) := hq2.cell 0
  have u1 : (V.setCells p 0 z.toList).cell? ⟨r, 0, none⟩ = some (.int .i64 r0) := hr2.cell 0
  have u2 := hq2.frozen 0
  have u3 := hr2.frozen 0
  have HTH := hidV (Blk.there hp1 (show z.size ≤ (pv p0).size by rw [hzs, pv_size, hp0.1]; exact Nat.le_refl _))
  have H1 := hidV hp2
  have H2 := hidV hq2
  have H3 := hidV hr2
  have HZ1 := hidV hz1
  have nqr : ¬ q = r := hqr
  have HFW := hidV hfw
  clear hp1 hq1 hr1 hq2 hr2 hp2 ht1 hz1 hfw
  have hsz : (Tryz.prog.info? 76).map (·.size) = some z.size := by rw [HZ.out]; exact size_poly zeros_good
  have hon : z.all (·.oneCell') = true := by rw [HZ.out]; exact pv_one _
  go_wp2_with (first | (refine wpList_load_row (by rfl) 76 _ (by rfl) nb (by rfl) 76 z (0, 0) _ HZ1.out Tryz.underlying76 (by rfl) hsz ?_) | (refine wpList_store_mid (by rfl) 76 _ _ (by rfl) p 0 z (by rfl) (by rfl) HTH.out hsz hon ?_))
  rw [HQ.out]
  have P1 : Blk (((V.setCells p 0 z.toList).setCell ⟨q, 0, none⟩ (.int .i64 x)).setCell ⟨r, 0, none⟩ (.int .i64 y)) p (pv zeros) 76 := by
    rw [← HZ.out]; exact (H1.out.setOther _ _ hpq).setOther _ _ hpr
  have P2 : Blk (((V.setCells p 0 z.toList).setCell ⟨q, 0, none⟩ (.int .i64 x)).setCell ⟨r, 0, none⟩ (.int .i64 y)) q #[.int .i64 x] 34 := (H2.out.set 0 _).setOther _ _ hqr
  have P3 : Blk (((V.setCells p 0 z.toList).setCell ⟨q, 0, none⟩ (.int .i64 x)).setCell ⟨r, 0, none⟩ (.int .i64 y)) r #[.int .i64 y] 3 := (H3.out.setOther _ _ (Ne.symm hqr)).set 0 _
  have P4 : Fr [p, q, r] w (((V.setCells p 0 z.toList).setCell ⟨q, 0, none⟩ (.int .i64 x)).setCell ⟨r, 0, none⟩ (.int .i64 y)) := ((HFW.out.setCells _ _ _ (by simp)).setCell _ _ (by simp)).setCell _ _ (by simp)
  generalize (((V.setCells p 0 z.toList).setCell ⟨q, 0, none⟩ (.int .i64 x)).setCell ⟨r, 0, none⟩ (.int .i64 y)) = W at *
  simp [bodyPostS, results, Tryz.results79]
  exact ⟨P1, P2, P3, P4⟩
end Go.Proofs.YthlmgpllapccfaaGreatDoor
/- THE READER: Polynomial. -/
namespace Go.Proofs.YthlmgpllapccfaaGreatDoor
open Go.RowKit

set_option maxRecDepth 100000 in
set_option maxHeartbeats 1000000 in
theorem catch_idle (p q r : Nat) (w : World) :
    CallsD Tryz.prog 79 #[.pointer (some ⟨p, 0, none⟩), .pointer (some ⟨q, 0, none⟩), .pointer (some ⟨r, 0, none⟩)] .returning w fun e u' w' =>
      e = .returned (.tuple #[]) ∧ u' = .returning ∧ w' = w := by
  refine callsD_of_wpS Tryz.func79 rfl fun c₀ cs hu => ?_
  apply wpS_seq
  apply wpS_region
  simp [wpOpsS, go_sem, recoverD, hu, Tryz.ntmps79, Exit.thenS]
  refine wpS_of_wp ?_
  refine wp_named ⟨#[Value.pointer (some ⟨p, 0, none⟩), Value.pointer (some ⟨q, 0, none⟩), Value.pointer (some ⟨r, 0, none⟩), .nilIface, undef, undef, undef, undef, .nilIface, undef, undef, undef, undef, undef, undef, undef, undef, undef, undef, undef, undef, undef, undef, undef, undef, undef], []⟩ (by kernel_rfl) ?_
  intro Q' hQ
  have HQ := hidV hQ
  clear hQ
  have he : ∀ w : World, (binOp .eql 20 .nilIface .nilIface).run Tryz.prog w = .ok (.bool true) w := fun _ => by kernel_rfl
  go_wp2
  rw [HQ.out]
  cases c₀
  simp_all [bodyPostS, results, Tryz.results79]

theorem results_poly (tmps : Array Value) (w : World) (g1 g2 g3 : Nat) (p : List Nat) (e b : Int) (h1 : tmps.getD 4 undef = .pointer (some ⟨g1, 0, none⟩)) (h2 : tmps.getD 5 undef = .pointer (some ⟨g2, 0, none⟩)) (h3 : tmps.getD 6 undef = .pointer (some ⟨g3, 0, none⟩))
    (hp : Good p) (b1 : Blk w g1 (pv p) 76) (b2 : Blk w g2 #[.int .i64 e] 34) (b3 : Blk w g3 #[.int .i64 b] 3) :
    (results Tryz.f45 tmps).run Tryz.prog w = .ok (.tuple #[.agg (pv p), .int .i64 e, .int .i64 b]) w := by
  have l1 := run_loadVar_row (P := Tryz.prog) w g1 76 76 (pv p) (0, 0) _ b1 Tryz.underlying76 rfl (size_poly hp)
  have e2 : w.cell? ⟨g2, 0, none⟩ = some (.int .i64 e) := b2.cell 0
  have e3 : w.cell? ⟨g3, 0, none⟩ = some (.int .i64 b) := b3.cell 0
  have l2 : (loadVar 34 ⟨g2, 0, none⟩).run Tryz.prog w = .ok (.int .i64 e) w := by simp [loadVar, isAgg, underlying, Tryz.underlying34, e2]
  have l3 : (loadVar 3 ⟨g3, 0, none⟩).run Tryz.prog w = .ok (.int .i64 b) w := by simp [loadVar, isAgg, underlying, Tryz.underlying3, e3]
  have h1' : tmps[4]?.getD undef = .pointer (some ⟨g1, 0, none⟩) := by simpa using h1
  have h2' : tmps[5]?.getD undef = .pointer (some ⟨g2, 0, none⟩) := by simpa using h2
  have h3' : tmps[6]?.getD undef = .pointer (some ⟨g3, 0, none⟩) := by simpa using h3
  simp [results, Tryz.results45, h1', h2', h3', asAddr, l1, l2, l3]

/-- The blocks of the results, while nothing has been read. -/
def Three (w0 w : World) (p : List Nat) (e b : Int) : Prop := Blk w w0.heap.size (pv p) 76 ∧ Blk w (w0.heap.size + 1) #[.int .i64 e] 34 ∧ Blk w (w0.heap.size + 1 + 1) #[.int .i64 b] 3
theorem Three.fr {bs : List Nat} {w0 w w' : World} {p : List Nat} {e b : Int} (h : Three w0 w p e b) (f : Fr bs w w') (hb : ∀ x ∈ bs, x ≠ w0.heap.size ∧ x ≠ w0.heap.size + 1 ∧ x ≠ w0.heap.size + 1 + 1) : Three w0 w' p e b :=
  ⟨h.1.fr f (fun q => (hb _ q).1 rfl), h.2.1.fr f (fun q => (hb _ q).2.1 rfl), h.2.2.fr f (fun q => (hb _ q).2.2 rfl)⟩

/-- The cell that errors.errorType holds. -/
def ErrT (w : World) : Prop := w.cell? ⟨0, 0, none⟩ = some (.iface 195 (.agg #[.pointer (some ⟨5, 127, none⟩)]))
theorem ErrT.lt {w : World} (h : ErrT w) : 0 < w.heap.size := by
  rcases Nat.eq_zero_or_pos w.heap.size with h0 | g
  · unfold ErrT at h; simp [World.cell?, h0] at h
  · exact g
theorem ErrT.fr {bs : List Nat} {w w' : World} (h : ErrT w) (f : Fr bs w w') (hb : 0 ∉ bs) : ErrT w' := by
  unfold ErrT at *
  rw [f.cell 0 (ErrT.lt h) hb]; exact h

/-- Where the reading ended in a panic, the deferred function has caught it. -/
theorem caught (b : Nat) (w W : World) (tmps : Array Value) (p0 : List Nat) (x y : Int) (R : Ending → World → Prop) (h1 : tmps.getD 4 undef = .pointer (some ⟨w.heap.size, 0, none⟩)) (h2 : tmps.getD 5 undef = .pointer (some ⟨w.heap.size + 1, 0, none⟩)) (h3 : tmps.getD 6 undef = .pointer (some ⟨w.heap.size + 1 + 1, 0, none⟩))
    (ht : Three w W p0 0 0) (hp0 : Good p0) (hg : ErrT W) (hw : Fr [b] w W)
    (hR : ∀ W', Fr [b] w W' → R (.returned (.tuple #[.agg (pv zeros), .int .i64 x, .int .i64 y])) W') :
    Leaves Tryz.prog Tryz.f45 tmps R [{ target := .fn (.func 79) #[.pointer (some ⟨w.heap.size, 0, none⟩), .pointer (some ⟨w.heap.size + 1, 0, none⟩), .pointer (some ⟨w.heap.size + 1 + 1, 0, none⟩)], args := #[] }] (.panicking (faulty x y)) W := by
  refine leaves_cons (f := 79) (args := #[.pointer (some ⟨w.heap.size, 0, none⟩), .pointer (some ⟨w.heap.size + 1, 0, none⟩), .pointer (some ⟨w.heap.size + 1 + 1, 0, none⟩)]) (by simp) (by simp [go_sem]) ?_
  refine (catch_panicking w.heap.size (w.heap.size + 1) (w.heap.size + 1 + 1) x y p0 0 0 W ht.1 hp0 ht.2.1 ht.2.2 (by omega) (by omega) (by omega) hg).mono ?_
  rintro e u' W' ⟨rfl, rfl, b1, b2, b3, hf⟩
  refine ⟨_, results_poly tmps W' _ _ _ zeros x y h1 h2 h3 zeros_good b1 b2 b3, hR W' ?_⟩
  exact hw.trans hf (by simp; omega)
theorem idle (w W : World) (tmps : Array Value) (p : List Nat) (R : Ending → World → Prop) (h1 : tmps.getD 4 undef = .pointer (some ⟨w.heap.size, 0, none⟩)) (h2 : tmps.getD 5 undef = .pointer (some ⟨w.heap.size + 1, 0, none⟩)) (h3 : tmps.getD 6 undef = .pointer (some ⟨w.heap.size + 1 + 1, 0, none⟩))
    (ht : Three w W p 0 0) (hp : Good p) (hR : R (.returned (.tuple #[.agg (pv p), .int .i64 0, .int .i64 0])) W) :
    Leaves Tryz.prog Tryz.f45 tmps R [{ target := .fn (.func 79) #[.pointer (some ⟨w.heap.size, 0, none⟩), .pointer (some ⟨w.heap.size + 1, 0, none⟩), .pointer (some ⟨w.heap.size + 1 + 1, 0, none⟩)], args := #[] }] .returning W := by
  refine leaves_cons (f := 79) (args := #[.pointer (some ⟨w.heap.size, 0, none⟩), .pointer (some ⟨w.heap.size + 1, 0, none⟩), .pointer (some ⟨w.heap.size + 1 + 1, 0, none⟩)]) (by simp) (by simp [go_sem]) ?_
  refine (catch_idle w.heap.size (w.heap.size + 1) (w.heap.size + 1 + 1) W).mono ?_
  rintro e u' W' ⟨rfl, rfl, rfl⟩
  exact ⟨_, results_poly tmps _ _ _ _ p 0 0 h1 h2 h3 hp ht.1 ht.2.1 ht.2.2, hR⟩

theorem three0 (w : World) : Three w (((w.alloc (.cells #[.int .i64 0, .int .i64 0, .int .i64 0, .int .i64 0, .int .i64 0, .int .i64 0, .int .i64 0, .int .i64 0, .int .i64 0, .int .i64 0, .int .i64 0, .int .i64 0, .int .i64 0, .int .i64 0, .int .i64 0, .int .i64 0, .int .i64 0, .int .i64 0, .int .i64 0, .int .i64 0, .int .i64 0, .int .i64 0, .int .i64 0, .int .i64 0, .int .i64 0, .int .i64 0, .int .i64 0, .int .i64 0, .int .i64 0, .int .i64 0, .int .i64 0, .int .i64 0, .int .i64 0, .int .i64 0, .int .i64 0] 76)).alloc (.cells #[.int .i64 0] 34)).alloc (.cells #[.int .i64 0] 3)) zeros 0 0 :=
  ⟨Blk.alloc (Blk.alloc (Blk.new w _ _) _) _, Blk.alloc (Blk.newAt _ _ _ (by simp)) _, Blk.newAt _ _ _ (by simp)⟩

variable {M : Value} {D : Int}
set_option maxRecDepth 100000 in
set_option maxHeartbeats 1000000 in
theorem readPoly_long (s : ByteArray) (b : Nat) (t : Tok) (w : World) (hr : Rd w b s M D false t) (hg : ErrT w) (hb0 : 0 < b) (hl : 90 < s.size) (hm : s.size ≤ 140737488351232) :
    Calls Tryz.prog 45 #[.pointer (some ⟨b, 0, none⟩), .func (.func 46) #[] #[]] w fun e w' => e = .returned (.tuple #[.agg (pv zeros), .int .i64 2, .int .i64 0]) ∧ Fr [b] w w' := by
  have hmf : ∀ (fn : Fn) (first cap : Array Value) (w : World), (Instr.makeFunc fn first cap).run Tryz.prog w = .ok (.func fn first cap) w := fun _ _ _ _ => rfl
  have HG := hidV hg
  have HR := hidV hr
  have HB0 := hidV hb0
  clear hg hr hb0
  go_enter_defers Tryz.func45, Tryz.ntmps45
  go_wp2_with fail
  refine (begin_long s b t _ (by exact Blk.alloc (Blk.alloc (Blk.alloc HR.out _) _) _) hl hm).mono ?_
  rintro e w1 ⟨rfl, rfl⟩
  go_wp2
  exact caught b w _ _ zeros 2 0 _ rfl rfl rfl (three0 w) zeros_good (HG.out.fr (bs := []) ((((Fr.refl [] w).alloc _).alloc _).alloc _) (by simp)) ((((Fr.refl [b] w).alloc _).alloc _).alloc _) (fun W' h => ⟨rfl, h⟩)

theorem polynomial_ok (s : ByteArray) (b : Nat) (w : World) (hs : s.size ≤ 1000) (hr : Rd w b s M D false (tk s 0 0)) (h : (poly (tk s 0) false s.size 0).e = 0) :
    Calls Tryz.prog 46 #[.pointer (some ⟨b, 0, none⟩)] w fun e w' => e = .returned (.agg (pv (poly (tk s 0) false s.size 0).p)) ∧ Good (poly (tk s 0) false s.size 0).p ∧ Rd w' b s M D false (tk s 0 (poly (tk s 0) false s.size 0).k) ∧ Fr [b] w w' :=
  (polynomial_any s (tk s 0) 0 b w hs (Str.tk (Nat.zero_le _)) (Nat.zero_le _) hr).mono (by rintro e w1 (g | g); exact g.2; exact absurd h g.1)
theorem polynomial_not (s : ByteArray) (b : Nat) (w : World) (hs : s.size ≤ 1000) (hr : Rd w b s M D false (tk s 0 0)) (h : (poly (tk s 0) false s.size 0).e ≠ 0) :
    Calls Tryz.prog 46 #[.pointer (some ⟨b, 0, none⟩)] w fun e w' => e = .panicked (faulty (poly (tk s 0) false s.size 0).e (poly (tk s 0) false s.size 0).bad) ∧ Fr [b] w w' :=
  (polynomial_any s (tk s 0) 0 b w hs (Str.tk (Nat.zero_le _)) (Nat.zero_le _) hr).mono (by rintro e w1 (g | g); exact absurd g.1 h; exact g.2)
theorem pk_not0 {c : Nat} (h : c ≠ 0) : pk c ≠ 0 := by
  unfold pk
  repeat' split
  all_goals omega

set_option maxRecDepth 100000 in
set_option maxHeartbeats 2000000 in
theorem readPoly_short (s : ByteArray) (b : Nat) (t : Tok) (w : World) (hr : Rd w b s M D false t) (hg : ErrT w) (hb0 : 0 < b) (hl : ¬ 90 < s.size) :
    Calls Tryz.prog 45 #[.pointer (some ⟨b, 0, none⟩), .func (.func 46) #[] #[]] w fun e w' => e = .returned (.tuple #[.agg (pv (rd s).p), .int .i64 (rd s).e, .int .i64 (rd s).bad]) ∧ Good (rd s).p ∧ Fr [b] w w' := by
  have hmf : ∀ (fn : Fn) (first cap : Array Value) (w : World), (Instr.makeFunc fn first cap).run Tryz.prog w = .ok (.func fn first cap) w := fun _ _ _ _ => rfl
  have HG := hidV hg
  have HR := hidV hr
  have hbw : b < w.heap.size := Blk.lt hr
  have h3 := hidV (three0 w)
  have HZB : Hid (0 ∉ [b]) := by unfold Hid; simp; omega
  generalize hrr : rd s = RR
  have HRR := hidV hrr
  clear hg hrr hr hb0
  go_enter_defers Tryz.func45, Tryz.ntmps45
  go_wp2_with fail
  refine (begin_short s b t _ (by exact Blk.alloc (Blk.alloc (Blk.alloc HR.out _) _) _) hl).mono ?_
  rintro e w1 ⟨rfl, hr1, hfb⟩
  have hf1 : Fr [b] w w1 := ((((Fr.refl [b] w).alloc _).alloc _).alloc _).trans hfb (by simp)
  have h31 : Three w w1 zeros 0 0 := h3.out.fr hfb (by simp; omega)
  have HF1 := hidV hf1
  have H31 := hidV h31
  have HR1 : Hid (Rd w1 b s M D false (tk s 0 0)) := hr1
  clear hf1 h31 hr1 hfb
  by_cases he : (poly (tk s 0) false s.size 0).e = 0
  · go_wp2_with fail
    refine (polynomial_ok s b _ (by omega) HR1.out he).mono ?_
    rintro e w2 ⟨rfl, hgp, hr2, hf2⟩
    have HF2 : Hid (Fr [b] w w2) := HF1.out.trans hf2 (by simp)
    have H32 : Three w w2 zeros 0 0 := H31.out.fr hf2 (by simp; omega)
    have hs2 : w2.there w.heap.size 0 (pv (poly (tk s 0) false s.size 0).p).size := Blk.there H32.1 (by rw [pv_size, pv_size, hgp.1]; exact Nat.le_refl _)
    have H33 : Hid (Three w (w2.setCells w.heap.size 0 (pv (poly (tk s 0) false s.size 0).p).toList) (poly (tk s 0) false s.size 0).p 0 0) := ⟨Blk.setAll H32.1 _ (by rw [pv_size, pv_size, hgp.1]; rfl), Blk.setCellsOther H32.2.1 _ _ _ (by omega), Blk.setCellsOther H32.2.2 _ _ _ (by omega)⟩
    have HR3 : Hid (Rd (w2.setCells w.heap.size 0 (pv (poly (tk s 0) false s.size 0).p).toList) b s M D false (tk s 0 (poly (tk s 0) false s.size 0).k)) := Blk.setCellsOther hr2 _ _ _ (by omega)
    have HF3 : Hid (Fr [b] w (w2.setCells w.heap.size 0 (pv (poly (tk s 0) false s.size 0).p).toList)) := HF2.out.setCells _ _ _ (by simp)
    have HS := hidV hs2
    clear hs2 H32 hr2
    by_cases hc : (tk s 0 (poly (tk s 0) false s.size 0).k).c = 0
    · have HE : Hid (RR = ⟨0, 0, (poly (tk s 0) false s.size 0).p⟩) := by unfold Hid; rw [← HRR.out]; unfold rd; rw [if_neg hl, if_pos he, if_pos hc]
      have HPK : Hid (pk (tk s 0 (poly (tk s 0) false s.size 0).k).c = 0) := by unfold Hid; rw [hc]; rfl
      generalize poly (tk s 0) false s.size 0 = PP at *
      go_wp2_with (refine wpList_store_mid (by rfl) 76 _ (.tmp 12) (by rfl) w.heap.size 0 (pv PP.p) (by rfl) (by rfl) HS.out (size_poly hgp) (pv_one _) ?_)
      refine (expect_ok s (tk s 0) PP.k b 0 _ (by omega) (Str.tk (Nat.zero_le _)) HR3.out HPK.out).mono ?_
      rintro e W ⟨rfl, hrW, hfW⟩
      have H34 : Hid (Three w W PP.p 0 0) := H33.out.fr hfW (by simp; omega)
      have HF4 : Hid (Fr [b] w W) := HF3.out.trans hfW (by simp)
      clear HS HR3 H33 HF3 hrW hfW
      have HS : Hid (W.there w.heap.size 0 (pv PP.p).size) := Blk.there H34.out.1 (Nat.le_refl _)
      have b1 : Blk (W.setCells w.heap.size 0 (pv PP.p).toList) w.heap.size (pv PP.p) 76 := Blk.setAll H34.out.1 _ rfl
      have b2 : Blk (W.setCells w.heap.size 0 (pv PP.p).toList) (w.heap.size + 1) #[.int .i64 0] 34 := Blk.setCellsOther H34.out.2.1 _ _ _ (by omega)
      have b3 : Blk (W.setCells w.heap.size 0 (pv PP.p).toList) (w.heap.size + 1 + 1) #[.int .i64 0] 3 := Blk.setCellsOther H34.out.2.2 _ _ _ (by omega)
      have e0 : (W.setCells w.heap.size 0 (pv PP.p).toList).cell? ⟨w.heap.size + 1, 0, none⟩ = some (.int .i64 0) := b2.cell 0
      have e1 : (W.setCells w.heap.size 0 (pv PP.p).toList).cell? ⟨w.heap.size + 1 + 1, 0, none⟩ = some (.int .i64 0) := b3.cell 0
      have e2 := b2.frozen 0
      have e3 := b3.frozen 0
      have B1 := hidV b1
      have B2 := hidV b2
      have B3 := hidV b3
      clear b1 b2 b3
      go_wp2_with (first | (refine wpList_load_row (by rfl) 76 _ (by rfl) w.heap.size (by rfl) 76 (pv PP.p) (0, 0) _ H34.out.1 Tryz.underlying76 (by rfl) (size_poly hgp) ?_) | (refine wpList_store_mid (by rfl) 76 _ (.tmp 15) (by rfl) w.heap.size 0 (pv PP.p) (by rfl) (by rfl) HS.out (size_poly hgp) (pv_one _) ?_))
      refine idle w _ _ PP.p _ rfl rfl rfl ⟨(B1.out.setOther _ _ (by simp)).setOther _ _ (by simp; omega), (B2.out.set 0 _).setOther _ _ (by simp), (B3.out.setOther _ _ (by simp)).set 0 _⟩ hgp ⟨?_, ?_, ?_⟩
      · rw [HE.out]; rfl
      · rw [HE.out]; exact hgp
      · exact ((HF4.out.setCells _ _ _ (by simp)).setCell _ _ (by simp)).setCell _ _ (by simp; omega)
    · have HE : Hid (RR = ⟨4, (tk s 0 (poly (tk s 0) false s.size 0).k).at', zeros⟩) := by unfold Hid; rw [← HRR.out]; unfold rd; rw [if_neg hl, if_pos he, if_neg hc]
      have HPK := hidV (pk_not0 hc)
      generalize poly (tk s 0) false s.size 0 = PP at *
      go_wp2_with (refine wpList_store_mid (by rfl) 76 _ (.tmp 12) (by rfl) w.heap.size 0 (pv PP.p) (by rfl) (by rfl) HS.out (size_poly hgp) (pv_one _) ?_)
      refine (expect_not s _ b 0 _ HR3.out HPK.out).mono ?_
      rintro e W ⟨rfl, hfW⟩
      have H34 : Hid (Three w W PP.p 0 0) := H33.out.fr hfW (by simp; omega)
      have HF4 : Hid (Fr [b] w W) := HF3.out.trans hfW (by simp)
      go_wp2
      refine caught b w _ _ PP.p _ _ _ rfl rfl rfl H34.out hgp (HG.out.fr HF4.out HZB.out) HF4.out (fun W' h => ⟨?_, ?_, h⟩)
      · rw [HE.out]; rfl
      · rw [HE.out]; exact zeros_good
  · have HE : Hid (RR = ⟨(poly (tk s 0) false s.size 0).e, (poly (tk s 0) false s.size 0).bad, zeros⟩) := by unfold Hid; rw [← HRR.out]; unfold rd; rw [if_neg hl, if_neg he]
    go_wp2_with fail
    refine (polynomial_not s b _ (by omega) HR1.out he).mono ?_
    rintro e w2 ⟨rfl, hf2⟩
    have HF2 : Hid (Fr [b] w w2) := HF1.out.trans hf2 (by simp)
    have H32 : Hid (Three w w2 zeros 0 0) := H31.out.fr hf2 (by simp; omega)
    generalize poly (tk s 0) false s.size 0 = PP at *
    go_wp2
    refine caught b w _ _ zeros _ _ _ rfl rfl rfl H32.out zeros_good (HG.out.fr HF2.out HZB.out) HF2.out (fun W' h => ⟨?_, ?_, h⟩)
    · rw [HE.out]
    · rw [HE.out]; exact zeros_good

set_option maxHeartbeats 1000000 in
/-- The program reads a text as 'rd' does. -/
theorem Polynomial_any (s : ByteArray) (w : World) (hg : ErrT w) (hm : s.size ≤ 140737488351232) :
    Calls Tryz.prog 33 #[.string s] w fun e w' => e = .returned (.tuple #[.agg (pv (rd s).p), .int .i64 (rd s).e, .int .i64 (rd s).bad]) ∧ Good (rd s).p ∧ Below w.heap.size w w' := by
  have hmf : ∀ (fn : Fn) (first cap : Array Value) (w : World), (Instr.makeFunc fn first cap).run Tryz.prog w = .ok (.func fn first cap) w := fun _ _ _ _ => rfl
  have HG := hidV hg
  have HL : Hid (0 < w.heap.size) := hg.lt
  have HRP : Hid (∀ (b : Nat) (t : Tok) (w : World), Rd w b s (.map none) 0 false t → ErrT w → 0 < b → Calls Tryz.prog 45 #[.pointer (some ⟨b, 0, none⟩), .func (.func 46) #[] #[]] w fun e w' => e = .returned (.tuple #[.agg (pv (rd s).p), .int .i64 (rd s).e, .int .i64 (rd s).bad]) ∧ Good (rd s).p ∧ Fr [b] w w') := by
    intro b t w hr hg hb
    by_cases hl : 90 < s.size
    · refine (readPoly_long s b t w hr hg hb hl hm).mono ?_
      rintro e w' ⟨rfl, h⟩
      have : rd s = ⟨2, 0, zeros⟩ := by unfold rd; rw [if_pos hl]
      rw [this]
      exact ⟨rfl, zeros_good, h⟩
    · exact readPoly_short s b t w hr hg hb hl
  clear hg
  go_enter Tryz.func33, Tryz.ntmps33
  go_wp2_with fail
  refine (HRP.out (w.heap.size + 1) ⟨0, 0, 0, 0⟩ _ (by exact Blk.newAt _ _ _ (by simp)) (HG.out.fr (bs := []) (((Fr.refl [] w).alloc _).alloc _) (by simp)) (by omega)).mono ?_
  rintro e w1 ⟨rfl, hgp, hfr⟩
  have hq : Blk w1 w.heap.size (pv zeros) 76 := Blk.fr (by exact Blk.alloc (Blk.new w _ _) _) hfr (by simp)
  have HF : Hid (Below w.heap.size w w1) := ((((Fr.refl [] w).alloc _).alloc _).trans hfr (by simp)).below (Nat.le_refl _) (by simp)
  have HTH := hidV (Blk.there hq (show (pv (rd s).p).size ≤ (pv zeros).size by rw [pv_size, pv_size, hgp.1]; exact Nat.le_refl _))
  have HB : Hid (Blk (w1.setCells w.heap.size 0 (pv (rd s).p).toList) w.heap.size (pv (rd s).p) 76) := Blk.setAll hq _ (by rw [pv_size, pv_size, hgp.1]; rfl)
  clear hq hfr HRP
  generalize hRR : rd s = R at *
  have HRR := hidV hRR
  clear hRR
  go_wp2_with (refine wpList_store_mid (by rfl) 76 _ _ (by rfl) w.heap.size 0 (pv R.p) (by rfl) (by rfl) HTH.out (size_poly hgp) (pv_one _) ?_)
  have l1 := run_loadVar_row (P := Tryz.prog) _ w.heap.size 76 76 (pv R.p) (0, 0) _ HB.out Tryz.underlying76 rfl (size_poly hgp)
  refine bodyPost_ret (v := .tuple #[.agg (pv R.p), .int .i64 R.e, .int .i64 R.bad]) (by simp [results, Tryz.results33, asAddr, l1]) rfl (by rw [HRR.out]; exact ⟨rfl, hgp, Below.setCells HF.out _ _ _ (Nat.le_refl _)⟩)
end Go.Proofs.YthlmgpllapccfaaGreatDoor
/- THE READER: a line without a word that is known; the deferred function of a line's reading. -/
namespace Go.Proofs.YthlmgpllapccfaaGreatDoor
open Go.RowKit

set_option maxHeartbeats 2000000 in
theorem rline_other (s : ByteArray) (b bm : Nat) (w : World) (hs : s.size ≤ 1000) (hr : Rd w b s (.map (some bm)) 0 false (tok s 0))
    (n1 : wd s ≠ [108, 101, 116]) (n2 : wd s ≠ [112, 114, 105, 110, 116]) (n3 : wd s ≠ [103, 99, 100]) (n4 : wd s ≠ [114, 111, 111, 116, 115]) (n5 : wd s ≠ [115, 112, 108, 105, 116])
    (n6 : wd s ≠ [115, 101, 116]) (n7 : wd s ≠ [115, 104, 111, 119]) (n8 : wd s ≠ [104, 97, 115]) (n9 : wd s ≠ [115, 117, 98]) :
    Calls Tryz.prog 44 #[.pointer (some ⟨b, 0, none⟩)] w fun e w' => e = .panicked (faulty 3 (w0 s)) ∧ Fr [b] w w' := by
  have hb : b < w.heap.size := Blk.lt hr
  have c2 := hr.cells.2.2.1
  have hat : (tok s 0).at' = w0 s := (tokAt_facts (w0_le s)).1
  rw [hat] at c2
  have HWD := hidV (pWord_any (M := .map (some bm)) (D := 0) (O := false) s b w hs hr)
  have q1 := str_ne (c := s.extract (w0 s) (w1 s)) n1
  have q2 := str_ne (c := s.extract (w0 s) (w1 s)) n2
  have q3 := str_ne (c := s.extract (w0 s) (w1 s)) n3
  have q4 := str_ne (c := s.extract (w0 s) (w1 s)) n4
  have q5 := str_ne (c := s.extract (w0 s) (w1 s)) n5
  have q6 := str_ne (c := s.extract (w0 s) (w1 s)) n6
  have q7 := str_ne (c := s.extract (w0 s) (w1 s)) n7
  have q8 := str_ne (c := s.extract (w0 s) (w1 s)) n8
  have q9 := str_ne (c := s.extract (w0 s) (w1 s)) n9
  clear hr n1 n2 n3 n4 n5 n6 n7 n8 n9 hat
  generalize s.extract (w0 s) (w1 s) = S at *
  go_enter Tryz.func44, Tryz.ntmps44
  go_wp2_with fail
  refine HWD.out.mono ?_
  rintro e w1 ⟨rfl, hr1, hf1⟩
  clear hr1
  go_wp2_with (go_at_call 78; refine (fail_any _ _ _).mono ?_; rintro e w2 ⟨rfl, rfl⟩)
  exact ⟨rfl, rfl, hf1⟩

set_option maxRecDepth 100000 in
set_option maxHeartbeats 1000000 in
theorem catchC_panicking (p q r : Nat) (x y : Int) (p0 : Value) (q0 r0 : Int) (w : World) (hp : Blk w p #[p0] 65) (hq : Blk w q #[.int .i64 q0] 34) (hr : Blk w r #[.int .i64 r0] 3) (hpq : p ≠ q) (hpr : p ≠ r) (hqr : q ≠ r)
    (hg : w.cell? ⟨0, 0, none⟩ = some (.iface 195 (.agg #[.pointer (some ⟨5, 127, none⟩)]))) :
    CallsD Tryz.prog 68 #[.pointer (some ⟨p, 0, none⟩), .pointer (some ⟨q, 0, none⟩), .pointer (some ⟨r, 0, none⟩)] (.panicking (faulty x y)) w fun e u' w' =>
      e = .returned (.tuple #[]) ∧ u' = .panicking [{ v := .iface 130 (.agg #[.int .i64 x, .int .i64 y]), recovered := true }] ∧ Blk w' p #[.nilIface] 65 ∧ Blk w' q #[.int .i64 x] 34 ∧ Blk w' r #[.int .i64 y] 3 ∧ Fr [p, q, r] w w' := by
  have ta : ∀ (v : Value) (w : World), (Instr.typeAssert (.iface 130 v) 20 127 true).run Tryz.prog w = .ok (.tuple #[.iface 130 v, .bool true]) w := fun _ _ => by kernel_rfl
  refine callsD_of_wpS Tryz.func68 rfl fun c₀ cs hu => ?_
  apply wpS_seq
  apply wpS_region
  simp [wpOpsS, go_sem, recoverD, hu, Tryz.ntmps68, Exit.thenS, faulty]
  refine wpS_of_wp ?_
  refine wp_named ⟨#[Value.pointer (some ⟨p, 0, none⟩), Value.pointer (some ⟨q, 0, none⟩), Value.pointer (some ⟨r, 0, none⟩), Value.iface 130 (Value.agg #[Value.int IntKind.i64 x, Value.int IntKind.i64 y]), undef, undef, undef, undef, Value.iface 130 (Value.agg #[Value.int IntKind.i64 x, Value.int IntKind.i64 y]), undef, undef, undef, undef, undef, undef, undef, undef, undef, undef, undef, undef, undef, undef, undef, undef, undef], []⟩ (by kernel_rfl) ?_
  intro Q' hQ
  have HQ := hidV hQ
  clear hQ
  have hb0 : 0 < w.heap.size := by have := Blk.lt hp; omega
  have hpl := Blk.lt hp
  have hql := Blk.lt hq
  have hrl := Blk.lt hr
  have HP := hidV hp
  have HQQ := hidV hq
  have HRR := hidV hr
  clear hp hq hr hu
  go_wp2_with fail
  refine (as_hit x y 0 0 w.heap.size _ (by rw [World.cell?_alloc_lt _ _ ⟨0, 0, none⟩ hb0]; exact hg) (Blk.new w _ _)).mono ?_
  rintro e w1 ⟨rfl, ht1, hf1⟩
  have hp1 : Blk w1 p #[p0] 65 := Blk.fr (Blk.alloc HP.out _) hf1 (by simp; omega)
  have hq1 : Blk w1 q #[.int .i64 q0] 34 := Blk.fr (Blk.alloc HQQ.out _) hf1 (by simp; omega)
  have hr1 : Blk w1 r #[.int .i64 r0] 3 := Blk.fr (Blk.alloc HRR.out _) hf1 (by simp; omega)
  have HFW : Hid (Fr [p, q, r] w w1) := ((Fr.refl [p, q, r] w).alloc _).trans hf1 (by simp)
  have t0 : w1.cell? ⟨w.heap.size, 0, none⟩ = some (.int .i64 x) := ht1.cell 0
  have t1 : w1.cell? ⟨w.heap.size, 1, none⟩ = some (.int .i64 y) := ht1.cell 1
  have u0 : w1.cell? ⟨p, 0, none⟩ = some p0 := hp1.cell 0
  have u1 : w1.cell? ⟨q, 0, none⟩ = some (.int .i64 q0) := hq1.cell 0
  have u2 : w1.cell? ⟨r, 0, none⟩ = some (.int .i64 r0) := hr1.cell 0
  have z0 := hp1.frozen 0
  have z1 := hq1.frozen 0
  have z2 := hr1.frozen 0
  have H1 := hidV hp1
  have H2 := hidV hq1
  have H3 := hidV hr1
  have npq : ¬ p = q := hpq
  have npr : ¬ p = r := hpr
  have nqr : ¬ q = r := hqr
  have hlp := Blk.lt hp1
  have hlq := Blk.lt hq1
  have hlr := Blk.lt hr1
  clear hp1 hq1 hr1 ht1 hf1
  go_wp2
  rw [HQ.out]
  have P1 : Blk (((w1.setCell ⟨p, 0, none⟩ .nilIface).setCell ⟨q, 0, none⟩ (.int .i64 x)).setCell ⟨r, 0, none⟩ (.int .i64 y)) p #[.nilIface] 65 := ((H1.out.set 0 _).setOther _ _ hpq).setOther _ _ hpr
  have P2 : Blk (((w1.setCell ⟨p, 0, none⟩ .nilIface).setCell ⟨q, 0, none⟩ (.int .i64 x)).setCell ⟨r, 0, none⟩ (.int .i64 y)) q #[.int .i64 x] 34 := ((H2.out.setOther _ _ (Ne.symm hpq)).set 0 _).setOther _ _ hqr
  have P3 : Blk (((w1.setCell ⟨p, 0, none⟩ .nilIface).setCell ⟨q, 0, none⟩ (.int .i64 x)).setCell ⟨r, 0, none⟩ (.int .i64 y)) r #[.int .i64 y] 3 := ((H3.out.setOther _ _ (Ne.symm hpr)).setOther _ _ (Ne.symm hqr)).set 0 _
  have P4 : Fr [p, q, r] w (((w1.setCell ⟨p, 0, none⟩ .nilIface).setCell ⟨q, 0, none⟩ (.int .i64 x)).setCell ⟨r, 0, none⟩ (.int .i64 y)) := ((HFW.out.setCell _ _ (by simp)).setCell _ _ (by simp)).setCell _ _ (by simp)
  generalize (((w1.setCell ⟨p, 0, none⟩ .nilIface).setCell ⟨q, 0, none⟩ (.int .i64 x)).setCell ⟨r, 0, none⟩ (.int .i64 y)) = W at *
  simp [bodyPostS, results, Tryz.results68]
  exact ⟨P1, P2, P3, P4⟩

set_option maxRecDepth 100000 in
set_option maxHeartbeats 1000000 in
theorem catchC_idle (p q r : Nat) (w : World) :
    CallsD Tryz.prog 68 #[.pointer (some ⟨p, 0, none⟩), .pointer (some ⟨q, 0, none⟩), .pointer (some ⟨r, 0, none⟩)] .returning w fun e u' w' =>
      e = .returned (.tuple #[]) ∧ u' = .returning ∧ w' = w := by
  refine callsD_of_wpS Tryz.func68 rfl fun c₀ cs hu => ?_
  apply wpS_seq
  apply wpS_region
  simp [wpOpsS, go_sem, recoverD, hu, Tryz.ntmps68, Exit.thenS]
  refine wpS_of_wp ?_
  refine wp_named ⟨#[Value.pointer (some ⟨p, 0, none⟩), Value.pointer (some ⟨q, 0, none⟩), Value.pointer (some ⟨r, 0, none⟩), .nilIface, undef, undef, undef, undef, .nilIface, undef, undef, undef, undef, undef, undef, undef, undef, undef, undef, undef, undef, undef, undef, undef, undef, undef], []⟩ (by kernel_rfl) ?_
  intro Q' hQ
  have HQ := hidV hQ
  clear hQ
  have he : ∀ w : World, (binOp .eql 20 .nilIface .nilIface).run Tryz.prog w = .ok (.bool true) w := fun _ => by kernel_rfl
  go_wp2
  rw [HQ.out]
  cases c₀
  simp_all [bodyPostS, results, Tryz.results68]

theorem results_cmd (tmps : Array Value) (w : World) (g1 g2 g3 : Nat) (v : Value) (e b : Int) (h1 : tmps.getD 4 undef = .pointer (some ⟨g1, 0, none⟩)) (h2 : tmps.getD 5 undef = .pointer (some ⟨g2, 0, none⟩)) (h3 : tmps.getD 6 undef = .pointer (some ⟨g3, 0, none⟩))
    (b1 : Blk w g1 #[v] 65) (b2 : Blk w g2 #[.int .i64 e] 34) (b3 : Blk w g3 #[.int .i64 b] 3) :
    (results Tryz.f43 tmps).run Tryz.prog w = .ok (.tuple #[v, .int .i64 e, .int .i64 b]) w := by
  have e1 : w.cell? ⟨g1, 0, none⟩ = some v := b1.cell 0
  have e2 : w.cell? ⟨g2, 0, none⟩ = some (.int .i64 e) := b2.cell 0
  have e3 : w.cell? ⟨g3, 0, none⟩ = some (.int .i64 b) := b3.cell 0
  have l1 : (loadVar 65 ⟨g1, 0, none⟩).run Tryz.prog w = .ok v w := by simp [loadVar, isAgg, underlying, Tryz.underlying65, e1]
  have l2 : (loadVar 34 ⟨g2, 0, none⟩).run Tryz.prog w = .ok (.int .i64 e) w := by simp [loadVar, isAgg, underlying, Tryz.underlying34, e2]
  have l3 : (loadVar 3 ⟨g3, 0, none⟩).run Tryz.prog w = .ok (.int .i64 b) w := by simp [loadVar, isAgg, underlying, Tryz.underlying3, e3]
  have h1' : tmps[4]?.getD undef = .pointer (some ⟨g1, 0, none⟩) := by simpa using h1
  have h2' : tmps[5]?.getD undef = .pointer (some ⟨g2, 0, none⟩) := by simpa using h2
  have h3' : tmps[6]?.getD undef = .pointer (some ⟨g3, 0, none⟩) := by simpa using h3
  simp [results, Tryz.results43, h1', h2', h3', asAddr, l1, l2, l3]

/-- The blocks of the results. -/
def ThreeC (n : Nat) (w : World) (v : Value) (e b : Int) : Prop := Blk w n #[v] 65 ∧ Blk w (n + 1) #[.int .i64 e] 34 ∧ Blk w (n + 1 + 1) #[.int .i64 b] 3
theorem ThreeC.fr {bs : List Nat} {n : Nat} {w w' : World} {v : Value} {e b : Int} (h : ThreeC n w v e b) (f : Fr bs w w') (hb : ∀ x ∈ bs, x ≠ n ∧ x ≠ n + 1 ∧ x ≠ n + 1 + 1) : ThreeC n w' v e b :=
  ⟨h.1.fr f (fun q => (hb _ q).1 rfl), h.2.1.fr f (fun q => (hb _ q).2.1 rfl), h.2.2.fr f (fun q => (hb _ q).2.2 rfl)⟩
theorem caughtC (b : Nat) (w W : World) (tmps : Array Value) (p0 : Value) (x y : Int) (R : Ending → World → Prop) (h1 : tmps.getD 4 undef = .pointer (some ⟨w.heap.size, 0, none⟩)) (h2 : tmps.getD 5 undef = .pointer (some ⟨w.heap.size + 1, 0, none⟩)) (h3 : tmps.getD 6 undef = .pointer (some ⟨w.heap.size + 1 + 1, 0, none⟩))
    (ht : ThreeC w.heap.size W p0 0 0) (hg : ErrT W) (hw : Fr [b] w W)
    (hR : ∀ W', Fr [b] w W' → R (.returned (.tuple #[.nilIface, .int .i64 x, .int .i64 y])) W') :
    Leaves Tryz.prog Tryz.f43 tmps R [{ target := .fn (.func 68) #[.pointer (some ⟨w.heap.size, 0, none⟩), .pointer (some ⟨w.heap.size + 1, 0, none⟩), .pointer (some ⟨w.heap.size + 1 + 1, 0, none⟩)], args := #[] }] (.panicking (faulty x y)) W := by
  refine leaves_cons (f := 68) (args := #[.pointer (some ⟨w.heap.size, 0, none⟩), .pointer (some ⟨w.heap.size + 1, 0, none⟩), .pointer (some ⟨w.heap.size + 1 + 1, 0, none⟩)]) (by simp) (by simp [go_sem]) ?_
  refine (catchC_panicking w.heap.size (w.heap.size + 1) (w.heap.size + 1 + 1) x y p0 0 0 W ht.1 ht.2.1 ht.2.2 (by omega) (by omega) (by omega) hg).mono ?_
  rintro e u' W' ⟨rfl, rfl, b1, b2, b3, hf⟩
  refine ⟨_, results_cmd tmps W' _ _ _ .nilIface x y h1 h2 h3 b1 b2 b3, hR W' ?_⟩
  exact hw.trans hf (by simp; omega)
theorem idleC (w W : World) (tmps : Array Value) (v : Value) (R : Ending → World → Prop) (h1 : tmps.getD 4 undef = .pointer (some ⟨w.heap.size, 0, none⟩)) (h2 : tmps.getD 5 undef = .pointer (some ⟨w.heap.size + 1, 0, none⟩)) (h3 : tmps.getD 6 undef = .pointer (some ⟨w.heap.size + 1 + 1, 0, none⟩))
    (ht : ThreeC w.heap.size W v 0 0) (hR : R (.returned (.tuple #[v, .int .i64 0, .int .i64 0])) W) :
    Leaves Tryz.prog Tryz.f43 tmps R [{ target := .fn (.func 68) #[.pointer (some ⟨w.heap.size, 0, none⟩), .pointer (some ⟨w.heap.size + 1, 0, none⟩), .pointer (some ⟨w.heap.size + 1 + 1, 0, none⟩)], args := #[] }] .returning W := by
  refine leaves_cons (f := 68) (args := #[.pointer (some ⟨w.heap.size, 0, none⟩), .pointer (some ⟨w.heap.size + 1, 0, none⟩), .pointer (some ⟨w.heap.size + 1 + 1, 0, none⟩)]) (by simp) (by simp [go_sem]) ?_
  refine (catchC_idle w.heap.size (w.heap.size + 1) (w.heap.size + 1 + 1) W).mono ?_
  rintro e u' W' ⟨rfl, rfl, rfl⟩
  exact ⟨_, results_cmd tmps _ _ _ _ v 0 0 h1 h2 h3 ht.1 ht.2.1 ht.2.2, hR⟩
end Go.Proofs.YthlmgpllapccfaaGreatDoor
/- THE READER: a line's reading as a whole. -/
namespace Go.Proofs.YthlmgpllapccfaaGreatDoor
open Go.RowKit

theorem three0C (w : World) : ThreeC w.heap.size (((w.alloc (.cells #[.nilIface] 65)).alloc (.cells #[.int .i64 0] 34)).alloc (.cells #[.int .i64 0] 3)) .nilIface 0 0 :=
  ⟨Blk.alloc (Blk.alloc (Blk.new w _ _) _) _, Blk.alloc (Blk.newAt _ _ _ (by simp)) _, Blk.newAt _ _ _ (by simp)⟩

set_option maxRecDepth 100000 in
set_option maxHeartbeats 1000000 in
theorem readCmd_long (s : ByteArray) (b : Nat) (M : Value) (t : Tok) (w : World) (hr : Rd w b s M 0 false t) (hg : ErrT w) (hl : 90 < s.size) (hm : s.size ≤ 140737488351232) :
    Calls Tryz.prog 43 #[.pointer (some ⟨b, 0, none⟩), .func (.func 44) #[] #[]] w fun e w' => e = .returned (.tuple #[.nilIface, .int .i64 2, .int .i64 0]) ∧ Fr [b] w w' := by
  have hmf : ∀ (fn : Fn) (first cap : Array Value) (w : World), (Instr.makeFunc fn first cap).run Tryz.prog w = .ok (.func fn first cap) w := fun _ _ _ _ => rfl
  have HG := hidV hg
  have HR := hidV hr
  clear hg hr
  go_enter_defers Tryz.func43, Tryz.ntmps43
  go_wp2_with fail
  refine (begin_long s b t _ (by exact Blk.alloc (Blk.alloc (Blk.alloc HR.out _) _) _) hl hm).mono ?_
  rintro e w1 ⟨rfl, rfl⟩
  go_wp2
  exact caughtC b w _ _ .nilIface 2 0 _ rfl rfl rfl (three0C w) (HG.out.fr (bs := []) ((((Fr.refl [] w).alloc _).alloc _).alloc _) (by simp)) ((((Fr.refl [b] w).alloc _).alloc _).alloc _) (fun W' h => ⟨rfl, h⟩)

set_option maxRecDepth 100000 in
set_option maxHeartbeats 2000000 in
theorem readCmd_short (s : ByteArray) (b : Nat) (M : Value) (t : Tok) (w : World) (f : Nat → Tok) (S : WS) (V : Value → World → Prop) (hr : Rd w b s M 0 false t) (hg : ErrT w) (hb0 : 0 < b) (hl : ¬ 90 < s.size) (hs : Str s f)
    (hline : ∀ w', Rd w' b s M 0 false (tok s 0) → Fr [b] w w' → w.heap.size + 3 ≤ w'.heap.size → Calls Tryz.prog 44 #[.pointer (some ⟨b, 0, none⟩)] w' (RP w' b s M 0 false f S V))
    (hVi : ∀ v w, V v w → ∃ T u, v = .iface T u)
    (hV : ∀ v w1 w2, V v w1 → Fr [b, w.heap.size, w.heap.size + 1, w.heap.size + 2] w1 w2 → V v w2) :
    Calls Tryz.prog 43 #[.pointer (some ⟨b, 0, none⟩), .func (.func 44) #[] #[]] w fun e w' =>
      ((enS f S).e = 0 ∧ ∃ v, e = .returned (.tuple #[v, .int .i64 0, .int .i64 0]) ∧ V v w' ∧ Fr [b] w w') ∨ ((enS f S).e ≠ 0 ∧ e = .returned (.tuple #[.nilIface, .int .i64 (enS f S).e, .int .i64 (enS f S).bad]) ∧ Fr [b] w w') := by
  have hmf : ∀ (fn : Fn) (first cap : Array Value) (w : World), (Instr.makeFunc fn first cap).run Tryz.prog w = .ok (.func fn first cap) w := fun _ _ _ _ => rfl
  have HG := hidV hg
  have HR := hidV hr
  have HLN := hidV hline
  have HVV := hidV hV
  have HST := hidV hs
  have hbw : b < w.heap.size := Blk.lt hr
  have h3 := hidV (three0C w)
  have HZB : Hid (0 ∉ [b]) := by unfold Hid; simp; omega
  have HE0 : Hid (S.e ≠ 0 → enS f S = S) := fun h => by unfold enS; rw [if_pos h]
  have HE1 : Hid (S.e = 0 → enS f S = if (f S.k).c = 0 then S else ⟨S.k, 4, (f S.k).at'⟩) := fun h => by unfold enS; rw [if_neg (by omega)]
  obtain ⟨E, HEE⟩ : ∃ E, Hid (enS f S = E) := ⟨_, hidV rfl⟩
  rw [HEE.out] at HE0 HE1 ⊢
  clear hg hr hb0 hline hV hs
  go_enter_defers Tryz.func43, Tryz.ntmps43
  go_wp2_with fail
  refine (begin_short s b t _ (by exact Blk.alloc (Blk.alloc (Blk.alloc HR.out _) _) _) hl).mono ?_
  rintro e w1 ⟨rfl, hr1, hfb⟩
  have HF1 : Hid (Fr [b] w w1) := ((((Fr.refl [b] w).alloc _).alloc _).alloc _).trans hfb (by simp)
  have H31 : Hid (ThreeC w.heap.size w1 .nilIface 0 0) := h3.out.fr hfb (by simp; omega)
  have HR1 := hidV hr1
  have hw1l : w.heap.size + 3 ≤ w1.heap.size := by have := H31.out.2.2.lt; omega
  clear hr1 hfb h3
  go_wp2_with fail
  refine (HLN.out w1 HR1.out HF1.out hw1l).mono ?_
  rintro e w2 (⟨h, v, rfl, hv, hr2, hf2⟩ | ⟨h, rfl, hf2⟩)
  · obtain ⟨TT, uu, hvu⟩ := hVi v _ hv
    subst hvu
    have HF2 : Hid (Fr [b] w w2) := HF1.out.trans hf2 (by simp)
    have H32 : Hid (ThreeC w.heap.size w2 .nilIface 0 0) := H31.out.fr hf2 (by simp; omega)
    have HI2 := hidV (And.intro hv hr2)
    have HEN := hidV (HE1.out h)
    have HS0 := hidV h
    have u0 : w2.cell? ⟨w.heap.size, 0, none⟩ = some .nilIface := H32.out.1.cell 0
    have z0 := H32.out.1.frozen 0
    have H33 : Hid (ThreeC w.heap.size (w2.setCell ⟨w.heap.size, 0, none⟩ (.iface TT uu)) (.iface TT uu) 0 0) := ⟨H32.out.1.set 0 _, H32.out.2.1.setOther _ _ (by simp), H32.out.2.2.setOther _ _ (by simp; omega)⟩
    have HF3 : Hid (Fr [b] w (w2.setCell ⟨w.heap.size, 0, none⟩ (.iface TT uu))) := HF2.out.setCell _ _ (by simp)
    have HR3 : Hid (Rd (w2.setCell ⟨w.heap.size, 0, none⟩ (.iface TT uu)) b s M 0 false (f S.k)) := Blk.setOther HI2.out.2 _ _ (by simp; omega)
    have HV3 : Hid (V (.iface TT uu) (w2.setCell ⟨w.heap.size, 0, none⟩ (.iface TT uu))) := HVV.out (.iface TT uu) _ _ HI2.out.1 ((Fr.refl _ _).setCell _ _ (by simp))
    clear h hv hr2 hf2
    by_cases hc : (f S.k).c = 0
    · have HPK : Hid (pk (f S.k).c = 0) := pk_0.2 hc
      rw [if_pos hc] at HEN
      go_wp2_with fail
      refine (expect_ok s f S.k b 0 _ (by omega) HST.out HR3.out HPK.out).mono ?_
      rintro e w3 ⟨rfl, hr3, hf3⟩
      have H34 : Hid (ThreeC w.heap.size w3 (.iface TT uu) 0 0) := H33.out.fr hf3 (by simp; omega)
      have HF4 : Hid (Fr [b] w w3) := HF3.out.trans hf3 (by simp)
      have HV4 : Hid (V (.iface TT uu) w3) := HVV.out (.iface TT uu) _ _ HV3.out (hf3.mono (by simp))
      have x0 : w3.cell? ⟨w.heap.size, 0, none⟩ = some (.iface TT uu) := H34.out.1.cell 0
      have x1 : w3.cell? ⟨w.heap.size + 1, 0, none⟩ = some (.int .i64 0) := H34.out.2.1.cell 0
      have x2 : w3.cell? ⟨w.heap.size + 1 + 1, 0, none⟩ = some (.int .i64 0) := H34.out.2.2.cell 0
      have y0 := H34.out.1.frozen 0
      have y1 := H34.out.2.1.frozen 0
      have y2 := H34.out.2.2.frozen 0
      clear hr3 hf3 u0 z0
      go_wp2
      refine idleC w _ _ (.iface TT uu) _ rfl rfl rfl ⟨((H34.out.1.set 0 _).setOther _ _ (by simp)).setOther _ _ (by simp; omega), ((H34.out.2.1.setOther _ _ (by simp)).set 0 _).setOther _ _ (by simp), ((H34.out.2.2.setOther _ _ (by simp; omega)).setOther _ _ (by simp)).set 0 _⟩ (Or.inl ⟨by rw [HEN.out]; exact HS0.out, (.iface TT uu), rfl, ?_, ?_⟩)
      · exact HVV.out (.iface TT uu) _ _ HV4.out ((((Fr.refl _ _).setCell _ _ (by simp)).setCell _ _ (by simp)).setCell _ _ (by simp))
      · exact ((HF4.out.setCell _ _ (by simp)).setCell _ _ (by simp)).setCell _ _ (by simp; omega)
    · have HPK : Hid (pk (f S.k).c ≠ 0) := fun q => hc (pk_0.1 q)
      rw [if_neg hc] at HEN
      go_wp2_with fail
      refine (expect_not s (f S.k) b 0 _ HR3.out HPK.out).mono ?_
      rintro e w3 ⟨rfl, hf3⟩
      have H34 : Hid (ThreeC w.heap.size w3 (.iface TT uu) 0 0) := H33.out.fr hf3 (by simp; omega)
      have HF4 : Hid (Fr [b] w w3) := HF3.out.trans hf3 (by simp)
      go_wp2
      refine caughtC b w _ _ (.iface TT uu) _ _ _ rfl rfl rfl H34.out (HG.out.fr HF4.out HZB.out) HF4.out (fun W' h => Or.inr ?_)
      rw [HEN.out]
      exact ⟨by simp, rfl, h⟩
  · have HF2 : Hid (Fr [b] w w2) := HF1.out.trans hf2 (by simp)
    have H32 : Hid (ThreeC w.heap.size w2 .nilIface 0 0) := H31.out.fr hf2 (by simp; omega)
    have HEN := hidV (HE0.out h)
    go_wp2
    refine caughtC b w _ _ .nilIface _ _ _ rfl rfl rfl H32.out (HG.out.fr HF2.out HZB.out) HF2.out (fun W' h2 => Or.inr ?_)
    rw [HEN.out]
    exact ⟨h, rfl, h2⟩
end Go.Proofs.YthlmgpllapccfaaGreatDoor
/- THE PROGRAM's POLYNOMIALS: At. -/
namespace Go.Proofs.YthlmgpllapccfaaGreatDoor
open Go.RowKit

def atH (p : List Nat) (a x m : Nat) : Nat → Nat := fun i => if i < x then horn (rowN p i) 7 a 7 else if i = x then horn (rowN p i) 7 a m else 0
theorem upL_congr {g d : Nat → Nat} (h : ∀ i, i < 5 → g i = d i) : upL g = upL d := by
  unfold upL; rw [h 0 (by omega), h 1 (by omega), h 2 (by omega), h 3 (by omega), h 4 (by omega)]
theorem atH_roll (p : List Nat) (a x : Nat) : upL (atH p a x 7) = upL (atH p a (x + 1) 0) := upL_congr (fun i _ => by
  unfold atH
  by_cases h1 : i < x
  · rw [if_pos h1, if_pos (by omega)]
  · rw [if_neg h1]
    by_cases h2 : i = x
    · rw [if_pos h2, if_pos (by omega)]
    · rw [if_neg h2, if_neg (by omega)]
      split <;> simp [horn])
theorem atH_step (p : List Nat) (a x m : Nat) (hx : x < 5) : (upL (atH p a x m)).set (x * 7) (horn (rowN p x) 7 a (m + 1)) = upL (atH p a x (m + 1)) := by
  apply upL_set _ _ hx
  · unfold atH; rw [if_neg (by omega), if_pos rfl]
  · intro i hi; unfold atH; simp [hi]
theorem atH_at (p : List Nat) (a x m : Nat) (hx : x < 5) : (upL (atH p a x m)).getD (x * 7) 0 = horn (rowN p x) 7 a m := by
  rw [upL_at _ hx]; unfold atH; rw [if_neg (by omega), if_pos rfl]
theorem atH_end (p : List Nat) (a : Nat) : upL (atH p a 5 0) = upL (lnF a p) := upL_congr (fun i hi => by
  unfold atH lnF
  rw [if_pos hi, if_pos hi, horn_pows])
theorem atH_zero (p : List Nat) (a : Nat) : upL (atH p a 0 0) = zeros := rfl
theorem lnF_good (a : Nat) (p : List Nat) : Good (upL (lnF a p)) := upL_good (fun i _ => (lnF_vec a p i).1)

/-- A row of a polynomial. -/
def rowL (p : List Nat) (x : Nat) : List Nat := (p.drop (x * 7)).take 7
theorem rowL_len {p : List Nat} (hp : Good p) {x : Nat} (hx : x < 5) : (rowL p x).length = 7 := by
  unfold rowL; rw [List.length_take, List.length_drop, hp.1]; omega
theorem rowL_at {p : List Nat} {x j : Nat} (hj : j < 7) : (rowL p x).getD j 0 = rowN p x j := by
  unfold rowL rowN
  rw [List.getD_eq_getElem?_getD, List.getElem?_take, if_pos hj, List.getElem?_drop, ← List.getD_eq_getElem?_getD]
theorem rowL_pv {p : List Nat} (hp : Good p) {x : Nat} (hx : x < 5) : (pv p).extract (x * 7) (x * 7 + 7) = pv (rowL p x) := by
  apply Array.ext_getElem?
  intro j
  by_cases hj : j < 7
  · rw [Array.getElem?_extract, if_pos (by rw [pv_size, hp.1]; omega), pv_get (by rw [hp.1]; omega), pv_get (by rw [rowL_len hp hx]; exact hj), rowL_at hj]; rfl
  · rw [Array.getElem?_eq_none (by simp; omega), Array.getElem?_eq_none (by rw [pv_size, rowL_len hp hx]; omega)]
theorem idx_row {p : List Nat} (hp : Good p) {x : Nat} (hx : x < 5) (w : World) : (Instr.index 76 (.agg (pv p)) (.int .i64 (x : Int))).run Tryz.prog w = .ok (.agg (pv (rowL p x))) w := by
  obtain ⟨i, hi⟩ := info_some (P := Tryz.prog) (t := 50) (by kernel_rfl)
  have hs : i.size = 7 := by
    have h7 : (Tryz.prog.info? 50).map (·.size) = some 7 := by kernel_rfl
    rw [hi] at h7; simpa using h7
  simp [Instr.index, asIntOf, run_underlying Tryz.underlying76, sizeOf, typeInfo, hi, hs, part_row, rowL_pv hp hx]
  intro h; omega
theorem size_rowP {l : List Nat} (hl : l.length = 7) : (Tryz.prog.info? 50).map (·.size) = some (pv l).size := by rw [pv_size, hl]; kernel_rfl

set_option maxRecDepth 100000 in
set_option maxHeartbeats 800000 in
theorem At_any (p : List Nat) (A : Int) (a : Nat) (w : World) (hp : Good p) (hA : A % 7 = a) (ha : a < 7) :
    Calls Tryz.prog 47 #[.agg (pv p), .int .i64 A] w fun e w' => e = .returned (.agg (pv (upL (lnF a p)))) ∧ Below w.heap.size w w' := by
  have HA := hidV hA
  clear hA
  obtain ⟨R, HR⟩ : ∃ R, Hid (upL (lnF a p) = R) := ⟨_, hidV rfl⟩
  have hgr := lnF_good a p
  rw [HR.out] at hgr ⊢
  obtain ⟨z, HZ, hzl⟩ : ∃ z : List Nat, Hid (z = zeros) ∧ z.length = 35 := ⟨_, hidV rfl, rfl⟩
  have hzp : pv z = pv zeros := by rw [HZ.out]
  go_enter Tryz.func47, Tryz.ntmps47
  go_upto_region 3 with ((go_at_call 48; refine (Mod_any _ _).mono ?_; rintro e w1 ⟨rfl, rfl⟩))
  rw [HA.out]
  refine wp_forget (fun W => Blk W w.heap.size (pv p) 76 ∧ Blk W (w.heap.size + 1) (pv z) 76 ∧ Blk W (w.heap.size + 1 + 1) (pv (upL (atH p a 0 0))) 76 ∧ Below w.heap.size w W) ⟨Blk.alloc (Blk.alloc (Blk.new w _ _) _) _, by rw [hzp]; exact Blk.alloc (Blk.newAt _ _ _ (by simp)) _, by rw [atH_zero]; exact Blk.newAt _ _ _ (by simp), by go_grown⟩ ?_
  rintro W ⟨b1, b2, b3, hbel⟩
  have HH := hidV (And.intro b1 (And.intro b2 (And.intro b3 hbel)))
  clear b1 b2 b3 hbel hzp
  go_wp2_with (refine wpList_load_row (by rfl) 76 _ (by rfl) w.heap.size (by rfl) 76 (pv p) (0, 0) _ (by exact HH.out.1) Tryz.underlying76 (by rfl) (size_poly hp) ?_)
  go_loopg [12] 5 (fun gm v12 wr => ∃ x : Nat, gm = 5 - x ∧ x ≤ 5 ∧ v12 = .int .i64 x ∧ Hid (Blk wr (w.heap.size + 1) (pv z) 76 ∧ Blk wr (w.heap.size + 1 + 1) (pv (upL (atH p a x 0))) 76 ∧ Below w.heap.size w wr))
  case atStart => exact ⟨0, rfl, by omega, rfl, HH.out.2⟩
  case round =>
    obtain ⟨x, hgm, hx, rfl, HD⟩ := hrel
    clear HH W
    by_cases h5 : x < 5
    · have x0 : (0 : Int) ≤ (x : Int) := by omega
      have x1 : (x : Int) < 5 := by omega
      have hps : (pv p).size = 35 := by rw [pv_size]; exact hp.1
      have hidx := fun (w' : World) => idx_row hp h5 w'
      have hrl := rowL_len hp h5
      have HRA := hidV (fun (j : Nat) (hj : j < 7) => rowL_at (p := p) (x := x) hj)
      obtain ⟨RL, HRL⟩ : ∃ RL, Hid (rowL p x = RL) := ⟨_, hidV rfl⟩
      rw [HRL.out] at hrl HRA
      have hidx2 : ∀ w', (Instr.index 76 (.agg (pv p)) (.int .i64 (x : Int))).run Tryz.prog w' = .ok (.agg (pv RL)) w' := fun w' => by rw [← HRL.out]; exact hidx w'
      clear hidx
      go_upto_region 7 with (refine wpList_store_mid (by rfl) 50 _ _ (by rfl) wr.heap.size 0 (pv RL) (by rfl) (by rfl) (by exact Blk.there (Blk.new wr _ _) (by rw [pv_size, hrl]; decide)) (size_rowP hrl) (pv_one _) ?_)
      refine wp_forget (fun W => Blk W wr.heap.size (pv RL) 50 ∧ Blk W (w.heap.size + 1) (pv z) 76 ∧ Blk W (w.heap.size + 1 + 1) (pv (upL (atH p a x 0))) 76 ∧ Below w.heap.size w W) ?_ ?_
      · have hf : Fr [wr.heap.size] wr ((wr.alloc (.cells (pv [0, 0, 0, 0, 0, 0, 0]) 50)).setCells wr.heap.size 0 (pv RL).toList) := Fr.setCells (Fr.alloc (Fr.refl _ _) _) _ _ _ (Or.inl (by simp))
        have hl1 := HD.out.1.lt
        have hl2 := HD.out.2.1.lt
        exact ⟨Blk.setAll (Blk.new wr _ _) _ (by rw [pv_size, hrl]; rfl), HD.out.1.fr hf (by simp; omega), HD.out.2.1.fr hf (by simp; omega), HD.out.2.2.trans (hf.below (B := w.heap.size) HD.out.2.2.size (by simp; exact HD.out.2.2.size))⟩
      rintro V ⟨v1, v2, v3, v4⟩
      have hBl : w.heap.size + 1 + 1 < wr.heap.size := HD.out.2.1.lt
      have HV := hidV (And.intro v1 (And.intro v2 (And.intro v3 v4)))
      clear v1 v2 v3 v4 HD
      generalize wr.heap.size = B at *
      go_loopg [8] 7 (fun gm v8 wr => ∃ m : Nat, gm = 7 - m ∧ m ≤ 7 ∧ v8 = .int .i64 (((7 - m : Nat) : Int) - 1) ∧ Hid (Blk wr B (pv RL) 50 ∧ Blk wr (w.heap.size + 1) (pv z) 76 ∧ Blk wr (w.heap.size + 1 + 1) (pv (upL (atH p a x m))) 76 ∧ Below w.heap.size w wr))
      case atStart => exact ⟨0, rfl, by omega, rfl, HV⟩
      case round =>
        obtain ⟨m, hgm2, hm, rfl, HE⟩ := hrel
        clear HV V
        by_cases h7 : m < 7
        · obtain ⟨j, hj⟩ : ∃ j : Nat, 7 - m = j + 1 := ⟨6 - m, by omega⟩
          have hj6 : j < 7 := by omega
          have e2 : (((7 - m : Nat) : Int) - 1) = (j : Int) := by omega
          rw [e2]
          have HS2 : Hid (horn (rowN p x) 7 a (m + 1) = (horn (rowN p x) 7 a m * a + rowN p x j) % 7) := by
            unfold Hid
            rw [horn, show 7 - 1 - m = j by omega]
          have HM1 : Hid ((((7 - (m + 1) : Nat) : Int) - 1) = (j : Int) - 1) := by unfold Hid; omega
          clear e2 hj
          have HST := hidV (atH_step p a x m h5)
          have hlt := horn_lt (rowN p x) 7 a m
          have hc1 : wr.cell? ⟨w.heap.size + 1 + 1, x * 7, none⟩ = some (.int .i64 (horn (rowN p x) 7 a m)) := by rw [HE.out.2.2.1.cell, ← atH_at p a x m h5]; exact pv_get (by rw [upL_len]; omega)
          have hc2 : wr.frozen? ⟨w.heap.size + 1 + 1, x * 7, none⟩ = false := HE.out.2.2.1.frozen _
          have hc3 : wr.cell? ⟨B, j, none⟩ = some (.int .i64 (rowN p x j)) := by rw [HE.out.1.cell, ← HRA.out j hj6]; exact pv_get (by rw [hrl]; exact hj6)
          have hv7 : rowN p x j < 7 := hp.2 (x * 7 + j)
          have hpb := prod_bd hlt ha
          have j0 : (0 : Int) ≤ (j : Int) := by omega
          have j1 : (j : Int) < 7 := by omega
          generalize rowN p x j = v at *
          generalize horn (rowN p x) 7 a m = G at *
          go_wp2
          refine region_quiet_tail 14 (by kernel_rfl) (by kernel_rfl) ?_
          simp only [List.take_succ_cons, List.take_zero, List.drop_succ_cons, List.drop_zero]
          repeat (first | go_big_quiet_step ((go_at_call 48; exact Calls.quiet_of_same (Mod_any _ _))) | quiet_step ((go_at_call 48; exact Calls.quiet_of_same (Mod_any _ _))))
          refine wpQuiet_nil ?_
          rintro _ ⟨nq, rfl⟩
          go_wp2
          go_roundg (7 - (m + 1))
          case measure => omega
          case rel =>
            refine ⟨m + 1, rfl, by omega, by rw [HM1.out], ⟨?_, ?_, ?_, ?_⟩⟩
            · exact Blk.setOther (by exact HE.out.1) _ _ (by show ¬ B = w.heap.size + 1 + 1; omega)
            · exact Blk.setOther (by exact HE.out.2.1) _ _ (by show ¬ w.heap.size + 1 = w.heap.size + 1 + 1; omega)
            · rw [← HST.out, HS2.out]
              exact Blk.putN (by exact HE.out.2.2.1) _ _ _ (by simp)
            · exact Below.setCell (below_drewN HE.out.2.2.2 nq) (by show w.heap.size ≤ w.heap.size + 1 + 1; omega) _
        · have e7 : m = 7 := by omega
          subst e7
          go_wp2
          go_roundg (5 - (x + 1))
          case measure => omega
          case rel => exact ⟨x + 1, rfl, by omega, by go_num, by rw [← atH_roll]; exact HE.out.2⟩
    · have e5 : x = 5 := by omega
      subst e5
      have HE : Hid (Blk wr (w.heap.size + 1 + 1) (pv R) 76) := by unfold Hid; rw [← HR.out, ← atH_end]; exact HD.out.2.1
      go_wp2_with (first | (refine wpList_load_row (by rfl) 76 _ (by rfl) (w.heap.size + 1 + 1) (by rfl) 76 (pv R) (0, 0) _ (by exact HE.out) Tryz.underlying76 (by rfl) (size_poly hgr) ?_) | (refine wpList_store_mid (by rfl) 76 _ _ (by rfl) (w.heap.size + 1) 0 (pv R) (by rfl) (by rfl) (by exact Blk.there HD.out.1 (by rw [pv_size, pv_size, hgr.1, hzl]; exact Nat.le_refl _)) (size_poly hgr) (pv_one _) ?_))
      refine bodyPost_ret (results_cell_row Tryz.results47 _ _ (w.heap.size + 1) 76 (pv R) (0, 0) _ (by rfl) (Blk.setAll (by exact HD.out.1) _ (by rw [pv_size, pv_size, hgr.1, hzl])) Tryz.underlying76 rfl (size_poly hgr)) rfl ⟨rfl, ?_⟩
      exact Below.setCells HD.out.2.2 _ _ _ (by omega)
end Go.Proofs.YthlmgpllapccfaaGreatDoor
