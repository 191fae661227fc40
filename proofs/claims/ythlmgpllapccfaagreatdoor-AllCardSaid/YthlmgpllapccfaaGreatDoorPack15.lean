import Derived.Test.YthlmgpllapccfaaGreatDoorPack14
import Derived.Test.YthlmgpllapccfaaGreatDoorTie
import Derived.Test.YthlmgpllapccfaaGreatDoorCards
/- THE DOCUMENT's ANSWER: show, has, sub. -/
namespace Go.Proofs.YthlmgpllapccfaaGreatDoor
open Go.RowKit

theorem okSt_nm {w : World} {b g n cap : Nat} {f : Nat → Tok} {st : Nat → Mng} {s : WS} {op : Int} (h : WyS w b g n cap (nmS f (fun a => decide (2 = 0) || decide ((st a).kd = 2)) s) op) : WyS w b g n cap (nmS f (okSt st) s) op := h
def subB (A B : Nat → Bool) (v : Nat) : Bool := (List.range v).all fun j => !A j || B j
theorem subB_step (A B : Nat → Bool) (v : Nat) : subB A B (v + 1) = (subB A B v && (!A v || B v)) := by
  unfold subB
  rw [List.range_succ, List.all_append]
  simp
theorem ryes_any (y : Bool) (w : World) : Calls Tryz.prog 63 #[.bool y] w fun e w' => e = .returned (.string (bs (yesno y))) ∧ w' = w := by
  cases y <;> (go_enter Tryz.func63, Tryz.ntmps63) <;> go_wp2 <;> go_ret <;> exact ⟨rfl, rfl⟩
set_option maxRecDepth 100000 in
set_option maxHeartbeats 2000000 in
theorem asks_show (b g n cap N bd : Nat) (M : List Nat) (st : Nat → Mng) (f : Nat → Tok) (s : WS) (op : Int) (w : World) (hd : Dk w M bd st) (hbM : b ∈ M) (hbd : b ≠ bd) (h : WyS w b g n cap s op) (ht : TkS w b g n N f) :
    Calls Tryz.prog 37 #[.pointer (some ⟨b, 0, none⟩), .pointer (some ⟨bd, 0, none⟩), .string ⟨#[115, 104, 111, 119]⟩] w fun e w' => (∃ a : Nat, e = .returned (.string (bs (lsd (st a).bit 7))) ∧ (s.e = 0 → isN (f s.k) = true → a = (f s.k).c - 69)) ∧ WyS w' b g n cap (enS f (nmS f (okSt st) s)) op ∧ Fr [b] w w' := by
  have HD := hidV hd
  have HH := hidV h
  have HT := hidV ht
  have hbg := ht.ne
  clear hd h ht
  go_enter Tryz.func37, Tryz.ntmps37
  go_wp2_with fail
  refine (namedS b g n cap N bd 2 _ M st f s op _ rfl HD.out hbd HH.out HT.out).mono ?_
  rintro e w1 ⟨⟨a, ha, rfl, haa⟩, hw1, hf1⟩
  have HT1 := hidV (HT.out.fr hf1 (by simp; exact fun q => hbg q.symm))
  have HW1 := hidV (okSt_nm hw1)
  have HF1 := hidV hf1
  have HAA := hidV haa
  clear hw1 hf1 haa
  go_wp2_with fail
  refine (wendS b g n cap N f _ op _ HW1.out HT1.out).mono ?_
  rintro e w2 ⟨rfl, hw2, hf2⟩
  have HW2 := hidV hw2
  have HF2 := hidV (HF1.out.trans hf2 (by simp))
  have HD2 := hidV (HD.out.fr HF2.out (by simp; exact fun q => hbd q.symm) (by simp; exact Or.inl hbM))
  have hbdl := HD2.out.lt
  clear hw2 hf2 HW1 HF1
  have HRG := hidV (HD2.out.bits ha)
  have HSZ := hidV (size_bool7 (st a).bit)
  have HLI := hidV (fun w' => listed_any (st a).bit w')
  obtain ⟨y, HY⟩ : ∃ y, Hid (bv (st a).bit = y) := ⟨_, hidV rfl⟩
  rw [HY.out] at HRG HSZ HLI
  have a0 : (0 : Int) ≤ (a : Int) := by omega
  have a1 : (a : Int) < 26 := by omega
  go_wp2_with (first | (refine wpList_load_b7 (by rfl) _ (by rfl) bd (a * 9 + 2) (by rfl) y HRG.out HSZ.out ?_))
  refine (HLI.out _).mono ?_
  rintro e w3 ⟨rfl, hb3⟩
  have HF3 : Hid (Fr [] w2 w3) := Fr.of_below hb3
  clear hb3
  go_wp2
  go_ret
  exact ⟨⟨a, rfl, HAA.out⟩, HW2.out.fr HF3.out (by simp), HF2.out.trans HF3.out (by simp)⟩
set_option maxRecDepth 100000 in
set_option maxHeartbeats 2000000 in
theorem asks_has (b g n cap N bd : Nat) (M : List Nat) (st : Nat → Mng) (f : Nat → Tok) (s : WS) (op : Int) (w : World) (hd : Dk w M bd st) (hbM : b ∈ M) (hbd : b ≠ bd) (h : WyS w b g n cap s op) (ht : TkS w b g n N f) :
    Calls Tryz.prog 37 #[.pointer (some ⟨b, 0, none⟩), .pointer (some ⟨bd, 0, none⟩), .string ⟨#[104, 97, 115]⟩] w fun e w' => (∃ a u : Nat, u < 7 ∧ e = .returned (.string (bs (yesno ((st a).bit u)))) ∧ (s.e = 0 → isN (f s.k) = true → a = (f s.k).c - 69) ∧ ((nmS f (okSt st) s).e = 0 → (f (nmS f (okSt st) s).k).c = 1 → u = (f (nmS f (okSt st) s).k).v % 7)) ∧ WyS w' b g n cap (enS f (ctS f (nmS f (okSt st) s))) op ∧ Fr [b] w w' := by
  have HD := hidV hd
  have HH := hidV h
  have HT := hidV ht
  have hbg := ht.ne
  clear hd h ht
  go_enter Tryz.func37, Tryz.ntmps37
  go_wp2_with fail
  refine (namedS b g n cap N bd 2 _ M st f s op _ rfl HD.out hbd HH.out HT.out).mono ?_
  rintro e w1 ⟨⟨a, ha, rfl, haa⟩, hw1, hf1⟩
  have HT1 := hidV (HT.out.fr hf1 (by simp; exact fun q => hbg q.symm))
  have HW1 := hidV (okSt_nm hw1)
  have HF1 := hidV hf1
  have HAA := hidV haa
  clear hw1 hf1 haa
  go_wp2_with fail
  refine (countedS b g n cap N f _ op _ HW1.out HT1.out).mono ?_
  rintro e w5 ⟨⟨u, hu, rfl, huu⟩, hw5, hf5⟩
  have HT5 := hidV (HT1.out.fr hf5 (by simp; exact fun q => hbg q.symm))
  have HW5 := hidV hw5
  have HF5 := hidV (HF1.out.trans hf5 (by simp))
  have HUU := hidV huu
  clear hw5 hf5 huu HW1 HF1
  go_wp2_with fail
  refine (wendS b g n cap N f _ op _ HW5.out HT5.out).mono ?_
  rintro e w2 ⟨rfl, hw2, hf2⟩
  have HW2 := hidV hw2
  have HF2 := hidV (HF5.out.trans hf2 (by simp))
  have HD2 := hidV (HD.out.fr HF2.out (by simp; exact fun q => hbd q.symm) (by simp; exact Or.inl hbM))
  have hbdl := HD2.out.lt
  clear hw2 hf2 HW5 HF5
  have hcb : w2.cell? ⟨bd, a * 9 + 2 + u, none⟩ = some (.bool ((st a).bit u)) := HD2.out.bits ha u _ (by rw [Array.getElem?_toList]; exact bv_get _ hu)
  have a0 : (0 : Int) ≤ (a : Int) := by omega
  have a1 : (a : Int) < 26 := by omega
  have u0 : (0 : Int) ≤ (u : Int) := by omega
  have u1 : (u : Int) < 7 := by omega
  obtain ⟨B, HB⟩ : ∃ B, Hid ((st a).bit u = B) := ⟨_, hidV rfl⟩
  rw [HB.out] at hcb
  go_wp2_with fail
  refine (ryes_any B _).mono ?_
  rintro e w3 ⟨rfl, rfl⟩
  go_wp2
  go_ret
  exact ⟨⟨a, u, hu, by rw [HB.out]; rfl, HAA.out, HUU.out⟩, HW2.out, HF2.out⟩
set_option maxRecDepth 100000 in
set_option maxHeartbeats 2000000 in
theorem asks_sub (b g n cap N bd : Nat) (M : List Nat) (st : Nat → Mng) (f : Nat → Tok) (s : WS) (op : Int) (w : World) (hd : Dk w M bd st) (hbM : b ∈ M) (hbd : b ≠ bd) (h : WyS w b g n cap s op) (ht : TkS w b g n N f) :
    Calls Tryz.prog 37 #[.pointer (some ⟨b, 0, none⟩), .pointer (some ⟨bd, 0, none⟩), .string ⟨#[115, 117, 98]⟩] w fun e w' => (∃ a u : Nat, e = .returned (.string (bs (yesno (withB (st a).bit (st u).bit)))) ∧ (s.e = 0 → isN (f s.k) = true → a = (f s.k).c - 69) ∧ ((nmS f (okSt st) s).e = 0 → isN (f (nmS f (okSt st) s).k) = true → u = (f (nmS f (okSt st) s).k).c - 69)) ∧ WyS w' b g n cap (enS f (nmS f (okSt st) (nmS f (okSt st) s))) op ∧ Fr [b] w w' := by
  have HD := hidV hd
  have HH := hidV h
  have HT := hidV ht
  have hbg := ht.ne
  clear hd h ht
  go_enter Tryz.func37, Tryz.ntmps37
  go_wp2_with fail
  refine (namedS b g n cap N bd 2 _ M st f s op _ rfl HD.out hbd HH.out HT.out).mono ?_
  rintro e w1 ⟨⟨a, ha, rfl, haa⟩, hw1, hf1⟩
  have HT1 := hidV (HT.out.fr hf1 (by simp; exact fun q => hbg q.symm))
  have HW1 := hidV (okSt_nm hw1)
  have HF1 := hidV hf1
  have HAA := hidV haa
  clear hw1 hf1 haa
  go_wp2_with fail
  have HD1 := hidV (HD.out.fr HF1.out (by simp; exact fun q => hbd q.symm) (by simp; exact Or.inl hbM))
  refine (namedS b g n cap N bd 2 _ M st f _ op _ rfl HD1.out hbd HW1.out HT1.out).mono ?_
  rintro e w5 ⟨⟨u, hu, rfl, huu⟩, hw5, hf5⟩
  have HT5 := hidV (HT1.out.fr hf5 (by simp; exact fun q => hbg q.symm))
  have HW5 := hidV (okSt_nm hw5)
  have HF5 := hidV (HF1.out.trans hf5 (by simp))
  have HUU := hidV huu
  clear hw5 hf5 huu HW1 HF1 HD1
  go_wp2_with fail
  refine (wendS b g n cap N f _ op _ HW5.out HT5.out).mono ?_
  rintro e w2 ⟨rfl, hw2, hf2⟩
  have HW2 := hidV hw2
  have HF2 := hidV (HF5.out.trans hf2 (by simp))
  have HD2 := hidV (HD.out.fr HF2.out (by simp; exact fun q => hbd q.symm) (by simp; exact Or.inl hbM))
  have hbdl := HD2.out.lt
  clear hw2 hf2 HW5 HF5
  have HBA : Hid (∀ j, j < 7 → w2.cell? ⟨bd, a * 9 + 2 + j, none⟩ = some (.bool ((st a).bit j))) := fun j hj => HD2.out.bits ha j _ (by rw [Array.getElem?_toList]; exact bv_get _ hj)
  have HBU : Hid (∀ j, j < 7 → w2.cell? ⟨bd, u * 9 + 2 + j, none⟩ = some (.bool ((st u).bit j))) := fun j hj => HD2.out.bits hu j _ (by rw [Array.getElem?_toList]; exact bv_get _ hj)
  have a0 : (0 : Int) ≤ (a : Int) := by omega
  have a1 : (a : Int) < 26 := by omega
  have u0 : (0 : Int) ≤ (u : Int) := by omega
  have u1 : (u : Int) < 26 := by omega
  obtain ⟨A, HA⟩ : ∃ A, Hid ((st a).bit = A) := ⟨_, hidV rfl⟩
  obtain ⟨B, HB⟩ : ∃ B, Hid ((st u).bit = B) := ⟨_, hidV rfl⟩
  rw [HA.out] at HBA
  rw [HB.out] at HBU
  have HCA : Hid (∀ w', Fr [] w2 w' → ∀ j, j < 7 → w'.cell? ⟨bd, a * 9 + 2 + j, none⟩ = some (.bool (A j)) ∧ w'.cell? ⟨bd, u * 9 + 2 + j, none⟩ = some (.bool (B j))) := fun w' hf j hj => ⟨by rw [hf.cell _ hbdl (by simp)]; exact HBA.out j hj, by rw [hf.cell _ hbdl (by simp)]; exact HBU.out j hj⟩
  go_wp2
  go_loopg [19, 20] 7 (fun gm v19 v20 wr => ∃ v : Nat, gm = 7 - v ∧ v ≤ 7 ∧ v20 = .int .i64 v ∧ v19 = .bool (subB A B v) ∧ Hid (Fr [] w2 wr))
  case atStart => exact ⟨0, rfl, by omega, rfl, rfl, Fr.refl _ _⟩
  case round =>
    obtain ⟨v, hgv, hv, rfl, rfl, HF⟩ := hrel
    by_cases hv7 : v < 7
    · have v0 : (0 : Int) ≤ (v : Int) := by omega
      have v1 : (v : Int) < 7 := by omega
      obtain ⟨ca, cb⟩ := HCA.out wr HF.out v hv7
      have HST := hidV (subB_step A B v)
      cases h1 : subB A B v with
      | false =>
        rw [h1] at HST
        go_wp2
        go_roundg (7 - (v + 1))
        case measure => omega
        case rel => exact ⟨v + 1, rfl, by omega, by go_num, by rw [HST.out]; rfl, HF.out⟩
      | true =>
        rw [h1] at HST
        cases h2 : A v with
        | false =>
          rw [h2] at ca HST
          go_wp2
          go_roundg (7 - (v + 1))
          case measure => omega
          case rel => exact ⟨v + 1, rfl, by omega, by go_num, by rw [HST.out]; rfl, HF.out⟩
        | true =>
          rw [h2] at ca HST
          go_wp2
          go_roundg (7 - (v + 1))
          case measure => omega
          case rel => exact ⟨v + 1, rfl, by omega, by go_num, by rw [HST.out]; rfl, HF.out⟩
    · have ev : v = 7 := by omega
      subst ev
      go_wp2_with fail
      refine (ryes_any _ _).mono ?_
      rintro e w3 ⟨rfl, rfl⟩
      go_wp2
      go_ret
      exact ⟨⟨a, u, by rw [HA.out, HB.out]; rfl, HAA.out, HUU.out⟩, HW2.out.fr HF.out (by simp), HF2.out.trans HF.out (by simp)⟩
end Go.Proofs.YthlmgpllapccfaaGreatDoor
/- THE DOCUMENT's ANSWER: Do at a line that asks about sets. -/
namespace Go.Proofs.YthlmgpllapccfaaGreatDoor
open Go.RowKit

set_option maxRecDepth 100000 in
set_option maxHeartbeats 2000000 in
theorem rDo_askG (M : List Nat) (bd : Nat) (st : Nat → Mng) (s : ByteArray) (w : World) (hd : Dk w M bd st) (hl : ¬ 90 < s.size) (hsm1 : sml s (w0 s) = true) (n4 : wd s ≠ [108, 101, 116]) (n8 : wd s ≠ [115, 101, 116]) (S2 : WS) (TX : List UInt8)
    (hA : ∀ b g n cap V, Dk V (b :: M) bd st → b ≠ bd → Wy V b g n cap 1 0 0 0 → 1 < n → TkS V b g n s.size (lf s) → Calls Tryz.prog 37 #[.pointer (some ⟨b, 0, none⟩), .pointer (some ⟨bd, 0, none⟩), .string (s.extract (w0 s) (w1 s))] V fun e w' => (∃ T, e = .returned (.string T) ∧ (S2.e = 0 → T = bs TX)) ∧ WyS w' b g n cap S2 0 ∧ Fr [b] V w') :
    Calls Tryz.prog 30 #[.pointer (some ⟨bd, 0, none⟩), .string s] w fun e w' => e = .returned (.tuple #[.string (bs (ans S2 TX st st).t), .int .i64 (ans S2 TX st st).e, .int .i64 (ans S2 TX st st).bad]) ∧ Dk w' M bd (ans S2 TX st st).st ∧ Fr [bd] w w' := by
  have HD := hidV hd
  have hbdw := hd.lt
  have HA := hidV hA
  clear hd hA
  have hl' : ¬ (90 : Int) < ((s.size : Nat) : Int) := by omega
  have HN4 := hidV n4
  have HN8 := hidV n8
  obtain ⟨R, HR⟩ : ∃ R, Hid (ans S2 TX st st = R) := ⟨_, hidV rfl⟩
  have HLN : Hid (R = ans S2 TX st st) := HR.out.symm
  rw [HR.out]
  clear n4 n8
  go_enter Tryz.func30, Tryz.ntmps30
  go_wp2_with fail
  refine (cut_line s _ (by omega)).mono ?_
  rintro e w1 ⟨n, g, cap, rfl, hn, hc1, hc2, hown, hgb, hbel⟩
  have HT1 := hidV (Tk.of_ownsF hown)
  have hg1 : g < w1.heap.size := HT1.out.1
  have F1 : Hid (Fr [] w w1) := Fr.of_below hbel
  have HEND : Hid (∀ j, j < n + 1 → (lf s j).c ≠ 0 → j + 1 < n + 1) := fun j hj hne => by
    by_cases q : j = n
    · subst q; exact absurd hc2 hne
    · omega
  have HN1 : Hid (sml s (w0 s) = true → 1 < n + 1) := fun h => HEND.out 0 (by omega) (by rw [lf_word h]; dsimp only; omega)
  have HDK : Hid (Dk w1 (w1.heap.size :: M) bd st) := (HD.out.fr F1.out (by simp) (by simp)).more (Nat.le_refl _)
  have hsz1 := hbel.size
  clear hown hbel hc1 hc2
  have FA : Hid (Fr [] w1 (w1.alloc (.cells #[.slice (some ⟨g, 0, none⟩) (n + 1) cap, .int .i64 0, .int .i64 0, .int .i64 0, .int .i64 0] 89))) := (Fr.refl [] w1).alloc _
  have HW1 : Hid (Wy (w1.alloc (.cells #[.slice (some ⟨g, 0, none⟩) (n + 1) cap, .int .i64 0, .int .i64 0, .int .i64 0, .int .i64 0] 89)) w1.heap.size g (n + 1) cap 0 0 0 0) := Blk.new w1 _ _
  have HT2 := hidV (HT1.out.fr FA.out (by simp))
  go_wp2_with fail
  refine (next_any w1.heap.size g (n + 1) cap 0 (lf s) 0 0 0 _ HW1.out HT2.out (by omega) (by omega)).mono ?_
  rintro e w2 ⟨rfl, hb2⟩
  have F2 : Hid (Fr [] w1 w2) := FA.out.trans (Fr.of_below (bs := []) hb2) (by simp)
  have hsz2 : w1.heap.size < w2.heap.size := by have := hb2.size; simp at this; omega
  have HBG : Hid (Begun w (w2.alloc (.cells #[.int .i64 (rk (lf s 0).c), .int .i64 (lf s 0).at', .int .i64 (lf s 0).v, .string (rs (lf s 0).c)] 91)) M bd st s w1.heap.size g (n + 1) cap w2.heap.size 0) := by
    have F3 : Fr [] w1 (w2.alloc (.cells #[.int .i64 (rk (lf s 0).c), .int .i64 (lf s 0).at', .int .i64 (lf s 0).v, .string (rs (lf s 0).c)] 91)) := F2.out.alloc _
    have F4 : Fr [] (w1.alloc (.cells #[.slice (some ⟨g, 0, none⟩) (n + 1) cap, .int .i64 0, .int .i64 0, .int .i64 0, .int .i64 0] 89)) (w2.alloc (.cells #[.int .i64 (rk (lf s 0).c), .int .i64 (lf s 0).at', .int .i64 (lf s 0).v, .string (rs (lf s 0).c)] 91)) := (Fr.of_below hb2).alloc _
    exact ⟨Blk.fr HW1.out F4 (by simp), Blk.new w2 _ _, ⟨HT2.out.fr F4 (by simp), by omega, by omega, HEND.out, lf_v s, by omega⟩, HDK.out.fr F3 (by simp) (by simp), F1.out.trans F3 (by simp), hsz1, by omega, by omega, by omega, by omega, HN1.out⟩
  clear HW1 HT2 FA F2 HT1 hb2 HEND HN1 HDK F1
  go_upto_region 7 with fail
  refine wp_forget (fun V => Begun w V M bd st s w1.heap.size g (n + 1) cap w2.heap.size 0) HBG.out ?_
  rintro V hV
  clear HBG
  generalize w1.heap.size = b at *
  generalize w2.heap.size = tb at *
  clear w1 w2
  have HV := hidV hV
  obtain ⟨t0, t1, t2, t3⟩ := hV.tok.cells4
  obtain ⟨c0, c1, c2, c3, c4⟩ := hV.wy.cells
  obtain ⟨f0, f1, f2, f3, f4⟩ := hV.wy.free
  have htb := hV.ne
  clear hV
  have hw := lf_word hsm1
  have hrk := rk_word (s.extract (w0 s) (w1 s))
  have h4 : rk (lf s 0).c = 4 := by rw [hw]; exact hrk.1
  have hS : rs (lf s 0).c = s.extract (w0 s) (w1 s) := by rw [hw]; exact hrk.2
  have HWD : Hid (wd s = (s.extract (w0 s) (w1 s)).data.toList) := rfl
  have HH4 := hidV h4
  have HHS := hidV hS
  rw [h4] at t0
  rw [hS] at t3
  clear hw hrk h4 hS
  have HN1 := hidV (HV.out.n1 hsm1)
  go_upto_region 10 with fail
  refine wp_forget (fun V2 => Begun w V2 M bd st s b g (n + 1) cap tb 1) ?_ ?_
  · have hf : Fr [b] V (V.setCell ⟨b, 1, none⟩ (.int .i64 1)) := (Fr.refl [b] V).setCell _ _ (Or.inl (by simp))
    have hh := HV.out
    exact ⟨Blk.set hh.wy 1 _, hh.tok.fr hf (by simp; exact hh.ne), hh.tks.fr hf (by simp; exact fun q => hh.tks.ne q.symm), hh.dk.fr hf (by simp; exact fun q => hh.bd q.symm) (by simp), hh.fr.trans hf (by simp; exact hh.b0), hh.b0, hh.t0, hh.ne, hh.bd, hh.n0, hh.n1⟩
  rintro V2 hV2
  clear HV t0 t1 t2 t3 c0 c1 c2 c3 c4 f0 f1 f2 f3 f4
  clear V
  have HV := hidV hV2
  obtain ⟨t0, t1, t2, t3⟩ := hV2.tok.cells4
  obtain ⟨c0, c1, c2, c3, c4⟩ := hV2.wy.cells
  clear hV2
  rw [HHS.out] at t3
  have hQ4 : (s.extract (w0 s) (w1 s)).data.toList ≠ [108, 101, 116] := HN4.out
  have hQ8 : (s.extract (w0 s) (w1 s)).data.toList ≠ [115, 101, 116] := HN8.out
  have q4 := str_ne hQ4
  have q8 := str_ne hQ8
  have HASK := hidV (HA.out b g (n + 1) cap V2 HV.out.dk HV.out.bd HV.out.wy HN1.out HV.out.tks)
  clear hQ4 hQ8
  generalize s.extract (w0 s) (w1 s) = S at *
  have hbl : b < V2.heap.size := HV.out.wy.lt
  by_cases hz : S2.e = 0
  · have hR : R = ⟨0, 0, TX, st⟩ := by rw [HLN.out]; unfold ans; rw [if_neg (by omega)]
    subst hR
    go_wp2_with (go_at_call 37; refine HASK.out.mono ?_; rintro e w5 ⟨⟨T, rfl, hT⟩, hW5, hf5⟩; obtain ⟨k5, hk5, hw5⟩ : ∃ k', k' < n + 1 ∧ Wy w5 b g (n + 1) cap k' 0 0 0 := (by rcases hW5 with ⟨_, x1, x2⟩ | ⟨x1, _⟩; exact ⟨_, x2, x1⟩; exact absurd hz x1); obtain ⟨d0, d1, d2, d3, d4⟩ := hw5.cells; have HT := hidV (hT hz); have HF5 := hidV hf5; clear hT hW5 hf5 hw5)
    go_ret3
    refine ⟨by rw [HT.out]; rfl, ?_, ?_⟩
    · exact (HV.out.dk.fr HF5.out (by simp; exact fun q => HV.out.bd q.symm) (by simp)).less HD.out.mem
    · exact (HV.out.fr.trans HF5.out (by simp; exact HV.out.b0)).mono (by simp)
  · have hR : R = ⟨S2.e, S2.bad, [], st⟩ := by rw [HLN.out]; unfold ans; rw [if_pos hz]
    subst hR
    have q : ((S2.e : Int) != 0) = true := by rw [bne_iff_ne]; omega
    go_wp2_with (go_at_call 37; refine HASK.out.mono ?_; rintro e w5 ⟨⟨T, rfl, hT⟩, hW5, hf5⟩; obtain ⟨k5, hk5, hw5⟩ : ∃ k', k' < n + 1 ∧ Wy w5 b g (n + 1) cap k' S2.e S2.bad 0 := (by rcases hW5 with ⟨x1, _⟩ | ⟨_, x1⟩; exact absurd x1 hz; exact x1); obtain ⟨d0, d1, d2, d3, d4⟩ := hw5.cells; have HF5 := hidV hf5; clear hT hW5 hf5 hw5)
    go_quiet (fail)
    go_wp2
    go_ret3
    refine ⟨rfl, ?_, ?_⟩
    · exact (HV.out.dk.fr (HF5.out.drewN _) (by simp; exact fun q => HV.out.bd q.symm) (by simp)).less HD.out.mem
    · exact (HV.out.fr.trans (HF5.out.drewN _) (by simp; exact HV.out.b0)).mono (by simp)
end Go.Proofs.YthlmgpllapccfaaGreatDoor
/- THE DOCUMENT's ANSWER: set. -/
namespace Go.Proofs.YthlmgpllapccfaaGreatDoor
open Go.RowKit

theorem stS_ok' {f : Nat → Tok} {N : Nat} {st : Nat → Mng} {s : WS} (h : (stS f N st s).e = 0) : s.e = 0 := by
  unfold stS at h
  split at h
  · rename_i q; exact absurd h q
  · rename_i q; omega
theorem mcl_set {c d : Nat → Bool} (h : ∀ i, i < 7 → c i = d i) (v : Value) : mcl (.set c) v = mcl (.set d) v := by
  unfold mcl Mng.bit
  simp only [h 0 (by omega), h 1 (by omega), h 2 (by omega), h 3 (by omega), h 4 (by omega), h 5 (by omega), h 6 (by omega), Mng.kd]
theorem there_from {w : World} {b : Nat} {cs : Array Value} {t : TypeId} (h : Blk w b cs t) (o : Nat) {n : Nat} (hn : o + n ≤ cs.size) : w.there b o n := fun j hj => by
  rw [h.cell, h.frozen]
  exact ⟨by simp; omega, rfl⟩
def lnSet (st : Nat → Mng) (s : ByteArray) : LnR := ans (setS st (lf s) s.size) [] (upd st (nm1 (lf s)) (.set (stR (lf s) s.size st 6 3).b)) st
set_option maxRecDepth 100000 in
set_option maxHeartbeats 2000000 in
theorem rDo_set (M : List Nat) (bd : Nat) (st : Nat → Mng) (s : ByteArray) (w : World) (hd : Dk w M bd st) (hl : ¬ 90 < s.size) (hsm1 : sml s (w0 s) = true) (n4 : wd s = [115, 101, 116]) :
    Calls Tryz.prog 30 #[.pointer (some ⟨bd, 0, none⟩), .string s] w fun e w' => e = .returned (.tuple #[.string (bs (lnSet st s).t), .int .i64 (lnSet st s).e, .int .i64 (lnSet st s).bad]) ∧ Dk w' M bd (lnSet st s).st ∧ Fr [bd] w w' := by
    have HD := hidV hd
    have hbdw := hd.lt
    clear hd
    have hl' : ¬ (90 : Int) < ((s.size : Nat) : Int) := by omega
    have HSM := hidV hsm1
    have HLN : Hid (lnSet st s = ans (setS st (lf s) s.size) [] (upd st (nm1 (lf s)) (.set (stR (lf s) s.size st 6 3).b)) st) := rfl
    have HS0 : Hid (s.extract (w0 s) (w1 s) = ⟨#[115, 101, 116]⟩) := byt_of n4
    obtain ⟨R, HR⟩ : ∃ R, Hid (lnSet st s = R) := ⟨_, hidV rfl⟩
    rw [HR.out] at HLN ⊢
    obtain ⟨nn, HNN⟩ : ∃ nn, Hid (nm1 (lf s) = nn) := ⟨_, hidV rfl⟩
    obtain ⟨cc, HPS⟩ : ∃ cc, Hid ((stR (lf s) s.size st 6 3).b = cc) := ⟨_, hidV rfl⟩
    rw [HNN.out, HPS.out] at HLN
    clear n4 hsm1
    go_enter Tryz.func30, Tryz.ntmps30
    go_wp2_with fail
    refine (cut_line s _ (by omega)).mono ?_
    rintro e w1 ⟨n, g, cap, rfl, hn, hc1, hc2, hown, hgb, hbel⟩
    have HT1 := hidV (Tk.of_ownsF hown)
    have hg1 : g < w1.heap.size := HT1.out.1
    have F1 : Hid (Fr [] w w1) := Fr.of_below hbel
    have HEND : Hid (∀ j, j < n + 1 → (lf s j).c ≠ 0 → j + 1 < n + 1) := fun j hj hne => by
      by_cases q : j = n
      · subst q; exact absurd hc2 hne
      · omega
    have HN1 : Hid (sml s (w0 s) = true → 1 < n + 1) := fun h => HEND.out 0 (by omega) (by rw [lf_word h]; dsimp only; omega)
    have HDK : Hid (Dk w1 (w1.heap.size :: M) bd st) := (HD.out.fr F1.out (by simp) (by simp)).more (Nat.le_refl _)
    have hsz1 := hbel.size
    clear hown hbel hc1 hc2
    have FA : Hid (Fr [] w1 (w1.alloc (.cells #[.slice (some ⟨g, 0, none⟩) (n + 1) cap, .int .i64 0, .int .i64 0, .int .i64 0, .int .i64 0] 89))) := (Fr.refl [] w1).alloc _
    have HW1 : Hid (Wy (w1.alloc (.cells #[.slice (some ⟨g, 0, none⟩) (n + 1) cap, .int .i64 0, .int .i64 0, .int .i64 0, .int .i64 0] 89)) w1.heap.size g (n + 1) cap 0 0 0 0) := Blk.new w1 _ _
    have HT2 := hidV (HT1.out.fr FA.out (by simp))
    go_wp2_with fail
    refine (next_any w1.heap.size g (n + 1) cap 0 (lf s) 0 0 0 _ HW1.out HT2.out (by omega) (by omega)).mono ?_
    rintro e w2 ⟨rfl, hb2⟩
    have F2 : Hid (Fr [] w1 w2) := FA.out.trans (Fr.of_below (bs := []) hb2) (by simp)
    have hsz2 : w1.heap.size < w2.heap.size := by have := hb2.size; simp at this; omega
    have HBG : Hid (Begun w (w2.alloc (.cells #[.int .i64 (rk (lf s 0).c), .int .i64 (lf s 0).at', .int .i64 (lf s 0).v, .string (rs (lf s 0).c)] 91)) M bd st s w1.heap.size g (n + 1) cap w2.heap.size 0) := by
      have F3 : Fr [] w1 (w2.alloc (.cells #[.int .i64 (rk (lf s 0).c), .int .i64 (lf s 0).at', .int .i64 (lf s 0).v, .string (rs (lf s 0).c)] 91)) := F2.out.alloc _
      have F4 : Fr [] (w1.alloc (.cells #[.slice (some ⟨g, 0, none⟩) (n + 1) cap, .int .i64 0, .int .i64 0, .int .i64 0, .int .i64 0] 89)) (w2.alloc (.cells #[.int .i64 (rk (lf s 0).c), .int .i64 (lf s 0).at', .int .i64 (lf s 0).v, .string (rs (lf s 0).c)] 91)) := (Fr.of_below hb2).alloc _
      exact ⟨Blk.fr HW1.out F4 (by simp), Blk.new w2 _ _, ⟨HT2.out.fr F4 (by simp), by omega, by omega, HEND.out, lf_v s, by omega⟩, HDK.out.fr F3 (by simp) (by simp), F1.out.trans F3 (by simp), hsz1, by omega, by omega, by omega, by omega, HN1.out⟩
    clear HW1 HT2 FA F2 HT1 hb2 HEND HN1 HDK F1
    go_upto_region 7 with fail
    refine wp_forget (fun V => Begun w V M bd st s w1.heap.size g (n + 1) cap w2.heap.size 0) HBG.out ?_
    rintro V hV
    clear HBG
    generalize w1.heap.size = b at *
    generalize w2.heap.size = tb at *
    clear w1 w2
    have HV := hidV hV
    obtain ⟨t0, t1, t2, t3⟩ := hV.tok.cells4
    obtain ⟨c0, c1, c2, c3, c4⟩ := hV.wy.cells
    obtain ⟨f0, f1, f2, f3, f4⟩ := hV.wy.free
    have htb := hV.ne
    clear hV
    have hw := lf_word HSM.out
    have hrk := rk_word (s.extract (w0 s) (w1 s))
    have h4 : rk (lf s 0).c = 4 := by rw [hw]; exact hrk.1
    have HHS : Hid (rs (lf s 0).c = ⟨#[115, 101, 116]⟩) := by unfold Hid; rw [hw, ← HS0.out]; exact hrk.2
    rw [h4] at t0
    rw [HHS.out] at t3
    clear hw hrk h4
    have HN1 := hidV (HV.out.n1 HSM.out)
    go_upto_region 10 with fail
    refine wp_forget (fun V2 => Begun w V2 M bd st s b g (n + 1) cap tb 1) ?_ ?_
    · have hf : Fr [b] V (V.setCell ⟨b, 1, none⟩ (.int .i64 1)) := (Fr.refl [b] V).setCell _ _ (Or.inl (by simp))
      have hh := HV.out
      exact ⟨Blk.set hh.wy 1 _, hh.tok.fr hf (by simp; exact hh.ne), hh.tks.fr hf (by simp; exact fun q => hh.tks.ne q.symm), hh.dk.fr hf (by simp; exact fun q => hh.bd q.symm) (by simp), hh.fr.trans hf (by simp; exact hh.b0), hh.b0, hh.t0, hh.ne, hh.bd, hh.n0, hh.n1⟩
    rintro V2 hV2
    clear HV t0 t1 t2 t3 c0 c1 c2 c3 c4 f0 f1 f2 f3 f4
    clear V
    have HV := hidV hV2
    obtain ⟨t0, t1, t2, t3⟩ := hV2.tok.cells4
    obtain ⟨c0, c1, c2, c3, c4⟩ := hV2.wy.cells
    clear hV2
    rw [HHS.out] at t3
    have hbl : b < V2.heap.size := HV.out.wy.lt
    have htl : tb < V2.heap.size := HV.out.tok.lt
    have HBW := hidV HV.out.b0
    go_wp2_with fail
    refine (namedS b g (n + 1) cap s.size bd 0 _ (b :: M) st (lf s) ws1 0 _ rfl HV.out.dk HV.out.bd (Or.inl ⟨rfl, HV.out.wy, HN1.out⟩) HV.out.tks).mono ?_
    rintro e w3 ⟨⟨a, ha, rfl, haa⟩, hw3, hf3⟩
    have HW3 := hidV (show WyS w3 b g (n + 1) cap (nmS (lf s) (ok0 st) ws1) 0 from hw3)
    have HF3 := hidV hf3
    have HAA := hidV haa
    clear hw3 hf3 haa c0 c1 c2 c3 c4 t0 t1 t2
    have hs3 := HF3.out.size
    have HMB : Hid (Blk (w3.alloc (.cells #[.int .i64 1, .slice none 0 0, .bool false, .bool false, .bool false, .bool false, .bool false, .bool false, .bool false] 81)) w3.heap.size #[.int .i64 1, .slice none 0 0, .bool false, .bool false, .bool false, .bool false, .bool false, .bool false, .bool false] 81) := Blk.new w3 _ _
    have HF3a := hidV (HF3.out.alloc (.cells #[.int .i64 1, .slice none 0 0, .bool false, .bool false, .bool false, .bool false, .bool false, .bool false, .bool false] 81))
    have hgb2 : g ∉ [b] := by simp; exact fun q => HV.out.tks.ne q.symm
    go_wp2_with fail
    refine (wantsS b g (n + 1) cap s.size 65 _ (lf s) _ 0 _ (by decide) (by decide) (fun d => rk_61) (by decide) (HW3.out.fr ((Fr.refl [] w3).alloc _) (by simp)) (HV.out.tks.fr HF3a.out hgb2)).mono ?_
    rintro e w4 ⟨rfl, hw4, hf4⟩
    have hmb : w3.heap.size ≠ b := by omega
    have HMB4 := hidV (HMB.out.fr hf4 (by simp; exact hmb))
    have HF4 := hidV (HF3a.out.trans hf4 (by simp))
    have HW4 := hidV hw4
    have t34 : w4.cell? ⟨tb, 3, none⟩ = some (.string ⟨#[115, 101, 116]⟩) := by rw [HF4.out.cell 3 htl (by simp; exact htb)]; exact t3
    have hs4 : w3.heap.size < w4.heap.size := by have := hf4.size; simp at this; omega
    clear hw4 hf4 t3
    have HK4 : Hid (w4.cell? ⟨w3.heap.size, 0, none⟩ = some (.int .i64 1) ∧ w4.frozen? ⟨w3.heap.size, 0, none⟩ = false) := ⟨HMB4.out.cell 0, HMB4.out.frozen 0⟩
    obtain ⟨k40, k4f⟩ := HK4.out
    have HMK : Hid (Blk (w4.setCell ⟨w3.heap.size, 0, none⟩ (.int .i64 2)) w3.heap.size #[.int .i64 2, .slice none 0 0, .bool false, .bool false, .bool false, .bool false, .bool false, .bool false, .bool false] 81) := Blk.set HMB4.out 0 _
    have HFK : Hid (Fr [w3.heap.size] w4 (w4.setCell ⟨w3.heap.size, 0, none⟩ (.int .i64 2))) := (Fr.refl _ _).setCell _ _ (Or.inl (by simp))
    have HF4b := hidV (HF4.out.trans HFK.out (by simp; exact Or.inr hs3))
    have HW4b := hidV (HW4.out.fr HFK.out (by simp; exact fun q => hmb q.symm))
    have HD4 := hidV (HV.out.dk.fr HF4b.out (by simp; exact fun q => HV.out.bd q.symm) (by simp))
    go_wp2_with fail
    refine (wset_all b g (n + 1) cap s.size bd (lf s) (b :: M) st (by simp) HV.out.bd _ _ HW4b.out (HV.out.tks.fr HF4b.out hgb2) HD4.out).mono ?_
    rintro e w5 ⟨⟨c, he5, hcc⟩, hw5, hf5⟩
    obtain ⟨y, HY⟩ : ∃ y, Hid (bv c = y) := ⟨_, hidV rfl⟩
    rw [HY.out] at he5
    subst he5
    have HM5 := hidV (HMK.out.fr hf5 (by simp; exact hmb))
    have HF5 := hidV (HF4b.out.trans hf5 (by simp))
    have HW5 := hidV hw5
    have HCC := hidV hcc
    have hs5 : w4.heap.size ≤ w5.heap.size := by have := hf5.size; simp at this; omega
    clear hw5 hf5 hcc t34 k40 k4f HK4
    have HM6 : Hid (Blk (w5.setCells w3.heap.size 2 (bv c).toList) w3.heap.size (mcl (.set c) (.slice none 0 0)).toArray 81) := Blk.set (Blk.set (Blk.set (Blk.set (Blk.set (Blk.set (Blk.set HM5.out 2 _) 3 _) 4 _) 5 _) 6 _) 7 _) 8 _
    have HF5b : Hid (Fr [w3.heap.size] w5 (w5.setCells w3.heap.size 2 (bv c).toList)) := Fr.setCells (Fr.refl _ _) _ _ _ (Or.inl (by simp))
    have HF6 := hidV (HF5.out.trans HF5b.out (by simp; exact Or.inr hs3))
    have HTH := hidV (show World.there w5 w3.heap.size 2 (bv c).size from there_from HM5.out 2 (Nat.le_refl _))
    have HSZ := hidV (size_bool7 c)
    have HON := hidV (bv_one c)
    rw [HY.out] at HTH HSZ HON HM6 HF5b HF6 HCC
    go_wp2_with (first | (refine wpList_store_mid (by rfl) 45 _ _ (by rfl) w3.heap.size 2 y (by rfl) (by rfl) HTH.out HSZ.out HON.out ?_))
    refine (wendS b g (n + 1) cap s.size (lf s) _ 0 _ (HW5.out.fr HF5b.out (by simp; exact fun q => hmb q.symm)) (HV.out.tks.fr HF6.out hgb2)).mono ?_
    rintro e w6 ⟨rfl, hw6, hf6⟩
    have HW6 := hidV (show WyS w6 b g (n + 1) cap (setS st (lf s) s.size) 0 from hw6)
    have HM7 := hidV (HM6.out.fr hf6 (by simp; exact hmb))
    have HF7 := hidV (HF6.out.trans hf6 (by simp))
    clear hw6 hf6
    have HD7 := hidV (HV.out.dk.fr HF7.out (by simp; exact fun q => HV.out.bd q.symm) (by simp))
    have a0 : (0 : Int) ≤ (a : Int) := by omega
    have a1 : (a : Int) < 26 := by omega
    by_cases hz : (setS st (lf s) s.size).e = 0
    · have hR : R = ⟨0, 0, [], upd st nn (.set cc)⟩ := by rw [HLN.out]; unfold ans; rw [if_neg (by omega)]
      subst hR
      have hz1 := enS_ok hz
      have hz2 := stS_ok' hz1
      obtain ⟨hz3, hz4⟩ := wtS_ok hz2
      have hz5 := nmS_k hz3
      obtain ⟨_, hz6, _⟩ := nmS_ok hz3
      have ek : (wtS (lf s) 65 (nmS (lf s) (ok0 st) ws1)).k = 3 := by rw [hz4, hz5]; rfl
      have hsy := HCC.out hz2
      rw [ek, HPS.out] at hsy
      have hz7 : (stR (lf s) s.size st 6 3).e = 0 := by
        have q := hz1
        unfold stS at q
        rw [if_neg (by omega), ek] at q
        exact q
      have HA1 : Hid (a = nn) := by unfold Hid; rw [← HNN.out]; exact HAA.out rfl hz6
      have hyc := hsy hz7
      rw [← HY.out] at hyc
      have HM8 : Hid (Blk w6 w3.heap.size (mcl (.set cc) (.slice none 0 0)).toArray 81) := by
        have e9 : mcl (.set c) (.slice none 0 0) = mcl (.set cc) (.slice none 0 0) := mcl_set (bv_inj hyc) _
        rw [← e9]; exact HM7.out
      obtain ⟨m0, m1, m2, m3, m4⟩ : w6.cell? ⟨w3.heap.size, 0, none⟩ = some (.int .i64 2) ∧ w6.cell? ⟨w3.heap.size, 1, none⟩ = some (.slice none 0 0) ∧ w6.cell? ⟨w3.heap.size, 2, none⟩ = some (.bool (cc 0)) ∧ w6.cell? ⟨w3.heap.size, 3, none⟩ = some (.bool (cc 1)) ∧ w6.cell? ⟨w3.heap.size, 4, none⟩ = some (.bool (cc 2)) := ⟨HM8.out.cell 0, HM8.out.cell 1, HM8.out.cell 2, HM8.out.cell 3, HM8.out.cell 4⟩
      obtain ⟨m5, m6, m7, m8⟩ : w6.cell? ⟨w3.heap.size, 5, none⟩ = some (.bool (cc 3)) ∧ w6.cell? ⟨w3.heap.size, 6, none⟩ = some (.bool (cc 4)) ∧ w6.cell? ⟨w3.heap.size, 7, none⟩ = some (.bool (cc 5)) ∧ w6.cell? ⟨w3.heap.size, 8, none⟩ = some (.bool (cc 6)) := ⟨HM8.out.cell 5, HM8.out.cell 6, HM8.out.cell 7, HM8.out.cell 8⟩
      obtain ⟨kk, hkk, hwy⟩ : ∃ k', k' < n + 1 ∧ Wy w6 b g (n + 1) cap k' 0 0 0 := by
        rcases HW6.out with ⟨_, x1, x2⟩ | ⟨x1, _⟩
        · exact ⟨_, x2, x1⟩
        · exact absurd hz x1
      obtain ⟨c0, c1, c2, c3, c4⟩ := hwy.cells
      have HTJ := hidV (HD7.out.there ha)
      have HA := hidV ha
      clear hsy hz hz1 hz2 hz3 hz4 hz5 hz6 hz7 hyc ek hwy ha
      go_wp2
      refine region_quiet_tail 6 (by kernel_rfl) (by kernel_rfl) ?_
      simp only [List.take_succ_cons, List.take_zero, List.drop_succ_cons, List.drop_zero]
      repeat (first | go_big_quiet_step ((fail)) | quiet_step ((fail)))
      refine wpQuiet_nil ?_
      rintro _ ⟨nr, rfl⟩
      go_wp2_with (refine wpList_store_mid (by rfl) 81 _ _ (by rfl) bd (a * 9) (mcl (.set cc) (.slice none 0 0)).toArray (by rfl) (by rfl) (by exact HTJ.out) (mcl_size _ _) (mcl_one _ _ rfl) ?_)
      go_ret3
      have hfd : Fr [] w6 (w6.drewN nr) := (Fr.refl [] w6).drewN _
      have hdd := Dk.store (HD7.out.fr hfd (by simp) (by simp)) HA.out (.set cc) (.slice none 0 0) rfl
      rw [HA1.out] at hdd
      refine ⟨rfl, ?_, ?_⟩
      · have e9 : a * 9 = nn * 9 := by rw [HA1.out]
        rw [e9]
        exact hdd.less HD.out.mem
      · exact Fr.setCells ((HV.out.fr.trans (HF7.out.drewN nr) (by simp; exact HBW.out)).mono (by simp)) _ _ _ (Or.inl (by simp))
    · have hR : R = ⟨(setS st (lf s) s.size).e, (setS st (lf s) s.size).bad, [], st⟩ := by rw [HLN.out]; unfold ans; rw [if_pos hz]
      subst hR
      obtain ⟨kk, hkk, hwy⟩ : ∃ k', k' < n + 1 ∧ Wy w6 b g (n + 1) cap k' (setS st (lf s) s.size).e (setS st (lf s) s.size).bad 0 := by
        rcases HW6.out with ⟨x1, _⟩ | ⟨_, x1⟩
        · exact absurd x1 hz
        · exact x1
      obtain ⟨c0, c1, c2, c3, c4⟩ := hwy.cells
      have q : (((setS st (lf s) s.size).e : Int) != 0) = true := by rw [bne_iff_ne]; omega
      clear hwy hz
      go_wp2
      go_quiet (fail)
      go_wp2
      go_ret3
      refine ⟨rfl, ?_, ?_⟩
      · exact (HD7.out.fr ((Fr.refl [] w6).drewN _) (by simp) (by simp)).less HD.out.mem
      · exact (HV.out.fr.trans (HF7.out.drewN _) (by simp; exact HBW.out)).mono (by simp)
end Go.Proofs.YthlmgpllapccfaaGreatDoor
/- THE DOCUMENT's ANSWER: Do, any line. -/
namespace Go.Proofs.YthlmgpllapccfaaGreatDoor
open Go.RowKit

theorem wd_bare {s : ByteArray} (h : sml s (w0 s) = false) : wd s = [] := by
  have e1 : w1 s = w0 s := wend_here (by rw [h]; decide)
  unfold wd
  rw [e1]
  apply List.eq_nil_of_length_eq_zero
  simp
set_option maxRecDepth 100000 in
theorem rDo_far (M : List Nat) (bd : Nat) (st : Nat → Mng) (s : ByteArray) (w : World) (hd : Dk w M bd st) (hs : s.size ≤ 140737488351232) (hl : 90 < s.size) :
    Calls Tryz.prog 30 #[.pointer (some ⟨bd, 0, none⟩), .string s] w fun e w' => e = .returned (.tuple #[.string (bs []), .int .i64 2, .int .i64 0]) ∧ Dk w' M bd st ∧ Fr [bd] w w' := by
  have HD := hidV hd
  have hbdw := hd.lt
  clear hd
  have hl' : (90 : Int) < ((s.size : Nat) : Int) := by omega
  go_enter Tryz.func30, Tryz.ntmps30
  go_wp2
  go_ret3
  exact ⟨rfl, HD.out, Fr.refl _ _⟩
theorem rDo_show (M : List Nat) (bd : Nat) (st : Nat → Mng) (s : ByteArray) (w : World) (hd : Dk w M bd st) (hl : ¬ 90 < s.size) (hsm1 : sml s (w0 s) = true) (hw : wd s = [115, 104, 111, 119]) :
    Calls Tryz.prog 30 #[.pointer (some ⟨bd, 0, none⟩), .string s] w fun e w' => e = .returned (.tuple #[.string (bs (ans (showS st (lf s)) (lsd (st (nm1 (lf s))).bit 7) st st).t), .int .i64 (ans (showS st (lf s)) (lsd (st (nm1 (lf s))).bit 7) st st).e, .int .i64 (ans (showS st (lf s)) (lsd (st (nm1 (lf s))).bit 7) st st).bad]) ∧ Dk w' M bd (ans (showS st (lf s)) (lsd (st (nm1 (lf s))).bit 7) st st).st ∧ Fr [bd] w w' := by
  refine rDo_askG M bd st s w hd hl hsm1 (by rw [hw]; decide) (by rw [hw]; decide) (showS st (lf s)) _ ?_
  intro b g n cap V h1 h2 h3 h4 h5
  rw [byt_of hw]
  refine (asks_show b g n cap s.size bd (b :: M) st (lf s) ws1 0 V h1 (by simp) h2 (Or.inl ⟨rfl, h3, h4⟩) h5).mono ?_
  rintro e w' ⟨⟨a, rfl, ha⟩, q2, q3⟩
  refine ⟨⟨_, rfl, fun hz => ?_⟩, q2, q3⟩
  obtain ⟨_, z2, _⟩ := nmS_ok (enS_ok hz)
  rw [ha rfl z2]
  rfl
theorem rDo_has (M : List Nat) (bd : Nat) (st : Nat → Mng) (s : ByteArray) (w : World) (hd : Dk w M bd st) (hl : ¬ 90 < s.size) (hsm1 : sml s (w0 s) = true) (hw : wd s = [104, 97, 115]) :
    Calls Tryz.prog 30 #[.pointer (some ⟨bd, 0, none⟩), .string s] w fun e w' => e = .returned (.tuple #[.string (bs (ans (hasS st (lf s)) (yesno ((st (nm1 (lf s))).bit ((lf s 2).v % 7))) st st).t), .int .i64 (ans (hasS st (lf s)) (yesno ((st (nm1 (lf s))).bit ((lf s 2).v % 7))) st st).e, .int .i64 (ans (hasS st (lf s)) (yesno ((st (nm1 (lf s))).bit ((lf s 2).v % 7))) st st).bad]) ∧ Dk w' M bd (ans (hasS st (lf s)) (yesno ((st (nm1 (lf s))).bit ((lf s 2).v % 7))) st st).st ∧ Fr [bd] w w' := by
  refine rDo_askG M bd st s w hd hl hsm1 (by rw [hw]; decide) (by rw [hw]; decide) (hasS st (lf s)) _ ?_
  intro b g n cap V h1 h2 h3 h4 h5
  rw [byt_of hw]
  refine (asks_has b g n cap s.size bd (b :: M) st (lf s) ws1 0 V h1 (by simp) h2 (Or.inl ⟨rfl, h3, h4⟩) h5).mono ?_
  rintro e w' ⟨⟨a, u, hu, rfl, ha, hb⟩, q2, q3⟩
  refine ⟨⟨_, rfl, fun hz => ?_⟩, q2, q3⟩
  obtain ⟨z0, z1⟩ := ctS_ok (enS_ok hz)
  obtain ⟨_, z2, _⟩ := nmS_ok z0
  have z3 := nmS_k z0
  rw [ha rfl z2, hb z0 z1, z3]
  rfl
theorem rDo_sub (M : List Nat) (bd : Nat) (st : Nat → Mng) (s : ByteArray) (w : World) (hd : Dk w M bd st) (hl : ¬ 90 < s.size) (hsm1 : sml s (w0 s) = true) (hw : wd s = [115, 117, 98]) :
    Calls Tryz.prog 30 #[.pointer (some ⟨bd, 0, none⟩), .string s] w fun e w' => e = .returned (.tuple #[.string (bs (ans (subS st (lf s)) (yesno (withB (st (nm1 (lf s))).bit (st (nm2 (lf s))).bit)) st st).t), .int .i64 (ans (subS st (lf s)) (yesno (withB (st (nm1 (lf s))).bit (st (nm2 (lf s))).bit)) st st).e, .int .i64 (ans (subS st (lf s)) (yesno (withB (st (nm1 (lf s))).bit (st (nm2 (lf s))).bit)) st st).bad]) ∧ Dk w' M bd (ans (subS st (lf s)) (yesno (withB (st (nm1 (lf s))).bit (st (nm2 (lf s))).bit)) st st).st ∧ Fr [bd] w w' := by
  refine rDo_askG M bd st s w hd hl hsm1 (by rw [hw]; decide) (by rw [hw]; decide) (subS st (lf s)) _ ?_
  intro b g n cap V h1 h2 h3 h4 h5
  rw [byt_of hw]
  refine (asks_sub b g n cap s.size bd (b :: M) st (lf s) ws1 0 V h1 (by simp) h2 (Or.inl ⟨rfl, h3, h4⟩) h5).mono ?_
  rintro e w' ⟨⟨a, u, rfl, ha, hb⟩, q2, q3⟩
  refine ⟨⟨_, rfl, fun hz => ?_⟩, q2, q3⟩
  obtain ⟨z0, z1, _⟩ := nmS_ok (enS_ok hz)
  obtain ⟨_, z2, _⟩ := nmS_ok z0
  have z3 := nmS_k z0
  rw [ha rfl z2, hb z0 z1, z3]
  rfl
/-- DO. -/
theorem rDo_all (M : List Nat) (bd : Nat) (st : Nat → Mng) (s : ByteArray) (w : World) (hd : Dk w M bd st) (hM : ∀ x ∈ M, x < w.heap.size) (hs : s.size ≤ 140737488351232) :
    Calls Tryz.prog 30 #[.pointer (some ⟨bd, 0, none⟩), .string s] w fun e w' => e = .returned (.tuple #[.string (bs (lnA st s).t), .int .i64 (lnA st s).e, .int .i64 (lnA st s).bad]) ∧ Dk w' M bd (lnA st s).st ∧ Fr [bd] w w' := by
  unfold lnA
  by_cases hl : 90 < s.size
  · rw [if_pos hl]; exact rDo_far M bd st s w hd hs hl
  · rw [if_neg hl]
    cases hsm : sml s (w0 s) with
    | false =>
      have hw := wd_bare hsm
      have e : lnR st s = ⟨3, w0 s, [], st⟩ := by unfold lnR; rw [if_neg hl, if_pos hsm]
      have h := rDo_any M bd st s w hd hM hs (by rw [hw]; decide) (by rw [hw]; decide) (by rw [hw]; decide) (by rw [hw]; decide)
      rw [e] at h
      rw [if_pos rfl]
      exact h
    | true =>
      rw [if_neg (by simp)]
      by_cases c1 : wd s = [115, 101, 116]
      · rw [if_pos c1]; exact rDo_set M bd st s w hd hl hsm c1
      · rw [if_neg c1]
        by_cases c2 : wd s = [115, 104, 111, 119]
        · rw [if_pos c2]; exact rDo_show M bd st s w hd hl hsm c2
        · rw [if_neg c2]
          by_cases c3 : wd s = [104, 97, 115]
          · rw [if_pos c3]; exact rDo_has M bd st s w hd hl hsm c3
          · rw [if_neg c3]
            by_cases c4 : wd s = [115, 117, 98]
            · rw [if_pos c4]; exact rDo_sub M bd st s w hd hl hsm c4
            · rw [if_neg c4]; exact rDo_any M bd st s w hd hM hs c2 c3 c4 c1
end Go.Proofs.YthlmgpllapccfaaGreatDoor
/- THE LAWS OF SESSIONS: a script is played, its lines of sets too. -/
namespace Go.Proofs.YthlmgpllapccfaaGreatDoor
open Go.RowKit

set_option maxRecDepth 100000 in
set_option maxHeartbeats 4000000 in
theorem holds_true (ad : Addr) (n cap : Nat) (K Mi : Nat → Int) (Sx : Nat → ByteArray) (W : World) (hg : ErrT W) (hn : n ≤ 4398046511104) (hblk : ad.block < W.heap.size)
    (hc : ∀ i, i < n → W.cell? (ad.add (i * 3)) = some (.int .i64 (K i)) ∧ W.cell? (ad.add (i * 3 + 1)) = some (.int .i64 (Mi i)) ∧ W.cell? (ad.add (i * 3 + 2)) = some (.string (Sx i)))
    (hm : ∀ i, i < n → -9223372036854775808 ≤ Mi i ∧ Mi i ≤ 9223372036854775807) (hs : ∀ i, i < n → (Sx i).size ≤ 140737488351232) :
    Calls Tryz.prog 10 #[.slice (some ad) n cap, .bool true] W fun e w' => e = .returned (.bool true) ∧ Below W.heap.size W w' := by
  have HC := hidV hc
  have HM := hidV hm
  have HS := hidV hs
  have HG := hidV hg
  clear hc hm hs hg
  go_enter Tryz.func10, Tryz.ntmps10
  go_wp2
  go_loopg [5, 6] n (fun gm v5 v6 wr => ∃ i : Nat, ∃ L : List (Option Pr), ∃ M : List Nat, ∃ S : Nat → Nat → Mng, gm = n - i ∧ i ≤ n ∧ v6 = .int .i64 i ∧ L.length ≤ i ∧ Hid (wr.ownsRow W.heap.size 62 2 v5 L.length (prL L) ∧ (∀ g, v5.ownBlock = some g → g ∈ M) ∧ SI W.heap.size wr M S L ∧ Below W.heap.size W wr))
  case atStart => exact ⟨0, [], [], fun _ _ => .non, rfl, by omega, rfl, by simp, World.ownsRow_nil _ _ _ _, fun g hg => by simp [Value.ownBlock] at hg, ⟨fun p hp => by simp at hp, fun p q hp => by simp at hp, fun x hx => by simp at hx, fun x hx => by simp at hx⟩, Below.refl _ _⟩
  case round =>
    obtain ⟨i, L, M, S, hgm, hi, rfl, hLi, HD⟩ := hrel
    by_cases hlt : i < n
    · obtain ⟨q0, q1, q2⟩ := HC.out i hlt
      have hb0 : ∀ k, wr.cell? (ad.add k) = W.cell? (ad.add k) := fun k => World.cell?_of_block (by rw [addB]; exact HD.out.2.2.2.block _ hblk)
      have c0 : wr.cell? (ad.add (i * 3)) = some (.int .i64 (K i)) := (hb0 _).trans q0
      have c1 : wr.cell? ⟨(ad.add (i * 3)).block, (ad.add (i * 3)).off + 1, none⟩ = some (.int .i64 (Mi i)) := by rw [← addS ad (i * 3) 1 (by omega)]; exact (hb0 _).trans q1
      have c2 : wr.cell? ⟨(ad.add (i * 3)).block, (ad.add (i * 3)).off + 2, none⟩ = some (.string (Sx i)) := by rw [← addS ad (i * 3) 2 (by omega)]; exact (hb0 _).trans q2
      have HMI := hidV (HM.out i hlt)
      have HSX := hidV (HS.out i hlt)
      have i0 : (0 : Int) ≤ (i : Int) := by omega
      have i1 : (i : Int) < (n : Int) := by omega
      clear hb0 q0 q1 q2
      go_upto_region 7 with fail
      have HLI := hidV hLi
      refine wp_forget (fun V => Blk V wr.heap.size #[.int .i64 (K i), .int .i64 (Mi i), .string (Sx i)] 58 ∧ V.ownsRow W.heap.size 62 2 u5 L.length (prL L) ∧ (∀ g, u5.ownBlock = some g → g ∈ M) ∧ SI W.heap.size V M S L ∧ Below W.heap.size W V ∧ (∀ x ∈ M, x < wr.heap.size)) ?_ ?_
      · have hf : Fr [] wr (wr.alloc (.cells #[.int .i64 (K i), .int .i64 (Mi i), .string (Sx i)] 58)) := (Fr.refl [] wr).alloc _
        exact ⟨Blk.new wr _ _, ownsRow_frL HD.out.1 hf (by simp), HD.out.2.1, HD.out.2.2.1.fr hf, HD.out.2.2.2.trans (hf.below (B := W.heap.size) HD.out.2.2.2.size (by simp)), HD.out.2.2.1.hi⟩
      rintro V ⟨v1, v2, v3, v4, v5, v6⟩
      have HV := hidV (And.intro v1 (And.intro v2 (And.intro v3 (And.intro v4 (And.intro v5 v6)))))
      have d0 : V.cell? ⟨wr.heap.size, 0, none⟩ = some (.int .i64 (K i)) := v1.cell 0
      have d1 : V.cell? ⟨wr.heap.size, 1, none⟩ = some (.int .i64 (Mi i)) := v1.cell 1
      have d2 : V.cell? ⟨wr.heap.size, 2, none⟩ = some (.string (Sx i)) := v1.cell 2
      have hob : wr.heap.size < V.heap.size := v1.lt
      have hWV : W.heap.size ≤ V.heap.size := v5.size
      obtain ⟨p5, cap5, hu5⟩ := ownsRow_form v2
      subst hu5
      clear v1 v2 v3 v4 v5 v6 HD c0 c1 c2
      generalize wr.heap.size = ob at *
      clear wr
      have HGV : Hid (ErrT V) := HG.out.fr (bs := []) (Fr.of_below HV.out.2.2.2.2.1) (by simp)
      obtain ⟨i9, hii, hz0, hz1, hz2⟩ := info_parts pair_info
      have hLn : L.length ≤ 4398046511104 := by omega
      by_cases k1 : K i = 1
      · rw [k1] at *
        clear k1
        go_wp2_with fail
        refine (pNew_any V).mono ?_
        rintro e w1 ⟨b, bm, rfl, b1, b2, b3, b4, f1⟩
        have HB := hidV (And.intro b1 (And.intro b2 (And.intro b3 (And.intro b4 f1))))
        clear b1 b2 b3 b4 f1
        go_wp2_with fail
        refine (rNew_any w1).mono ?_
        rintro e w2 ⟨rfl, e1, e2, e3⟩
        have HN : Hid (SI W.heap.size w2 (w1.heap.size :: bm :: M) (fun k => if k = bm then (fun _ => .non) else S k) (L ++ [some ⟨b, bm, w1.heap.size⟩]) ∧ Fr [] V w2) := ⟨HV.out.2.2.2.1.new hWV HB.out.2.2.2.2 HB.out.1 HB.out.2.1 HB.out.2.2.1 HB.out.2.2.2.1 e1 e2 (fun q => by
          obtain ⟨es, clock, hm⟩ := HB.out.2.1.blk
          have hb := HB.out.1
          unfold Blk at hb
          rw [q, hm] at hb; simp at hb), HB.out.2.2.2.2.trans e2 (by simp)⟩
        have HO2 := hidV (ownsRow_frL HV.out.2.1 HN.out.2 (by simp))
        clear e1 e2 e3
        go_wp2_with (at_builtin; refine wpList_append_lies _ (by rfl) (.tmp 36) (.tmp 40) 56 (by rfl) W.heap.size 62 i9 _ 2 16 Tryz.underlying56 hii hz0 hz1 hz2 (by rfl) (by decide) _ L.length (prL L) (by rfl) (by exact HO2.out.alloc _) ⟨w2.heap.size, 0, none⟩ 1 1 [.pointer (some ⟨b, 0, none⟩), .pointer (some ⟨w1.heap.size, 0, none⟩)] (by rfl) (by rfl) (by exact World.news_of_block (Blk.new w2 _ _)) (by simp; exact ⟨rfl, rfl⟩) (by decide) (by unfold maxLen; omega) (by omega) (by have := HN.out.2.size; simp; omega) _ rfl ?_; intro g2 cap2 w3 hown1 hgrow hat hlt1; have HW3 := hidV (And.intro hown1 (And.intro hgrow (And.intro hat hlt1))); clear hown1 hgrow hat hlt1)
        go_roundg (n - (i + 1))
        case measure => omega
        case rel =>
          obtain ⟨hown1, hgrow, hat, hlt1⟩ := HW3.out
          have hfa : Fr [] w2 (w2.alloc (.cells #[.pointer (some ⟨b, 0, none⟩), .pointer (some ⟨w1.heap.size, 0, none⟩)] 62)) := (Fr.refl [] w2).alloc _
          have hsz := hfa.size
          have hV2 := HN.out.2.size
          obtain ⟨M', hS', hg'⟩ := (HN.out.1.fr hfa).grow (by omega) (HO2.out.alloc _) (fun g hg => by have := HV.out.2.2.1 g hg; simp [this]) hgrow (by simp) hat (hown1.lt g2 rfl).2
          refine ⟨i + 1, L ++ [some ⟨b, bm, w1.heap.size⟩], M', _, rfl, by omega, by go_num, by simp; omega, ?_, fun g hg => ?_, hS', ?_⟩
          · rw [prL_snoc, List.length_append]; exact hown1
          · have : g2 = g := by simpa [Value.ownBlock] using hg
            rw [← this]; exact hg'
          · have hbb : Below W.heap.size W (w2.alloc (.cells #[.pointer (some ⟨b, 0, none⟩), .pointer (some ⟨w1.heap.size, 0, none⟩)] 62)) := HV.out.2.2.2.2.1.trans ((HN.out.2.trans hfa (by simp)).below (B := W.heap.size) hWV (by simp))
            exact hbb.grown hgrow hbb.size (fun c hc => HV.out.2.2.2.1.lo c (HV.out.2.2.1 c hc))
      · have n1 : (K i == 1) = false := by rw [beq_eq_false_iff_ne]; exact k1
        clear k1
        by_cases k2 : K i = 2
        · rw [k2] at *
          clear k2 n1
          go_wp2_with (at_builtin; refine wpList_append_lies _ (by rfl) (.tmp 44) (.tmp 46) 56 (by rfl) W.heap.size 62 i9 _ 2 16 Tryz.underlying56 hii hz0 hz1 hz2 (by rfl) (by decide) _ L.length (prL L) (by rfl) (by exact HV.out.2.1.alloc _) ⟨V.heap.size, 0, none⟩ 1 1 [.pointer none, .pointer none] (by rfl) (by rfl) (by exact World.news_of_block (Blk.new V _ _)) (by simp; rfl) (by decide) (by unfold maxLen; omega) (by omega) (by simp; omega) _ rfl ?_; intro g2 cap2 w3 hown1 hgrow hat hlt1; have HW3 := hidV (And.intro hown1 (And.intro hgrow (And.intro hat hlt1))); clear hown1 hgrow hat hlt1)
          go_roundg (n - (i + 1))
          case measure => omega
          case rel =>
            obtain ⟨hown1, hgrow, hat, hlt1⟩ := HW3.out
            have hfa : Fr [] V (V.alloc (.cells #[.pointer none, .pointer none] 62)) := (Fr.refl [] V).alloc _
            have hsz := hfa.size
            obtain ⟨M', hS', hg'⟩ := (HV.out.2.2.2.1.none.fr hfa).grow (by omega) (HV.out.2.1.alloc _) HV.out.2.2.1 hgrow (by simp) hat (hown1.lt g2 rfl).2
            refine ⟨i + 1, L ++ [none], M', _, rfl, by omega, by go_num, by simp; omega, ?_, fun g hg => ?_, hS', ?_⟩
            · rw [prL_snoc, List.length_append]; exact hown1
            · have : g2 = g := by simpa [Value.ownBlock] using hg
              rw [← this]; exact hg'
            · have hbb : Below W.heap.size W (V.alloc (.cells #[.pointer none, .pointer none] 62)) := HV.out.2.2.2.2.1.trans (hfa.below (B := W.heap.size) hWV (by simp))
              exact hbb.grown hgrow hbb.size (fun c hc => HV.out.2.2.2.1.lo c (HV.out.2.2.1 c hc))
        · have n2 : (K i == 2) = false := by rw [beq_eq_false_iff_ne]; exact k2
          clear k2
          have HNEXT : Hid (∃ i' : Nat, ∃ L' : List (Option Pr), ∃ M' : List Nat, ∃ S' : Nat → Nat → Mng, n - (i + 1) = n - i' ∧ i' ≤ n ∧ Value.int .i64 ((i : Int) + 1) = .int .i64 i' ∧ L'.length ≤ i' ∧ Hid (V.ownsRow W.heap.size 62 2 (.slice p5 L.length cap5) L'.length (prL L') ∧ (∀ g, (Value.slice p5 L.length cap5).ownBlock = some g → g ∈ M') ∧ SI W.heap.size V M' S' L' ∧ Below W.heap.size W V)) := ⟨i + 1, L, M, S, rfl, by omega, by go_num, by omega, HV.out.2.1, HV.out.2.2.1, HV.out.2.2.2.1, HV.out.2.2.2.2.1⟩
          by_cases k3 : K i = 3
          · rw [k3] at *
            clear k3 n1 n2
            by_cases hL0 : L.length = 0
            · have hL0i : ((L.length : Nat) : Int) = 0 := by omega
              go_wp2
              all_goals
                go_roundg (n - (i + 1))
                case measure => omega
                case rel => first | exact HNEXT.out | (have h0 : L.length = 0 := (by omega); have q := HNEXT.out; rw [h0] at q; exact q)
            · have hL0i : ¬ ((L.length : Nat) : Int) = 0 := by omega
              obtain ⟨g5, hp5⟩ : ∃ g5, p5 = some ⟨g5, 0, none⟩ := by
                obtain ⟨_, ho | ⟨g, cc, cur, ho1, _⟩⟩ := HV.out.2.1
                · exact absurd ho.2 hL0
                · injection ho1 with q1 q2 q3
                  exact ⟨g, q1⟩
              subst hp5
              have HPC : Hid (∀ k p, L[k]? = some p → ∃ qx qd, V.cell? ⟨g5, k * 2, none⟩ = some (.pointer qx) ∧ V.cell? ⟨g5, k * 2 + 1, none⟩ = some (.pointer qd) ∧ Hid (prV p = [.pointer qx, .pointer qd])) := by
                intro k p hk
                have hc : ∀ j v, (prL L)[k * 2 + j]? = some v → V.cell? ⟨g5, k * 2 + j, none⟩ = some v := fun j v hv => by
                  have := HV.out.2.1.cells (g := g5) rfl (k * 2 + j) v hv
                  rw [Addr.add_mid, Nat.zero_add] at this
                  exact this
                have e0 := prL_get L hk (j := 0) (by omega)
                have e1 := prL_get L hk (j := 1) (by omega)
                cases p with
                | none => exact ⟨none, none, hc 0 _ e0, hc 1 _ e1, rfl⟩
                | some p => exact ⟨some ⟨p.b, 0, none⟩, some ⟨p.bd, 0, none⟩, hc 0 _ e0, hc 1 _ e1, rfl⟩
              have hg5 : g5 < V.heap.size := (HV.out.2.1.lt g5 rfl).2
              go_upto_region 19 with (first | (go_at_call 29; refine (lpick_any (Mi i) L.length _ (by omega) (by omega) HMI.out.1 HMI.out.2).mono ?_; rintro e w1 ⟨⟨k, hk, rfl⟩, rfl⟩; obtain ⟨pp, hpp⟩ : ∃ pp, L[k]? = some pp := ⟨_, List.getElem?_eq_getElem hk⟩; obtain ⟨qx, qd, x0, x1, HQQ⟩ := HPC.out k pp hpp; have HPP := hidV (List.mem_of_getElem? hpp); have hk0 : (0 : Int) ≤ (k : Int) := (by omega); have hk1 : (k : Int) < (L.length : Int) := (by omega); clear hpp))
              refine wp_forget (fun U => Blk U w1.heap.size #[.pointer qx, .pointer qd] 62 ∧ Fr [] w1 U) ⟨Blk.new w1 _ _, (Fr.refl [] w1).alloc _⟩ ?_
              rintro U ⟨u1, u2⟩
              have HU := hidV (And.intro u1 u2)
              have y0 : U.cell? ⟨w1.heap.size, 0, none⟩ = some (.pointer qx) := u1.cell 0
              have y1 : U.cell? ⟨w1.heap.size, 1, none⟩ = some (.pointer qd) := u1.cell 1
              have hOB := HV.out.1.fr u2 (by simp)
              have z2 : U.cell? ⟨ob, 2, none⟩ = some (.string (Sx i)) := hOB.cell 2
              have HOB := hidV hOB
              have HBU : Hid (Below W.heap.size W U) := HV.out.2.2.2.2.1.trans (u2.below (B := W.heap.size) hWV (by simp))
              have HSI := hidV (HV.out.2.2.2.1.fr u2)
              have HRU := hidV (ownsRow_frL HV.out.2.1 u2 (by simp))
              have HGU : Hid (ErrT U) := HGV.out.fr u2 (by simp)
              have HPB := hidV (show ∀ x ∈ M, x < ob ∧ x < w1.heap.size from fun x hx => ⟨HV.out.2.2.2.2.2 x hx, HV.out.2.2.2.1.hi x hx⟩)
              have HVM := hidV HV.out.2.2.1
              clear u1 u2 hOB d0 d1 d2 x0 x1 HNEXT HV HPC
              generalize w1.heap.size = pb at *
              cases pp with
              | none =>
                have hq : (Value.pointer none = .pointer qx) ∧ (Value.pointer none = .pointer qd) := by
                  have := HQQ.out
                  unfold prV at this
                  injection this with e1 e2
                  injection e2 with e2 e3
                  exact ⟨e1, e2⟩
                obtain ⟨e1, e2⟩ := hq
                injection e1 with e1
                injection e2 with e2
                subst e1 e2
                go_wp2_with (first | (go_at_call 16; refine (pDo_nil (Sx i) _).mono ?_; rintro e w2 ⟨rfl, rfl⟩) | (go_at_call 30; refine (rDo_nil (Sx i) _).mono ?_; rintro e w2 ⟨rfl, rfl⟩))
                go_roundg (n - (i + 1))
                case measure => omega
                case rel => exact ⟨i + 1, L, M, S, rfl, by omega, by go_num, by omega, HRU.out, HVM.out, HSI.out, HBU.out⟩
              | some p =>
                have hq : (Value.pointer (some ⟨p.b, 0, none⟩) = .pointer qx) ∧ (Value.pointer (some ⟨p.bd, 0, none⟩) = .pointer qd) := by
                  have := HQQ.out
                  unfold prV at this
                  injection this with e1 e2
                  injection e2 with e2 e3
                  exact ⟨e1, e2⟩
                obtain ⟨e1, e2⟩ := hq
                injection e1 with e1
                injection e2 with e2
                subst e1 e2
                obtain ⟨a1, a2, a3, a4⟩ := HSI.out.one p HPP.out
                have hbmM := a2.mem
                have hbdM := a3.mem
                obtain ⟨esm, ckm, hmm⟩ := a2.blk
                obtain ⟨dsd, hdd⟩ := a3.blk
                have hne : p.bd ≠ p.bm := fun q => by rw [q, hmm] at hdd; simp at hdd
                have HP1 := hidV (pDo_all (Sx i) p.b p.bm M (S p.bm) U ⟨a1, a2⟩ HSI.out.hi HGU.out (Nat.le_trans HSX.out (by decide)))
                have HR1 := hidV (fun w' h1 h2 => rDo_all M p.bd (S p.bm) (Sx i) w' h1 h2 HSX.out)
                have HAA := hidV (And.intro a1 (And.intro a2 (And.intro a3 (And.intro hbmM (And.intro hbdM hne)))))
                have HTY := hidV (And.intro (SI.off HRU.out (c := p.bm) (fun cs q => by rw [hmm] at q; simp at q)) (SI.off HRU.out (c := p.bd) (fun cs q => by rw [hdd] at q; simp at q)))
                have hpm := HPB.out p.bm hbmM
                have hpd := HPB.out p.bd hbdM
                have hobU : ob < U.heap.size := HOB.out.lt
                have hpbU : pb < U.heap.size := HU.out.1.lt
                clear a1 a2 a3 a4 hmm hdd hbmM hbdM hne
                obtain ⟨R, HR⟩ : ∃ R, Hid (lnA (S p.bm) (Sx i) = R) := ⟨_, hidV rfl⟩
                rw [HR.out] at HP1 HR1
                obtain ⟨TT, HTT⟩ : ∃ TT, Hid (bs R.t = TT) := ⟨_, hidV rfl⟩
                go_wp2_with fail
                refine (HP1.out).mono ?_
                rintro x w2 ⟨rfl, r1, r2⟩
                rw [HTT.out]
                have HR2 := hidV (And.intro r1 r2)
                have y12 : w2.cell? ⟨pb, 1, none⟩ = some (.pointer (some ⟨p.bd, 0, none⟩)) := by rw [r2.cell 1 hpbU (by simp; omega)]; exact y1
                have z22 : w2.cell? ⟨ob, 2, none⟩ = some (.string (Sx i)) := by rw [r2.cell 2 hobU (by simp; omega)]; exact z2
                have HDK := hidV (HAA.out.2.2.1.fr r2 (by simp; exact HAA.out.2.2.2.2.2) (by simp [HAA.out.2.2.2.1]))
                have HHI : Hid (∀ x ∈ M, x < w2.heap.size) := fun x hx => Nat.lt_of_lt_of_le (HSI.out.hi x hx) r2.size
                clear r1 r2 y0 y1 z2
                go_wp2_with fail
                refine (HR1.out w2 HDK.out HHI.out).mono ?_
                rintro x w3 ⟨rfl, r3, r4⟩
                rw [HTT.out]
                have HR3 := hidV (And.intro r3 r4)
                clear r3 r4 y12 z22
                generalize (R.e : Int) = RE at *
                generalize (R.bad : Int) = RB at *
                go_wp2
                go_roundg (n - (i + 1))
                case measure => omega
                case rel =>
                  have hS' := HSI.out.did HPP.out HR2.out.1 HR2.out.2 HR3.out.1 HR3.out.2
                  refine ⟨i + 1, L, M, _, rfl, by omega, by go_num, by omega, ?_, HVM.out, hS', ?_⟩
                  · exact ownsRow_frL (ownsRow_frL HRU.out HR2.out.2 (by simp; exact HTY.out.1)) HR3.out.2 (by simp; exact HTY.out.2)
                  · have l1 := HSI.out.lo p.bm HAA.out.2.2.2.1
                    have l2 := HSI.out.lo p.bd HAA.out.2.2.2.2.1
                    have s1 := HBU.out.size
                    have s2 := HR2.out.2.size
                    exact (HBU.out.trans (HR2.out.2.below (B := W.heap.size) s1 (by simp; exact l1))).trans (HR3.out.2.below (B := W.heap.size) (by omega) (by simp; exact l2))
          · have n3 : (K i == 3) = false := by rw [beq_eq_false_iff_ne]; exact k3
            go_wp2
            go_roundg (n - (i + 1))
            case measure => omega
            case rel => exact HNEXT.out
    · go_wp2
      go_ret
      exact ⟨rfl, HD.out.2.2.2⟩
end Go.Proofs.YthlmgpllapccfaaGreatDoor
/- ALL: THE LAW, THE ROW, AND THE TIED CARD. -/
namespace Go.Proofs.YthlmgpllapccfaaGreatDoor
open Go.ChangeShapes Go.WideShapes Go.ChangeAt Go.RowKit
open Go.ChangeMaps (open_string shut_string)

theorem lawAll_nil (a : Option Addr) (cap : Nat) (W : World) :
    Calls Tryz.prog 9 #[.slice a 0 cap] W fun e w' => e = .returned (.bool true) ∧ Below W.heap.size W w' := by
  go_enter Tryz.func9, Tryz.ntmps9
  go_wp2_with fail
  refine (holds_nil a cap true W).mono ?_
  rintro e w1 ⟨rfl, hb⟩
  go_wp2
  go_ret
  exact ⟨rfl, hb⟩
theorem lawAll_any (ad : Addr) (n cap : Nat) (W : World) (h : Calls Tryz.prog 10 #[.slice (some ad) n cap, .bool true] W fun e w' => e = .returned (.bool true) ∧ Below W.heap.size W w') :
    Calls Tryz.prog 9 #[.slice (some ad) n cap] W fun e w' => e = .returned (.bool true) ∧ Below W.heap.size W w' := by
  have HH := hidV h
  clear h
  go_enter Tryz.func9, Tryz.ntmps9
  go_wp2_with fail
  refine (HH.out).mono ?_
  rintro e w1 ⟨rfl, hb⟩
  go_wp2
  go_ret
  exact ⟨rfl, hb⟩

set_option maxRecDepth 100000 in
theorem all_lifted (os : Os) (started : os.Started) (H : Type) (enc : TypeId × Value → H) :
    ReturnsInHanded {} Tryz.checked os 9 .any (fun w args => (Rows.allSpec.pre enc Tryz.prog Tryz.f9 [] false w args ∧ laidMetH Tryz.prog [("errors.errorType", Rows.laid_errors_errorType)] w) ∧ sizedMet enc Tryz.prog Tryz.f9 (OpenSpec.ofChange Rows.allSpec) false w args)
      (Rows.allSpec.post enc Tryz.prog Tryz.f9 false true false false) := by
  refine returnsInHanded_of_change_and (C := Tryz.checked) (X := fun w _ => laidMetH Tryz.prog [("errors.errorType", Rows.laid_errors_errorType)] w) (fun _ _ _ hh h => h.of_heap hh) Tryz.own started (by kernel_rfl) Tryz.func9
    (ChangeSpec.witness_at (enc := enc) (C := Tryz.checked) (os := os) (X := fun w _ => laidMetH Tryz.prog [("errors.errorType", Rows.laid_errors_errorType)] w) false (laidWorld os) #[.slice none 0 0] 8 rfl (by kernel_rfl) (by kernel_rfl) (by kernel_rfl) (by kernel_rfl) (by kernel_rfl) (err_world os _)) ?_
  intro W base args ds gs before hval0 hW _ hsz0 hL _
  have hval : ∀ (j : Nat) t v, Tryz.f9.params[j]? = some t → args[j]? = some v → Value.okWide Tryz.prog W .any base t v := hval0
  have hsz : (DataW.weightsEach Tryz.prog (Tryz.f9.params.toList ++ Rows.allSpec.plain.varTypes Tryz.prog) (ds ++ gs)).all (· ≤ reachBytes) = true := hsz0
  have hW' := hW
  obtain ⟨p, q, hA0, hV0, rfl, hfz, hnd⟩ := hW
  have hA : DataW.TrodAll enc Tryz.prog W 0 (fun _ => true) true Tryz.f9.params.toList args.toList ds p := hA0
  have hV : DataW.TrodVars enc Tryz.prog W (fun _ => true) [] gs q := hV0
  rw [Tryz.params9] at hA hval hsz
  obtain ⟨v0, d0, rfl, rfl, h0⟩ := trodAll_one hA
  obtain ⟨a0, len0, cap0, rfl⟩ := okWide_slice Tryz.underlying22 (hval 0 22 v0 rfl rfl)
  have hg := err_laid hL
  obtain ⟨rfl, rfl⟩ : gs = [] ∧ q = [] := by
    cases gs with
    | nil => exact ⟨rfl, hV⟩
    | cons g r => exact absurd hV (by intro h; cases h)
  have hlt : ∀ y ∈ p ++ [], y.block < W.heap.size := fun y hy => hW'.lt y (by simpa using hy)
  have args0 : ∀ (W' : World), Below W.heap.size W W' → DataW.Trod enc Tryz.prog W' 0 (fun b => decide (b < W.heap.size)) true 22 (.slice a0 len0 cap0) d0 p :=
    fun W' hn => Below.trod (by kernel_rfl) (by kernel_rfl) (of_decide_eq_true (by kernel_rfl)) h0 hn (fun y hy => hlt y (by simp [hy]))
  have hsz1 : (d0.weights Tryz.prog 22).all (· ≤ reachBytes) = true := by
    have e : DataW.weightsEach Tryz.prog (#[22].toList ++ Rows.allSpec.plain.varTypes Tryz.prog) ([d0] ++ []) = d0.weights Tryz.prog 22 ++ [] := rfl
    rw [e, List.append_nil] at hsz
    exact hsz
  have law : Calls Tryz.prog 9 #[.slice a0 len0 cap0] W fun e w' => e = .returned (.bool true) ∧ Below W.heap.size W w' := by
    rcases ops_of h0 (fun y hy => hlt y (by simp [hy])) hsz1 with rfl | ⟨ad, K, Mi, Sx, rfl, k1, k2, k3, k4, k5⟩
    · exact lawAll_nil a0 cap0 W
    · exact lawAll_any ad len0 cap0 W (holds_true ad len0 cap0 K Mi Sx W hg k1 k2 k3 k4 k5)
  clear hA0 hval0 hsz0
  refine law.mono fun e W' ⟨he, hw⟩ => ?_
  subst he
  refine ⟨_, rfl, _, _, _, [], p, [], hW', ?_, ?_, ?_, hw.frame _, fun h => by cases h⟩
  · exact trodAll_mk1 (shut_bool Tryz.underlying4 true)
  · exact trodAll_mk1 (args0 _ hw)
  · rfl

theorem all_holds : Rows.AllSaid :=
  OpenClaim.holds_of_wide 9 Tryz.f9 rfl rfl rfl rfl rfl rfl rfl ⟨rfl, rfl, rfl, rfl, rfl⟩ rfl rfl rfl rfl rfl (by kernel_rfl) Tryz.func9 (by kernel_rfl)
    (of_decide_eq_true (by kernel_rfl)) (by unfold Func.isWrapper; rw [if_neg (of_decide_eq_false (by kernel_rfl))]; exact ⟨rfl, rfl⟩)
    (fun os started H enc _ => all_lifted os started H enc)

theorem all_card : Rows.AllCardSaid :=
  Claim7.holds_tied_plain_at .later [] [.handle] true (true, "96a46c333c484247801d0ce534cef77f3d94ac4f4b7b00cca2ade548cce1501e") true
    all_holds (fun _ h => by cases h) (by kernel_rfl) (fun _ h => by cases h) all_row_tie rfl ⟨rfl, rfl⟩ (by kernel_rfl) rfl
    (fun f fn hf hfn => by
      obtain rfl : f = 9 := Option.some.inj ((show Tryz.prog.funcNamed "segments/segmentslaw.All" = some 9 by kernel_rfl).symm.trans hf) |>.symm
      obtain rfl : fn = Tryz.f9 := (Option.some.inj (Tryz.func9.symm.trans hfn)).symm
      exact ⟨by kernel_rfl, fun j t ht => by
        rw [Tryz.params9] at ht
        rcases j with _ | j
        · obtain rfl : t = 22 := by simpa using ht.symm
          exact (show Tryz.prog.wantsStandIn 22 = false by kernel_rfl)
        · simp at ht⟩)
    (by kernel_rfl)
end Go.Proofs.YthlmgpllapccfaaGreatDoor
