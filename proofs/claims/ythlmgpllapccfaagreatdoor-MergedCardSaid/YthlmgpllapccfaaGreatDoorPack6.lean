import Derived.Test.YthlmgpllapccfaaGreatDoorPack5
import Derived.Deep.AppendLies
/- THE DOCUMENT's ANSWER: named. -/
namespace Go.Proofs.YthlmgpllapccfaaGreatDoor
open Go.RowKit

theorem nam_byte {a : Nat} (h : a < 26) : byt ⟨#[UInt8.ofNat (a + 65)]⟩ 0 = a + 65 := by
  have e : (UInt8.ofNat (a + 65)).toNat = (a + 65) % 256 := by simp
  show (UInt8.ofNat (a + 65)).toNat = a + 65
  omega

set_option maxRecDepth 100000 in
set_option maxHeartbeats 1000000 in
theorem namedS (b g n cap N bd K : Nat) (KI : Int) (M : List Nat) (st : Nat → Mng) (f : Nat → Tok) (s : WS) (op : Int) (w : World) (hK : KI = K) (hd : Dk w M bd st) (_hbd : b ≠ bd) (h : WyS w b g n cap s op) (ht : TkS w b g n N f) :
    Calls Tryz.prog 38 #[.pointer (some ⟨b, 0, none⟩), .pointer (some ⟨bd, 0, none⟩), .int .i64 KI] w fun e w' => (∃ a : Nat, a < 26 ∧ e = .returned (.int .i64 a) ∧ (s.e = 0 → isN (f s.k) = true → a = (f s.k).c - 69)) ∧ WyS w' b g n cap (nmS f (fun a => decide (K = 0) || decide ((st a).kd = K)) s) op ∧ Fr [b] w w' := by
  subst hK
  have hn : n ≤ 2000 := by have := ht.le; have := ht.N; omega
  have HT := hidV ht
  have HDK := hidV hd
  have hbdl := hd.lt
  clear hd
  unfold nmS
  try dsimp only
  rcases h with ⟨h1, h2, h3⟩ | ⟨h1, k', h2, h3⟩
  · rw [if_neg (by omega)]
    have HF := hidV (ht.fin s.k h3)
    obtain ⟨c0, c1, c2, c3, c4⟩ := h2.cells
    have HW := hidV h2
    clear ht h2
    by_cases hc : isN (f s.k) = true
    · rw [if_pos hc]
      have hci := (isN_iff _).1 hc
      have hrk := rk_3.2 hci
      have hrs := rs_name hci
      have HN1 : Hid (s.k + 1 < n) := HF.out (by omega)
      have ha26 : (f s.k).c - 69 < 26 := by omega
      have hkd := HDK.out.kind ha26
      have HCI := hidV hci
      obtain ⟨a, ha, hca⟩ : ∃ a : Nat, (f s.k).c - 69 = a ∧ (f s.k).c - 4 = a + 65 := ⟨_, rfl, by omega⟩
      have HA := hidV ha
      rw [ha] at hkd ha26 ⊢
      rw [hca] at hrs
      have hby := nam_byte ha26
      obtain ⟨S, hS, hlt⟩ : ∃ S : ByteArray, S = ⟨#[UInt8.ofNat (a + 65)]⟩ ∧ 0 < S.size := ⟨_, rfl, by show 0 < 1; omega⟩
      rw [← hS] at hrs hby
      have hb := byt_cast hlt
      rw [hby] at hb
      clear hS hby
      clear ha hca hc hci
      have K0 : (0 : Int) ≤ (K : Int) := by omega
      have a0 : (0 : Int) ≤ (a : Int) := by omega
      have a1 : (a : Int) < 26 := by omega
      obtain ⟨kd, HKK⟩ : ∃ kd, Hid ((st a).kd = kd) := ⟨_, hidV rfl⟩
      rw [HKK.out] at hkd
      have HGO : Hid (∀ w5, Wy w5 b g n cap (s.k + 1) 0 0 op → WyS w5 b g n cap ⟨s.k + 1, 0, 0⟩ op) := fun w5 h => Or.inl ⟨rfl, h, HN1.out⟩
      have HBAD : Hid (∀ w5, Wy w5 b g n cap (s.k + 1) 6 (f s.k).at' op → WyS w5 b g n cap ⟨s.k, 6, (f s.k).at'⟩ op) := fun w5 h => Or.inr ⟨by simp, s.k + 1, HN1.out, h⟩
      have HNX := hidV (fun w => next_any b g n cap s.k f 0 0 op w)
      rw [hrk, hrs] at HNX
      generalize (f s.k).at' = AT at *
      generalize (f s.k).v = V at *
      clear hrk hrs
      by_cases hK0 : K = 0
      · subst hK0
        rw [if_pos (show (decide (0 = 0) || decide ((st a).kd = 0)) = true by simp)]
        go_enter Tryz.func38, Tryz.ntmps38
        go_wp2_with fail
        refine (HNX.out _ HW.out HT.out.tk h3 hn).mono ?_
        rintro e w1 ⟨rfl, hb1⟩
        have hw1 : Wy w1 b g n cap s.k 0 0 op := Blk.fr HW.out (Fr.of_below (bs := []) hb1) (by simp)
        have hbl : b < w1.heap.size := hw1.lt
        have hbl2 : bd < w1.heap.size := by have := hb1.size; omega
        have hkd1 : w1.cell? ⟨bd, a * 9, none⟩ = some (.int .i64 kd) := by rw [(Fr.of_below (bs := []) hb1).cell (a * 9) hbdl (by simp)]; exact hkd
        obtain ⟨d0, d1, d2, d3, d4⟩ := hw1.cells
        obtain ⟨f0, f1, f2, f3, f4⟩ := hw1.free
        have HW1 := hidV hw1
        have HB1 := hidV hb1
        clear hw1 hb1 c0 c1 c2 c3 c4 hkd
        have nbd : ¬ b = w1.heap.size := by omega
        have nbd2 : ¬ bd = w1.heap.size := by omega
        have hk1 : (s.k : Int) < 2000 := by omega
        go_wp2
        go_ret
        refine ⟨⟨a, ha26, by go_num, fun _ _ => rfl⟩, HGO.out _ ?_, ?_⟩
        · unfold Wy
          have e : ((s.k + 1 : Nat) : Int) = (s.k : Int) + 1 := by omega
          rw [e]
          exact Blk.alloc (Blk.set HW1.out 1 _) _
        · exact Fr.alloc (Fr.setCell (Fr.of_below HB1.out) ⟨b, 1, none⟩ _ (Or.inl (List.mem_singleton.2 rfl))) _
      · have qK : ((K : Int) != 0) = true := by rw [bne_iff_ne]; omega
        by_cases hkK : kd = K
        · rw [if_pos (show (decide (K = 0) || decide ((st a).kd = K)) = true by rw [HKK.out]; simp [hkK])]
          have qk : ((kd : Int) != (K : Int)) = false := by rw [bne_eq_false_iff_eq]; omega
          clear hK0 hkK
          go_enter Tryz.func38, Tryz.ntmps38
          go_wp2_with fail
          refine (HNX.out _ HW.out HT.out.tk h3 hn).mono ?_
          rintro e w1 ⟨rfl, hb1⟩
          have hw1 : Wy w1 b g n cap s.k 0 0 op := Blk.fr HW.out (Fr.of_below (bs := []) hb1) (by simp)
          have hbl : b < w1.heap.size := hw1.lt
          have hbl2 : bd < w1.heap.size := by have := hb1.size; omega
          have hkd1 : w1.cell? ⟨bd, a * 9, none⟩ = some (.int .i64 kd) := by rw [(Fr.of_below (bs := []) hb1).cell (a * 9) hbdl (by simp)]; exact hkd
          obtain ⟨d0, d1, d2, d3, d4⟩ := hw1.cells
          obtain ⟨f0, f1, f2, f3, f4⟩ := hw1.free
          have HW1 := hidV hw1
          have HB1 := hidV hb1
          clear hw1 hb1 c0 c1 c2 c3 c4 hkd
          have nbd : ¬ b = w1.heap.size := by omega
          have nbd2 : ¬ bd = w1.heap.size := by omega
          have hk1 : (s.k : Int) < 2000 := by omega
          go_wp2
          go_ret
          refine ⟨⟨a, ha26, by go_num, fun _ _ => rfl⟩, HGO.out _ ?_, ?_⟩
          · unfold Wy
            have e : ((s.k + 1 : Nat) : Int) = (s.k : Int) + 1 := by omega
            rw [e]
            exact Blk.alloc (Blk.set HW1.out 1 _) _
          · exact Fr.alloc (Fr.setCell (Fr.of_below HB1.out) ⟨b, 1, none⟩ _ (Or.inl (List.mem_singleton.2 rfl))) _
        · rw [if_neg (show ¬ (decide (K = 0) || decide ((st a).kd = K)) = true by rw [HKK.out]; simp [hkK, hK0])]
          have qk : ((kd : Int) != (K : Int)) = true := by rw [bne_iff_ne]; omega
          clear hK0 hkK
          go_enter Tryz.func38, Tryz.ntmps38
          go_wp2_with fail
          refine (HNX.out _ HW.out HT.out.tk h3 hn).mono ?_
          rintro e w1 ⟨rfl, hb1⟩
          have hw1 : Wy w1 b g n cap s.k 0 0 op := Blk.fr HW.out (Fr.of_below (bs := []) hb1) (by simp)
          have hbl : b < w1.heap.size := hw1.lt
          have hbl2 : bd < w1.heap.size := by have := hb1.size; omega
          have hkd1 : w1.cell? ⟨bd, a * 9, none⟩ = some (.int .i64 kd) := by rw [(Fr.of_below (bs := []) hb1).cell (a * 9) hbdl (by simp)]; exact hkd
          obtain ⟨d0, d1, d2, d3, d4⟩ := hw1.cells
          obtain ⟨f0, f1, f2, f3, f4⟩ := hw1.free
          have HW1 := hidV hw1
          have HB1 := hidV hb1
          clear hw1 hb1 c0 c1 c2 c3 c4 hkd
          have nbd : ¬ b = w1.heap.size := by omega
          have nbd2 : ¬ bd = w1.heap.size := by omega
          have hk1 : (s.k : Int) < 2000 := by omega
          go_wp2_with fail
          refine (wrong_first b g n cap s.k _ _ 0 op _ (by exact Blk.alloc HW1.out _)).mono ?_
          rintro e w5 ⟨rfl, h5, hf5⟩
          obtain ⟨d0, d1, d2, d3, d4⟩ := h5.cells
          obtain ⟨f0, f1, f2, f3, f4⟩ := h5.free
          have HW5 := hidV h5
          have HF5 := hidV hf5
          clear h5 hf5
          go_wp2
          go_ret
          refine ⟨⟨a, ha26, by go_num, fun _ _ => rfl⟩, HBAD.out _ ?_, ?_⟩
          · unfold Wy
            have e : ((s.k + 1 : Nat) : Int) = (s.k : Int) + 1 := by omega
            rw [e]
            exact Blk.set HW5.out 1 _
          · exact Fr.setCell (((Fr.of_below (bs := [b]) HB1.out).alloc _).trans HF5.out (by simp)) ⟨b, 1, none⟩ _ (Or.inl (List.mem_singleton.2 rfl))
    · rw [if_neg hc]
      have q1 : (rk (f s.k).c != 3) = true := by rw [bne_iff_ne]; exact fun q => hc ((isN_iff _).2 (rk_3.1 q))
      have HC := hidV hc
      clear hc
      go_enter Tryz.func38, Tryz.ntmps38
      go_wp2_with fail
      refine (next_any b g n cap s.k f 0 0 op _ HW.out HT.out.tk h3 hn).mono ?_
      rintro e w1 ⟨rfl, hb1⟩
      have hw1 : Wy w1 b g n cap s.k 0 0 op := Blk.fr HW.out (Fr.of_below (bs := []) hb1) (by simp)
      have HW1 := hidV hw1
      have HB1 := hidV hb1
      clear hw1 hb1 c0 c1 c2 c3 c4
      go_wp2_with fail
      refine (wrong_first b g n cap s.k _ _ 0 op _ (by exact Blk.alloc HW1.out _)).mono ?_
      rintro e w5 ⟨rfl, h5, hf5⟩
      go_wp2
      go_ret
      exact ⟨⟨0, by omega, rfl, fun _ q => absurd q HC.out⟩, Or.inr ⟨by simp, s.k, h3, h5⟩, ((Fr.of_below (bs := [b]) HB1.out).alloc _).trans hf5 (by simp)⟩
  · rw [if_pos h1]
    obtain ⟨c0, c1, c2, c3, c4⟩ := h3.cells
    have HW := hidV h3
    have q : ((s.e : Int) != 0) = true := by rw [bne_iff_ne]; omega
    have HE := hidV h1
    clear h3 h1
    go_enter Tryz.func38, Tryz.ntmps38
    go_wp2
    go_ret
    exact ⟨⟨0, by omega, rfl, fun q => absurd q HE.out⟩, Or.inr ⟨HE.out, k', h2, HW.out⟩, Fr.refl _ _⟩
end Go.Proofs.YthlmgpllapccfaaGreatDoor
/- THE DOCUMENT's ANSWER: system. -/
namespace Go.Proofs.YthlmgpllapccfaaGreatDoor
open Go.RowKit

/-- What the reading of a system comes to: m polynomials may still come. -/
structure SyR where
  e : Nat
  bad : Nat
  k : Nat
  ps : List (List Nat)
def SyR.app (a : List (List Nat)) (R : SyR) : SyR := ⟨R.e, R.bad, R.k, a ++ R.ps⟩
def syR (f : Nat → Tok) (N : Nat) : Nat → Nat → SyR
  | 0, k => ⟨0, 0, k, []⟩
  | m + 1, k => if (poly f false N k).e ≠ 0 then ⟨(poly f false N k).e, (poly f false N k).bad, k, []⟩ else if 0 < m ∧ (f (poly f false N k).k).c = 48 then SyR.app [(poly f false N k).p] (syR f N m ((poly f false N k).k + 1)) else ⟨0, 0, (poly f false N k).k, [(poly f false N k).p]⟩
def sysS (f : Nat → Tok) (N : Nat) (s : WS) : WS := if s.e ≠ 0 then s else ⟨(syR f N 4 s.k).k, (syR f N 4 s.k).e, (syR f N 4 s.k).bad⟩
theorem app_app (a b : List (List Nat)) (R : SyR) : SyR.app a (SyR.app b R) = SyR.app (a ++ b) R := by simp [SyR.app]
theorem syR_bad {f : Nat → Tok} {N m k : Nat} (h : (poly f false N k).e ≠ 0) : syR f N (m + 1) k = ⟨(poly f false N k).e, (poly f false N k).bad, k, []⟩ := by rw [syR, if_pos h]
theorem syR_more {f : Nat → Tok} {N m k : Nat} (h : (poly f false N k).e = 0) (hm : 0 < m) (hc : (f (poly f false N k).k).c = 48) : syR f N (m + 1) k = SyR.app [(poly f false N k).p] (syR f N m ((poly f false N k).k + 1)) := by rw [syR, if_neg (by simp [h]), if_pos ⟨hm, hc⟩]
theorem syR_last {f : Nat → Tok} {N m k : Nat} (h : (poly f false N k).e = 0) (hc : ¬ (0 < m ∧ (f (poly f false N k).k).c = 48)) : syR f N (m + 1) k = ⟨0, 0, (poly f false N k).k, [(poly f false N k).p]⟩ := by rw [syR, if_neg (by simp [h]), if_neg hc]

def polL (ps : List (List Nat)) : List Value := (ps.map fun p => (pv p).toList).flatten
theorem polL_snoc (ps : List (List Nat)) (p : List Nat) : polL (ps ++ [p]) = polL ps ++ (pv p).toList := by simp [polL]
theorem polL_len {ps : List (List Nat)} (h : Goods ps) : (polL ps).length = ps.length * 35 := by
  induction ps with
  | nil => rfl
  | cons p ps ih =>
    have h1 := ih (fun q hq => h q (by simp [hq]))
    have h2 := (h p (by simp)).1
    have e : polL (p :: ps) = (pv p).toList ++ polL ps := by simp [polL]
    rw [e, List.length_append, h1, Array.length_toList, pv_size, h2, List.length_cons]
    omega
theorem polL_get {ps : List (List Nat)} (h : Goods ps) : ∀ {i j : Nat}, i < ps.length → j < 35 → (polL ps)[i * 35 + j]? = (pv (ps.getD i [])).toList[j]? := by
  induction ps with
  | nil => intro i j hi; simp at hi
  | cons p ps ih =>
    intro i j hi hj
    have h2 := (h p (by simp)).1
    have hl : (pv p).toList.length = 35 := by rw [Array.length_toList, pv_size, h2]
    have e : polL (p :: ps) = (pv p).toList ++ polL ps := by simp [polL]
    rw [e]
    cases i with
    | zero =>
      rw [List.getElem?_append_left (by omega), Nat.zero_mul, Nat.zero_add]; rfl
    | succ i =>
      rw [List.getElem?_append_right (by omega), hl, show (i + 1) * 35 + j - 35 = i * 35 + j by omega]
      exact ih (fun q hq => h q (by simp [hq])) (by simp at hi; omega) hj
theorem Sy.of_owns {w : World} {base g n cap : Nat} {t : TypeId} {ps : List (List Nat)} (hg : Goods ps) (h : w.ownsRow base t 35 (.slice (some ⟨g, 0, none⟩) n cap) n (polL ps)) : Sy w g ps := by
  refine ⟨(h.lt g rfl).2, fun i hi => ?_⟩
  intro j v hv
  have hp := hg.at hi
  have hj : j < 35 := by
    have : j < (pv (ps.getD i [])).toList.length := by
      rcases Nat.lt_or_ge j (pv (ps.getD i [])).toList.length with q | q
      · exact q
      · rw [List.getElem?_eq_none q] at hv; simp at hv
    rw [Array.length_toList, pv_size, hp.1] at this; exact this
  rw [← polL_get hg hi hj] at hv
  have := h.cells (g := g) rfl (i * 35 + j) v hv
  have hadd : (⟨g, 0, none⟩ : Addr).add (i * 35 + j) = ⟨g, i * 35 + j, none⟩ := by rw [Addr.add_mid]; simp
  rw [hadd] at this
  exact this
theorem rPoly_info : (Tryz.prog.info? 116).map (fun i => (i.zero, i.size, i.bytes)) = some (some (.agg #[.int .i64 0, .int .i64 0, .int .i64 0, .int .i64 0, .int .i64 0, .int .i64 0, .int .i64 0, .int .i64 0, .int .i64 0, .int .i64 0, .int .i64 0, .int .i64 0, .int .i64 0, .int .i64 0, .int .i64 0, .int .i64 0, .int .i64 0, .int .i64 0, .int .i64 0, .int .i64 0, .int .i64 0, .int .i64 0, .int .i64 0, .int .i64 0, .int .i64 0, .int .i64 0, .int .i64 0, .int .i64 0, .int .i64 0, .int .i64 0, .int .i64 0, .int .i64 0, .int .i64 0, .int .i64 0, .int .i64 0]), 35, 280) := by kernel_rfl
theorem fold_set : ∀ (l : List Value) (k : Nat) (z : Array Value), k + l.length ≤ z.size → ∀ j : Nat, ((l.zipIdx k).foldl (fun (cs : Array Value) (x : Value × Nat) => cs.setIfInBounds x.snd x.fst) z)[j]? = if k ≤ j ∧ j < k + l.length then l[j - k]? else z[j]?
  | [], k, z, _, j => by simp; omega
  | v :: l, k, z, h, j => by
    rw [List.zipIdx_cons, List.foldl_cons, fold_set l (k + 1) _ (by simp at h ⊢; omega) j]
    simp only [List.length_cons] at h ⊢
    by_cases h1 : k + 1 ≤ j ∧ j < k + 1 + l.length
    · rw [if_pos h1, if_pos (by omega), show j - k = (j - (k + 1)) + 1 by omega]; simp
    · rw [if_neg h1]
      by_cases h2 : j = k
      · subst h2
        rw [if_pos (by omega), Nat.sub_self, Array.getElem?_setIfInBounds_self_of_lt (by omega)]; simp
      · rw [if_neg (by omega), Array.getElem?_setIfInBounds_ne (Ne.symm h2)]
theorem fold_all (xs z : Array Value) (h : xs.size = z.size) : Array.foldl (fun (cs : Array Value) (x : Value × Nat) => cs.setIfInBounds x.snd x.fst) z xs.zipIdx 0 xs.zipIdx.size = xs := by
  rw [← Array.foldl_toList, Array.toList_zipIdx]
  apply Array.ext_getElem?
  intro j
  rw [fold_set _ _ _ (by simp; omega)]
  by_cases hj : j < xs.size
  · rw [if_pos (by simp; exact hj)]; simp
  · rw [if_neg (by simp; omega), Array.getElem?_eq_none (by omega), Array.getElem?_eq_none (by omega)]
theorem build35 {C : List Nat} (h : C.length = 35) : Array.foldl (fun (cs : Array Value) (x : Value × Nat) => cs.setIfInBounds x.snd x.fst) #[.int .i64 0, .int .i64 0, .int .i64 0, .int .i64 0, .int .i64 0, .int .i64 0, .int .i64 0, .int .i64 0, .int .i64 0, .int .i64 0, .int .i64 0, .int .i64 0, .int .i64 0, .int .i64 0, .int .i64 0, .int .i64 0, .int .i64 0, .int .i64 0, .int .i64 0, .int .i64 0, .int .i64 0, .int .i64 0, .int .i64 0, .int .i64 0, .int .i64 0, .int .i64 0, .int .i64 0, .int .i64 0, .int .i64 0, .int .i64 0, .int .i64 0, .int .i64 0, .int .i64 0, .int .i64 0, .int .i64 0] (pv C).zipIdx 0 35 = pv C := by
  have hs : (pv C).zipIdx.size = 35 := by simp [pv, h]
  have := fold_all (pv C) #[.int .i64 0, .int .i64 0, .int .i64 0, .int .i64 0, .int .i64 0, .int .i64 0, .int .i64 0, .int .i64 0, .int .i64 0, .int .i64 0, .int .i64 0, .int .i64 0, .int .i64 0, .int .i64 0, .int .i64 0, .int .i64 0, .int .i64 0, .int .i64 0, .int .i64 0, .int .i64 0, .int .i64 0, .int .i64 0, .int .i64 0, .int .i64 0, .int .i64 0, .int .i64 0, .int .i64 0, .int .i64 0, .int .i64 0, .int .i64 0, .int .i64 0, .int .i64 0, .int .i64 0, .int .i64 0, .int .i64 0] (by simp [pv, h])
  rw [hs] at this
  exact this
end Go.Proofs.YthlmgpllapccfaaGreatDoor
/- THE DOCUMENT's ANSWER: system, walked. -/
namespace Go.Proofs.YthlmgpllapccfaaGreatDoor
open Go.RowKit

theorem ownsRow_frL {bs : List Nat} {w w' : World} {base : Nat} {e : TypeId} {size : Nat} {v : Value} {n : Nat} {xs : List Value} (h : w.ownsRow base e size v n xs) (hf : Fr bs w w') (hc : ∀ c ∈ bs, v.ownBlock ≠ some c) : w'.ownsRow base e size v n xs := by
  obtain ⟨h0, h1⟩ := h
  refine ⟨h0, ?_⟩
  rcases h1 with h1 | ⟨g, cap, cur, h1, h2, h3, h4⟩
  · exact Or.inl h1
  · refine Or.inr ⟨g, cap, cur, h1, h2, ?_, h4⟩
    have hl : g < w.heap.size := by
      rcases Nat.lt_or_ge g w.heap.size with q | q
      · exact q
      · rw [Array.getElem?_eq_none q] at h3; simp at h3
    rw [hf.block g hl (fun q => hc g q (by rw [h1]; rfl))]
    exact h3

theorem Fr.grown {bs : List Nat} {a w w' : World} {row : Option Nat} (h : Fr bs a w) (g : w.grownBy w' row) (hr : ∀ b, row = some b → a.heap.size ≤ b) : Fr bs a w' :=
  ⟨g.os.trans h.os, g.tape.trans h.tape, g.output.trans h.output, Nat.le_trans h.size g.size, fun k hk hn => (g.block k (Nat.lt_of_lt_of_le hk h.size) (fun q => by have := hr k q.symm; omega)).trans (h.block k hk hn)⟩
theorem Blk.grown {w w' : World} {b : Nat} {cs : Array Value} {t : TypeId} {row : Option Nat} (h : Blk w b cs t) (g : w.grownBy w' row) (hr : row ≠ some b) : Blk w' b cs t := by
  have := h.lt
  unfold Blk at *
  rw [g.block b this (fun q => hr q.symm)]; exact h

set_option maxRecDepth 100000 in
set_option maxHeartbeats 2000000 in
theorem wsystemS (b g n cap N : Nat) (f : Nat → Tok) (s : WS) (op : Int) (w : World) (h : WyS w b g n cap s op) (ht : TkS w b g n N f) :
    Calls Tryz.prog 40 #[.pointer (some ⟨b, 0, none⟩)] w fun e w' => (∃ p l, (∃ c, e = .returned (.slice p l c)) ∧ ((sysS f N s).e = 0 → s.e = 0 → ∃ g', p = some ⟨g', 0, none⟩ ∧ l = (syR f N 4 s.k).ps.length ∧ Sy w' g' (syR f N 4 s.k).ps ∧ Goods (syR f N 4 s.k).ps ∧ (syR f N 4 s.k).ps ≠ [] ∧ (syR f N 4 s.k).ps.length ≤ 4 ∧ w.heap.size ≤ g')) ∧ WyS w' b g n cap (sysS f N s) op ∧ Fr [b] w w' := by
  have hn : n ≤ 2000 := by have := ht.le; have := ht.N; omega
  have HT := hidV ht
  unfold sysS
  rcases h with ⟨h1, h2, h3⟩ | ⟨h1, k', h2, h3⟩
  · rw [if_neg (by omega)]
    obtain ⟨T, HTT⟩ : ∃ T, Hid (syR f N 4 s.k = T) := ⟨_, hidV rfl⟩
    rw [HTT.out]
    have hbl : b < w.heap.size := h2.lt
    have hbg := ht.ne
    have HW := hidV h2
    have HS0 := hidV h1
    clear ht h2 h1
    obtain ⟨i0, hi, hz0, hz1, hz2⟩ := info_parts rPoly_info
    go_enter Tryz.func40, Tryz.ntmps40
    go_wp2
    go_loopg [3] 4 (fun gm v3 wr => ∃ i k : Nat, ∃ acc : List (List Nat), gm = 4 - i ∧ i < 4 ∧ Hid (acc.length = i ∧ Goods acc) ∧ Hid (T = SyR.app acc (syR f N (4 - i) k)) ∧ k < n ∧ Hid (wr.ownsRow w.heap.size 116 35 v3 i (polL acc)) ∧ Hid (Wy wr b g n cap k 0 0 op ∧ Fr [b] w wr))
    case atStart => exact ⟨0, s.k, [], rfl, by omega, ⟨rfl, fun p hp => by simp at hp⟩, (by unfold Hid; rw [HTT.out]; simp [SyR.app]), h3, World.ownsRow_nil _ _ _ _, HW.out, Fr.refl _ _⟩
    case round =>
      obtain ⟨i, k, acc, hgm, hi4, HA, HR, hk, HO, HD⟩ := hrel
      obtain ⟨c0, c1, c2, c3, c4⟩ := HD.out.1.cells
      have HTW : Hid (TkS wr b g n N f) := HT.out.fr HD.out.2 (by simp; exact fun q => hbg q.symm)
      have hwl : w.heap.size ≤ wr.heap.size := HD.out.2.size
      obtain ⟨m, hm⟩ : ∃ m, 4 - i = m + 1 := ⟨3 - i, by omega⟩
      rw [hm] at HR
      have HM : Hid (i + 1 + m = 4) := by unfold Hid; omega
      clear hm
      by_cases he : (poly f false N k).e = 0
      · have HE := hidV he
        have HPO := hidV (wpoly_ok f N b g n cap k false 0 op wr HD.out.1 HTW.out.tk hk HTW.out.le HTW.out.N HTW.out.fin HTW.out.v hbg he)
        have HMO := hidV (syR_more (f := f) (N := N) (m := m) (k := k) he)
        have HLA := hidV (syR_last (f := f) (N := N) (m := m) (k := k) he)
        clear he
        generalize poly f false N k = R at *
        obtain ⟨q, HQ⟩ : ∃ q, Hid (R.p = q) := ⟨_, hidV rfl⟩
        rw [HQ.out] at HPO HMO HLA
        go_upto_region 4 with (first | (go_at_call 66; refine HPO.out.mono ?_; rintro e w1 ⟨rfl, hq, hw1, hRk, hf1⟩; have HW1 := hidV (And.intro hw1 hf1); clear hw1 hf1) | (refine wpList_store_mid (by rfl) 116 _ _ (by rfl) w1.heap.size 0 (pv q) (by rfl) (by rfl) (by exact Blk.there (Blk.new w1 _ _) (by rw [pv_size, hq.1]; decide)) (size_rPoly hq) (pv_one _) ?_))
        have hw1l : wr.heap.size ≤ w1.heap.size := HW1.out.2.size
        refine wp_forget (fun V => Blk V w1.heap.size (pv q) 116 ∧ V.ownsRow w.heap.size 116 35 u3 i (polL acc) ∧ Wy V b g n cap R.k 0 0 op ∧ Fr [b] w V ∧ w.heap.size ≤ V.heap.size) ?_ ?_
        · have hf2 : Fr [w1.heap.size] w1 ((w1.alloc (.cells #[.int .i64 0, .int .i64 0, .int .i64 0, .int .i64 0, .int .i64 0, .int .i64 0, .int .i64 0, .int .i64 0, .int .i64 0, .int .i64 0, .int .i64 0, .int .i64 0, .int .i64 0, .int .i64 0, .int .i64 0, .int .i64 0, .int .i64 0, .int .i64 0, .int .i64 0, .int .i64 0, .int .i64 0, .int .i64 0, .int .i64 0, .int .i64 0, .int .i64 0, .int .i64 0, .int .i64 0, .int .i64 0, .int .i64 0, .int .i64 0, .int .i64 0, .int .i64 0, .int .i64 0, .int .i64 0, .int .i64 0] 116)).setCells w1.heap.size 0 (pv q).toList) := Fr.setCells (Fr.alloc (Fr.refl _ _) _) _ _ _ (Or.inr (Nat.le_refl _))
          have ho1 := ownsRow_frL HO.out HW1.out.2 (fun c hc q => by have := (HO.out.lt c q).1; simp at hc; omega)
          have hfV : Fr [b] w ((w1.alloc (.cells #[.int .i64 0, .int .i64 0, .int .i64 0, .int .i64 0, .int .i64 0, .int .i64 0, .int .i64 0, .int .i64 0, .int .i64 0, .int .i64 0, .int .i64 0, .int .i64 0, .int .i64 0, .int .i64 0, .int .i64 0, .int .i64 0, .int .i64 0, .int .i64 0, .int .i64 0, .int .i64 0, .int .i64 0, .int .i64 0, .int .i64 0, .int .i64 0, .int .i64 0, .int .i64 0, .int .i64 0, .int .i64 0, .int .i64 0, .int .i64 0, .int .i64 0, .int .i64 0, .int .i64 0, .int .i64 0, .int .i64 0] 116)).setCells w1.heap.size 0 (pv q).toList) := (HD.out.2.trans HW1.out.2 (by simp)).trans hf2 (by simp; omega)
          exact ⟨Blk.setAll (Blk.new w1 _ _) _ (by rw [pv_size, hq.1]; rfl), ownsRow_frL ho1 hf2 (fun c hc q => by have := (HO.out.lt c q).2; simp at hc; omega), Blk.fr HW1.out.1 hf2 (by simp; omega), hfV, hfV.size⟩
        rintro V ⟨v1, v2, v3, v4, v5⟩
        have HV := hidV (And.intro v1 (And.intro v2 (And.intro v3 v4)))
        have hVl := v5
        clear v1 v2 v3 v4 v5 HW1 hw1l
        generalize w1.heap.size = B at *
        clear w1
        have hCs : (pv q).size = 35 := by rw [pv_size]; exact hq.1
        have hfold := build35 hq.1
        have hi1 : (i : Int) + 1 ≤ 4 := by omega
        have HAC : Hid ((acc ++ [q]).length = i + 1 ∧ Goods (acc ++ [q])) := ⟨by rw [List.length_append, HA.out.1]; rfl, fun p hp => by
          rw [List.mem_append] at hp
          rcases hp with hp | hp
          · exact HA.out.2 p hp
          · simp at hp; rw [hp]; exact hq⟩
        by_cases hi3 : (i : Int) + 1 < 4
        · by_cases hc : (f R.k).c = 48
          · have hm0 : 0 < m := by have := HM.out; omega
            have HRR := hidV (HMO.out hm0 hc)
            clear HMO HLA
            go_wp2_with (first | (refine wpList_load_row (by rfl) 116 _ (by rfl) B (by rfl) 116 (pv q) (0, 0) _ (by exact HV.out.1) Tryz.underlying116 (by rfl) (size_rPoly hq) ?_) | (at_builtin; refine wpList_append_lies _ (by rfl) (.tmp 13) (.tmp 15) 79 (by rfl) w.heap.size 116 i0 _ 35 280 Tryz.underlying79 hi hz0 hz1 hz2 (by rfl) (by decide) _ i (polL acc) (by rfl) (by exact HV.out.2.1.alloc _) ⟨V.heap.size, 0, none⟩ 1 1 (pv q).toList (by rfl) (by rw [Array.length_toList, hCs]) (by exact World.news_of_block (Blk.new V _ _)) (pv_oneL _) (by decide) (by unfold maxLen; omega) (by omega) (by simp; omega) _ rfl ?_; intro g2 cap2 w3 hown1 hgrow hat hlt1; have HW3 := hidV (And.intro (Blk.grown (Blk.alloc HV.out.2.2.1 _) hgrow (fun q => by have := (HV.out.2.1.lt b q).1; omega)) (Fr.grown (Fr.alloc HV.out.2.2.2 _) hgrow (fun c q => (HV.out.2.1.lt c q).1))); have HO3 := hidV hown1; clear hown1 hgrow) | (go_at_call 65; refine (passes_yes b g n cap R.k f _ 0 op _ (by exact HW3.out.1) (HT.out.fr HW3.out.2 (by simp; exact fun q => hbg q.symm)).tk hRk hn (by decide) (by decide) (rk_44.2 hc)).mono ?_; rintro e w4 ⟨rfl, hw4, hf4⟩; have HW4 := hidV (And.intro hw4 (And.intro (HW3.out.2.trans hf4 (by simp)) (ownsRow_frL HO3.out hf4 (fun c hc2 q2 => by have := (HO3.out.lt c q2).1; simp at hc2; omega)))); clear hw4 hf4))
            go_roundg (4 - (i + 1))
            case measure => omega
            case rel =>
              refine ⟨i + 1, R.k + 1, acc ++ [q], rfl, by omega, HAC, ?_, ?_, ?_, HW4.out.1, HW4.out.2.1⟩
              · unfold Hid
                rw [HR.out, HRR.out, app_app, show 4 - (i + 1) = m by have := HM.out; omega]
              · exact HT.out.fin R.k hRk (by omega)
              · unfold Hid; rw [polL_snoc]; exact HW4.out.2.2
          · have HRR := hidV (HLA.out (fun q => hc q.2))
            have hrk : rk (f R.k).c ≠ 44 := fun q => hc (rk_44.1 q)
            clear HMO HLA
            go_wp2_with (first | (refine wpList_load_row (by rfl) 116 _ (by rfl) B (by rfl) 116 (pv q) (0, 0) _ (by exact HV.out.1) Tryz.underlying116 (by rfl) (size_rPoly hq) ?_) | (at_builtin; refine wpList_append_lies _ (by rfl) (.tmp 13) (.tmp 15) 79 (by rfl) w.heap.size 116 i0 _ 35 280 Tryz.underlying79 hi hz0 hz1 hz2 (by rfl) (by decide) _ i (polL acc) (by rfl) (by exact HV.out.2.1.alloc _) ⟨V.heap.size, 0, none⟩ 1 1 (pv q).toList (by rfl) (by rw [Array.length_toList, hCs]) (by exact World.news_of_block (Blk.new V _ _)) (pv_oneL _) (by decide) (by unfold maxLen; omega) (by omega) (by simp; omega) _ rfl ?_; intro g2 cap2 w3 hown1 hgrow hat hlt1; have HW3 := hidV (And.intro (Blk.grown (Blk.alloc HV.out.2.2.1 _) hgrow (fun q => by have := (HV.out.2.1.lt b q).1; omega)) (Fr.grown (Fr.alloc HV.out.2.2.2 _) hgrow (fun c q => (HV.out.2.1.lt c q).1))); have HO3 := hidV hown1; clear hown1 hgrow) | (go_at_call 65; refine (passes_no b g n cap R.k f _ 0 op _ (by exact HW3.out.1) (HT.out.fr HW3.out.2 (by simp; exact fun q => hbg q.symm)).tk hRk hn (by decide) (by decide) hrk).mono ?_; rintro e w4 ⟨rfl, hw4, hf4⟩; have HW4 := hidV (And.intro hw4 (And.intro (HW3.out.2.trans hf4 (by simp)) (ownsRow_frL HO3.out hf4 (fun c hc2 q2 => by have := (HO3.out.lt c q2).1; simp at hc2; omega)))); clear hw4 hf4))
            go_ret
            rw [HRR.out] at HR
            have HO4 : Hid (w4.ownsRow w.heap.size 116 35 (.slice (some ⟨g2, 0, none⟩) (i + 1) cap2) (i + 1) (polL (acc ++ [q]))) := by unfold Hid; rw [polL_snoc]; exact HW4.out.2.2
            have HTP : Hid (T.ps = acc ++ [q] ∧ T.e = 0 ∧ T.k = R.k) := by unfold Hid; rw [HR.out]; exact ⟨rfl, rfl, rfl⟩
            refine ⟨⟨some ⟨g2, 0, none⟩, i + 1, ⟨cap2, rfl⟩, ?_⟩, Or.inl ⟨HTP.out.2.1, ?_, ?_⟩, HW4.out.2.1⟩
            · intros
              refine ⟨g2, rfl, ?_⟩
              rw [HTP.out.1]
              exact ⟨HAC.out.1.symm, Sy.of_owns HAC.out.2 HO4.out, HAC.out.2, by simp, by rw [HAC.out.1]; omega, (HO4.out.lt g2 rfl).1⟩
            · dsimp only; rw [HTP.out.2.2]; exact HW4.out.1
            · dsimp only; rw [HTP.out.2.2]; exact hRk
        · have HRR := hidV (HLA.out (fun q => by have := HM.out; omega))
          clear HMO HLA
          go_wp2_with (first | (refine wpList_load_row (by rfl) 116 _ (by rfl) B (by rfl) 116 (pv q) (0, 0) _ (by exact HV.out.1) Tryz.underlying116 (by rfl) (size_rPoly hq) ?_) | (at_builtin; refine wpList_append_lies _ (by rfl) (.tmp 13) (.tmp 15) 79 (by rfl) w.heap.size 116 i0 _ 35 280 Tryz.underlying79 hi hz0 hz1 hz2 (by rfl) (by decide) _ i (polL acc) (by rfl) (by exact HV.out.2.1.alloc _) ⟨V.heap.size, 0, none⟩ 1 1 (pv q).toList (by rfl) (by rw [Array.length_toList, hCs]) (by exact World.news_of_block (Blk.new V _ _)) (pv_oneL _) (by decide) (by unfold maxLen; omega) (by omega) (by simp; omega) _ rfl ?_; intro g2 cap2 w3 hown1 hgrow hat hlt1; have HW3 := hidV (And.intro (Blk.grown (Blk.alloc HV.out.2.2.1 _) hgrow (fun q => by have := (HV.out.2.1.lt b q).1; omega)) (Fr.grown (Fr.alloc HV.out.2.2.2 _) hgrow (fun c q => (HV.out.2.1.lt c q).1))); have HO3 := hidV hown1; clear hown1 hgrow))
          go_ret
          rw [HRR.out] at HR
          have HO4 : Hid (w3.ownsRow w.heap.size 116 35 (.slice (some ⟨g2, 0, none⟩) (i + 1) cap2) (i + 1) (polL (acc ++ [q]))) := by unfold Hid; rw [polL_snoc]; exact HO3.out
          have HTP : Hid (T.ps = acc ++ [q] ∧ T.e = 0 ∧ T.k = R.k) := by unfold Hid; rw [HR.out]; exact ⟨rfl, rfl, rfl⟩
          refine ⟨⟨some ⟨g2, 0, none⟩, i + 1, ⟨cap2, rfl⟩, ?_⟩, Or.inl ⟨HTP.out.2.1, ?_, ?_⟩, HW3.out.2⟩
          · intros
            refine ⟨g2, rfl, ?_⟩
            rw [HTP.out.1]
            exact ⟨HAC.out.1.symm, Sy.of_owns HAC.out.2 HO4.out, HAC.out.2, by simp, by rw [HAC.out.1]; omega, (HO4.out.lt g2 rfl).1⟩
          · dsimp only; rw [HTP.out.2.2]; exact HW3.out.1
          · dsimp only; rw [HTP.out.2.2]; exact hRk
      · have HRB := hidV (syR_bad (m := m) he)
        rw [HRB.out] at HR
        have HPO := hidV (wpoly_not f N b g n cap k false 0 op wr HD.out.1 HTW.out.tk hk HTW.out.le HTW.out.N HTW.out.fin HTW.out.v hbg he)
        have HE := hidV he
        clear HRB he
        generalize poly f false N k = R at *
        go_upto_region 4 with (first | (go_at_call 66; refine HPO.out.mono ?_; rintro e w1 ⟨⟨q, hq, rfl⟩, ⟨k1, hk1, hw1⟩, hf1⟩; have HW1 := hidV (And.intro hw1 hf1); clear hw1 hf1) | (refine wpList_store_mid (by rfl) 116 _ _ (by rfl) w1.heap.size 0 (pv q) (by rfl) (by rfl) (by exact Blk.there (Blk.new w1 _ _) (by rw [pv_size, hq.1]; decide)) (size_rPoly hq) (pv_one _) ?_))
        have hw1l : wr.heap.size ≤ w1.heap.size := HW1.out.2.size
        refine wp_forget (fun V => Blk V w1.heap.size (pv q) 116 ∧ V.ownsRow w.heap.size 116 35 u3 i (polL acc) ∧ Wy V b g n cap k1 R.e R.bad op ∧ Fr [b] w V ∧ w.heap.size ≤ V.heap.size) ?_ ?_
        · have hf2 : Fr [w1.heap.size] w1 ((w1.alloc (.cells #[.int .i64 0, .int .i64 0, .int .i64 0, .int .i64 0, .int .i64 0, .int .i64 0, .int .i64 0, .int .i64 0, .int .i64 0, .int .i64 0, .int .i64 0, .int .i64 0, .int .i64 0, .int .i64 0, .int .i64 0, .int .i64 0, .int .i64 0, .int .i64 0, .int .i64 0, .int .i64 0, .int .i64 0, .int .i64 0, .int .i64 0, .int .i64 0, .int .i64 0, .int .i64 0, .int .i64 0, .int .i64 0, .int .i64 0, .int .i64 0, .int .i64 0, .int .i64 0, .int .i64 0, .int .i64 0, .int .i64 0] 116)).setCells w1.heap.size 0 (pv q).toList) := Fr.setCells (Fr.alloc (Fr.refl _ _) _) _ _ _ (Or.inr (Nat.le_refl _))
          have ho1 := ownsRow_frL HO.out HW1.out.2 (fun c hc q => by have := (HO.out.lt c q).1; simp at hc; omega)
          have hfV : Fr [b] w ((w1.alloc (.cells #[.int .i64 0, .int .i64 0, .int .i64 0, .int .i64 0, .int .i64 0, .int .i64 0, .int .i64 0, .int .i64 0, .int .i64 0, .int .i64 0, .int .i64 0, .int .i64 0, .int .i64 0, .int .i64 0, .int .i64 0, .int .i64 0, .int .i64 0, .int .i64 0, .int .i64 0, .int .i64 0, .int .i64 0, .int .i64 0, .int .i64 0, .int .i64 0, .int .i64 0, .int .i64 0, .int .i64 0, .int .i64 0, .int .i64 0, .int .i64 0, .int .i64 0, .int .i64 0, .int .i64 0, .int .i64 0, .int .i64 0] 116)).setCells w1.heap.size 0 (pv q).toList) := (HD.out.2.trans HW1.out.2 (by simp)).trans hf2 (by simp; omega)
          exact ⟨Blk.setAll (Blk.new w1 _ _) _ (by rw [pv_size, hq.1]; rfl), ownsRow_frL ho1 hf2 (fun c hc q => by have := (HO.out.lt c q).2; simp at hc; omega), Blk.fr HW1.out.1 hf2 (by simp; omega), hfV, hfV.size⟩
        rintro V ⟨v1, v2, v3, v4, v5⟩
        have HV := hidV (And.intro v1 (And.intro v2 (And.intro v3 v4)))
        have hVl := v5
        clear v1 v2 v3 v4 v5 HW1 hw1l
        generalize w1.heap.size = B at *
        clear w1
        have hCs : (pv q).size = 35 := by rw [pv_size]; exact hq.1
        have hfold := build35 hq.1
        have hi1 : (i : Int) + 1 ≤ 4 := by omega
        have HRE := hidV (show (R.e : Int) ≠ 0 by have := HE.out; omega)
        by_cases hi3 : (i : Int) + 1 < 4
        · go_wp2_with (first | (refine wpList_load_row (by rfl) 116 _ (by rfl) B (by rfl) 116 (pv q) (0, 0) _ (by exact HV.out.1) Tryz.underlying116 (by rfl) (size_rPoly hq) ?_) | (at_builtin; refine wpList_append_lies _ (by rfl) (.tmp 13) (.tmp 15) 79 (by rfl) w.heap.size 116 i0 _ 35 280 Tryz.underlying79 hi hz0 hz1 hz2 (by rfl) (by decide) _ i (polL acc) (by rfl) (by exact HV.out.2.1.alloc _) ⟨V.heap.size, 0, none⟩ 1 1 (pv q).toList (by rfl) (by rw [Array.length_toList, hCs]) (by exact World.news_of_block (Blk.new V _ _)) (pv_oneL _) (by decide) (by unfold maxLen; omega) (by omega) (by simp; omega) _ rfl ?_; intro g2 cap2 w3 hown1 hgrow hat hlt1; have HW3 := hidV (And.intro (Blk.grown (Blk.alloc HV.out.2.2.1 _) hgrow (fun q => by have := (HV.out.2.1.lt b q).1; omega)) (Fr.grown (Fr.alloc HV.out.2.2.2 _) hgrow (fun c q => (HV.out.2.1.lt c q).1))); have HO3 := hidV hown1; clear hown1 hgrow) | (go_at_call 65; refine (passes_later b g n cap k1 _ R.e R.bad op _ (by exact HW3.out.1) HRE.out).mono ?_; rintro e w4 ⟨rfl, hw4, hf4⟩; have HW4 := hidV (And.intro hw4 (HW3.out.2.trans hf4 (by simp))); clear hw4 hf4))
          go_ret
          refine ⟨⟨some ⟨g2, 0, none⟩, i + 1, ⟨cap2, rfl⟩, fun q => ?_⟩, Or.inr ⟨?_, k1, hk1, ?_⟩, HW4.out.2⟩
          · rw [HR.out] at q; exact absurd q HE.out
          · rw [HR.out]; exact HE.out
          · rw [HR.out]; exact HW4.out.1
        · go_wp2_with (first | (refine wpList_load_row (by rfl) 116 _ (by rfl) B (by rfl) 116 (pv q) (0, 0) _ (by exact HV.out.1) Tryz.underlying116 (by rfl) (size_rPoly hq) ?_) | (at_builtin; refine wpList_append_lies _ (by rfl) (.tmp 13) (.tmp 15) 79 (by rfl) w.heap.size 116 i0 _ 35 280 Tryz.underlying79 hi hz0 hz1 hz2 (by rfl) (by decide) _ i (polL acc) (by rfl) (by exact HV.out.2.1.alloc _) ⟨V.heap.size, 0, none⟩ 1 1 (pv q).toList (by rfl) (by rw [Array.length_toList, hCs]) (by exact World.news_of_block (Blk.new V _ _)) (pv_oneL _) (by decide) (by unfold maxLen; omega) (by omega) (by simp; omega) _ rfl ?_; intro g2 cap2 w3 hown1 hgrow hat hlt1; have HW3 := hidV (And.intro (Blk.grown (Blk.alloc HV.out.2.2.1 _) hgrow (fun q => by have := (HV.out.2.1.lt b q).1; omega)) (Fr.grown (Fr.alloc HV.out.2.2.2 _) hgrow (fun c q => (HV.out.2.1.lt c q).1))); have HO3 := hidV hown1; clear hown1 hgrow))
          go_ret
          refine ⟨⟨some ⟨g2, 0, none⟩, i + 1, ⟨cap2, rfl⟩, fun q => ?_⟩, Or.inr ⟨?_, k1, hk1, ?_⟩, HW3.out.2⟩
          · rw [HR.out] at q; exact absurd q HE.out
          · rw [HR.out]; exact HE.out
          · rw [HR.out]; exact HW3.out.1
  · rw [if_pos h1]
    obtain ⟨c0, c1, c2, c3, c4⟩ := h3.cells
    have HW := hidV h3
    have q : ((s.e : Int) == 0) = false := by rw [beq_eq_false_iff_ne]; omega
    have HE := hidV h1
    clear h3 h1
    go_enter Tryz.func40, Tryz.ntmps40
    go_wp2
    go_loopg [3] 1 (fun gm v3 wr => gm = 1 ∧ v3 = .slice none 0 0 ∧ wr = w)
    case atStart => exact ⟨rfl, rfl, rfl⟩
    case round =>
      obtain ⟨_, rfl, rfl⟩ := hrel
      go_wp2
      go_ret
      exact ⟨⟨none, 0, ⟨0, rfl⟩, fun q => absurd q HE.out⟩, Or.inr ⟨HE.out, k', h2, HW.out⟩, Fr.refl _ _⟩
end Go.Proofs.YthlmgpllapccfaaGreatDoor
/- THE DOCUMENT's ANSWER: seen and roots of no system; what a name means, loaded. -/
namespace Go.Proofs.YthlmgpllapccfaaGreatDoor
open Go.RowKit

def Mng.ps : Mng → List (List Nat)
  | .sys ps => ps
  | _ => []
theorem rts_nil (u : Nat) : rts (lins u []) = fun _ => true := rfl

set_option maxRecDepth 100000 in
set_option maxHeartbeats 1000000 in
theorem seen_nil (A : Int) (s0 s1 s2 s3 s4 s5 s6 kd : Value) (w : World) :
    Calls Tryz.prog 58 #[.agg #[kd, .slice none 0 0, s0, s1, s2, s3, s4, s5, s6], .int .i64 A] w fun e w' => e = .returned (.slice none 0 0) ∧ Below w.heap.size w w' := by
  go_enter Tryz.func58, Tryz.ntmps58
  go_wp2
  refine wp_forget (fun W => W.cell? ⟨w.heap.size, 1, none⟩ = some (.slice none 0 0) ∧ Below w.heap.size w W) ⟨by rw [(Blk.new w _ _).cell]; rfl, by go_grown⟩ ?_
  rintro W ⟨b1, hbel⟩
  have HB := hidV hbel
  clear hbel
  go_loopg [5, 6] 1 (fun gm v5 v6 wr => gm = 1 ∧ v6 = .int .i64 0 ∧ v5 = .slice none 0 0 ∧ wr = W)
  case atStart => exact ⟨rfl, rfl, rfl, rfl⟩
  case round =>
    obtain ⟨_, rfl, rfl, rfl⟩ := hrel
    go_wp2
    go_ret
    exact ⟨rfl, HB.out⟩

set_option maxRecDepth 100000 in
set_option maxHeartbeats 1000000 in
theorem roots_nil (A : Int) (s0 s1 s2 s3 s4 s5 s6 kd : Value) (w : World) :
    Calls Tryz.prog 57 #[.agg #[kd, .slice none 0 0, s0, s1, s2, s3, s4, s5, s6], .int .i64 A] w fun e w' => e = .returned (.string (bs (lsd (fun _ => true) 7))) ∧ Below w.heap.size w w' := by
  have HLS := hidV listed_any
  obtain ⟨R, HR⟩ : ∃ R, Hid (lsd (fun _ => true) 7 = R) := ⟨_, hidV rfl⟩
  rw [HR.out]
  go_enter Tryz.func57, Tryz.ntmps57
  go_wp2_with (first | (refine wpList_load_row (by rfl) 81 _ (by rfl) w.heap.size (by rfl) 81 #[kd, .slice none 0 0, s0, s1, s2, s3, s4, s5, s6] (0, 0) _ (by exact Blk.new w _ _) Tryz.underlying81 (by rfl) (size_meaning ..) ?_) | (go_at_call 58; refine (seen_nil A s0 s1 s2 s3 s4 s5 s6 kd _).mono ?_; rintro e w1 ⟨rfl, hb1⟩; have HB1 := hidV hb1; clear hb1))
  refine wp_forget (fun W => Blk W w1.heap.size (bv (fun _ => false)) 45 ∧ Below w.heap.size w W) ⟨Blk.new w1 _ _, Fr.below (bs := []) (Fr.alloc ((Fr.alloc (Fr.refl [] w) _).trans (Fr.of_below (bs := []) HB1.out) (by simp)) _) (Nat.le_refl _) (by simp)⟩ ?_
  rintro W ⟨b1, hbel⟩
  have hBw : w.heap.size ≤ w1.heap.size := by have := HB1.out.size; simp at this; omega
  have HH := hidV (And.intro b1 hbel)
  clear b1 hbel HB1
  generalize w1.heap.size = B at *
  clear w1
  go_loopg [7] 7 (fun gm v7 wr => ∃ x : Nat, ∃ c : Nat → Bool, gm = 7 - x ∧ x ≤ 7 ∧ v7 = .int .i64 x ∧ Hid (∀ v, v < x → c v = true) ∧ Hid (Blk wr B (bv c) 45 ∧ Below w.heap.size w wr))
  case atStart => exact ⟨0, fun _ => false, rfl, by omega, rfl, fun v hv => by omega, HH⟩
  case round =>
    obtain ⟨x, c, hgm, hx, rfl, HC, HD⟩ := hrel
    clear HH W
    by_cases hx7 : x < 7
    · have x0 : (0 : Int) ≤ (x : Int) := by omega
      have x1 : (x : Int) < 7 := by omega
      have hc : wr.cell? ⟨B, x, none⟩ = some (.bool (c x)) := by rw [HD.out.1.cell]; exact bv_get c hx7
      have hfz : wr.frozen? ⟨B, x, none⟩ = false := HD.out.1.frozen _
      generalize c x = cx at *
      go_wp2
      refine wp_forget (fun W => Blk W B (bv (fun j => if j = x then true else c j)) 45 ∧ Below w.heap.size w W) ⟨by rw [← bv_upd c true hx7]; exact HD.out.1.set _ _, Below.setCell HD.out.2 (by exact hBw) _⟩ ?_
      rintro W ⟨b1, hbel⟩
      have HH := hidV (And.intro b1 hbel)
      clear b1 hbel hc hfz
      go_loopg [8] 1 (fun gm v8 wr => gm = 1 ∧ v8 = .int .i64 0 ∧ wr = W)
      case atStart => exact ⟨rfl, rfl, rfl⟩
      case round =>
        obtain ⟨_, rfl, rfl⟩ := hrel
        go_wp2
        go_roundg (7 - (x + 1))
        case measure => omega
        case rel =>
          refine ⟨x + 1, _, rfl, by omega, by go_num, fun v hv => ?_, HH⟩
          by_cases e : v = x
          · simp [e]
          · simp [e]; exact HC.out v (by omega)
    · have ex : x = 7 := by omega
      subst ex
      have HLI := hidV (HLS.out c)
      rw [lsd_congr 7 HC.out, HR.out] at HLI
      go_wp2_with (first | (refine wpList_load_row (by rfl) 45 _ (by rfl) B (by rfl) 45 (bv c) (0, 0) _ (by exact HD.out.1) Tryz.underlying45 (by rfl) (size_bool7 c) ?_) | (go_at_call 62; refine (HLI.out _).mono ?_; rintro e w2 ⟨rfl, hb2⟩; have HB2 := hidV hb2; clear hb2))
      go_ret
      exact ⟨rfl, HD.out.2.trans (HB2.out.mono HD.out.2.size)⟩

/-- The cells of what name n means. -/
def mcl (m : Mng) (v : Value) : List Value := [.int .i64 (m.kd : Nat), v, .bool (m.bit 0), .bool (m.bit 1), .bool (m.bit 2), .bool (m.bit 3), .bool (m.bit 4), .bool (m.bit 5), .bool (m.bit 6)]
theorem Dk.load {w : World} {M : List Nat} {b : Nat} {st : Nat → Mng} (h : Dk w M b st) {n : Nat} (hn : n < 26) : ∃ v, SV w M (st n) v ∧ w.rangeAt b (n * 9) (mcl (st n) v) ∧ w.cell? ⟨b, n * 9 + 1, none⟩ = some v := by
  obtain ⟨⟨cs, h1, h2, h3⟩, _⟩ := h
  obtain ⟨v, k1, k2, k3, k4⟩ := h3 n hn
  refine ⟨v, k1, ?_, by rw [h1.cell]; exact k3⟩
  intro j u hu
  rw [h1.cell]
  have hj : j < 9 := by
    rcases Nat.lt_or_ge j 9 with q | q
    · exact q
    · rw [List.getElem?_eq_none (by show 9 ≤ j; exact q)] at hu; simp at hu
  match j, hj with
  | 0, _ => rw [Nat.add_zero, k2]; exact hu
  | 1, _ => rw [k3]; exact hu
  | 2, _ => rw [k4 0 (by omega)]; exact hu
  | 3, _ => rw [show n * 9 + 3 = n * 9 + 2 + 1 by omega, k4 1 (by omega)]; exact hu
  | 4, _ => rw [show n * 9 + 4 = n * 9 + 2 + 2 by omega, k4 2 (by omega)]; exact hu
  | 5, _ => rw [show n * 9 + 5 = n * 9 + 2 + 3 by omega, k4 3 (by omega)]; exact hu
  | 6, _ => rw [show n * 9 + 6 = n * 9 + 2 + 4 by omega, k4 4 (by omega)]; exact hu
  | 7, _ => rw [show n * 9 + 7 = n * 9 + 2 + 5 by omega, k4 5 (by omega)]; exact hu
  | 8, _ => rw [show n * 9 + 8 = n * 9 + 2 + 6 by omega, k4 6 (by omega)]; exact hu
theorem wpList_load_mn {ops : Array Oper} {rest : List Oper} {op : Oper} {a : Act} {w : World} {Q : Exit → Act → World → Prop} (hgd : op.guard = none) (x : Operand) (ho : op.op = .load 81 x)
    (b o : Nat) (hx : a.eval x = .pointer (some ⟨b, o, none⟩)) (m : Mng) (v : Value) (hc : w.rangeAt b o (mcl m v))
    (h : wpList Tryz.prog ops Q rest (a.put op.dst (.agg (mcl m v).toArray)) w) : wpList Tryz.prog ops Q (op :: rest) a w :=
  wpList_load_mid hgd 81 x ho b o hx (mcl m v) _ hc Tryz.underlying81 rfl (by kernel_rfl) h
end Go.Proofs.YthlmgpllapccfaaGreatDoor
/- THE DOCUMENT's ANSWER: the commands that ask: print, split. -/
namespace Go.Proofs.YthlmgpllapccfaaGreatDoor
open Go.RowKit

theorem Dk.less {w : World} {M : List Nat} {b x : Nat} {st : Nat → Mng} (h : Dk w (x :: M) b st) (hb : b ∈ M) : Dk w M b st := by
  obtain ⟨⟨cs, h1, h2, h3⟩, _⟩ := h
  refine ⟨⟨cs, h1, h2, fun n hn => ?_⟩, hb⟩
  obtain ⟨v, k1, k2⟩ := h3 n hn
  refine ⟨v, ?_, k2⟩
  cases hm : st n with
  | sys ps =>
    rw [hm] at k1
    obtain ⟨g, cap, q1, q2, q3, q4, q5, q6⟩ := k1
    exact ⟨g, cap, q1, q2, q3, q4, q5, fun q => q6 (by simp [q])⟩
  | non => rw [hm] at k1; exact k1
  | set c => rw [hm] at k1; exact k1
/-- The slice of whatever a name means. -/
theorem SV.form {w : World} {M : List Nat} {m : Mng} {v : Value} (h : SV w M m v) : ∃ p cap, v = .slice p m.ps.length cap ∧ m.ps.length ≤ 4 ∧ Goods m.ps ∧ (m.ps ≠ [] → ∃ g, p = some ⟨g, 0, none⟩ ∧ Sy w g m.ps) := by
  cases m with
  | sys ps =>
    obtain ⟨g, cap, h1, h2, h3, h4, h5, h6⟩ := h
    exact ⟨_, _, h1, h5, h3, fun _ => ⟨g, rfl, h2⟩⟩
  | non => exact ⟨none, 0, h, by simp [Mng.ps], fun p hp => by simp [Mng.ps] at hp, fun q => absurd rfl q⟩
  | set c => exact ⟨none, 0, h, by simp [Mng.ps], fun p hp => by simp [Mng.ps] at hp, fun q => absurd rfl q⟩
theorem WyS.fr {bs : List Nat} {w w' : World} {b g n cap : Nat} {s : WS} {op : Int} (h : WyS w b g n cap s op) (hf : Fr bs w w') (hb : b ∉ bs) : WyS w' b g n cap s op := by
  rcases h with ⟨h1, h2, h3⟩ | ⟨h1, k, h2, h3⟩
  · exact Or.inl ⟨h1, Blk.fr h2 hf hb, h3⟩
  · exact Or.inr ⟨h1, k, h2, Blk.fr h3 hf hb⟩
def okS (st : Nat → Mng) : Nat → Bool := fun a => decide (1 = 0) || decide ((st a).kd = 1)

set_option maxRecDepth 100000 in
set_option maxHeartbeats 2000000 in
theorem asks_print (b g n cap N bd : Nat) (M : List Nat) (st : Nat → Mng) (f : Nat → Tok) (s : WS) (op : Int) (w : World) (hd : Dk w M bd st) (hbM : b ∈ M) (hbd : b ≠ bd) (h : WyS w b g n cap s op) (ht : TkS w b g n N f) :
    Calls Tryz.prog 37 #[.pointer (some ⟨b, 0, none⟩), .pointer (some ⟨bd, 0, none⟩), .string ⟨#[112, 114, 105, 110, 116]⟩] w fun e w' => (∃ a : Nat, a < 26 ∧ e = .returned (.string (bs (prn (st a).ps (st a).ps.length))) ∧ (s.e = 0 → isN (f s.k) = true → a = (f s.k).c - 69)) ∧ WyS w' b g n cap (enS f (nmS f (okS st) s)) op ∧ Fr [b] w w' := by
  have HD := hidV hd
  have HH := hidV h
  have HT := hidV ht
  have hbg := ht.ne
  clear hd h ht
  go_enter Tryz.func37, Tryz.ntmps37
  go_wp2_with fail
  refine (namedS b g n cap N bd 1 _ M st f s op _ rfl HD.out hbd HH.out HT.out).mono ?_
  rintro e w1 ⟨⟨a, ha, rfl, haa⟩, hw1, hf1⟩
  have HT1 := hidV (HT.out.fr hf1 (by simp; exact fun q => hbg q.symm))
  have HW1 := hidV (show WyS w1 b g n cap (nmS f (okS st) s) op from hw1)
  have HF1 := hidV hf1
  have HAA := hidV haa
  clear hw1 hf1 haa
  go_wp2_with fail
  refine (wendS b g n cap N f _ op _ HW1.out HT1.out).mono ?_
  rintro e w2 ⟨rfl, hw2, hf2⟩
  have HW2 := hidV hw2
  have HF2 := hidV (HF1.out.trans hf2 (by simp))
  have hd2 := HD.out.fr HF2.out (by simp; exact fun q => hbd q.symm) (by simp; exact Or.inl hbM)
  have HD2 := hidV hd2
  obtain ⟨v, hv, _, hcell⟩ := hd2.load ha
  obtain ⟨p, cp, rfl, hl4, hgd, hsome⟩ := hv.form
  have hbdl := hd2.lt
  have HG := hidV hgd
  have HSM := hidV hsome
  clear hw2 hf2 hd2 hv hgd hsome HW1 HF1
  have HLN := hidV (prn_len (st a).ps)
  obtain ⟨T, HTX⟩ : ∃ T, Hid (prn (st a).ps = T) := ⟨_, hidV rfl⟩
  generalize hps : (st a).ps = ps at *
  have HPS := hidV hps
  clear hps
  obtain ⟨K, HK, hK4⟩ : ∃ K, Hid (ps.length = K) ∧ K ≤ 4 := ⟨_, hidV rfl, hl4⟩
  rw [HK.out] at hcell
  clear hl4
  have a0 : (0 : Int) ≤ (a : Int) := by omega
  have a1 : (a : Int) < 26 := by omega
  go_wp2
  go_loopg [8, 9] K (fun gm v8 v9 wr => ∃ i : Nat, gm = K - i ∧ i ≤ K ∧ v9 = .int .i64 i ∧ v8 = .string (bs (prn ps i)) ∧ Hid (Below w2.heap.size w2 wr))
  case atStart => exact ⟨0, rfl, by omega, rfl, rfl, Below.refl _ _⟩
  case round =>
    obtain ⟨i, hgm, hi, rfl, rfl, HB⟩ := hrel
    have hf : Fr [] w2 wr := Fr.of_below HB.out
    have hcr : wr.cell? ⟨bd, a * 9 + 1, none⟩ = some (.slice p K cp) := by rw [hf.cell _ hbdl (by simp)]; exact hcell
    have HFR := hidV hf
    clear hf
    by_cases hiK : i < K
    · obtain ⟨g2, hg2, hsy⟩ := HSM.out (fun q => by have := HK.out; rw [q] at this; simp at this; omega)
      subst hg2
      have HR : Hid (wr.rangeAt g2 (i * 35) (pv (ps.getD i [])).toList) := rangeAt_fr HFR.out hsy.1 (by simp) (hsy.2 i (by rw [HK.out]; exact hiK))
      have hgi : Good (ps.getD i []) := HG.out.at (by rw [HK.out]; exact hiK)
      have HWR := hidV (fun w' => write_any (ps.getD i []) w' hgi)
      have HTL := hidV (txt_len (ps.getD i []))
      have HLI := hidV (HLN.out i)
      have HST : Hid (prn ps (i + 1) = (if i = 0 then [] else prn ps i ++ [44, 32]) ++ txt (ps.getD i [])) := rfl
      generalize ps.getD i [] = pp at *
      generalize txt pp = X at *
      generalize hYY : prn ps i = Y at *
      have HYY := hidV hYY
      clear hYY hsy
      have i0 : (0 : Int) ≤ (i : Int) := by omega
      have i1 : (i : Int) < (K : Int) := by omega
      by_cases h0 : i = 0
      · rw [if_pos h0] at HST
        have HY0 : Hid (Y = []) := by unfold Hid; rw [← HYY.out, h0]; rfl
        have hgt : ¬ (0 : Int) < (i : Int) := by omega
        have HI0 := hidV h0
        clear h0
        obtain ⟨Z, HZ⟩ : ∃ Z, Hid (Y ++ X = Z) := ⟨_, hidV rfl⟩
        have hadd := fun (w' : World) => add_to Y X Z (bs X) rfl HZ.out (by have := HLI.out; omega) (by have := HTL.out; omega) w'
        go_wp2_with (first | (refine wpList_load_rp (by rfl) _ (by rfl) g2 (i * 35) (by rfl) pp hgi (by exact HR.out) ?_) | (go_at_call 55; refine (HWR.out _).mono ?_; rintro e w3 ⟨rfl, hb3⟩; have HB3 := hidV hb3; clear hb3))
        go_roundg (K - (i + 1))
        case measure => omega
        case rel => exact ⟨i + 1, rfl, by omega, by go_num, by rw [HST.out, ← HZ.out, HY0.out], HB.out.trans (HB3.out.mono HB.out.size)⟩
      · rw [if_neg h0] at HST
        have hgt : (0 : Int) < (i : Int) := by omega
        clear h0
        obtain ⟨Y1, HY1⟩ : ∃ Z, Hid (Y ++ [44, 32] = Z) := ⟨_, hidV rfl⟩
        have HL1 : Hid (Y1.length ≤ 212 * i + 2) := by unfold Hid; rw [← HY1.out, List.length_append]; have := HLI.out; simp only [List.length_cons, List.length_nil]; omega
        have hadd1 := fun (w' : World) => add_to Y [44, 32] Y1 ⟨#[44, 32]⟩ rfl HY1.out (by have := HLI.out; omega) (by simp) w'
        obtain ⟨Z, HZ⟩ : ∃ Z, Hid (Y1 ++ X = Z) := ⟨_, hidV rfl⟩
        have hadd := fun (w' : World) => add_to Y1 X Z (bs X) rfl HZ.out (by have := HL1.out; omega) (by have := HTL.out; omega) w'
        go_wp2_with (first | (refine wpList_load_rp (by rfl) _ (by rfl) g2 (i * 35) (by rfl) pp hgi (by exact HR.out) ?_) | (go_at_call 55; refine (HWR.out _).mono ?_; rintro e w3 ⟨rfl, hb3⟩; have HB3 := hidV hb3; clear hb3))
        go_roundg (K - (i + 1))
        case measure => omega
        case rel => exact ⟨i + 1, rfl, by omega, by go_num, by rw [HST.out, HY1.out, HZ.out], HB.out.trans (HB3.out.mono HB.out.size)⟩
    · have ei : i = K := by omega
      have hik : ¬ (i : Int) < (K : Int) := by omega
      have HEI := hidV ei
      clear ei hiK
      go_wp2
      go_ret
      refine ⟨⟨a, ha, ?_, HAA.out⟩, ?_, HF2.out.trans HFR.out (by simp)⟩
      · rw [HPS.out, HK.out, ← HEI.out]; rfl
      · exact HW2.out.fr HFR.out (by simp)

theorem nmS_ok {f : Nat → Tok} {ok : Nat → Bool} {s : WS} (h : (nmS f ok s).e = 0) : s.e = 0 ∧ isN (f s.k) = true ∧ ok ((f s.k).c - 69) = true := by
  unfold nmS at h
  by_cases h0 : s.e ≠ 0
  · rw [if_pos h0] at h; exact absurd h h0
  · rw [if_neg h0] at h
    by_cases h1 : isN (f s.k) = true
    · rw [if_pos h1] at h
      by_cases h2 : ok ((f s.k).c - 69) = true
      · exact ⟨by omega, h1, h2⟩
      · rw [if_neg h2] at h; simp at h
    · rw [if_neg h1] at h; simp at h
theorem enS_ok {f : Nat → Tok} {s : WS} (h : (enS f s).e = 0) : s.e = 0 := by
  unfold enS at h
  by_cases h0 : s.e ≠ 0
  · rw [if_pos h0] at h; exact h
  · omega
theorem ctS_ok {f : Nat → Tok} {s : WS} (h : (ctS f s).e = 0) : s.e = 0 ∧ (f s.k).c = 1 := by
  unfold ctS at h
  by_cases h0 : s.e ≠ 0
  · rw [if_pos h0] at h; exact absurd h h0
  · rw [if_neg h0] at h
    by_cases h1 : (f s.k).c = 1
    · exact ⟨by omega, h1⟩
    · rw [if_neg h1] at h; simp at h
theorem sys_of {st : Nat → Mng} {a : Nat} (h : okS st a = true) : ∃ ps, st a = .sys ps := by
  unfold okS at h
  cases hm : st a with
  | sys ps => exact ⟨ps, rfl⟩
  | non => rw [hm] at h; simp [Mng.kd] at h
  | set c => rw [hm] at h; simp [Mng.kd] at h
theorem nmS_sys {f : Nat → Tok} {st : Nat → Mng} {s : WS} {a : Nat} (haa : s.e = 0 → isN (f s.k) = true → a = (f s.k).c - 69) (h : (nmS f (okS st) s).e = 0) : ∃ ps, st a = .sys ps := by
  obtain ⟨h1, h2, h3⟩ := nmS_ok h
  rw [← haa h1 h2] at h3
  exact sys_of h3
theorem enS_sys {f : Nat → Tok} {st : Nat → Mng} {s : WS} {a : Nat} (haa : s.e = 0 → isN (f s.k) = true → a = (f s.k).c - 69) (h : (enS f (nmS f (okS st) s)).e = 0) : ∃ ps, st a = .sys ps := nmS_sys haa (enS_ok h)

set_option maxRecDepth 100000 in
set_option maxHeartbeats 2000000 in
theorem asks_split (b g n cap N bd : Nat) (M : List Nat) (st : Nat → Mng) (f : Nat → Tok) (s : WS) (op : Int) (w : World) (hd : Dk w M bd st) (hbM : b ∈ M) (hbd : b ≠ bd) (h : WyS w b g n cap s op) (ht : TkS w b g n N f) :
    Calls Tryz.prog 37 #[.pointer (some ⟨b, 0, none⟩), .pointer (some ⟨bd, 0, none⟩), .string ⟨#[115, 112, 108, 105, 116]⟩] w fun e w' => (∃ a : Nat, a < 26 ∧ (∃ t, e = .returned (.string t) ∧ ((enS f (nmS f (okS st) s)).e = 0 → t = bs (spl (ofD (st a).ps) 6))) ∧ (s.e = 0 → isN (f s.k) = true → a = (f s.k).c - 69)) ∧ WyS w' b g n cap (enS f (nmS f (okS st) s)) op ∧ Fr [b] w w' := by
  have HD := hidV hd
  have HH := hidV h
  have HT := hidV ht
  have hbg := ht.ne
  clear hd h ht
  go_enter Tryz.func37, Tryz.ntmps37
  go_wp2_with fail
  refine (namedS b g n cap N bd 1 _ M st f s op _ rfl HD.out hbd HH.out HT.out).mono ?_
  rintro e w1 ⟨⟨a, ha, rfl, haa⟩, hw1, hf1⟩
  have HT1 := hidV (HT.out.fr hf1 (by simp; exact fun q => hbg q.symm))
  have HW1 := hidV (show WyS w1 b g n cap (nmS f (okS st) s) op from hw1)
  have HF1 := hidV hf1
  have HAA := hidV haa
  clear hw1 hf1 haa
  go_wp2_with fail
  refine (wendS b g n cap N f _ op _ HW1.out HT1.out).mono ?_
  rintro e w2 ⟨rfl, hw2, hf2⟩
  have HW2 := hidV hw2
  have HF2 := hidV (HF1.out.trans hf2 (by simp))
  have hd2 := HD.out.fr HF2.out (by simp; exact fun q => hbd q.symm) (by simp; exact Or.inl hbM)
  have HD2 := hidV hd2
  obtain ⟨v, hv, hrange, _⟩ := hd2.load ha
  have hbdl := hd2.lt
  have HV := hidV hv
  have HRG := hidV hrange
  clear hw2 hf2 hd2 hrange hv
  have a0 : (0 : Int) ≤ (a : Int) := by omega
  have a1 : (a : Int) < 26 := by omega
  rcases HW2.out with ⟨h1, h2, h3⟩ | ⟨h1, k', h2, h3⟩
  · obtain ⟨c0, c1, c2, c3, c4⟩ := h2.cells
    have HE := hidV h1
    have hk : ∃ ps, st a = .sys ps := enS_sys HAA.out h1
    obtain ⟨ps, hps⟩ := hk
    have HPS := hidV hps
    rw [hps] at HV HRG
    obtain ⟨g2, cp, rfl, hsy, hgd, hne, hl4, _⟩ := HV.out
    have HSP := hidV (fun w' h => split_any ps g2 cp (.bool ((Mng.sys ps).bit 0)) (.bool ((Mng.sys ps).bit 1)) (.bool ((Mng.sys ps).bit 2)) (.bool ((Mng.sys ps).bit 3)) (.bool ((Mng.sys ps).bit 4)) (.bool ((Mng.sys ps).bit 5)) (.bool ((Mng.sys ps).bit 6)) (.int .i64 ((Mng.sys ps).kd : Nat)) w' hgd hl4 hne h)
    have HSY := hidV hsy
    clear h1 h2 h3 hsy hps hgd hne hl4
    go_wp2_with (first | (refine wpList_load_mn (by rfl) _ (by rfl) bd (a * 9) (by rfl) (Mng.sys ps) _ (by exact HRG.out) ?_) | (go_at_call 61; refine (HSP.out _ HSY.out).mono ?_; rintro e w3 ⟨rfl, hb3⟩; have HB3 := hidV (Fr.of_below (bs := []) hb3); clear hb3))
    go_ret
    refine ⟨⟨a, ha, ⟨_, rfl, fun _ => ?_⟩, HAA.out⟩, HW2.out.fr HB3.out (by simp), HF2.out.trans HB3.out (by simp)⟩
    rw [HPS.out]; rfl
  · obtain ⟨c0, c1, c2, c3, c4⟩ := h3.cells
    have HE := hidV h1
    have q : (((enS f (nmS f (okS st) s)).e : Int) != 0) = true := by rw [bne_iff_ne]; omega
    clear h1 h3
    go_wp2
    go_ret
    exact ⟨⟨a, ha, ⟨_, rfl, fun q => absurd q HE.out⟩, HAA.out⟩, HW2.out, HF2.out⟩
end Go.Proofs.YthlmgpllapccfaaGreatDoor
/- THE DOCUMENT's ANSWER: the commands that ask: gcd, roots. -/
namespace Go.Proofs.YthlmgpllapccfaaGreatDoor
open Go.RowKit

set_option maxRecDepth 100000 in
set_option maxHeartbeats 2000000 in
theorem asks_gcd (b g n cap N bd : Nat) (M : List Nat) (st : Nat → Mng) (f : Nat → Tok) (s : WS) (op : Int) (w : World) (hd : Dk w M bd st) (hbM : b ∈ M) (hbd : b ≠ bd) (h : WyS w b g n cap s op) (ht : TkS w b g n N f) :
    Calls Tryz.prog 37 #[.pointer (some ⟨b, 0, none⟩), .pointer (some ⟨bd, 0, none⟩), .string ⟨#[103, 99, 100]⟩] w fun e w' => (∃ a u : Nat, a < 26 ∧ u < 7 ∧ (∃ t, e = .returned (.string t) ∧ ((enS f (ctS f (nmS f (okS st) s))).e = 0 → t = bs (txt (upL (gall (lins u (st a).ps)))))) ∧ (s.e = 0 → isN (f s.k) = true → a = (f s.k).c - 69) ∧ ((nmS f (okS st) s).e = 0 → (f (nmS f (okS st) s).k).c = 1 → u = (f (nmS f (okS st) s).k).v % 7)) ∧ WyS w' b g n cap (enS f (ctS f (nmS f (okS st) s))) op ∧ Fr [b] w w' := by
  have HD := hidV hd
  have HH := hidV h
  have HT := hidV ht
  have hbg := ht.ne
  clear hd h ht
  go_enter Tryz.func37, Tryz.ntmps37
  go_wp2_with fail
  refine (namedS b g n cap N bd 1 _ M st f s op _ rfl HD.out hbd HH.out HT.out).mono ?_
  rintro e w1 ⟨⟨a, ha, rfl, haa⟩, hw1, hf1⟩
  have HT1 := hidV (HT.out.fr hf1 (by simp; exact fun q => hbg q.symm))
  have HW1 := hidV (show WyS w1 b g n cap (nmS f (okS st) s) op from hw1)
  have HF1 := hidV hf1
  have HAA := hidV haa
  clear hw1 hf1 haa
  go_wp2_with fail
  refine (countedS b g n cap N f _ op _ HW1.out HT1.out).mono ?_
  rintro e w5 ⟨⟨u, hu, rfl, huu⟩, hw5, hf5⟩
  have HT5 := hidV (HT1.out.fr hf5 (by simp; exact fun q => hbg q.symm))
  have HW5 := hidV hw5
  have HF5 := hidV (HF1.out.trans hf5 (by simp))
  have HUU := hidV huu
  clear hw5 hf5 huu HW1 HF1
  go_wp2_with fail
  refine (wendS b g n cap N f _ op _ HW5.out HT5.out).mono ?_
  rintro e w2 ⟨rfl, hw2, hf2⟩
  have HW2 := hidV hw2
  have HF2 := hidV (HF5.out.trans hf2 (by simp))
  have hd2 := HD.out.fr HF2.out (by simp; exact fun q => hbd q.symm) (by simp; exact Or.inl hbM)
  have HD2 := hidV hd2
  obtain ⟨v, hv, hrange, _⟩ := hd2.load ha
  have hbdl := hd2.lt
  have HV := hidV hv
  have HRG := hidV hrange
  clear hw2 hf2 hd2 hrange hv
  have a0 : (0 : Int) ≤ (a : Int) := by omega
  have a1 : (a : Int) < 26 := by omega
  rcases HW2.out with ⟨h1, h2, h3⟩ | ⟨h1, k', h2, h3⟩
  · obtain ⟨c0, c1, c2, c3, c4⟩ := h2.cells
    have HE := hidV h1
    obtain ⟨ps, hps⟩ := nmS_sys HAA.out (ctS_ok (enS_ok h1)).1
    have HPS := hidV hps
    rw [hps] at HV HRG
    obtain ⟨g2, cp, rfl, hsy, hgd, hne, hl4, _⟩ := HV.out
    have HSP := hidV (fun w' h => seen_any ps u g2 cp u (.bool ((Mng.sys ps).bit 0)) (.bool ((Mng.sys ps).bit 1)) (.bool ((Mng.sys ps).bit 2)) (.bool ((Mng.sys ps).bit 3)) (.bool ((Mng.sys ps).bit 4)) (.bool ((Mng.sys ps).bit 5)) (.bool ((Mng.sys ps).bit 6)) (.int .i64 ((Mng.sys ps).kd : Nat)) w' rfl hu hgd hl4 hne h)
    have HCO := hidV (fun g1 c1 W h => common_to (lins u ps) g1 c1 ps.length W (lins_len u ps) hl4 (lins_vec u ps) h)
    have HWR := hidV (fun w' => written_any (gall (lins u ps)) w' (fun i _ => ((gall_any _ (lins_vec u ps)).1 i).1))
    have HSY := hidV hsy
    clear h1 h2 h3 hsy hps hgd hne hl4
    go_wp2_with (first | (refine wpList_load_mn (by rfl) _ (by rfl) bd (a * 9) (by rfl) (Mng.sys ps) _ (by exact HRG.out) ?_) | (go_at_call 58; refine (HSP.out _ HSY.out).mono ?_; rintro e w3 ⟨g3, cap3, rfl, hLn, hb3⟩; have HB3 := hidV (And.intro hLn (Fr.of_below (bs := []) hb3)); clear hLn hb3) | (go_at_call 60; refine (HCO.out g3 cap3 _ HB3.out.1).mono ?_; rintro e w6 ⟨rfl, hb6⟩; have HB6 := hidV (HB3.out.2.trans (Fr.of_below (bs := []) hb6) (by simp)); clear hb6) | (go_at_call 59; refine (HWR.out _).mono ?_; rintro e w7 ⟨rfl, hb7⟩; have HB7 := hidV (HB6.out.trans (Fr.of_below (bs := []) hb7) (by simp)); clear hb7))
    go_ret
    refine ⟨⟨a, u, ha, hu, ⟨_, rfl, fun _ => ?_⟩, HAA.out, HUU.out⟩, HW2.out.fr HB7.out (by simp), HF2.out.trans HB7.out (by simp)⟩
    rw [HPS.out]; rfl
  · obtain ⟨c0, c1, c2, c3, c4⟩ := h3.cells
    have HE := hidV h1
    have q : (((enS f (ctS f (nmS f (okS st) s))).e : Int) != 0) = true := by rw [bne_iff_ne]; omega
    clear h1 h3
    go_wp2
    go_ret
    exact ⟨⟨a, u, ha, hu, ⟨_, rfl, fun q => absurd q HE.out⟩, HAA.out, HUU.out⟩, HW2.out, HF2.out⟩

set_option maxRecDepth 100000 in
set_option maxHeartbeats 2000000 in
theorem asks_roots (b g n cap N bd : Nat) (M : List Nat) (st : Nat → Mng) (f : Nat → Tok) (s : WS) (op : Int) (w : World) (hd : Dk w M bd st) (hbM : b ∈ M) (hbd : b ≠ bd) (h : WyS w b g n cap s op) (ht : TkS w b g n N f) :
    Calls Tryz.prog 37 #[.pointer (some ⟨b, 0, none⟩), .pointer (some ⟨bd, 0, none⟩), .string ⟨#[114, 111, 111, 116, 115]⟩] w fun e w' => (∃ a u : Nat, a < 26 ∧ u < 7 ∧ e = .returned (.string (bs (lsd (rts (lins u (st a).ps)) 7))) ∧ (s.e = 0 → isN (f s.k) = true → a = (f s.k).c - 69) ∧ ((nmS f (okS st) s).e = 0 → (f (nmS f (okS st) s).k).c = 1 → u = (f (nmS f (okS st) s).k).v % 7)) ∧ WyS w' b g n cap (enS f (ctS f (nmS f (okS st) s))) op ∧ Fr [b] w w' := by
  have HD := hidV hd
  have HH := hidV h
  have HT := hidV ht
  have hbg := ht.ne
  clear hd h ht
  go_enter Tryz.func37, Tryz.ntmps37
  go_wp2_with fail
  refine (namedS b g n cap N bd 1 _ M st f s op _ rfl HD.out hbd HH.out HT.out).mono ?_
  rintro e w1 ⟨⟨a, ha, rfl, haa⟩, hw1, hf1⟩
  have HT1 := hidV (HT.out.fr hf1 (by simp; exact fun q => hbg q.symm))
  have HW1 := hidV (show WyS w1 b g n cap (nmS f (okS st) s) op from hw1)
  have HF1 := hidV hf1
  have HAA := hidV haa
  clear hw1 hf1 haa
  go_wp2_with fail
  refine (countedS b g n cap N f _ op _ HW1.out HT1.out).mono ?_
  rintro e w5 ⟨⟨u, hu, rfl, huu⟩, hw5, hf5⟩
  have HT5 := hidV (HT1.out.fr hf5 (by simp; exact fun q => hbg q.symm))
  have HW5 := hidV hw5
  have HF5 := hidV (HF1.out.trans hf5 (by simp))
  have HUU := hidV huu
  clear hw5 hf5 huu HW1 HF1
  go_wp2_with fail
  refine (wendS b g n cap N f _ op _ HW5.out HT5.out).mono ?_
  rintro e w2 ⟨rfl, hw2, hf2⟩
  have HW2 := hidV hw2
  have HF2 := hidV (HF5.out.trans hf2 (by simp))
  have hd2 := HD.out.fr HF2.out (by simp; exact fun q => hbd q.symm) (by simp; exact Or.inl hbM)
  have HD2 := hidV hd2
  obtain ⟨v, hv, hrange, _⟩ := hd2.load ha
  have hbdl := hd2.lt
  have HV := hidV hv
  have HRG := hidV hrange
  clear hw2 hf2 hd2 hrange hv
  have a0 : (0 : Int) ≤ (a : Int) := by omega
  have a1 : (a : Int) < 26 := by omega
  by_cases hsys : ∃ ps, st a = .sys ps
  · obtain ⟨ps, hps⟩ := hsys
    have HPS := hidV hps
    rw [hps] at HV HRG
    obtain ⟨g2, cp, rfl, hsy, hgd, hne, hl4, _⟩ := HV.out
    have HSP := hidV (fun w' h => roots_any ps u g2 cp u (.bool ((Mng.sys ps).bit 0)) (.bool ((Mng.sys ps).bit 1)) (.bool ((Mng.sys ps).bit 2)) (.bool ((Mng.sys ps).bit 3)) (.bool ((Mng.sys ps).bit 4)) (.bool ((Mng.sys ps).bit 5)) (.bool ((Mng.sys ps).bit 6)) (.int .i64 ((Mng.sys ps).kd : Nat)) w' rfl hu hgd hl4 hne h)
    have HSY := hidV hsy
    clear hsy hps hgd hne hl4
    go_wp2_with (first | (refine wpList_load_mn (by rfl) _ (by rfl) bd (a * 9) (by rfl) (Mng.sys ps) _ (by exact HRG.out) ?_) | (go_at_call 57; refine (HSP.out _ HSY.out).mono ?_; rintro e w3 ⟨rfl, hb3⟩; have HB3 := hidV (Fr.of_below (bs := []) hb3); clear hb3))
    go_ret
    refine ⟨⟨a, u, ha, hu, ?_, HAA.out, HUU.out⟩, HW2.out.fr HB3.out (by simp), HF2.out.trans HB3.out (by simp)⟩
    rw [HPS.out]; rfl
  · obtain ⟨hv0, hp0⟩ : v = .slice none 0 0 ∧ (st a).ps = [] := by
      have := HV.out
      cases hm : st a with
      | sys ps => exact absurd ⟨ps, hm⟩ hsys
      | non => rw [hm] at this; exact ⟨this, rfl⟩
      | set c => rw [hm] at this; exact ⟨this, rfl⟩
    subst hv0
    have HP0 := hidV hp0
    have HSP := hidV (fun w' => roots_nil u (.bool ((st a).bit 0)) (.bool ((st a).bit 1)) (.bool ((st a).bit 2)) (.bool ((st a).bit 3)) (.bool ((st a).bit 4)) (.bool ((st a).bit 5)) (.bool ((st a).bit 6)) (.int .i64 ((st a).kd : Nat)) w')
    clear hsys hp0
    obtain ⟨m, HMM⟩ : ∃ m, Hid (st a = m) := ⟨_, hidV rfl⟩
    rw [HMM.out] at HRG HSP
    go_wp2_with (first | (refine wpList_load_mn (by rfl) _ (by rfl) bd (a * 9) (by rfl) m _ (by exact HRG.out) ?_) | (go_at_call 57; refine (HSP.out _).mono ?_; rintro e w3 ⟨rfl, hb3⟩; have HB3 := hidV (Fr.of_below (bs := []) hb3); clear hb3))
    go_ret
    refine ⟨⟨a, u, ha, hu, ?_, HAA.out, HUU.out⟩, HW2.out.fr HB3.out (by simp), HF2.out.trans HB3.out (by simp)⟩
    rw [HP0.out, rts_nil]; rfl
end Go.Proofs.YthlmgpllapccfaaGreatDoor
/- PLAIN: words. -/
namespace Go.Proofs.YthlmgpllapccfaaGreatDoor

def sml (s : ByteArray) (i : Nat) : Bool := decide (97 ≤ byt s i) && decide (byt s i ≤ 122)
theorem sml_iff (s : ByteArray) (i : Nat) : sml s i = true ↔ 97 ≤ byt s i ∧ byt s i ≤ 122 := by simp [sml]
theorem sml_in {s : ByteArray} {i : Nat} (h : sml s i = true) : i < s.size := by
  rw [sml_iff] at h
  exact byt_in (by omega)
def wendF (s : ByteArray) : Nat → Nat → Nat
  | 0, i => i
  | m + 1, i => if sml s i = true then wendF s m (i + 1) else i
/-- The place behind the small letters that stand at i. -/
def wend (s : ByteArray) (i : Nat) : Nat := wendF s (s.size - i) i
theorem wend_step {s : ByteArray} {i : Nat} (h : sml s i = true) : wend s i = wend s (i + 1) := by
  have := sml_in h
  unfold wend
  rw [show s.size - i = (s.size - (i + 1)) + 1 by omega, wendF, if_pos h]
theorem wend_here {s : ByteArray} {i : Nat} (h : ¬ sml s i = true) : wend s i = i := by
  unfold wend
  cases s.size - i with
  | zero => rfl
  | succ m => rw [wendF, if_neg h]
theorem wendF_facts (s : ByteArray) : ∀ (m i : Nat), s.size - i = m → i ≤ s.size → i ≤ wendF s m i ∧ wendF s m i ≤ s.size ∧ ¬ sml s (wendF s m i) = true := by
  intro m
  induction m with
  | zero =>
    intro i hm hi
    exact ⟨Nat.le_refl _, hi, fun h => by have := sml_in h; rw [wendF] at this; omega⟩
  | succ m ih =>
    intro i hm hi
    rw [wendF]
    by_cases h : sml s i = true
    · rw [if_pos h]
      have := sml_in h
      have := ih (i + 1) (by omega) (by omega)
      exact ⟨by omega, this.2.1, this.2.2⟩
    · rw [if_neg h]
      exact ⟨Nat.le_refl _, hi, h⟩
theorem wend_facts {s : ByteArray} {i : Nat} (h : i ≤ s.size) : i ≤ wend s i ∧ wend s i ≤ s.size ∧ ¬ sml s (wend s i) = true := wendF_facts s _ i rfl h
/-- The first byte that is no space; the end of the word there. -/
def w0 (s : ByteArray) : Nat := skip s 0
def w1 (s : ByteArray) : Nat := wend s (w0 s)
theorem w0_le (s : ByteArray) : w0 s ≤ s.size := (skip_facts (Nat.zero_le _)).2.1
theorem w1_le (s : ByteArray) : w0 s ≤ w1 s ∧ w1 s ≤ s.size := ⟨(wend_facts (w0_le s)).1, (wend_facts (w0_le s)).2.1⟩
end Go.Proofs.YthlmgpllapccfaaGreatDoor
/- THE DOCUMENT's ANSWER: a line's tokens: the first may be a word. -/
namespace Go.Proofs.YthlmgpllapccfaaGreatDoor
open Go.RowKit

/-- The tokens of a line; where the reading of each begins. -/
def lf (s : ByteArray) (k : Nat) : Tok := if sml s (w0 s) = true then (if k = 0 then ⟨1000 + wenc (s.extract (w0 s) (w1 s)).data.toList, w0 s, w1 s, 0⟩ else tk s (w1 s) (k - 1)) else tk s 0 k
def lq (s : ByteArray) (k : Nat) : Nat := if sml s (w0 s) = true then (if k = 0 then 0 else pos s (w1 s) (k - 1)) else pos s 0 k
theorem lf_tok {s : ByteArray} {k : Nat} (h : sml s (w0 s) = false ∨ k ≠ 0) : lf s k = tok s (lq s k) := by
  unfold lf lq
  by_cases hs : sml s (w0 s) = true
  · have hk : k ≠ 0 := by rcases h with h | h; rw [hs] at h; exact absurd h (by decide); exact h
    rw [if_pos hs, if_neg hk, if_pos hs, if_neg hk]; rfl
  · rw [if_neg hs, if_neg hs]; rfl
theorem lq_zero (s : ByteArray) : lq s 0 = 0 := by
  unfold lq; split <;> rfl
theorem lq_next (s : ByteArray) (k : Nat) : lq s (k + 1) = (lf s k).to := by
  unfold lf lq
  by_cases hs : sml s (w0 s) = true
  · rw [if_pos hs, if_pos hs, if_neg (by omega)]
    by_cases hk : k = 0
    · subst hk; rfl
    · rw [if_neg hk, show k + 1 - 1 = (k - 1) + 1 by omega]; rfl
  · rw [if_neg hs, if_neg hs]; rfl
theorem lf_word {s : ByteArray} (hs : sml s (w0 s) = true) : lf s 0 = ⟨1000 + wenc (s.extract (w0 s) (w1 s)).data.toList, w0 s, w1 s, 0⟩ := by
  unfold lf; rw [if_pos hs, if_pos rfl]
theorem lf_rest {s : ByteArray} (hs : sml s (w0 s) = true) (k : Nat) : lf s (k + 1) = tk s (w1 s) k := by
  unfold lf; rw [if_pos hs, if_neg (by omega)]; rfl
def toksF (f : Nat → Tok) : Nat → List Value
  | 0 => []
  | k + 1 => toksF f k ++ tokL (f k)
theorem toksF_length (f : Nat → Tok) : ∀ k, (toksF f k).length = k * 4
  | 0 => rfl
  | k + 1 => by simp [toksF, toksF_length f k, tokL]; omega
theorem toksF_get (f : Nat → Tok) : ∀ (k j i : Nat), j < k → i < 4 → (toksF f k)[j * 4 + i]? = (tokL (f j))[i]?
  | 0, _, _, h, _ => by omega
  | k + 1, j, i, h, hi => by
    show (toksF f k ++ tokL (f k))[j * 4 + i]? = _
    by_cases hj : j < k
    · rw [List.getElem?_append_left (by rw [toksF_length]; omega)]
      exact toksF_get f k j i hj hi
    · have e : j = k := by omega
      subst e
      rw [List.getElem?_append_right (by rw [toksF_length]; omega), toksF_length]
      congr 1; omega
theorem ownsRow_form {w : World} {base : Nat} {e : TypeId} {size : Nat} {v : Value} {n : Nat} {xs : List Value} (h : w.ownsRow base e size v n xs) : ∃ p cap, v = .slice p n cap := by
  obtain ⟨_, ⟨h1, h2⟩ | ⟨g, cap, cur, h1, _⟩⟩ := h
  · subst h2; exact ⟨_, _, h1⟩
  · exact ⟨_, _, h1⟩

set_option maxHeartbeats 400000 in
theorem small_any (n : Nat) (a : Int) (w : World) (ha : a = n) (_h : n ≤ 255) :
    Calls Tryz.prog 49 #[.int .u8 a] w fun e w' => e = .returned (.bool (decide (97 ≤ n) && decide (n ≤ 122))) ∧ w' = w := by
  subst ha
  by_cases h1 : 97 ≤ n
  · by_cases h2 : n ≤ 122
    · go_enter Tryz.func49, Tryz.ntmps49
      go_wp2
      go_ret
      exact ⟨by simp [h1, h2]; omega, rfl⟩
    · go_enter Tryz.func49, Tryz.ntmps49
      go_wp2
      go_ret
      exact ⟨by simp [h1, h2]; omega, rfl⟩
  · go_enter Tryz.func49, Tryz.ntmps49
    go_wp2
    go_ret
    exact ⟨by simp, rfl⟩

set_option maxRecDepth 100000 in
set_option maxHeartbeats 2000000 in
theorem word_any (s : ByteArray) (i : Nat) (a : Int) (w : World) (ha : a = i) (hs : s.size ≤ 1000) (hi : i ≤ s.size) :
    Calls Tryz.prog 50 #[.string s, .int .i64 a] w fun e w' => e = .returned (.tuple #[.agg #[.int .i64 4, .int .i64 i, .int .i64 0, .string (s.extract i (wend s i))], .int .i64 (wend s i)]) ∧ Below w.heap.size w w' := by
  subst ha
  go_enter Tryz.func50, Tryz.ntmps50
  go_wp2
  refine wp_forget (fun W => Blk W w.heap.size #[.int .i64 0, .int .i64 0, .int .i64 0, .string ⟨#[]⟩] 91 ∧ Below w.heap.size w W) ⟨Blk.new w _ _, by go_grown⟩ ?_
  rintro W ⟨b1, hbel⟩
  have HH := hideR (And.intro b1 hbel)
  clear b1 hbel
  go_loopg [6] (s.size - i) (fun m v6 wr => ∃ j : Nat, m = s.size - j ∧ v6 = .int .i64 j ∧ i ≤ j ∧ j ≤ s.size ∧ Hid (wend s j = wend s i) ∧ Hid (Blk wr w.heap.size #[.int .i64 0, .int .i64 0, .int .i64 0, .string ⟨#[]⟩] 91 ∧ Below w.heap.size w wr))
  case atStart => exact ⟨i, rfl, rfl, Nat.le_refl _, hi, rfl, HH⟩
  case round =>
    obtain ⟨j, hm, rfl, hij, hj, HW, HB⟩ := hrel
    clear HH W
    by_cases hlt : j < s.size
    · have hb := byt_cast hlt
      have hsm := byt_small hlt
      by_cases h1 : sml s j = true
      · have h1' : (decide (97 ≤ byt s j) && decide (byt s j ≤ 122)) = true := h1
        have H2 : Hid (wend s (j + 1) = wend s i) := by unfold Hid; rw [← wend_step h1]; exact HW.out
        clear h1
        go_wp2_with (go_at_call 49; refine (small_any (byt s j) _ _ (by omega) (by omega)).mono ?_; rintro e w' ⟨rfl, rfl⟩)
        go_roundg (s.size - (j + 1))
        case measure => omega
        case rel => exact ⟨j + 1, rfl, by go_num, by omega, by omega, H2, HB⟩
      · have h1' : (decide (97 ≤ byt s j) && decide (byt s j ≤ 122)) = false := by
          cases q : (decide (97 ≤ byt s j) && decide (byt s j ≤ 122)) with
          | false => rfl
          | true => exact absurd q h1
        have H2 : Hid (wend s i = j) := by unfold Hid; rw [← HW.out]; exact wend_here h1
        clear h1
        have z0 : wr.cell? ⟨w.heap.size, 0, none⟩ = some (.int .i64 0) := HB.out.1.cell 0
        have z1 : wr.cell? ⟨w.heap.size, 1, none⟩ = some (.int .i64 0) := HB.out.1.cell 1
        have z2 : wr.cell? ⟨w.heap.size, 2, none⟩ = some (.int .i64 0) := HB.out.1.cell 2
        have z3 : wr.cell? ⟨w.heap.size, 3, none⟩ = some (.string ⟨#[]⟩) := HB.out.1.cell 3
        have y0 : wr.frozen? ⟨w.heap.size, 0, none⟩ = false := HB.out.1.frozen 0
        have y1 : wr.frozen? ⟨w.heap.size, 1, none⟩ = false := HB.out.1.frozen 1
        have y2 : wr.frozen? ⟨w.heap.size, 2, none⟩ = false := HB.out.1.frozen 2
        have y3 : wr.frozen? ⟨w.heap.size, 3, none⟩ = false := HB.out.1.frozen 3
        have q0 : (0 : Int) ≤ (i : Int) := by omega
        have q1 : (i : Int) ≤ (j : Int) := by omega
        have q2 : (j : Int) ≤ (s.size : Int) := by omega
        go_wp2_with (go_at_call 49; refine (small_any (byt s j) _ _ (by omega) (by omega)).mono ?_; rintro e w' ⟨rfl, rfl⟩)
        refine bodyPost_ret (results_tok Tryz.results50 _ _ w.heap.size _ _ _ _ (by rfl) (Blk.store4 (by exact HB.out.1) _ _ _ _)) rfl ⟨?_, ?_⟩
        · rw [H2.out]; rfl
        · exact Below.setCell (Below.setCell (Below.setCell (Below.setCell HB.out.2 (Nat.le_refl _) _) (Nat.le_refl _) _) (Nat.le_refl _) _) (Nat.le_refl _) _
    · have hz := byt_ge hlt
      have ej : j = s.size := by omega
      have H2 : Hid (wend s i = j) := by
        unfold Hid; rw [← HW.out]; exact wend_here (fun h => by have := sml_in h; omega)
      have HEJ := hideR ej
      clear ej
      have z0 : wr.cell? ⟨w.heap.size, 0, none⟩ = some (.int .i64 0) := HB.out.1.cell 0
      have z1 : wr.cell? ⟨w.heap.size, 1, none⟩ = some (.int .i64 0) := HB.out.1.cell 1
      have z2 : wr.cell? ⟨w.heap.size, 2, none⟩ = some (.int .i64 0) := HB.out.1.cell 2
      have z3 : wr.cell? ⟨w.heap.size, 3, none⟩ = some (.string ⟨#[]⟩) := HB.out.1.cell 3
      have y0 : wr.frozen? ⟨w.heap.size, 0, none⟩ = false := HB.out.1.frozen 0
      have y1 : wr.frozen? ⟨w.heap.size, 1, none⟩ = false := HB.out.1.frozen 1
      have y2 : wr.frozen? ⟨w.heap.size, 2, none⟩ = false := HB.out.1.frozen 2
      have y3 : wr.frozen? ⟨w.heap.size, 3, none⟩ = false := HB.out.1.frozen 3
      have q0 : (0 : Int) ≤ (i : Int) := by omega
      have q1 : (i : Int) ≤ (j : Int) := by omega
      have q2 : (j : Int) ≤ (s.size : Int) := by omega
      go_wp2
      refine bodyPost_ret (results_tok Tryz.results50 _ _ w.heap.size _ _ _ _ (by rfl) (Blk.store4 (by exact HB.out.1) _ _ _ _)) rfl ⟨?_, ?_⟩
      · rw [H2.out]; rfl
      · exact Below.setCell (Below.setCell (Below.setCell (Below.setCell HB.out.2 (Nat.le_refl _) _) (Nat.le_refl _) _) (Nat.le_refl _) _) (Nat.le_refl _) _
end Go.Proofs.YthlmgpllapccfaaGreatDoor
