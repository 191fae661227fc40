import Derived.Test.YthlmgpllapccfaaGreatDoorPack3
import Derived.Laws.IdiomStrings
import Derived.ChangeKeysEq
import Derived.Deep.LoopGhost
/- PLAIN: polynomials modulo 7, ideals, division. Nothing of the program. -/
namespace Go.Proofs.YthlmgpllapccfaaGreatDoor

/-- The same, modulo 7. -/
def Eqv (p q : Nat → Int) : Prop := ∀ n, (p n - q n) % 7 = 0
theorem Eqv.refl (p : Nat → Int) : Eqv p p := fun n => by simp
theorem Eqv.symm {p q : Nat → Int} (h : Eqv p q) : Eqv q p := fun n => by have := h n; omega
theorem Eqv.trans {p q r : Nat → Int} (h : Eqv p q) (k : Eqv q r) : Eqv p r := fun n => by have := h n; have := k n; omega

/-- What is closed under sums and multiples. -/
structure Idl (I : (Nat → Int) → Prop) : Prop where
  same : ∀ p q, Eqv p q → I p → I q
  zero : I (fun _ => 0)
  add : ∀ p q, I p → I q → I (fun n => p n + q n)
  smul : ∀ (c : Int) p, I p → I (fun n => c * p n)
  shift : ∀ p, I p → I (fun n => if n = 0 then 0 else p (n - 1))
/-- Times x to the s. -/
def shK (s : Nat) (p : Nat → Int) : Nat → Int := fun n => if n < s then 0 else p (n - s)
theorem Idl.shK {I : (Nat → Int) → Prop} (h : Idl I) {p : Nat → Int} (hp : I p) : ∀ s, I (shK s p)
  | 0 => h.same _ _ (fun n => by simp [Go.Proofs.YthlmgpllapccfaaGreatDoor.shK]) hp
  | s + 1 => by
    refine h.same _ _ (fun n => ?_) (h.shift _ (h.shK hp s))
    unfold Go.Proofs.YthlmgpllapccfaaGreatDoor.shK
    by_cases h0 : n = 0
    · subst h0; simp
    · rw [if_neg h0]
      by_cases h1 : n - 1 < s
      · rw [if_pos h1, if_pos (by omega)]; rfl
      · rw [if_neg h1, if_neg (by omega), show n - 1 - s = n - (s + 1) by omega]; simp
/-- One less a multiple of the other. -/
theorem Idl.less {I : (Nat → Int) → Prop} (h : Idl I) {p q r : Nat → Int} (f : Int) (s : Nat) (hr : Eqv r (fun n => q n - f * Go.Proofs.YthlmgpllapccfaaGreatDoor.shK s p n)) (hp : I p) : I q ↔ I r := by
  have hm := h.shK hp s
  constructor
  · intro hq
    exact h.same _ _ (fun n => by have := hr n; dsimp only at this ⊢; rw [Int.neg_mul]; omega) (h.add _ _ hq (h.smul (-f) _ hm))
  · intro hq
    exact h.same _ _ (fun n => by have := hr n; dsimp only at this ⊢; omega) (h.add _ _ hq (h.smul f _ hm))

def sg (f : Nat → Int) : Nat → Int
  | 0 => 0
  | m + 1 => sg f m + f m
theorem sg_add (f g : Nat → Int) : ∀ m, sg (fun k => f k + g k) m = sg f m + sg g m
  | 0 => rfl
  | m + 1 => by simp only [sg]; rw [sg_add f g m]; omega
theorem sg_mul (c : Int) (f : Nat → Int) : ∀ m, sg (fun k => c * f k) m = c * sg f m
  | 0 => by simp [sg]
  | m + 1 => by simp only [sg]; rw [sg_mul c f m, Int.mul_add]
theorem sg_congr {f g : Nat → Int} : ∀ m, (∀ k, k < m → f k = g k) → sg f m = sg g m
  | 0, _ => rfl
  | m + 1, h => by simp only [sg]; rw [sg_congr m (fun k hk => h k (by omega)), h m (by omega)]
theorem sg_zero {f : Nat → Int} : ∀ m, (∀ k, k < m → f k = 0) → sg f m = 0
  | 0, _ => rfl
  | m + 1, h => by simp only [sg]; rw [sg_zero m (fun k hk => h k (by omega)), h m (by omega)]; rfl
theorem sg_front (f : Nat → Int) : ∀ m, sg f (m + 1) = f 0 + sg (fun k => f (k + 1)) m
  | 0 => by simp [sg]
  | m + 1 => by rw [sg, sg_front f m]; simp only [sg]; omega
theorem sg_mod {f g : Nat → Int} : ∀ m, (∀ k, k < m → (f k - g k) % 7 = 0) → (sg f m - sg g m) % 7 = 0
  | 0, _ => by simp [sg]
  | m + 1, h => by
    have h1 := sg_mod m (fun k hk => h k (by omega))
    have h2 := h m (by omega)
    simp only [sg]; omega

/-- The product. -/
def cnv (c p : Nat → Int) (n : Nat) : Int := sg (fun k => c k * p (n - k)) (n + 1)
/-- p divides q. -/
def Dvd (p q : Nat → Int) : Prop := ∃ (c : Nat → Int) (N : Nat), (∀ k, N ≤ k → c k = 0) ∧ Eqv q (cnv c p)

theorem Dvd.refl (p : Nat → Int) : Dvd p p := by
  refine ⟨fun k => if k = 0 then 1 else 0, 1, fun k hk => by dsimp only; rw [if_neg (by omega)], fun n => ?_⟩
  unfold cnv
  rw [sg_front, sg_zero n (fun k _ => by simp)]
  simp
theorem Dvd.idl (p : Nat → Int) : Idl (Dvd p) where
  same := fun a b h ⟨c, N, h1, h2⟩ => ⟨c, N, h1, h.symm.trans h2⟩
  zero := ⟨fun _ => 0, 0, fun _ _ => rfl, fun n => by unfold cnv; rw [sg_zero _ (fun k _ => by simp)]; rfl⟩
  add := fun a b ⟨c, N, h1, h2⟩ ⟨d, M, k1, k2⟩ => ⟨fun k => c k + d k, N + M, fun k hk => by dsimp only; rw [h1 k (by omega), k1 k (by omega)]; rfl, fun n => by
    have e : cnv (fun k => c k + d k) p n = cnv c p n + cnv d p n := by
      unfold cnv
      rw [← sg_add]
      exact sg_congr _ (fun k _ => by rw [Int.add_mul])
    dsimp only
    rw [e]
    have := h2 n
    have := k2 n
    omega⟩
  smul := fun f a ⟨c, N, h1, h2⟩ => ⟨fun k => f * c k, N, fun k hk => by dsimp only; rw [h1 k hk]; simp, fun n => by
    have e : cnv (fun k => f * c k) p n = f * cnv c p n := by
      unfold cnv
      rw [← sg_mul]
      exact sg_congr _ (fun k _ => by rw [Int.mul_assoc])
    dsimp only
    rw [e, ← Int.mul_sub, Int.mul_emod, h2 n]
    simp⟩
  shift := fun a ⟨c, N, h1, h2⟩ => ⟨fun k => if k = 0 then 0 else c (k - 1), N + 1, fun k hk => by dsimp only; rw [if_neg (by omega)]; exact h1 _ (by omega), fun n => by
    have e : cnv (fun k => if k = 0 then 0 else c (k - 1)) p n = if n = 0 then 0 else cnv c p (n - 1) := by
      unfold cnv
      rw [sg_front]
      by_cases h0 : n = 0
      · subst h0; simp [sg]
      · rw [if_neg h0, show n - 1 + 1 = n by omega]
        have : sg (fun k => (if k + 1 = 0 then 0 else c (k + 1 - 1)) * p (n - (k + 1))) n = sg (fun k => c k * p (n - 1 - k)) n := sg_congr _ (fun k hk => by
          rw [if_neg (by omega), show k + 1 - 1 = k by omega, show n - (k + 1) = n - 1 - k by omega])
        simp only [Nat.add_eq_zero_iff, Nat.succ_ne_self, and_false, if_false, if_true, Int.zero_mul, Int.zero_add] at this ⊢
        exact this
    dsimp only
    rw [e]
    split
    · rfl
    · exact h2 _⟩

/-- What a monic polynomial of the degree d divides, and is of a lesser degree, is 0. -/
theorem Dvd.small {p q : Nat → Int} {d : Nat} (h : Dvd p q) (h1 : p d = 1) (h2 : ∀ n, d < n → p n = 0) (h3 : ∀ n, d ≤ n → q n % 7 = 0) : ∀ n, q n % 7 = 0 := by
  obtain ⟨c, N, hN, hq⟩ := h
  have key : ∀ m k, N ≤ k + m → c k % 7 = 0 := by
    intro m
    induction m with
    | zero => intro k hk; rw [hN k (by omega)]; rfl
    | succ m ih =>
      intro k hk
      have e := hq (k + d)
      have e3 := h3 (k + d) (by omega)
      have s : (cnv c p (k + d) - sg (fun j => if j = k then c k else 0) (k + d + 1)) % 7 = 0 := by
        refine sg_mod _ (fun j hj => ?_)
        by_cases hjk : j = k
        · subst hjk
          rw [if_pos rfl, show j + d - j = d by omega, h1]; simp
        · rw [if_neg hjk]
          by_cases hlt : j < k
          · rw [h2 _ (by omega)]; simp
          · have := ih j (by omega)
            rw [Int.sub_zero, Int.mul_emod, this]; simp
      have t : sg (fun j => if j = k then c k else 0) (k + d + 1) = c k := by
        have : ∀ m, sg (fun j => if j = k then c k else 0) m = if k < m then c k else 0 := by
          intro m
          induction m with
          | zero => simp [sg]
          | succ m ih2 =>
            rw [sg, ih2]
            by_cases h : k < m
            · rw [if_pos h, if_neg (by omega), if_pos (by omega)]; omega
            · rw [if_neg h]
              by_cases h4 : m = k
              · rw [if_pos h4, if_pos (by omega)]; omega
              · rw [if_neg h4, if_neg (by omega)]; rfl
        rw [this, if_pos (by omega)]
      rw [t] at s
      omega
  intro n
  have e := hq n
  have s : (cnv c p n - sg (fun _ => 0) (n + 1)) % 7 = 0 := by
    refine sg_mod _ (fun j _ => ?_)
    have := key N j (by omega)
    rw [Int.sub_zero, Int.mul_emod, this]; simp
  rw [sg_zero _ (fun _ _ => rfl)] at s
  omega
end Go.Proofs.YthlmgpllapccfaaGreatDoor
/- PLAIN: polynomials of a degree below 5, as their numbers: division, the greatest common divisor by rests. -/
namespace Go.Proofs.YthlmgpllapccfaaGreatDoor

def iv (g : Nat → Nat) : Nat → Int := fun n => (g n : Int)
/-- Numbers below 7, none from the fifth on. -/
def Vec (g : Nat → Nat) : Prop := ∀ n, g n < 7 ∧ (5 ≤ n → g n = 0)
/-- f times p, s places up, taken off q: at the first i places. -/
def sb (p q : Nat → Nat) (f s i : Nat) : Nat → Nat := fun j => if s ≤ j ∧ j < s + i then (((q j : Int) - (f : Int) * (p (j - s) : Int)) % 7).toNat else q j
theorem sb_vec {p q : Nat → Nat} (hq : Vec q) (f : Nat) {s i : Nat} (h : s + i ≤ 5) : Vec (sb p q f s i) := by
  intro n
  unfold sb
  split
  · exact ⟨by omega, fun hn => by omega⟩
  · exact hq n
theorem sb_eqv {p : Nat → Nat} (q : Nat → Nat) (f s : Nat) {d : Nat} (hp : ∀ n, d ≤ n → p n = 0) : Eqv (iv (sb p q f s d)) (fun n => iv q n - f * shK s (iv p) n) := by
  intro n
  unfold sb iv shK
  dsimp only
  by_cases h1 : n < s
  · rw [if_neg (by omega), if_pos h1]; simp
  · rw [if_neg h1]
    by_cases h2 : n < s + d
    · rw [if_pos (by omega)]
      generalize (f : Int) * (p (n - s) : Int) = F
      omega
    · rw [if_neg (by omega), hp _ (by omega)]; simp

/-- One more than the degree; 0 of the polynomial 0. -/
def dg (g : Nat → Nat) : Nat := if g 4 ≠ 0 then 5 else if g 3 ≠ 0 then 4 else if g 2 ≠ 0 then 3 else if g 1 ≠ 0 then 2 else if g 0 ≠ 0 then 1 else 0
theorem dg_le (g : Nat → Nat) : dg g ≤ 5 := by unfold dg; (repeat' split) <;> omega
theorem dg_top {g : Nat → Nat} (h : dg g ≠ 0) : g (dg g - 1) ≠ 0 := by
  unfold dg at *
  by_cases h4 : g 4 ≠ 0
  · rw [if_pos h4]; exact h4
  · rw [if_neg h4] at h ⊢
    by_cases h3 : g 3 ≠ 0
    · rw [if_pos h3]; exact h3
    · rw [if_neg h3] at h ⊢
      by_cases h2 : g 2 ≠ 0
      · rw [if_pos h2]; exact h2
      · rw [if_neg h2] at h ⊢
        by_cases h1 : g 1 ≠ 0
        · rw [if_pos h1]; exact h1
        · rw [if_neg h1] at h ⊢
          by_cases h0 : g 0 ≠ 0
          · rw [if_pos h0]; exact h0
          · rw [if_neg h0] at h; exact absurd rfl h
theorem dg_above {g : Nat → Nat} (hg : Vec g) {n : Nat} (h : dg g ≤ n) : g n = 0 := by
  by_cases h5 : 5 ≤ n
  · exact (hg n).2 h5
  · unfold dg at h
    have : n = 0 ∨ n = 1 ∨ n = 2 ∨ n = 3 ∨ n = 4 := by omega
    rcases this with rfl | rfl | rfl | rfl | rfl
    all_goals (repeat' split at h) <;> omega
theorem dg_is {g : Nat → Nat} {x : Nat} (hx : x < 5) (h0 : g x ≠ 0) (h : ∀ y, x < y → y < 5 → g y = 0) : dg g = x + 1 := by
  unfold dg
  have : x = 0 ∨ x = 1 ∨ x = 2 ∨ x = 3 ∨ x = 4 := by omega
  rcases this with rfl | rfl | rfl | rfl | rfl
  · rw [if_neg (by simp [h 4]), if_neg (by simp [h 3]), if_neg (by simp [h 2]), if_neg (by simp [h 1]), if_pos h0]
  · rw [if_neg (by simp [h 4]), if_neg (by simp [h 3]), if_neg (by simp [h 2]), if_pos h0]
  · rw [if_neg (by simp [h 4]), if_neg (by simp [h 3]), if_pos h0]
  · rw [if_neg (by simp [h 4]), if_pos h0]
  · rw [if_pos h0]
theorem dg_zero {g : Nat → Nat} (h : ∀ y, y < 5 → g y = 0) : dg g = 0 := by
  unfold dg; simp [h 0, h 1, h 2, h 3, h 4]
theorem dg_lt {g : Nat → Nat} {n : Nat} (h : ∀ y, n ≤ y → y < 5 → g y = 0) : dg g ≤ n := by
  by_cases h0 : dg g = 0
  · omega
  · have h1 := dg_top h0
    have h2 := dg_le g
    rcases Nat.lt_or_ge (dg g - 1) n with h3 | h3
    · omega
    · exact absurd (h _ h3 (by omega)) h1
theorem dg_idl {I : (Nat → Int) → Prop} (hI : Idl I) {g : Nat → Nat} (hg : Vec g) (h : dg g = 0) : I (iv g) :=
  hI.same _ _ (fun n => by unfold iv; rw [dg_above hg (by omega)]; rfl) hI.zero

/-- The division of q by the monic p of the degree d: k rounds. -/
def dv (p : Nat → Nat) (d : Nat) (q : Nat → Nat) : Nat → Nat → Nat
  | 0 => q
  | k + 1 => sb p (dv p d q k) (dv p d q k (4 - k)) (4 - k - d) (d + 1)
structure Mon (p : Nat → Nat) (d : Nat) : Prop where
  le : d ≤ 4
  vec : Vec p
  one : p d = 1
  above : ∀ n, d < n → p n = 0
theorem dv_any {p : Nat → Nat} {d : Nat} (hp : Mon p d) {q : Nat → Nat} (hq : Vec q) : ∀ k, k ≤ 5 - d → Vec (dv p d q k) ∧ (∀ I, Idl I → I (iv p) → (I (iv q) ↔ I (iv (dv p d q k)))) ∧ ∀ n, 5 - k ≤ n → dv p d q k n = 0
  | 0, _ => ⟨hq, fun _ _ _ => Iff.rfl, fun n hn => (hq n).2 (by omega)⟩
  | k + 1, hk => by
    obtain ⟨h1, h2, h3⟩ := dv_any hp hq k (by omega)
    have hd := hp.le
    refine ⟨sb_vec h1 _ (by omega), fun I hI hip => (h2 I hI hip).trans (hI.less _ _ (sb_eqv _ _ _ (fun n hn => hp.above n (by omega))) hip), fun n hn => ?_⟩
    rw [dv]
    generalize dv p d q k = r at *
    unfold sb
    by_cases hx : n = 4 - k
    · subst hx
      rw [if_pos (by omega), show 4 - k - (4 - k - d) = d by omega, hp.one]
      simp
    · rw [if_neg (by omega)]
      exact h3 n (by omega)
theorem dv_iff {p : Nat → Nat} {d : Nat} (hp : Mon p d) {q : Nat → Nat} (hq : Vec q) : dg (dv p d q (5 - d)) = 0 ↔ Dvd (iv p) (iv q) := by
  obtain ⟨h1, h2, h3⟩ := dv_any hp hq (5 - d) (Nat.le_refl _)
  have hd := hp.le
  rw [h2 _ (Dvd.idl _) (Dvd.refl _)]
  constructor
  · intro h; exact dg_idl (Dvd.idl _) h1 h
  · intro h
    have := h.small (d := d) (by unfold iv; rw [hp.one]; rfl) (fun n hn => by unfold iv; rw [hp.above n hn]; rfl) (fun n hn => by unfold iv; rw [h3 n (by omega)]; rfl)
    exact dg_zero (fun y _ => by have a := this y; have b := (h1 y).1; unfold iv at a; omega)
/-- Of a lesser degree and not 0: not divided. -/
theorem Mon.not {p : Nat → Nat} {d : Nat} (hp : Mon p d) {g : Nat → Nat} (hg : Vec g) (h : Dvd (iv p) (iv g)) (h0 : dg g ≠ 0) : d < dg g := by
  rcases Nat.lt_or_ge d (dg g) with h1 | h1
  · exact h1
  · have := h.small (d := d) (by unfold iv; rw [hp.one]; rfl) (fun n hn => by unfold iv; rw [hp.above n hn]; rfl) (fun n hn => by unfold iv; rw [dg_above hg (by omega)]; rfl)
    have a := this (dg g - 1)
    have b := (hg (dg g - 1)).1
    have c := dg_top h0
    unfold iv at a
    omega
/-- Both monic, of the same degree: the same. -/
theorem Mon.same {p g : Nat → Nat} {d : Nat} (hp : Mon p d) (hg : Mon g d) (h : Dvd (iv p) (iv g)) : p = g := by
  have k := (Dvd.idl (iv p)).add _ _ h ((Dvd.idl (iv p)).smul (-1) _ (Dvd.refl _))
  have := k.small (d := d) (by unfold iv; rw [hp.one]; rfl) (fun n hn => by unfold iv; rw [hp.above n hn]; rfl) (fun n hn => by
    unfold iv
    rcases Nat.lt_or_ge d n with h1 | h1
    · rw [hp.above n h1, hg.above n h1]; rfl
    · rw [show n = d by omega, hp.one, hg.one]; rfl)
  funext n
  have a := this n
  have b := (hp.vec n).1
  have c := (hg.vec n).1
  unfold iv at a
  omega

theorem inv_spec : ∀ t, t < 7 → t ≠ 0 → t * pw7 t 5 % 7 = 1 := by decide
/-- What is left of p, divided by q. -/
def rem (q : Nat → Nat) : Nat → (Nat → Nat) → Nat → Nat
  | 0, p => p
  | m + 1, p => if dg q ≤ dg p then rem q m (sb q p (p (dg p - 1) * pw7 (q (dg q - 1)) 5) (dg p - dg q) (dg q)) else p
theorem rem_step {q p : Nat → Nat} (hq : Vec q) (hp : Vec p) (h0 : dg q ≠ 0) (h : dg q ≤ dg p) : Vec (sb q p (p (dg p - 1) * pw7 (q (dg q - 1)) 5) (dg p - dg q) (dg q)) ∧ dg (sb q p (p (dg p - 1) * pw7 (q (dg q - 1)) 5) (dg p - dg q) (dg q)) < dg p ∧ ∀ I, Idl I → I (iv q) → (I (iv p) ↔ I (iv (sb q p (p (dg p - 1) * pw7 (q (dg q - 1)) 5) (dg p - dg q) (dg q)))) := by
  have hl := dg_le p
  refine ⟨sb_vec hp _ (by omega), ?_, fun I hI hiq => hI.less _ _ (sb_eqv _ _ _ (fun n hn => dg_above hq hn)) hiq⟩
  have : dg (sb q p (p (dg p - 1) * pw7 (q (dg q - 1)) 5) (dg p - dg q) (dg q)) ≤ dg p - 1 := dg_lt (fun y hy hy5 => by
    unfold sb
    by_cases hx : y = dg p - 1
    · subst hx
      rw [if_pos (by omega), show dg p - 1 - (dg p - dg q) = dg q - 1 by omega]
      have h1 := dg_top h0
      have h2 := (hq (dg q - 1)).1
      have h3 := inv_spec _ h2 h1
      generalize q (dg q - 1) = t at *
      generalize p (dg p - 1) = a at *
      generalize pw7 t 5 = i at *
      have e : ((a * i : Nat) : Int) * (t : Int) = (a : Int) * ((t * i : Nat) : Int) := by
        rw [Int.natCast_mul, Int.natCast_mul, Int.mul_assoc, Int.mul_comm (i : Int)]
      rw [e]
      obtain ⟨k, hk⟩ : ∃ k, t * i = 7 * k + 1 := ⟨t * i / 7, by omega⟩
      rw [hk]
      have e2 : (a : Int) - (a : Int) * ((7 * k + 1 : Nat) : Int) = 7 * (-((a : Int) * k)) := by
        rw [Int.natCast_add, Int.natCast_mul, Int.mul_add, ← Int.mul_assoc, Int.mul_comm (a : Int) ((7 : Nat) : Int), Int.mul_assoc]
        generalize (a : Int) * (k : Int) = z
        omega
      rw [e2]
      simp
    · rw [if_neg (by omega)]
      exact dg_above hp (by omega))
  omega
theorem rem_any {q : Nat → Nat} (hq : Vec q) (h0 : dg q ≠ 0) : ∀ (m : Nat) (p : Nat → Nat), Vec p → dg p ≤ m → Vec (rem q m p) ∧ dg (rem q m p) < dg q ∧ ∀ I, Idl I → I (iv q) → (I (iv p) ↔ I (iv (rem q m p)))
  | 0, p, hp, hm => ⟨hp, by rw [rem]; omega, fun _ _ _ => Iff.rfl⟩
  | m + 1, p, hp, hm => by
    by_cases h : dg q ≤ dg p
    · rw [rem, if_pos h]
      obtain ⟨h1, h2, h3⟩ := rem_step hq hp h0 h
      obtain ⟨k1, k2, k3⟩ := rem_any hq h0 m _ h1 (by omega)
      exact ⟨k1, k2, fun I hI hiq => (h3 I hI hiq).trans (k3 I hI hiq)⟩
    · rw [rem, if_neg h]
      exact ⟨hp, by omega, fun _ _ _ => Iff.rfl⟩
/-- The last one that is not 0. -/
def gc : Nat → (Nat → Nat) → (Nat → Nat) → Nat → Nat
  | 0, p, _ => p
  | m + 1, p, q => if dg q = 0 then p else gc m q (rem q 5 p)
theorem gc_any : ∀ (m : Nat) (p q : Nat → Nat), Vec p → Vec q → dg q ≤ m → Vec (gc m p q) ∧ ∀ I, Idl I → ((I (iv p) ∧ I (iv q)) ↔ I (iv (gc m p q)))
  | 0, p, q, hp, hq, hm => ⟨hp, fun I hI => ⟨fun h => h.1, fun h => ⟨h, dg_idl hI hq (by omega)⟩⟩⟩
  | m + 1, p, q, hp, hq, hm => by
    by_cases h : dg q = 0
    · rw [gc, if_pos h]
      exact ⟨hp, fun I hI => ⟨fun h => h.1, fun k => ⟨k, dg_idl hI hq h⟩⟩⟩
    · rw [gc, if_neg h]
      obtain ⟨h1, h2, h3⟩ := rem_any hq h 5 p hp (dg_le p)
      obtain ⟨k1, k2⟩ := gc_any m q _ hq h1 (by omega)
      refine ⟨k1, fun I hI => ?_⟩
      rw [← k2 I hI]
      exact ⟨fun ⟨a, b⟩ => ⟨b, (h3 I hI b).1 a⟩, fun ⟨a, b⟩ => ⟨(h3 I hI a).2 b, a⟩⟩
/-- Made monic. -/
def mon (p : Nat → Nat) : Nat → Nat := if dg p = 0 then p else fun j => if j < dg p then p j * pw7 (p (dg p - 1)) 5 % 7 else p j
theorem mon_any {p : Nat → Nat} (hp : Vec p) : Vec (mon p) ∧ dg (mon p) = dg p ∧ (dg p ≠ 0 → mon p (dg p - 1) = 1) ∧ ∀ I, Idl I → (I (iv p) ↔ I (iv (mon p))) := by
  by_cases h0 : dg p = 0
  · have e : mon p = p := by unfold mon; rw [if_pos h0]
    rw [e]
    exact ⟨hp, rfl, fun h => absurd h0 h, fun _ _ => Iff.rfl⟩
  · have ht := dg_top h0
    have hl := dg_le p
    have h7 := (hp (dg p - 1)).1
    have hs := inv_spec _ h7 ht
    have e : ∀ j, mon p j = if j < dg p then p j * pw7 (p (dg p - 1)) 5 % 7 else p j := fun j => by unfold mon; rw [if_neg h0]
    have h1 : mon p (dg p - 1) = 1 := by rw [e, if_pos (by omega)]; exact hs
    have hv : Vec (mon p) := fun n => by
      rw [e]; split
      · exact ⟨by omega, fun _ => by omega⟩
      · exact hp n
    have ha : ∀ n, dg p ≤ n → mon p n = 0 := fun n hn => by rw [e, if_neg (by omega)]; exact dg_above hp hn
    have hd : dg (mon p) = dg p := by
      have := dg_is (g := mon p) (x := dg p - 1) (by omega) (by omega) (fun y hy _ => ha y (by omega))
      omega
    refine ⟨hv, hd, fun _ => h1, fun I hI => ?_⟩
    generalize p (dg p - 1) = t at *
    have hm : ∀ n, mon p n = p n * pw7 t 5 % 7 := fun n => by
      by_cases h : n < dg p
      · rw [e, if_pos h]
      · rw [ha n (by omega), dg_above hp (by omega)]; simp
    have hpn : ∀ n, p n = t * mon p n % 7 := fun n => by
      rw [hm n, Nat.mul_mod_mod, Nat.mul_comm (p n), ← Nat.mul_assoc, Nat.mul_mod, hs, Nat.one_mul, Nat.mod_mod]
      have := (hp n).1
      omega
    constructor
    · intro h
      refine hI.same _ _ (fun n => ?_) (hI.smul (pw7 t 5) _ h)
      unfold iv
      rw [hm n, Nat.mul_comm]
      have : ((pw7 t 5 : Nat) : Int) * (p n : Int) = ((pw7 t 5 * p n : Nat) : Int) := by rw [Int.natCast_mul]
      rw [this]
      omega
    · intro h
      refine hI.same _ _ (fun n => ?_) (hI.smul (t : Int) _ h)
      have k := hpn n
      unfold iv
      have : ((t : Nat) : Int) * (mon p n : Int) = ((t * mon p n : Nat) : Int) := by rw [Int.natCast_mul]
      rw [this]
      omega
def zv : Nat → Nat := fun _ => 0
theorem zv_vec : Vec zv := fun _ => ⟨by unfold zv; decide, fun _ => rfl⟩
/-- The greatest common divisor of two, and of many. -/
def gcd2 (p q : Nat → Nat) : Nat → Nat := mon (gc 5 p q)
def gall (ls : List (Nat → Nat)) : Nat → Nat := ls.foldl gcd2 zv
theorem gcd2_any {p q : Nat → Nat} (hp : Vec p) (hq : Vec q) : Vec (gcd2 p q) ∧ (dg (gcd2 p q) ≠ 0 → Mon (gcd2 p q) (dg (gcd2 p q) - 1)) ∧ ∀ I, Idl I → ((I (iv p) ∧ I (iv q)) ↔ I (iv (gcd2 p q))) := by
  obtain ⟨h1, h2⟩ := gc_any 5 p q hp hq (dg_le q)
  obtain ⟨k1, k2, k3, k4⟩ := mon_any h1
  unfold gcd2
  refine ⟨k1, fun h => ⟨by have := dg_le (mon (gc 5 p q)); omega, k1, by rw [k2]; exact k3 (by omega), fun n hn => dg_above k1 (by omega)⟩, fun I hI => (h2 I hI).trans (k4 I hI)⟩
theorem foldl_any : ∀ (ls : List (Nat → Nat)) (a : Nat → Nat), Vec a → (dg a ≠ 0 → Mon a (dg a - 1)) → (∀ l ∈ ls, Vec l) → Vec (ls.foldl gcd2 a) ∧ (dg (ls.foldl gcd2 a) ≠ 0 → Mon (ls.foldl gcd2 a) (dg (ls.foldl gcd2 a) - 1)) ∧ ∀ I, Idl I → ((I (iv a) ∧ ∀ l ∈ ls, I (iv l)) ↔ I (iv (ls.foldl gcd2 a)))
  | [], a, h1, h2, _ => ⟨h1, h2, fun I hI => by simp⟩
  | l :: ls, a, h1, h2, h3 => by
    obtain ⟨k1, k2, k3⟩ := gcd2_any h1 (h3 l (by simp))
    obtain ⟨m1, m2, m3⟩ := foldl_any ls _ k1 k2 (fun x hx => h3 x (by simp [hx]))
    refine ⟨m1, m2, fun I hI => ?_⟩
    rw [List.foldl_cons, ← m3 I hI, ← k3 I hI]
    simp [and_assoc]
theorem gall_any (ls : List (Nat → Nat)) (h : ∀ l ∈ ls, Vec l) : Vec (gall ls) ∧ (dg (gall ls) ≠ 0 → Mon (gall ls) (dg (gall ls) - 1)) ∧ ∀ I, Idl I → ((∀ l ∈ ls, I (iv l)) ↔ I (iv (gall ls))) := by
  obtain ⟨h1, h2, h3⟩ := foldl_any ls zv zv_vec (fun h => absurd (dg_zero (fun _ _ => rfl)) h) h
  refine ⟨h1, h2, fun I hI => ?_⟩
  unfold gall
  rw [← h3 I hI]
  exact ⟨fun h => ⟨dg_idl hI zv_vec (dg_zero (fun _ _ => rfl)), h⟩, fun h => h.2⟩
end Go.Proofs.YthlmgpllapccfaaGreatDoor
/- PLAIN: the search among all monic polynomials finds the greatest common divisor; its zeros are the common ones. -/
namespace Go.Proofs.YthlmgpllapccfaaGreatDoor

/-- The n-th monic polynomial of the degree d. -/
def cand (n d : Nat) : Nat → Nat := fun i => if i < d then n / 7 ^ i % 7 else if i = d then 1 else 0
theorem cand_mon (n : Nat) {d : Nat} (hd : d ≤ 4) : Mon (cand n d) d where
  le := hd
  vec := fun i => by
    unfold cand
    split
    · exact ⟨by omega, fun _ => by omega⟩
    · split
      · exact ⟨by omega, fun _ => by omega⟩
      · exact ⟨by omega, fun _ => rfl⟩
  one := by unfold cand; simp
  above := fun i hi => by unfold cand; rw [if_neg (by omega), if_neg (by omega)]
theorem Mon.cand {g : Nat → Nat} {d : Nat} (h : Mon g d) : ∃ n, n < 7 ^ d ∧ Go.Proofs.YthlmgpllapccfaaGreatDoor.cand n d = g := by
  have h0 := (h.vec 0).1
  have h1 := (h.vec 1).1
  have h2 := (h.vec 2).1
  have h3 := (h.vec 3).1
  have key : ∀ n, (∀ i, i < d → n / 7 ^ i % 7 = g i) → Go.Proofs.YthlmgpllapccfaaGreatDoor.cand n d = g := by
    intro n hn
    funext i
    unfold Go.Proofs.YthlmgpllapccfaaGreatDoor.cand
    split
    · exact hn i ‹_›
    · split
      · rw [‹i = d›, h.one]
      · exact (h.above i (by omega)).symm
  have hd := h.le
  have : d = 0 ∨ d = 1 ∨ d = 2 ∨ d = 3 ∨ d = 4 := by omega
  rcases this with rfl | rfl | rfl | rfl | rfl
  · exact ⟨0, by decide, key 0 (fun i hi => by omega)⟩
  · refine ⟨g 0, by omega, key _ (fun i hi => ?_)⟩
    rw [show i = 0 by omega]; simp; omega
  · refine ⟨g 0 + 7 * g 1, by omega, key _ (fun i hi => ?_)⟩
    rcases (by omega : i = 0 ∨ i = 1) with rfl | rfl <;> simp <;> omega
  · refine ⟨g 0 + 7 * g 1 + 49 * g 2, by omega, key _ (fun i hi => ?_)⟩
    rcases (by omega : i = 0 ∨ i = 1 ∨ i = 2) with rfl | rfl | rfl <;> simp <;> omega
  · refine ⟨g 0 + 7 * g 1 + 49 * g 2 + 343 * g 3, by omega, key _ (fun i hi => ?_)⟩
    rcases (by omega : i = 0 ∨ i = 1 ∨ i = 2 ∨ i = 3) with rfl | rfl | rfl | rfl <;> simp <;> omega

/-- Of nothing but 0. -/
theorem zero_idl : Idl (fun q => ∀ n, q n % 7 = 0) where
  same := fun p q h hp n => by have := h n; have := hp n; omega
  zero := fun _ => rfl
  add := fun p q hp hq n => by have := hp n; have := hq n; dsimp only; omega
  smul := fun c p hp n => by dsimp only; rw [Int.mul_emod, hp n]; simp
  shift := fun p hp n => by dsimp only; split; rfl; exact hp _
theorem zero_iff {g : Nat → Nat} (hg : Vec g) : (∀ n, iv g n % 7 = 0) ↔ dg g = 0 := by
  constructor
  · intro h; exact dg_zero (fun y _ => by have a := h y; have b := (hg y).1; unfold iv at a; omega)
  · intro h n; unfold iv; rw [dg_above hg (by omega)]; rfl
theorem gall_zero_iff {ls : List (Nat → Nat)} (h : ∀ l ∈ ls, Vec l) : dg (gall ls) = 0 ↔ ∀ l ∈ ls, dg l = 0 := by
  obtain ⟨h1, _, h3⟩ := gall_any ls h
  rw [← zero_iff h1, ← h3 _ zero_idl]
  exact ⟨fun k l hl => (zero_iff (h l hl)).1 (k l hl), fun k l hl => (zero_iff (h l hl)).2 (k l hl)⟩
theorem gall_zero {ls : List (Nat → Nat)} (h : ∀ l ∈ ls, Vec l) (hz : ∀ l ∈ ls, dg l = 0) : gall ls = zv := by
  funext n
  exact dg_above (gall_any ls h).1 (by rw [(gall_zero_iff h).2 hz]; omega)

/-- p, monic of the degree d, divides all. -/
def allDv (p : Nat → Nat) (d : Nat) (ls : List (Nat → Nat)) : Prop := ∀ l ∈ ls, dg (dv p d l (5 - d)) = 0
theorem allDv_iff {p : Nat → Nat} {d : Nat} (hp : Mon p d) {ls : List (Nat → Nat)} (h : ∀ l ∈ ls, Vec l) : allDv p d ls ↔ Dvd (iv p) (iv (gall ls)) := by
  rw [← (gall_any ls h).2.2 _ (Dvd.idl _)]
  exact ⟨fun k l hl => (dv_iff hp (h l hl)).1 (k l hl), fun k l hl => (dv_iff hp (h l hl)).2 (k l hl)⟩
/-- No candidate of a greater degree divides all. -/
def noneDv (d : Nat) (ls : List (Nat → Nat)) : Prop := ∀ e, d < e → e ≤ 4 → ∀ n, n < 7 ^ e → ¬ allDv (cand n e) e ls
theorem none_top {ls : List (Nat → Nat)} (h : ∀ l ∈ ls, Vec l) (hz : dg (gall ls) ≠ 0) {d : Nat} (hn : noneDv d ls) : dg (gall ls) ≤ d + 1 := by
  obtain ⟨h1, h2, h3⟩ := gall_any ls h
  have hm := h2 hz
  rcases Nat.lt_or_ge (d + 1) (dg (gall ls)) with k | k
  · obtain ⟨n, k1, k2⟩ := hm.cand
    refine absurd ?_ (hn (dg (gall ls) - 1) (by omega) hm.le n k1)
    rw [k2, allDv_iff hm h]
    exact Dvd.refl _
  · exact k
theorem search_found {ls : List (Nat → Nat)} (h : ∀ l ∈ ls, Vec l) (hz : dg (gall ls) ≠ 0) {n d : Nat} (hd : d ≤ 4) (ha : allDv (cand n d) d ls) (hn : noneDv d ls) : cand n d = gall ls := by
  obtain ⟨h1, h2, h3⟩ := gall_any ls h
  have hm := h2 hz
  have hc := cand_mon n hd
  rw [allDv_iff hc h] at ha
  have k1 := hc.not h1 ha hz
  have k2 := none_top h hz hn
  have e : dg (gall ls) - 1 = d := by omega
  rw [e] at hm
  exact hc.same hm ha
theorem search_none {ls : List (Nat → Nat)} (h : ∀ l ∈ ls, Vec l) (hz : dg (gall ls) ≠ 0) (hn : noneDv 0 ls) : cand 0 0 = gall ls := by
  obtain ⟨h1, h2, h3⟩ := gall_any ls h
  have hm := h2 hz
  have k2 := none_top h hz hn
  have e : dg (gall ls) - 1 = 0 := by omega
  rw [e] at hm
  obtain ⟨n, k3, k4⟩ := hm.cand
  have : n = 0 := by omega
  rw [← k4, this]

/-- What it comes to at x, N numbers. -/
def ev (q : Nat → Int) (x N : Nat) : Int := sg (fun n => q n * ((x ^ n : Nat) : Int)) N
theorem ev_more {q : Nat → Int} {x N : Nat} (h : ∀ n, N ≤ n → q n % 7 = 0) : ∀ m, (ev q x (N + m) - ev q x N) % 7 = 0
  | 0 => by simp
  | m + 1 => by
    have ih := ev_more h m (x := x)
    unfold ev at *
    rw [← Nat.add_assoc, sg]
    have : (q (N + m) * ((x ^ (N + m) : Nat) : Int)) % 7 = 0 := by rw [Int.mul_emod, h (N + m) (by omega)]; simp
    omega
theorem ev_idl (x : Nat) : Idl (fun q => ∃ N, (∀ n, N ≤ n → q n % 7 = 0) ∧ ev q x N % 7 = 0) where
  same := fun p q h ⟨N, h1, h2⟩ => ⟨N, fun n hn => by have := h n; have := h1 n hn; omega, by
    have : (ev p x N - ev q x N) % 7 = 0 := sg_mod _ (fun k _ => by rw [← Int.sub_mul, Int.mul_emod, h k]; simp)
    omega⟩
  zero := ⟨0, fun _ _ => rfl, rfl⟩
  add := fun p q ⟨N, h1, h2⟩ ⟨M, k1, k2⟩ => ⟨N + M, fun n hn => by have := h1 n (by omega); have := k1 n (by omega); dsimp only; omega, by
    have a := ev_more (x := x) h1 M
    have b := ev_more (x := x) k1 N
    rw [Nat.add_comm M N] at b
    have e : ev (fun n => p n + q n) x (N + M) = ev p x (N + M) + ev q x (N + M) := by
      unfold ev
      rw [← sg_add]
      exact sg_congr _ (fun k _ => by rw [Int.add_mul])
    rw [e]
    omega⟩
  smul := fun c p ⟨N, h1, h2⟩ => ⟨N, fun n hn => by dsimp only; rw [Int.mul_emod, h1 n hn]; simp, by
    have e : ev (fun n => c * p n) x N = c * ev p x N := by
      unfold ev
      rw [← sg_mul]
      exact sg_congr _ (fun k _ => by rw [Int.mul_assoc])
    rw [e, Int.mul_emod, h2]; simp⟩
  shift := fun p ⟨N, h1, h2⟩ => ⟨N + 1, fun n hn => by dsimp only; rw [if_neg (by omega)]; exact h1 _ (by omega), by
    have e : ev (fun n => if n = 0 then 0 else p (n - 1)) x (N + 1) = (x : Int) * ev p x N := by
      unfold ev
      rw [sg_front, ← sg_mul]
      simp only [if_true, Int.zero_mul, Int.zero_add]
      refine sg_congr _ (fun k _ => ?_)
      rw [if_neg (by omega), show k + 1 - 1 = k by omega, Nat.pow_succ, Int.natCast_mul, ← Int.mul_assoc, Int.mul_comm]
    rw [e, Int.mul_emod, h2]; simp⟩
theorem ev_sumI (g : Nat → Nat) (x : Nat) : ∀ N, ev (iv g) x N = (sumI g x N : Int)
  | 0 => rfl
  | N + 1 => by
    have := ev_sumI g x N
    unfold ev at *
    rw [sg, this, sumI, Int.natCast_add, Int.natCast_mul]
    rfl
theorem ev_iff {g : Nat → Nat} (hg : Vec g) (x : Nat) : (∃ N, (∀ n, N ≤ n → iv g n % 7 = 0) ∧ ev (iv g) x N % 7 = 0) ↔ pows g x 5 = 0 := by
  rw [pows_sum]
  have h5 : ∀ n, 5 ≤ n → iv g n % 7 = 0 := fun n hn => by unfold iv; rw [(hg n).2 hn]; rfl
  have e := ev_sumI g x 5
  constructor
  · rintro ⟨N, h1, h2⟩
    have a := ev_more (x := x) h1 5
    have b := ev_more (x := x) h5 N
    rw [Nat.add_comm] at b
    omega
  · intro h
    exact ⟨5, h5, by omega⟩
/-- The zeros of the greatest common divisor are the common ones. -/
theorem gall_roots {ls : List (Nat → Nat)} (h : ∀ l ∈ ls, Vec l) (x : Nat) : (∀ l ∈ ls, pows l x 5 = 0) ↔ pows (gall ls) x 5 = 0 := by
  obtain ⟨h1, _, h3⟩ := gall_any ls h
  rw [← ev_iff h1, ← h3 _ (ev_idl x)]
  exact ⟨fun k l hl => (ev_iff (h l hl) x).2 (k l hl), fun k l hl => (ev_iff (h l hl) x).1 (k l hl)⟩
end Go.Proofs.YthlmgpllapccfaaGreatDoor
/- PLAIN: the texts of answers: values listed, segments, systems. -/
namespace Go.Proofs.YthlmgpllapccfaaGreatDoor

/-- The values that are in, a space between each two. -/
def lsd (b : Nat → Bool) : Nat → List UInt8
  | 0 => []
  | v + 1 => if b v = true then (if lsd b v = [] then [] else lsd b v ++ [32]) ++ [dgt v] else lsd b v
def vls (b : Nat → Bool) : Nat → List Nat
  | 0 => []
  | v + 1 => if b v = true then vls b v ++ [v] else vls b v
def dls (l : List Nat) : List (List UInt8) := l.map fun n => [dgt n]
theorem dls_ne (l : List Nat) : ∀ t ∈ dls l, t ≠ [] := fun t ht => by
  simp only [dls, List.mem_map] at ht
  obtain ⟨n, _, rfl⟩ := ht
  simp
theorem lsd_join (b : Nat → Bool) : ∀ v, lsd b v = Lib.join (dls (vls b v)) [32]
  | 0 => rfl
  | v + 1 => by
    have ih := lsd_join b v
    rw [lsd, vls]
    by_cases hb : b v = true
    · rw [if_pos hb, if_pos hb]
      by_cases h0 : vls b v = []
      · rw [ih, h0]; rfl
      · have h1 : dls (vls b v) ≠ [] := by simpa [dls] using h0
        have h2 : lsd b v ≠ [] := by rw [ih, Ne, join_ne (dls_ne _)]; exact h1
        rw [if_neg h2, ih]
        have e : dls (vls b v ++ [v]) = dls (vls b v) ++ [[dgt v]] := by simp [dls]
        rw [e, join_snoc _ _ _ h1]
    · rw [if_neg hb, if_neg hb, ih]
theorem lsd_len (b : Nat → Bool) : ∀ v, (lsd b v).length ≤ 2 * v
  | 0 => Nat.le_refl _
  | v + 1 => by
    have := lsd_len b v
    rw [lsd]
    split
    · split <;> simp <;> omega
    · omega
theorem vls_len (b : Nat → Bool) : ∀ v, (vls b v).length ≤ v
  | 0 => Nat.le_refl _
  | v + 1 => by
    have := vls_len b v
    rw [vls]
    split
    · simp; omega
    · omega
theorem vls_lt (b : Nat → Bool) : ∀ v, ∀ n ∈ vls b v, n < v
  | 0 => by simp [vls]
  | v + 1 => by
    intro n hn
    rw [vls] at hn
    split at hn
    · rw [List.mem_append] at hn
      rcases hn with h | h
      · have := vls_lt b v n h; omega
      · simp at h; omega
    · have := vls_lt b v n hn; omega
theorem lsd_nil (b : Nat → Bool) (v : Nat) : lsd b v = [] ↔ vls b v = [] := by
  rw [lsd_join, join_ne (dls_ne _)]
  simp [dls]
theorem lsd_congr {b c : Nat → Bool} : ∀ v, (∀ u, u < v → b u = c u) → lsd b v = lsd c v
  | 0, _ => rfl
  | v + 1, h => by rw [lsd, lsd, lsd_congr v (fun u hu => h u (by omega)), h v (by omega)]
theorem vls_congr {b c : Nat → Bool} : ∀ v, (∀ u, u < v → b u = c u) → vls b v = vls c v
  | 0, _ => rfl
  | v + 1, h => by rw [vls, vls, vls_congr v (fun u hu => h u (by omega)), h v (by omega)]

/-- One segment: of (values of u, the degree and 1 more, 0: all) those with the d-th label. -/
def inSeg (of : Nat → Nat) (d : Nat) : Nat → Bool := fun u => decide (of u = if d = 5 then 0 else d + 1)
def lab (d : Nat) : List UInt8 := if d = 5 then [97, 108, 108] else [dgt d]
def segx (of : Nat → Nat) (d : Nat) : List UInt8 := lab d ++ [58, 32] ++ lsd (inSeg of d) 7
def spl (of : Nat → Nat) : Nat → List UInt8
  | 0 => []
  | d + 1 => if lsd (inSeg of d) 7 = [] then spl of d else (if spl of d = [] then [] else spl of d ++ [59, 32]) ++ segx of d
def sgs (of : Nat → Nat) : Nat → List (List UInt8)
  | 0 => []
  | d + 1 => if lsd (inSeg of d) 7 = [] then sgs of d else sgs of d ++ [segx of d]
theorem sgs_ne (of : Nat → Nat) : ∀ d, ∀ t ∈ sgs of d, t ≠ []
  | 0 => by simp [sgs]
  | d + 1 => by
    intro t ht
    rw [sgs] at ht
    split at ht
    · exact sgs_ne of d t ht
    · rw [List.mem_append] at ht
      rcases ht with h | h
      · exact sgs_ne of d t h
      · simp only [List.mem_singleton] at h
        subst h
        simp [segx]
theorem spl_join (of : Nat → Nat) : ∀ d, spl of d = Lib.join (sgs of d) [59, 32]
  | 0 => rfl
  | d + 1 => by
    have ih := spl_join of d
    rw [spl, sgs]
    split
    · exact ih
    · by_cases h0 : sgs of d = []
      · rw [ih, h0]; simp [Lib.join]
      · have h2 : spl of d ≠ [] := by rw [ih, Ne, join_ne (sgs_ne of d)]; exact h0
        rw [if_neg h2, ih, join_snoc _ _ _ h0]
theorem segx_len (of : Nat → Nat) (d : Nat) : (segx of d).length ≤ 19 := by
  have := lsd_len (inSeg of d) 7
  have h : (lab d).length ≤ 3 := by unfold lab; split <;> simp
  simp only [segx, List.length_append, List.length_cons, List.length_nil]
  omega
theorem spl_len (of : Nat → Nat) : ∀ d, (spl of d).length ≤ 21 * d
  | 0 => Nat.le_refl _
  | d + 1 => by
    have := spl_len of d
    have := segx_len of d
    rw [spl]
    split
    · omega
    · split <;> simp only [List.length_append, List.length_cons, List.length_nil] <;> omega
theorem sgs_len (of : Nat → Nat) : ∀ d, (sgs of d).length ≤ d
  | 0 => Nat.le_refl _
  | d + 1 => by
    have := sgs_len of d
    rw [sgs]
    split
    · omega
    · simp; omega

/-- A system's text. -/
def prn (ps : List (List Nat)) : Nat → List UInt8
  | 0 => []
  | i + 1 => (if i = 0 then [] else prn ps i ++ [44, 32]) ++ txt (ps.getD i [])
theorem prn_join (ps : List (List Nat)) : ∀ i, i ≤ ps.length → prn ps i = Lib.join ((ps.take i).map txt) [44, 32]
  | 0, _ => rfl
  | i + 1, h => by
    have ih := prn_join ps i (by omega)
    have e : ps.take (i + 1) = ps.take i ++ [ps.getD i []] := by
      rw [List.take_succ_eq_append_getElem (by omega)]
      congr 2
      rw [List.getD_eq_getElem?_getD, List.getElem?_eq_getElem (by omega)]; rfl
    rw [prn, e, List.map_append]
    by_cases h0 : i = 0
    · subst h0; simp [Lib.join]
    · rw [if_neg h0, ih]
      have h1 : (ps.take i).map txt ≠ [] := by
        intro q
        have := congrArg List.length q
        rw [List.length_map, List.length_take, List.length_nil] at this
        omega
      rw [show ([ps.getD i []] : List (List Nat)).map txt = [txt (ps.getD i [])] from rfl, join_snoc _ _ _ h1]
theorem txt_len (p : List Nat) : (txt p).length ≤ 6 * 35 := by
  unfold txt
  split
  · simp
  · exact wrt_len p 35
theorem prn_len (ps : List (List Nat)) : ∀ i, (prn ps i).length ≤ 212 * i
  | 0 => Nat.le_refl _
  | i + 1 => by
    have := prn_len ps i
    have := txt_len (ps.getD i [])
    rw [prn]
    split <;> simp only [List.length_append, List.length_cons, List.length_nil] <;> omega
end Go.Proofs.YthlmgpllapccfaaGreatDoor
/- THE DOCUMENT's TEXT OF A POLYNOMIAL: letter. -/
namespace Go.Proofs.YthlmgpllapccfaaGreatDoor
open Go.RowKit

theorem conv_at (n : Nat) (hn : n < 10) (g : Nat) (w : World) (h : w.cell? ⟨g, 0, none⟩ = some (.int .u8 (48 + (n : Int)))) :
    (convert 73 9 (.slice (some ⟨g, 0, none⟩) 1 1)).run Tryz.prog w = .ok (.string (bs [dgt n])) w := by
  refine run_convert_bytes_back w 73 9 5 ⟨g, 0, none⟩ 1 [dgt n] Tryz.underlying73 Tryz.underlying5 Tryz.underlying9 ?_
  intro j hj
  have : j = 0 := by simpa using hj
  subst this
  show w.cell? ⟨g, 0, none⟩ = some (.int .u8 ((dgt n).toNat : Int))
  rw [dgt_int hn]; exact h
theorem conv_new (n : Nat) (hn : n < 10) (w : World) :
    (convert 73 9 (.slice (some ⟨w.heap.size, 0, none⟩) 1 1)).run Tryz.prog (w.alloc (.cells #[.int .u8 (48 + (n : Int))] 5)) = .ok (.string (bs [dgt n])) (w.alloc (.cells #[.int .u8 (48 + (n : Int))] 5)) :=
  conv_at n hn w.heap.size _ (Blk.cell (Blk.new w _ _) 0)

set_option maxRecDepth 100000 in
theorem letter_any (c : UInt8) (S : ByteArray) (n : Nat) (N : Int) (w : World) (hN : N = n) (hS : S = bs [c]) (hn : n ≤ 6) :
    Calls Tryz.prog 83 #[.string S, .int .i64 N] w fun e w' => e = .returned (.string (bs (ptx c n))) ∧ Below w.heap.size w w' := by
  subst hN hS
  unfold ptx
  by_cases h0 : n = 0
  · subst h0
    go_enter Tryz.func83, Tryz.ntmps83
    go_wp2
    go_ret
    exact ⟨rfl, Below.refl _ _⟩
  · rw [if_neg h0]
    by_cases h1 : n = 1
    · subst h1
      go_enter Tryz.func83, Tryz.ntmps83
      go_wp2
      go_ret
      exact ⟨rfl, Below.refl _ _⟩
    · rw [if_neg h1]
      have q0 : ((n : Int) == 0) = false := by rw [beq_eq_false_iff_ne]; omega
      have q1 : ((n : Int) == 1) = false := by rw [beq_eq_false_iff_ne]; omega
      go_enter Tryz.func83, Tryz.ntmps83
      have hcv := fun (w' : World) => conv_new n (by omega) w'
      go_wp2
      go_ret
      exact ⟨by rw [bs_append]; rfl, by go_grown⟩
end Go.Proofs.YthlmgpllapccfaaGreatDoor
/- TWO POLYNOMIALS COMPARED: '==' on arrays of arrays. -/
namespace Go.Proofs.YthlmgpllapccfaaGreatDoor
open Go.RowKit

theorem eqItems_all {P : Program} (w : World) (d : Nat) (e : TypeId) (c : Nat) (xs ys : Array Value) (g : Nat → Bool) : ∀ is : List Nat,
    (∀ i ∈ is, ∃ a b, (part e xs (i * c)).run P w = .ok a w ∧ (part e ys (i * c)).run P w = .ok b w ∧ (Op.equalIn d e a b).run P w = .ok (g i) w) →
    (Op.eqItems d e c xs ys is).run P w = .ok (is.all g) w
  | [], _ => by simp [Op.eqItems]
  | i :: is, h => by
    obtain ⟨a, b, h1, h2, h3⟩ := h i (by simp)
    have ih := eqItems_all w d e c xs ys g is (fun j hj => h j (by simp [hj]))
    simp only [Op.eqItems, Sem.run_bind, h1, h2, h3, Result.andThen_ok]
    cases hg : g i
    · simp [hg]
    · simp [hg, ih]
theorem info_some {P : Program} {t : TypeId} (h : (P.info? t).isSome = true) : ∃ i, P.info? t = some i := by
  cases q : P.info? t with
  | none => rw [q] at h; cases h
  | some i => exact ⟨i, rfl⟩
theorem part_row (xs : Array Value) (off : Nat) (w : World) : (part 50 xs off).run Tryz.prog w = .ok (.agg (xs.extract off (off + 7))) w := by
  simp [part, isAgg, run_underlying Tryz.underlying50]
theorem row_eq (d : Nat) (xs ys : Array Value) (f g : Nat → Int) (w : World) (hx : ∀ j, j < 7 → xs[j]? = some (.int .i64 (f j))) (hy : ∀ j, j < 7 → ys[j]? = some (.int .i64 (g j))) :
    (Op.equalIn (d + 1 + 1) 50 (.agg xs) (.agg ys)).run Tryz.prog w = .ok ((List.range 7).all fun j => f j == g j) w := by
  obtain ⟨i, hi⟩ := info_some (P := Tryz.prog) (t := 3) (by kernel_rfl)
  have hc : Tryz.prog.cellsOf 3 = 1 := by kernel_rfl
  have hk : Tryz.prog.plainKey 3 = true := by kernel_rfl
  rw [run_equalIn_array w (d + 1) xs ys Tryz.underlying50 hi, hc]
  refine eqItems_all w (d + 1) 3 1 xs ys _ _ ?_
  intro j hj
  rw [List.mem_range] at hj
  refine ⟨_, _, run_part_plain w hk (by rw [Nat.mul_one]; exact hx j hj), run_part_plain w hk (by rw [Nat.mul_one]; exact hy j hj), ?_⟩
  exact run_equalIn_int w d 3 .i64 .i64 _ _ Tryz.underlying3
theorem ext_get (xs : Array Value) (i j : Nat) (hs : xs.size = 35) (hi : i < 5) (hj : j < 7) : (xs.extract (i * 7) (i * 7 + 7))[j]? = xs[i * 7 + j]? := by
  rw [Array.getElem?_extract]
  rw [if_pos (by omega)]
/-- Compared cell by cell. -/
theorem poly_eq (d : Nat) (p q : List Nat) (w : World) (hp : Good p) (hq : Good q) :
    (Op.equalIn (d + 1 + 1 + 1) 76 (.agg (pv p)) (.agg (pv q))).run Tryz.prog w = .ok (decide (p = q)) w := by
  obtain ⟨i, hi⟩ := info_some (P := Tryz.prog) (t := 50) (by kernel_rfl)
  have hc : Tryz.prog.cellsOf 50 = 7 := by kernel_rfl
  rw [run_equalIn_array w (d + 1 + 1) (pv p) (pv q) Tryz.underlying76 hi, hc]
  have key := eqItems_all (P := Tryz.prog) w (d + 1 + 1) 50 7 (pv p) (pv q) (fun i => (List.range 7).all fun j => (p.getD (i * 7 + j) 0 : Int) == (q.getD (i * 7 + j) 0 : Int)) (List.range 5) ?_
  · refine key.trans (congrArg (fun b => Result.ok b w) ?_)
    rw [Bool.eq_iff_iff]
    simp only [List.all_eq_true, List.mem_range, beq_iff_eq, decide_eq_true_eq]
    constructor
    · intro h
      apply List.ext_getElem
      · rw [hp.1, hq.1]
      · intro n h1 h2
        have h3 := h (n / 7) (by rw [hp.1] at h1; omega) (n % 7) (by omega)
        rw [show n / 7 * 7 + n % 7 = n by omega, List.getD_eq_getElem?_getD, List.getD_eq_getElem?_getD, List.getElem?_eq_getElem h1, List.getElem?_eq_getElem h2] at h3
        simp only [Option.getD_some] at h3
        exact Int.ofNat.inj h3
    · intro h i hi j hj; rw [h]
  · intro i hi'
    rw [List.mem_range] at hi'
    refine ⟨_, _, part_row _ _ w, part_row _ _ w, row_eq d _ _ _ _ w ?_ ?_⟩
    · intro j hj
      rw [ext_get _ i j (by rw [pv_size, hp.1]) hi' hj]
      exact pv_get (by rw [hp.1]; omega)
    · intro j hj
      rw [ext_get _ i j (by rw [pv_size, hq.1]) hi' hj]
      exact pv_get (by rw [hq.1]; omega)
theorem poly_eq_zero (p : List Nat) (w : World) (hp : Good p) :
    (Op.equalIn 10000 76 (.agg (pv p)) (.agg #[.int .i64 0, .int .i64 0, .int .i64 0, .int .i64 0, .int .i64 0, .int .i64 0, .int .i64 0, .int .i64 0, .int .i64 0, .int .i64 0, .int .i64 0, .int .i64 0, .int .i64 0, .int .i64 0, .int .i64 0, .int .i64 0, .int .i64 0, .int .i64 0, .int .i64 0, .int .i64 0, .int .i64 0, .int .i64 0, .int .i64 0, .int .i64 0, .int .i64 0, .int .i64 0, .int .i64 0, .int .i64 0, .int .i64 0, .int .i64 0, .int .i64 0, .int .i64 0, .int .i64 0, .int .i64 0, .int .i64 0])).run Tryz.prog w = .ok (decide (p = zeros)) w := by
  have e := Array.ext' lit_zeros
  rw [e]
  exact poly_eq 9997 p zeros w hp zeros_good
end Go.Proofs.YthlmgpllapccfaaGreatDoor
/- THE DOCUMENT's TEXT OF A POLYNOMIAL: write. -/
namespace Go.Proofs.YthlmgpllapccfaaGreatDoor
open Go.RowKit

theorem add_to (a b c : List UInt8) (S : ByteArray) (hS : S = bs b) (hc : a ++ b = c) (ha : a.length ≤ 1000) (hb : b.length ≤ 1000) (w : World) : (Op.stringOp .add (bs a) S).run Tryz.prog w = .ok (.string (bs c)) w := by
  subst hS hc
  rw [run_string_add_sum w (bs a) (bs b) (by rw [bs_size, bs_size]; omega), bs_append]
theorem wrt_step (p : List Nat) (k : Nat) (h : ¬ p.getD (34 - k) 0 = 0) : wrt p (k + 1) = (if wrt p k = [] then [] else wrt p k ++ [43]) ++ tmx (p.getD (34 - k) 0) ((34 - k) % 7) ((34 - k) / 7) := by rw [wrt, if_neg h]
theorem wrt_skip (p : List Nat) (k : Nat) (h : p.getD (34 - k) 0 = 0) : wrt p (k + 1) = wrt p k := by rw [wrt, if_pos h]
theorem tmx_full {v j i : Nat} (h : v > 1 ∨ i + j = 0) : tmx v j i = dgt v :: (ptx 117 j ++ ptx 120 i) := by
  unfold tmx pws; rw [if_neg (by omega)]
theorem tmx_bare {v j i : Nat} (hv : v ≠ 0) (h : ¬ (v > 1 ∨ i + j = 0)) : tmx v j i = ptx 117 j ++ ptx 120 i := by
  unfold tmx pws; rw [if_pos (by omega)]

set_option maxRecDepth 100000 in
set_option maxHeartbeats 4000000 in
theorem write_any (p : List Nat) (w : World) (hp : Good p) :
    Calls Tryz.prog 55 #[.agg (pv p)] w fun e w' => e = .returned (.string (bs (txt p))) ∧ Below w.heap.size w w' := by
  go_enter Tryz.func55, Tryz.ntmps55
  go_wp2
  refine wp_forget (fun W => Blk W w.heap.size (pv p) 116 ∧ Below w.heap.size w W) ⟨Blk.new w _ _, by go_grown⟩ ?_
  rintro W ⟨b1, hbW⟩
  have B1 := hidT b1
  have BW := hidT hbW
  clear b1 hbW
  go_loopg [3, 4] 5 (fun gm v3 v4 wr => ∃ a : Nat, gm = 5 - a ∧ a ≤ 5 ∧ v4 = .int .i64 (((5 - a : Nat) : Int) - 1) ∧ v3 = .string (bs (wrt p (a * 7))) ∧ Hid (Below W.heap.size W wr))
  case atStart => exact ⟨0, rfl, by omega, rfl, rfl, Below.refl _ _⟩
  case round =>
    obtain ⟨a, hgm, ha, rfl, rfl, HD⟩ := hrel
    by_cases h5 : a < 5
    · obtain ⟨i, hi5⟩ : ∃ i : Nat, 5 - a = i + 1 := ⟨4 - a, by omega⟩
      have hi4 : i < 5 := by omega
      have e : (((5 - a : Nat) : Int) - 1) = (i : Int) := by omega
      rw [e]
      clear e
      have i0' : (0 : Int) ≤ (i : Int) := by omega
      have i1' : (i : Int) < 5 := by omega
      have HI := hidT hi5
      clear hi5
      go_wp2
      go_loopg [3, 5] 7 (fun gm v3 v5 wr => ∃ m : Nat, gm = 7 - m ∧ m ≤ 7 ∧ v5 = .int .i64 (((7 - m : Nat) : Int) - 1) ∧ v3 = .string (bs (wrt p (a * 7 + m))) ∧ Hid (Below W.heap.size W wr))
      case atStart => exact ⟨0, rfl, by omega, rfl, rfl, HD⟩
      case round =>
        obtain ⟨m, hgm2, hm, rfl, rfl, HE⟩ := hrel
        clear HD
        by_cases h7 : m < 7
        · obtain ⟨j, hj7⟩ : ∃ j : Nat, 7 - m = j + 1 := ⟨6 - m, by omega⟩
          have hj6 : j < 7 := by omega
          have e : (((7 - m : Nat) : Int) - 1) = (j : Int) := by omega
          rw [e]
          clear e
          have j0 : (0 : Int) ≤ (j : Int) := by omega
          have j1 : (j : Int) < 7 := by omega
          have HM1 : Hid ((((7 - (m + 1) : Nat) : Int) - 1) = (j : Int) - 1) := by unfold Hid; omega
          have hidx : 34 - (a * 7 + m) = i * 7 + j := by have := HI.out; omega
          have HX : Hid ((34 - (a * 7 + m)) % 7 = j ∧ (34 - (a * 7 + m)) / 7 = i) := by unfold Hid; omega
          have HSK := hidT (wrt_skip p (a * 7 + m))
          have HST := hidT (wrt_step p (a * 7 + m))
          have HL : Hid ((wrt p (a * 7 + m)).length ≤ 210) := by unfold Hid; have := wrt_len p (a * 7 + m); omega
          rw [HX.out.1, HX.out.2, hidx] at HST
          rw [hidx] at HSK
          rw [show a * 7 + m + 1 = a * 7 + (m + 1) by omega] at HST HSK
          have hq : i * 7 + j < p.length := by rw [hp.1]; omega
          have hcell := pv_get hq
          have hv7 := hp.2 (i * 7 + j)
          have BR : Hid (Blk wr w.heap.size (pv p) 116) := Blk.fr B1.out (Fr.of_below (bs := []) HE.out) (by simp)
          have hc : wr.cell? ⟨w.heap.size, i * 7 + j, none⟩ = some (.int .i64 (p.getD (i * 7 + j) 0)) := by rw [BR.out.cell]; exact hcell
          clear hcell hidx hj7
          generalize p.getD (i * 7 + j) 0 = v at *
          by_cases hv : v = 0
          · subst hv
            have HSS := hidT (HSK.out rfl)
            clear HSK HST
            go_wp2
            go_roundg (7 - (m + 1))
            case measure => omega
            case rel => exact ⟨m + 1, rfl, by omega, by rw [HM1.out], by rw [HSS.out], HE⟩
          · have hv' : ¬ ((v : Int) = 0) := by omega
            have HV := hidT hv
            have HSS := hidT (HST.out hv)
            clear hv HST HSK
            have hpu := ptx_len 117 j
            have hpx := ptx_len 120 i
            have HPU := hidT hpu
            have HPX := hidT hpx
            clear hpu hpx
            have hcv := fun (w' : World) => conv_new v (by omega) w'
            have hc2 : ∀ o, (wr.alloc o).cell? ⟨w.heap.size, i * 7 + j, none⟩ = some (.int .i64 v) := fun o => by rw [(Blk.alloc BR.out o).cell, ← BR.out.cell]; exact hc
            generalize hwX : wrt p (a * 7 + m) = X at *
            have HWX := hidT hwX
            clear hwX
            by_cases hE : X = []
            · have hE' : (bs X).toList.isEmpty = true := by rw [bs_empty, hE]; rfl
              rw [if_pos hE] at HSS
              have HXE := hidT hE
              clear hE
              by_cases hd : v > 1 ∨ i + j = 0
              · have HDD := hidT hd
                by_cases h1 : 1 < v
                · have hd' : (1 : Int) < (v : Int) := by omega
                  obtain ⟨Y2, HY2⟩ : ∃ Y, Hid (X ++ [dgt v] = Y) := ⟨_, hidT rfl⟩
                  have HL2 : Hid (Y2.length ≤ 212) := by unfold Hid; rw [← HY2.out, List.length_append]; have := HL.out; (try simp only [List.length_cons, List.length_nil]); omega
                  have hadd2 := fun (w' : World) => add_to X [dgt v] Y2 (bs [dgt v]) rfl HY2.out (by have := HL.out; omega) (by simp) w'
                  obtain ⟨Y3, HY3⟩ : ∃ Y, Hid (Y2 ++ ptx 117 j = Y) := ⟨_, hidT rfl⟩
                  have HL3 : Hid (Y3.length ≤ 214) := by unfold Hid; rw [← HY3.out, List.length_append]; have := HPU.out; have := HL2.out; (try simp only [List.length_cons, List.length_nil]); omega
                  have hadd3 := fun (w' : World) => add_to Y2 (ptx 117 j) Y3 (bs (ptx 117 j)) rfl HY3.out (by have := HL2.out; omega) (by have := HPU.out; omega) w'
                  obtain ⟨Y4, HY4⟩ : ∃ Y, Hid (Y3 ++ ptx 120 i = Y) := ⟨_, hidT rfl⟩
                  have HL4 : Hid (Y4.length ≤ 216) := by unfold Hid; rw [← HY4.out, List.length_append]; have := HPX.out; have := HL3.out; (try simp only [List.length_cons, List.length_nil]); omega
                  have hadd4 := fun (w' : World) => add_to Y3 (ptx 120 i) Y4 (bs (ptx 120 i)) rfl HY4.out (by have := HL3.out; omega) (by have := HPX.out; omega) w'
                  go_wp2_with (go_at_call 83; first | (refine (letter_any 117 _ j _ _ (by rfl) (by rfl) (by omega)).mono ?_; rintro e w1 ⟨rfl, hb1⟩; have HB1 := hidT hb1) | (refine (letter_any 120 _ i _ _ (by rfl) (by rfl) (by omega)).mono ?_; rintro e w2 ⟨rfl, hb2⟩; have HB2 := hidT hb2))
                  go_roundg (7 - (m + 1))
                  case measure => omega
                  case rel =>
                    refine ⟨m + 1, rfl, by omega, by rw [HM1.out], ?_, ?_⟩
                    · rw [HSS.out, tmx_full HDD.out, ← HY4.out, ← HY3.out, ← HY2.out]; simp [HXE.out]
                    · exact Fr.below (bs := []) ((((Fr.of_below HE.out).alloc _).trans (Fr.of_below (bs := []) HB1.out) (by simp)).trans (Fr.of_below (bs := []) HB2.out) (by simp)) (Nat.le_refl _) (by simp)
                · have hd' : ¬ ((1 : Int) < (v : Int)) := by omega
                  have hd0 : (i : Int) + (j : Int) = 0 := by omega
                  obtain ⟨Y2, HY2⟩ : ∃ Y, Hid (X ++ [dgt v] = Y) := ⟨_, hidT rfl⟩
                  have HL2 : Hid (Y2.length ≤ 212) := by unfold Hid; rw [← HY2.out, List.length_append]; have := HL.out; (try simp only [List.length_cons, List.length_nil]); omega
                  have hadd2 := fun (w' : World) => add_to X [dgt v] Y2 (bs [dgt v]) rfl HY2.out (by have := HL.out; omega) (by simp) w'
                  obtain ⟨Y3, HY3⟩ : ∃ Y, Hid (Y2 ++ ptx 117 j = Y) := ⟨_, hidT rfl⟩
                  have HL3 : Hid (Y3.length ≤ 214) := by unfold Hid; rw [← HY3.out, List.length_append]; have := HPU.out; have := HL2.out; (try simp only [List.length_cons, List.length_nil]); omega
                  have hadd3 := fun (w' : World) => add_to Y2 (ptx 117 j) Y3 (bs (ptx 117 j)) rfl HY3.out (by have := HL2.out; omega) (by have := HPU.out; omega) w'
                  obtain ⟨Y4, HY4⟩ : ∃ Y, Hid (Y3 ++ ptx 120 i = Y) := ⟨_, hidT rfl⟩
                  have HL4 : Hid (Y4.length ≤ 216) := by unfold Hid; rw [← HY4.out, List.length_append]; have := HPX.out; have := HL3.out; (try simp only [List.length_cons, List.length_nil]); omega
                  have hadd4 := fun (w' : World) => add_to Y3 (ptx 120 i) Y4 (bs (ptx 120 i)) rfl HY4.out (by have := HL3.out; omega) (by have := HPX.out; omega) w'
                  go_wp2_with (go_at_call 83; first | (refine (letter_any 117 _ j _ _ (by rfl) (by rfl) (by omega)).mono ?_; rintro e w1 ⟨rfl, hb1⟩; have HB1 := hidT hb1) | (refine (letter_any 120 _ i _ _ (by rfl) (by rfl) (by omega)).mono ?_; rintro e w2 ⟨rfl, hb2⟩; have HB2 := hidT hb2))
                  go_roundg (7 - (m + 1))
                  case measure => omega
                  case rel =>
                    refine ⟨m + 1, rfl, by omega, by rw [HM1.out], ?_, ?_⟩
                    · rw [HSS.out, tmx_full HDD.out, ← HY4.out, ← HY3.out, ← HY2.out]; simp [HXE.out]
                    · exact Fr.below (bs := []) ((((Fr.of_below HE.out).alloc _).trans (Fr.of_below (bs := []) HB1.out) (by simp)).trans (Fr.of_below (bs := []) HB2.out) (by simp)) (Nat.le_refl _) (by simp)
              · have HDD := hidT hd
                have hd' : ¬ ((1 : Int) < (v : Int)) := by omega
                have hd0 : ¬ ((i : Int) + (j : Int) = 0) := by omega
                obtain ⟨Y3, HY3⟩ : ∃ Y, Hid (X ++ ptx 117 j = Y) := ⟨_, hidT rfl⟩
                have HL3 : Hid (Y3.length ≤ 214) := by unfold Hid; rw [← HY3.out, List.length_append]; have := HPU.out; have := HL.out; (try simp only [List.length_cons, List.length_nil]); omega
                have hadd3 := fun (w' : World) => add_to X (ptx 117 j) Y3 (bs (ptx 117 j)) rfl HY3.out (by have := HL.out; omega) (by have := HPU.out; omega) w'
                obtain ⟨Y4, HY4⟩ : ∃ Y, Hid (Y3 ++ ptx 120 i = Y) := ⟨_, hidT rfl⟩
                have HL4 : Hid (Y4.length ≤ 216) := by unfold Hid; rw [← HY4.out, List.length_append]; have := HPX.out; have := HL3.out; (try simp only [List.length_cons, List.length_nil]); omega
                have hadd4 := fun (w' : World) => add_to Y3 (ptx 120 i) Y4 (bs (ptx 120 i)) rfl HY4.out (by have := HL3.out; omega) (by have := HPX.out; omega) w'
                go_wp2_with (go_at_call 83; first | (refine (letter_any 117 _ j _ _ (by rfl) (by rfl) (by omega)).mono ?_; rintro e w1 ⟨rfl, hb1⟩; have HB1 := hidT hb1) | (refine (letter_any 120 _ i _ _ (by rfl) (by rfl) (by omega)).mono ?_; rintro e w2 ⟨rfl, hb2⟩; have HB2 := hidT hb2))
                go_roundg (7 - (m + 1))
                case measure => omega
                case rel =>
                  refine ⟨m + 1, rfl, by omega, by rw [HM1.out], ?_, ?_⟩
                  · rw [HSS.out, tmx_bare HV.out HDD.out, ← HY4.out, ← HY3.out]; simp [HXE.out]
                  · exact Fr.below (bs := []) (((Fr.of_below HE.out).trans (Fr.of_below (bs := []) HB1.out) (by simp)).trans (Fr.of_below (bs := []) HB2.out) (by simp)) (Nat.le_refl _) (by simp)
            · have hE' : (bs X).toList.isEmpty = false := by rw [bs_empty]; simp [hE]
              rw [if_neg hE] at HSS
              clear hE
              obtain ⟨Y1, HY1⟩ : ∃ Y, Hid (X ++ [43] = Y) := ⟨_, hidT rfl⟩
              have HL1 : Hid (Y1.length ≤ 211) := by unfold Hid; rw [← HY1.out, List.length_append]; have := HL.out; (try simp only [List.length_cons, List.length_nil]); omega
              have hadd1 := fun (w' : World) => add_to X [43] Y1 ⟨#[43]⟩ rfl HY1.out (by have := HL.out; omega) (by simp) w'
              by_cases hd : v > 1 ∨ i + j = 0
              · have HDD := hidT hd
                by_cases h1 : 1 < v
                · have hd' : (1 : Int) < (v : Int) := by omega
                  obtain ⟨Y2, HY2⟩ : ∃ Y, Hid (Y1 ++ [dgt v] = Y) := ⟨_, hidT rfl⟩
                  have HL2 : Hid (Y2.length ≤ 212) := by unfold Hid; rw [← HY2.out, List.length_append]; have := HL1.out; (try simp only [List.length_cons, List.length_nil]); omega
                  have hadd2 := fun (w' : World) => add_to Y1 [dgt v] Y2 (bs [dgt v]) rfl HY2.out (by have := HL1.out; omega) (by simp) w'
                  obtain ⟨Y3, HY3⟩ : ∃ Y, Hid (Y2 ++ ptx 117 j = Y) := ⟨_, hidT rfl⟩
                  have HL3 : Hid (Y3.length ≤ 214) := by unfold Hid; rw [← HY3.out, List.length_append]; have := HPU.out; have := HL2.out; (try simp only [List.length_cons, List.length_nil]); omega
                  have hadd3 := fun (w' : World) => add_to Y2 (ptx 117 j) Y3 (bs (ptx 117 j)) rfl HY3.out (by have := HL2.out; omega) (by have := HPU.out; omega) w'
                  obtain ⟨Y4, HY4⟩ : ∃ Y, Hid (Y3 ++ ptx 120 i = Y) := ⟨_, hidT rfl⟩
                  have HL4 : Hid (Y4.length ≤ 216) := by unfold Hid; rw [← HY4.out, List.length_append]; have := HPX.out; have := HL3.out; (try simp only [List.length_cons, List.length_nil]); omega
                  have hadd4 := fun (w' : World) => add_to Y3 (ptx 120 i) Y4 (bs (ptx 120 i)) rfl HY4.out (by have := HL3.out; omega) (by have := HPX.out; omega) w'
                  go_wp2_with (go_at_call 83; first | (refine (letter_any 117 _ j _ _ (by rfl) (by rfl) (by omega)).mono ?_; rintro e w1 ⟨rfl, hb1⟩; have HB1 := hidT hb1) | (refine (letter_any 120 _ i _ _ (by rfl) (by rfl) (by omega)).mono ?_; rintro e w2 ⟨rfl, hb2⟩; have HB2 := hidT hb2))
                  go_roundg (7 - (m + 1))
                  case measure => omega
                  case rel =>
                    refine ⟨m + 1, rfl, by omega, by rw [HM1.out], ?_, ?_⟩
                    · rw [HSS.out, tmx_full HDD.out, ← HY4.out, ← HY3.out, ← HY2.out, ← HY1.out]; simp
                    · exact Fr.below (bs := []) ((((Fr.of_below HE.out).alloc _).trans (Fr.of_below (bs := []) HB1.out) (by simp)).trans (Fr.of_below (bs := []) HB2.out) (by simp)) (Nat.le_refl _) (by simp)
                · have hd' : ¬ ((1 : Int) < (v : Int)) := by omega
                  have hd0 : (i : Int) + (j : Int) = 0 := by omega
                  obtain ⟨Y2, HY2⟩ : ∃ Y, Hid (Y1 ++ [dgt v] = Y) := ⟨_, hidT rfl⟩
                  have HL2 : Hid (Y2.length ≤ 212) := by unfold Hid; rw [← HY2.out, List.length_append]; have := HL1.out; (try simp only [List.length_cons, List.length_nil]); omega
                  have hadd2 := fun (w' : World) => add_to Y1 [dgt v] Y2 (bs [dgt v]) rfl HY2.out (by have := HL1.out; omega) (by simp) w'
                  obtain ⟨Y3, HY3⟩ : ∃ Y, Hid (Y2 ++ ptx 117 j = Y) := ⟨_, hidT rfl⟩
                  have HL3 : Hid (Y3.length ≤ 214) := by unfold Hid; rw [← HY3.out, List.length_append]; have := HPU.out; have := HL2.out; (try simp only [List.length_cons, List.length_nil]); omega
                  have hadd3 := fun (w' : World) => add_to Y2 (ptx 117 j) Y3 (bs (ptx 117 j)) rfl HY3.out (by have := HL2.out; omega) (by have := HPU.out; omega) w'
                  obtain ⟨Y4, HY4⟩ : ∃ Y, Hid (Y3 ++ ptx 120 i = Y) := ⟨_, hidT rfl⟩
                  have HL4 : Hid (Y4.length ≤ 216) := by unfold Hid; rw [← HY4.out, List.length_append]; have := HPX.out; have := HL3.out; (try simp only [List.length_cons, List.length_nil]); omega
                  have hadd4 := fun (w' : World) => add_to Y3 (ptx 120 i) Y4 (bs (ptx 120 i)) rfl HY4.out (by have := HL3.out; omega) (by have := HPX.out; omega) w'
                  go_wp2_with (go_at_call 83; first | (refine (letter_any 117 _ j _ _ (by rfl) (by rfl) (by omega)).mono ?_; rintro e w1 ⟨rfl, hb1⟩; have HB1 := hidT hb1) | (refine (letter_any 120 _ i _ _ (by rfl) (by rfl) (by omega)).mono ?_; rintro e w2 ⟨rfl, hb2⟩; have HB2 := hidT hb2))
                  go_roundg (7 - (m + 1))
                  case measure => omega
                  case rel =>
                    refine ⟨m + 1, rfl, by omega, by rw [HM1.out], ?_, ?_⟩
                    · rw [HSS.out, tmx_full HDD.out, ← HY4.out, ← HY3.out, ← HY2.out, ← HY1.out]; simp
                    · exact Fr.below (bs := []) ((((Fr.of_below HE.out).alloc _).trans (Fr.of_below (bs := []) HB1.out) (by simp)).trans (Fr.of_below (bs := []) HB2.out) (by simp)) (Nat.le_refl _) (by simp)
              · have HDD := hidT hd
                have hd' : ¬ ((1 : Int) < (v : Int)) := by omega
                have hd0 : ¬ ((i : Int) + (j : Int) = 0) := by omega
                obtain ⟨Y3, HY3⟩ : ∃ Y, Hid (Y1 ++ ptx 117 j = Y) := ⟨_, hidT rfl⟩
                have HL3 : Hid (Y3.length ≤ 214) := by unfold Hid; rw [← HY3.out, List.length_append]; have := HPU.out; have := HL1.out; (try simp only [List.length_cons, List.length_nil]); omega
                have hadd3 := fun (w' : World) => add_to Y1 (ptx 117 j) Y3 (bs (ptx 117 j)) rfl HY3.out (by have := HL1.out; omega) (by have := HPU.out; omega) w'
                obtain ⟨Y4, HY4⟩ : ∃ Y, Hid (Y3 ++ ptx 120 i = Y) := ⟨_, hidT rfl⟩
                have HL4 : Hid (Y4.length ≤ 216) := by unfold Hid; rw [← HY4.out, List.length_append]; have := HPX.out; have := HL3.out; (try simp only [List.length_cons, List.length_nil]); omega
                have hadd4 := fun (w' : World) => add_to Y3 (ptx 120 i) Y4 (bs (ptx 120 i)) rfl HY4.out (by have := HL3.out; omega) (by have := HPX.out; omega) w'
                go_wp2_with (go_at_call 83; first | (refine (letter_any 117 _ j _ _ (by rfl) (by rfl) (by omega)).mono ?_; rintro e w1 ⟨rfl, hb1⟩; have HB1 := hidT hb1) | (refine (letter_any 120 _ i _ _ (by rfl) (by rfl) (by omega)).mono ?_; rintro e w2 ⟨rfl, hb2⟩; have HB2 := hidT hb2))
                go_roundg (7 - (m + 1))
                case measure => omega
                case rel =>
                  refine ⟨m + 1, rfl, by omega, by rw [HM1.out], ?_, ?_⟩
                  · rw [HSS.out, tmx_bare HV.out HDD.out, ← HY4.out, ← HY3.out, ← HY1.out]; simp
                  · exact Fr.below (bs := []) (((Fr.of_below HE.out).trans (Fr.of_below (bs := []) HB1.out) (by simp)).trans (Fr.of_below (bs := []) HB2.out) (by simp)) (Nat.le_refl _) (by simp)
        · have e7 : m = 7 := by omega
          subst e7
          have HK1 : Hid ((((5 - (a + 1) : Nat) : Int) - 1) = (i : Int) - 1) := by unfold Hid; have := HI.out; omega
          go_wp2
          go_roundg (5 - (a + 1))
          case measure => omega
          case rel => exact ⟨a + 1, rfl, by omega, by rw [HK1.out], by rw [show (a + 1) * 7 = a * 7 + 7 by omega], HE⟩
    · have e5 : a = 5 := by omega
      subst e5
      have HT : Hid (txt p = if wrt p (5 * 7) = [] then [48] else wrt p (5 * 7)) := rfl
      generalize hwX : wrt p (5 * 7) = X at *
      by_cases hE : X = []
      · have hE' : (bs X).toList.isEmpty = true := by rw [bs_empty, hE]; rfl
        rw [if_pos hE] at HT
        clear hE hwX
        go_wp2
        go_ret
        exact ⟨by rw [HT.out]; rfl, Fr.below (bs := []) ((Fr.of_below BW.out).trans (Fr.of_below (bs := []) HD.out) (by simp)) (Nat.le_refl _) (by simp)⟩
      · have hE' : (bs X).toList.isEmpty = false := by rw [bs_empty]; simp [hE]
        rw [if_neg hE] at HT
        clear hE hwX
        go_wp2
        go_ret
        exact ⟨by rw [HT.out]; rfl, Fr.below (bs := []) ((Fr.of_below BW.out).trans (Fr.of_below (bs := []) HD.out) (by simp)) (Nat.le_refl _) (by simp)⟩
end Go.Proofs.YthlmgpllapccfaaGreatDoor
/- THE DOCUMENT's listed. -/
namespace Go.Proofs.YthlmgpllapccfaaGreatDoor
open Go.RowKit

/-- Seven values, in or not. -/
def bv (b : Nat → Bool) : Array Value := #[.bool (b 0), .bool (b 1), .bool (b 2), .bool (b 3), .bool (b 4), .bool (b 5), .bool (b 6)]
theorem bv_get (b : Nat → Bool) {i : Nat} (h : i < 7) : (bv b)[i]? = some (.bool (b i)) := by
  match i, h with
  | 0, _ => rfl
  | 1, _ => rfl
  | 2, _ => rfl
  | 3, _ => rfl
  | 4, _ => rfl
  | 5, _ => rfl
  | 6, _ => rfl
theorem bv_set (b c : Nat → Bool) {i : Nat} {v : Bool} (h : i < 7) (hv : c i = v) (ho : ∀ j, j ≠ i → c j = b j) : (bv b).setIfInBounds i (.bool v) = bv c := by
  subst hv
  unfold bv
  match i, h with
  | 0, _ => simp [ho 1, ho 2, ho 3, ho 4, ho 5, ho 6]
  | 1, _ => simp [ho 0, ho 2, ho 3, ho 4, ho 5, ho 6]
  | 2, _ => simp [ho 0, ho 1, ho 3, ho 4, ho 5, ho 6]
  | 3, _ => simp [ho 0, ho 1, ho 2, ho 4, ho 5, ho 6]
  | 4, _ => simp [ho 0, ho 1, ho 2, ho 3, ho 5, ho 6]
  | 5, _ => simp [ho 0, ho 1, ho 2, ho 3, ho 4, ho 6]
  | 6, _ => simp [ho 0, ho 1, ho 2, ho 3, ho 4, ho 5]

theorem lsd_yes {b : Nat → Bool} {v : Nat} (h : b v = true) : lsd b (v + 1) = (if lsd b v = [] then [] else lsd b v ++ [32]) ++ [dgt v] := by rw [lsd, if_pos h]
theorem lsd_no {b : Nat → Bool} {v : Nat} (h : b v = false) : lsd b (v + 1) = lsd b v := by rw [lsd, if_neg (by rw [h]; decide)]

set_option maxRecDepth 100000 in
set_option maxHeartbeats 1000000 in
theorem listed_any (b : Nat → Bool) (w : World) :
    Calls Tryz.prog 62 #[.agg (bv b)] w fun e w' => e = .returned (.string (bs (lsd b 7))) ∧ Below w.heap.size w w' := by
  go_enter Tryz.func62, Tryz.ntmps62
  go_wp2
  refine wp_forget (fun W => Blk W w.heap.size (bv b) 45 ∧ Below w.heap.size w W) ⟨Blk.new w _ _, by go_grown⟩ ?_
  rintro W ⟨b1, hbel⟩
  have HH := hidV (And.intro b1 hbel)
  clear b1 hbel
  go_loopg [3, 4] 7 (fun gm v3 v4 wr => ∃ k : Nat, gm = 7 - k ∧ k ≤ 7 ∧ v4 = .int .i64 k ∧ v3 = .string (bs (lsd b k)) ∧ Hid (Blk wr w.heap.size (bv b) 45 ∧ Below w.heap.size w wr))
  case atStart => exact ⟨0, rfl, by omega, rfl, rfl, HH⟩
  case round =>
    obtain ⟨k, hgm, hk, rfl, rfl, HD⟩ := hrel
    clear HH W
    by_cases h7 : k < 7
    · have hc : wr.cell? ⟨w.heap.size, k, none⟩ = some (.bool (b k)) := by rw [HD.out.1.cell]; exact bv_get b h7
      have k0 : (0 : Int) ≤ (k : Int) := by omega
      have k1 : (k : Int) < 7 := by omega
      have HL := hidV (lsd_len b k)
      have HY := hidV (@lsd_yes b k)
      have HN := hidV (@lsd_no b k)
      generalize b k = bk at *
      cases bk with
      | false =>
        have HS := hidV (HN.out rfl)
        clear HN HY
        go_wp2
        go_roundg (7 - (k + 1))
        case measure => omega
        case rel => exact ⟨k + 1, rfl, by omega, by go_num, by rw [HS.out], HD⟩
      | true =>
        have HS := hidV (HY.out rfl)
        clear HN HY
        generalize hX : lsd b k = X at *
        have HX := hidV hX
        clear hX
        have hcv := fun (w' : World) => conv_new k (by omega) w'
        by_cases hE : X = []
        · have hE' : (bs X).toList.isEmpty = true := by rw [bs_empty, hE]; rfl
          rw [if_pos hE] at HS
          have HXE := hidV hE
          clear hE
          obtain ⟨Y, HYY⟩ : ∃ Y, Hid (X ++ [dgt k] = Y) := ⟨_, hidV rfl⟩
          have hadd := fun (w' : World) => add_to X [dgt k] Y (bs [dgt k]) rfl HYY.out (by have := HL.out; omega) (by simp) w'
          go_wp2
          go_roundg (7 - (k + 1))
          case measure => omega
          case rel => exact ⟨k + 1, rfl, by omega, by go_num, by rw [HS.out, ← HYY.out, HXE.out], Blk.alloc HD.out.1 _, Below.alloc HD.out.2 HD.out.2.size _⟩
        · have hE' : (bs X).toList.isEmpty = false := by rw [bs_empty]; cases X with | nil => exact absurd rfl hE | cons _ _ => rfl
          rw [if_neg hE] at HS
          clear hE
          obtain ⟨Y, HYY⟩ : ∃ Y, Hid (X ++ [32] = Y) := ⟨_, hidV rfl⟩
          have HLY : Hid (Y.length ≤ 2 * k + 1) := by unfold Hid; rw [← HYY.out, List.length_append]; have := HL.out; simp only [List.length_cons, List.length_nil]; omega
          have hadd := fun (w' : World) => add_to X [32] Y ⟨#[32]⟩ rfl HYY.out (by have := HL.out; omega) (by simp) w'
          obtain ⟨Z, HZ⟩ : ∃ Z, Hid (Y ++ [dgt k] = Z) := ⟨_, hidV rfl⟩
          have hadd2 := fun (w' : World) => add_to Y [dgt k] Z (bs [dgt k]) rfl HZ.out (by have := HLY.out; omega) (by simp) w'
          go_wp2
          go_roundg (7 - (k + 1))
          case measure => omega
          case rel => exact ⟨k + 1, rfl, by omega, by go_num, by rw [HS.out, HYY.out, HZ.out], Blk.alloc HD.out.1 _, Below.alloc HD.out.2 HD.out.2.size _⟩
    · have ek : k = 7 := by omega
      subst ek
      go_wp2
      go_ret
      exact ⟨rfl, HD.out.2⟩
end Go.Proofs.YthlmgpllapccfaaGreatDoor
/- THE DOCUMENT's worth and at. -/
namespace Go.Proofs.YthlmgpllapccfaaGreatDoor
open Go.RowKit

def lst (g : Nat → Nat) : List Nat := [g 0, g 1, g 2, g 3, g 4]
theorem lst_get (g : Nat → Nat) {i : Nat} (h : i < 5) : (lst g).getD i 0 = g i := by
  match i, h with
  | 0, _ => rfl
  | 1, _ => rfl
  | 2, _ => rfl
  | 3, _ => rfl
  | 4, _ => rfl
theorem lst_set (g d : Nat → Nat) {k v : Nat} (hk : k < 5) (hv : d k = v) (ho : ∀ i, i ≠ k → d i = g i) : (lst g).set k v = lst d := by
  subst hv
  unfold lst
  match k, hk with
  | 0, _ => simp [ho 1, ho 2, ho 3, ho 4]
  | 1, _ => simp [ho 0, ho 2, ho 3, ho 4]
  | 2, _ => simp [ho 0, ho 1, ho 3, ho 4]
  | 3, _ => simp [ho 0, ho 1, ho 2, ho 4]
  | 4, _ => simp [ho 0, ho 1, ho 2, ho 3]
theorem lst_congr {g d : Nat → Nat} (h : ∀ i, i < 5 → g i = d i) : lst g = lst d := by
  unfold lst; rw [h 0 (by omega), h 1 (by omega), h 2 (by omega), h 3 (by omega), h 4 (by omega)]
theorem size_line {l : List Nat} (hl : l.length = 5) : (Tryz.prog.info? 121).map (·.size) = some (pv l).size := by rw [pv_size, hl]; kernel_rfl

set_option maxRecDepth 100000 in
set_option maxHeartbeats 2000000 in
theorem worth_any (l : List Nat) (b : Nat) (B : Int) (w : World) (hl : l.length = 5) (hl7 : ∀ i, l.getD i 0 < 7) (hB : B = b) (hb : b < 7) :
    Calls Tryz.prog 84 #[.agg (pv l), .int .i64 B] w fun e w' => e = .returned (.int .i64 (valL l b)) ∧ Below w.heap.size w w' := by
  subst hB
  unfold valL
  go_enter Tryz.func84, Tryz.ntmps84
  go_wp2
  refine wp_forget (fun W => Blk W w.heap.size (pv l) 121 ∧ Below w.heap.size w W) ⟨Blk.new w _ _, by go_grown⟩ ?_
  rintro W ⟨b1, hbel⟩
  have B1 := hidV b1
  have BB := hidV hbel
  clear b1 hbel
  go_loopg [5, 6] 5 (fun gm v5 v6 wr => ∃ k : Nat, gm = 5 - k ∧ k ≤ 5 ∧ v6 = .int .i64 k ∧ v5 = .int .i64 (pows (fun i => l.getD i 0) b k) ∧ Hid (Blk wr w.heap.size (pv l) 121 ∧ Below w.heap.size w wr))
  case atStart => exact ⟨0, rfl, by omega, rfl, rfl, ⟨B1.out, BB.out⟩⟩
  case round =>
    obtain ⟨k, hgm, hk, rfl, rfl, HD⟩ := hrel
    have B2 := hidV HD.out.1
    have BB2 := hidV HD.out.2
    clear HD B1 BB
    clear W
    have hlt := pows_lt (fun i => l.getD i 0) b k
    by_cases h5 : k < 5
    · have HS : Hid (pows (fun i => l.getD i 0) b (k + 1) = (pows (fun i => l.getD i 0) b k + l.getD k 0 * pw7 b k) % 7) := rfl
      generalize pows (fun i => l.getD i 0) b k = G at *
      have hq : k < l.length := by omega
      have hcell := pv_get hq
      have hv7 := hl7 k
      generalize l.getD k 0 = v at *
      have hpw := pw7_lt b k
      have hpb := prod_bd hv7 hpw
      have i0 : (0 : Int) ≤ (k : Int) := by omega
      have i1 : (k : Int) < 5 := by omega
      have hc : wr.cell? ⟨w.heap.size, k, none⟩ = some (.int .i64 v) := by rw [B2.out.cell]; exact hcell
      clear hcell
      go_wp2
      go_quiet ((go_at_call 99; exact Calls.quiet_of_same (raised_any b k _ _ _ rfl rfl hb (by omega))))
      go_wp2
      go_roundg (5 - (k + 1))
      case measure => omega
      case rel => exact ⟨k + 1, rfl, by omega, by go_num, by rw [HS.out]; simp, ⟨B2.out, below_drewN BB2.out _⟩⟩
    · have e5 : k = 5 := by omega
      subst e5
      go_wp2
      go_ret
      exact ⟨rfl, BB2.out⟩
end Go.Proofs.YthlmgpllapccfaaGreatDoor
/- THE DOCUMENT's at. -/
namespace Go.Proofs.YthlmgpllapccfaaGreatDoor
open Go.RowKit

def rowN (p : List Nat) (i : Nat) : Nat → Nat := fun j => p.getD (i * 7 + j) 0
def atG (p : List Nat) (a k m i : Nat) : Nat := if i < k then pows (rowN p i) a 7 else if i = k then pows (rowN p i) a m else 0
theorem atG_lt (p : List Nat) (a k m i : Nat) : atG p a k m i < 7 := by
  unfold atG; split
  · exact pows_lt _ _ _
  · split
    · exact pows_lt _ _ _
    · omega
theorem atG_roll (p : List Nat) (a k : Nat) : lst (atG p a k 7) = lst (atG p a (k + 1) 0) := by
  apply lst_congr
  intro i _
  unfold atG
  by_cases h1 : i < k
  · rw [if_pos h1, if_pos (by omega)]
  · rw [if_neg h1]
    by_cases h2 : i = k
    · rw [if_pos h2, if_pos (by omega)]
    · rw [if_neg h2, if_neg (by omega)]
      split <;> simp [pows]
theorem atG_step (p : List Nat) (a k m : Nat) (hk : k < 5) : (lst (atG p a k m)).set k (pows (rowN p k) a (m + 1)) = lst (atG p a k (m + 1)) := by
  apply lst_set _ _ hk
  · unfold atG; rw [if_neg (by omega), if_pos rfl]
  · intro i hi; unfold atG; simp [hi]
theorem atG_end (p : List Nat) (a : Nat) : lst (atG p a 5 0) = lineR p a := rfl
theorem atG_zero (p : List Nat) (a : Nat) : lst (atG p a 0 0) = [0, 0, 0, 0, 0] := rfl
theorem atG_at (p : List Nat) (a k m : Nat) (hk : k < 5) : (lst (atG p a k m)).getD k 0 = pows (rowN p k) a m := by
  rw [lst_get _ hk]; unfold atG; rw [if_neg (by omega), if_pos rfl]
theorem lst_len (g : Nat → Nat) : (lst g).length = 5 := rfl

set_option maxRecDepth 100000 in
set_option maxHeartbeats 2000000 in
theorem at_any (p : List Nat) (a : Nat) (A : Int) (w : World) (hp : Good p) (hA : A = a) (ha : a < 7) :
    Calls Tryz.prog 85 #[.agg (pv p), .int .i64 A] w fun e w' => e = .returned (.agg (pv (lineR p a))) ∧ Below w.heap.size w w' := by
  subst hA
  rw [← atG_end]
  go_enter Tryz.func85, Tryz.ntmps85
  go_wp2
  refine wp_forget (fun W => Blk W w.heap.size (pv p) 116 ∧ Blk W (w.heap.size + 1) (pv [0, 0, 0, 0, 0]) 121 ∧ Blk W (w.heap.size + 1 + 1) (pv [0, 0, 0, 0, 0]) 121 ∧ Below w.heap.size w W) ⟨Blk.alloc (Blk.alloc (Blk.new w _ _) _) _, Blk.alloc (Blk.newAt _ _ _ (by simp)) _, Blk.newAt _ _ _ (by simp), by go_grown⟩ ?_
  rintro W ⟨b1, b2, b3, hbel⟩
  have HH := hidV (And.intro b1 (And.intro b2 (And.intro b3 hbel)))
  clear b1 b2 b3 hbel
  go_loopg [6] 5 (fun gm v6 wr => ∃ k : Nat, gm = 5 - k ∧ k ≤ 5 ∧ v6 = .int .i64 k ∧ Hid (Blk wr w.heap.size (pv p) 116 ∧ Blk wr (w.heap.size + 1) (pv [0, 0, 0, 0, 0]) 121 ∧ Blk wr (w.heap.size + 1 + 1) (pv (lst (atG p a k 0))) 121 ∧ Below w.heap.size w wr))
  case atStart => exact ⟨0, rfl, by omega, rfl, HH⟩
  case round =>
    obtain ⟨k, hgm, hk, rfl, HD⟩ := hrel
    clear HH W
    by_cases h5 : k < 5
    · have i0 : (0 : Int) ≤ (k : Int) := by omega
      have i1 : (k : Int) < 5 := by omega
      go_wp2
      go_loopg [7] 7 (fun gm v7 ws => ∃ m : Nat, gm = 7 - m ∧ m ≤ 7 ∧ v7 = .int .i64 m ∧ Hid (Blk ws w.heap.size (pv p) 116 ∧ Blk ws (w.heap.size + 1) (pv [0, 0, 0, 0, 0]) 121 ∧ Blk ws (w.heap.size + 1 + 1) (pv (lst (atG p a k m))) 121 ∧ Below w.heap.size w ws))
      case atStart => exact ⟨0, rfl, by omega, rfl, HD⟩
      case round =>
        obtain ⟨m, hgm2, hm, rfl, HE⟩ := hrel
        clear HD
        by_cases h7 : m < 7
        · have HS : Hid (pows (rowN p k) a (m + 1) = (pows (rowN p k) a m + rowN p k m * pw7 a m) % 7) := rfl
          have HST := hidV (atG_step p a k m h5)
          have hlt := pows_lt (rowN p k) a m
          have hg5 := atG_at p a k m h5
          have hq1 : k < (lst (atG p a k m)).length := by rw [lst_len]; exact h5
          have hcell1 := pv_get hq1
          rw [hg5] at hcell1
          have hq : k * 7 + m < p.length := by rw [hp.1]; omega
          have hcell := pv_get hq
          have hv7 : rowN p k m < 7 := hp.2 (k * 7 + m)
          have hc : wr.cell? ⟨w.heap.size, k * 7 + m, none⟩ = some (.int .i64 (rowN p k m)) := by rw [HE.out.1.cell]; exact hcell
          have hc1 : wr.cell? ⟨w.heap.size + 1 + 1, k, none⟩ = some (.int .i64 (pows (rowN p k) a m)) := by rw [HE.out.2.2.1.cell]; exact hcell1
          have hc2 : wr.frozen? ⟨w.heap.size + 1 + 1, k, none⟩ = false := HE.out.2.2.1.frozen _
          have hpw := pw7_lt a m
          have hpb := prod_bd hv7 hpw
          have j0 : (0 : Int) ≤ (m : Int) := by omega
          have j1 : (m : Int) < 7 := by omega
          clear hcell hcell1 hg5 hq1
          generalize rowN p k m = v at *
          generalize pows (rowN p k) a m = G at *
          go_wp2
          refine region_quiet_tail 16 (by kernel_rfl) (by kernel_rfl) ?_
          simp only [List.take_succ_cons, List.take_zero, List.drop_succ_cons, List.drop_zero]
          repeat (first | go_big_quiet_step ((go_at_call 99; exact Calls.quiet_of_same (raised_any a m _ _ _ rfl rfl ha (by omega)))) | quiet_step ((go_at_call 99; exact Calls.quiet_of_same (raised_any a m _ _ _ rfl rfl ha (by omega)))))
          refine wpQuiet_nil ?_
          rintro _ ⟨nq, rfl⟩
          go_wp2
          go_roundg (7 - (m + 1))
          case measure => omega
          case rel =>
            refine ⟨m + 1, rfl, by omega, by go_num, ⟨?_, ?_, ?_, ?_⟩⟩
            · exact Blk.setOther (by exact HE.out.1) _ _ (by show ¬ w.heap.size = w.heap.size + 1 + 1; omega)
            · exact Blk.setOther (by exact HE.out.2.1) _ _ (by show ¬ w.heap.size + 1 = w.heap.size + 1 + 1; omega)
            · rw [← HST.out, HS.out]
              exact Blk.putN (by exact HE.out.2.2.1) _ _ _ (by simp)
            · exact Below.setCell (below_drewN HE.out.2.2.2 nq) (by show w.heap.size ≤ w.heap.size + 1 + 1; omega) _
        · have e7 : m = 7 := by omega
          subst e7
          go_wp2
          go_roundg (5 - (k + 1))
          case measure => omega
          case rel => exact ⟨k + 1, rfl, by omega, by go_num, by rw [← atG_roll]; exact HE⟩
    · have e5 : k = 5 := by omega
      subst e5
      have hsz := size_line (lst_len (atG p a 5 0))
      go_wp2_with (first | (refine wpList_load_row (by rfl) 121 _ (by rfl) (w.heap.size + 1 + 1) (by rfl) 121 (pv (lst (atG p a 5 0))) (0, 0) _ (by exact HD.out.2.2.1) Tryz.underlying121 (by rfl) hsz ?_) | (refine wpList_store_mid (by rfl) 121 _ _ (by rfl) (w.heap.size + 1) 0 (pv (lst (atG p a 5 0))) (by rfl) (by rfl) (by exact Blk.there HD.out.2.1 (by rw [pv_size, pv_size, lst_len]; exact Nat.le_refl _)) hsz (pv_one _) ?_))
      refine bodyPost_ret (results_cell_row Tryz.results85 _ _ (w.heap.size + 1) 121 (pv (lst (atG p a 5 0))) (0, 0) _ (by rfl) (Blk.setAll (by exact HD.out.2.1) _ (by rw [pv_size, pv_size, lst_len]; rfl)) Tryz.underlying121 rfl hsz) rfl ⟨rfl, ?_⟩
      exact Below.setCells (by exact HD.out.2.2.2) _ _ _ (by omega)
end Go.Proofs.YthlmgpllapccfaaGreatDoor
/- THE DOCUMENT's degree and candidate. -/
namespace Go.Proofs.YthlmgpllapccfaaGreatDoor
open Go.RowKit

set_option maxRecDepth 100000 in
set_option maxHeartbeats 2000000 in
theorem degree_any (g : Nat → Nat) (w : World) :
    Calls Tryz.prog 86 #[.agg (pv (lst g))] w fun e w' => e = .returned (.int .i64 ((dg g : Int) - 1)) ∧ Below w.heap.size w w' := by
  go_enter Tryz.func86, Tryz.ntmps86
  go_wp2
  refine wp_forget (fun W => Blk W w.heap.size (pv (lst g)) 121 ∧ Below w.heap.size w W) ⟨Blk.new w _ _, by go_grown⟩ ?_
  rintro W ⟨b1, hbel⟩
  have HH := hidV (And.intro b1 hbel)
  clear b1 hbel
  go_loopg [3] 5 (fun gm v3 wr => ∃ k : Nat, gm = 5 - k ∧ k ≤ 5 ∧ v3 = .int .i64 (((5 - k : Nat) : Int) - 1) ∧ Hid (∀ y, 5 - k ≤ y → y < 5 → g y = 0) ∧ Hid (Blk wr w.heap.size (pv (lst g)) 121 ∧ Below w.heap.size w wr))
  case atStart => exact ⟨0, rfl, by omega, rfl, fun y h1 h2 => by omega, HH⟩
  case round =>
    obtain ⟨k, hgm, hk, rfl, HZ, HD⟩ := hrel
    clear HH W
    by_cases h5 : k < 5
    · obtain ⟨i, hi⟩ : ∃ i : Nat, 5 - k = i + 1 := ⟨4 - k, by omega⟩
      have hi4 : i < 5 := by omega
      have e : (((5 - k : Nat) : Int) - 1) = (i : Int) := by omega
      rw [e]
      have HK1 : Hid ((((5 - (k + 1) : Nat) : Int) - 1) = (i : Int) - 1) := by unfold Hid; omega
      have HI := hidV hi
      clear e hi
      have hcell := pv_get (p := lst g) (j := i) (by rw [lst_len]; omega)
      rw [lst_get g hi4] at hcell
      have hc : wr.cell? ⟨w.heap.size, i, none⟩ = some (.int .i64 (g i)) := by rw [HD.out.1.cell]; exact hcell
      clear hcell
      have i0 : (0 : Int) ≤ (i : Int) := by omega
      have i1 : (i : Int) < 5 := by omega
      by_cases h0 : g i = 0
      · rw [h0] at hc
        go_wp2
        go_roundg (5 - (k + 1))
        case measure => omega
        case rel =>
          refine ⟨k + 1, rfl, by omega, by rw [HK1.out], fun y h1 h2 => ?_, HD⟩
          by_cases e : y = i
          · subst e; exact h0
          · exact HZ.out y (by have := HI.out; omega) h2
      · have HG : Hid (((dg g : Nat) : Int) - 1 = (i : Int)) := by
          unfold Hid
          rw [dg_is hi4 h0 (fun y h1 h2 => HZ.out y (by have := HI.out; omega) h2)]; omega
        have hne : ¬ ((g i : Int) = 0) := by omega
        generalize (g i : Int) = v at *
        go_wp2
        go_ret
        exact ⟨by rw [HG.out]; rfl, HD.out.2⟩
    · have e5 : k = 5 := by omega
      subst e5
      go_wp2
      go_ret
      exact ⟨by rw [dg_zero (fun y h => HZ.out y (by omega) h)]; rfl, HD.out.2⟩

/-- The first k numbers of the n-th. -/
def cnd (n k : Nat) : Nat → Nat := fun i => if i < k then n / 7 ^ i % 7 else 0
theorem cnd_step (n k : Nat) (hk : k < 5) : (lst (cnd n k)).set k (n / 7 ^ k % 7) = lst (cnd n (k + 1)) := by
  apply lst_set _ _ hk
  · unfold cnd; rw [if_pos (by omega)]
  · intro i hi
    unfold cnd
    by_cases h : i < k
    · rw [if_pos h, if_pos (by omega)]
    · rw [if_neg h, if_neg (by omega)]
theorem cnd_end (n d : Nat) (hd : d < 5) : (lst (cnd n d)).set d 1 = lst (cand n d) := by
  apply lst_set _ _ hd
  · unfold cand; rw [if_neg (by omega), if_pos rfl]
  · intro i hi
    unfold cnd cand
    rw [if_neg hi]
theorem cnd_zero (n : Nat) : lst (cnd n 0) = [0, 0, 0, 0, 0] := rfl
theorem div7 (n k : Nat) : n / 7 ^ k / 7 = n / 7 ^ (k + 1) := by rw [Nat.div_div_eq_div_mul, Nat.pow_succ]

set_option maxRecDepth 100000 in
set_option maxHeartbeats 400000 in
theorem candidate_any (n d : Nat) (N D : Int) (w : World) (hN : N = n) (hD : D = d) (hn : n ≤ 2401) (hd : d ≤ 4) :
    Calls Tryz.prog 87 #[.int .i64 N, .int .i64 D] w fun e w' => e = .returned (.agg (pv (lst (cand n d)))) ∧ Below w.heap.size w w' := by
  subst hN hD
  obtain ⟨L, HL, hlen, HE⟩ : ∃ L, Hid (lst (cand n d) = L) ∧ L.length = 5 ∧ Hid ((lst (cnd n d)).set d 1 = L) := ⟨_, rfl, rfl, cnd_end n d (by omega)⟩
  rw [HL.out]
  go_enter Tryz.func87, Tryz.ntmps87
  go_wp2
  refine wp_forget (fun W => Blk W w.heap.size (pv [0, 0, 0, 0, 0]) 121 ∧ Blk W (w.heap.size + 1) (pv [0, 0, 0, 0, 0]) 121 ∧ Below w.heap.size w W) ⟨Blk.alloc (Blk.new w _ _) _, Blk.newAt _ _ _ (by simp), by go_grown⟩ ?_
  rintro W ⟨b1, b2, hbel⟩
  have HH := hidV (And.intro b1 (And.intro b2 hbel))
  clear b1 b2 hbel
  go_loopg [0, 6] d (fun gm v0 v6 wr => ∃ k : Nat, gm = d - k ∧ k ≤ d ∧ v6 = .int .i64 k ∧ v0 = .int .i64 ((n / 7 ^ k : Nat) : Int) ∧ Hid (Blk wr w.heap.size (pv [0, 0, 0, 0, 0]) 121 ∧ Blk wr (w.heap.size + 1) (pv (lst (cnd n k))) 121 ∧ Below w.heap.size w wr))
  case atStart => exact ⟨0, rfl, by omega, rfl, by simp, HH⟩
  case round =>
    obtain ⟨k, hgm, hk, rfl, rfl, HD⟩ := hrel
    clear HH W
    have i0 : (0 : Int) ≤ (k : Int) := by omega
    have i1 : (k : Int) < 5 := by omega
    have HS := hidV (cnd_step n k (by omega))
    have HM := hidV (div7 n k)
    have hml : n / 7 ^ k ≤ n := Nat.div_le_self _ _
    have hc1 : (wr.cell? ⟨w.heap.size + 1, k, none⟩).isSome := by rw [HD.out.2.1.cell]; simp [pv, lst]; omega
    have hc2 : wr.frozen? ⟨w.heap.size + 1, k, none⟩ = false := HD.out.2.1.frozen _
    by_cases h5 : k < d
    · generalize n / 7 ^ k = m at *
      obtain ⟨c, hc⟩ := Option.isSome_iff_exists.1 hc1
      clear hc1
      go_wp2
      go_roundg (d - (k + 1))
      case measure => omega
      case rel =>
        refine ⟨k + 1, rfl, by omega, by go_num, ?_, ⟨?_, ?_, ?_⟩⟩
        · rw [← HM.out]; go_num
        · exact Blk.setOther HD.out.1 _ _ (by show ¬ w.heap.size = w.heap.size + 1; omega)
        · rw [← HS.out]
          exact Blk.putN HD.out.2.1 _ _ _ (by simp)
        · exact Below.setCell HD.out.2.2 (by show w.heap.size ≤ w.heap.size + 1; omega) _
    · have e5 : k = d := by omega
      subst e5
      clear HS HM hml
      obtain ⟨c, hc⟩ := Option.isSome_iff_exists.1 hc1
      clear hc1
      have hsz := size_line hlen
      generalize n / 7 ^ k = m at *
      go_wp2_with (first | (refine wpList_load_row (by rfl) 121 _ (by rfl) (w.heap.size + 1) (by rfl) 121 (pv L) (0, 0) _ (by rw [← HE.out]; exact Blk.putN HD.out.2.1 _ _ _ (by rfl)) Tryz.underlying121 (by rfl) hsz ?_) | (refine wpList_store_mid (by rfl) 121 _ _ (by rfl) w.heap.size 0 (pv L) (by rfl) (by rfl) (by exact Blk.there (Blk.setOther HD.out.1 _ _ (by show ¬ w.heap.size = w.heap.size + 1; omega)) (by rw [pv_size, pv_size, hlen]; exact Nat.le_refl _)) hsz (pv_one _) ?_))
      refine bodyPost_ret (results_cell_row Tryz.results87 _ _ w.heap.size 121 (pv L) (0, 0) _ (by rfl) (Blk.setAll (Blk.setOther (by exact HD.out.1) _ _ (by show ¬ w.heap.size = w.heap.size + 1; omega)) _ (by rw [pv_size, pv_size, hlen]; rfl)) Tryz.underlying121 rfl hsz) rfl ⟨rfl, ?_⟩
      exact Below.setCells (Below.setCell HD.out.2.2 (by show w.heap.size ≤ w.heap.size + 1; omega) _) _ _ _ (Nat.le_refl _)
end Go.Proofs.YthlmgpllapccfaaGreatDoor
