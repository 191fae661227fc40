/- PLAIN: a polynomial's text. -/
import Derived.Test.YtaajdcaciofmaaaDoorParse
import Derived.Test.YtaajdcaciofmaaaDoorMods
import Derived.Lib.Join
import Derived.Lib.ItoaNum
namespace Go.Proofs.YtaajdcaciofmaaaDoor

def bs (l : List UInt8) : ByteArray := ⟨l.toArray⟩
theorem bs_append (a b : List UInt8) : bs a ++ bs b = bs (a ++ b) := by
  apply ByteArray.ext
  simp [bs]
theorem bs_inj {a b : List UInt8} (h : bs a = bs b) : a = b := by
  have := congrArg (fun x : ByteArray => x.data.toList) h
  simpa [bs] using this
theorem bs_list (a : List UInt8) : (bs a).data.toList = a := rfl
def dgt (n : Nat) : UInt8 := UInt8.ofNat (48 + n)
def ptx (c : UInt8) (n : Nat) : List UInt8 := if n = 0 then [] else if n = 1 then [c] else [c, dgt n]
def pws (u x : Nat) : List UInt8 := ptx 117 u ++ ptx 120 x
def tmx (n u x : Nat) : List UInt8 := if n = 1 ∧ (u ≠ 0 ∨ x ≠ 0) then pws u x else dgt n :: pws u x
/-- The first k terms, from the top. -/
def tms (p : List Nat) : Nat → List (List UInt8)
  | 0 => []
  | k + 1 => if p.getD (34 - k) 0 = 0 then tms p k else tms p k ++ [tmx (p.getD (34 - k) 0) ((34 - k) % 7) ((34 - k) / 7)]
/-- The text so far, as the document writes it. -/
def wrt (p : List Nat) : Nat → List UInt8
  | 0 => []
  | k + 1 => if p.getD (34 - k) 0 = 0 then wrt p k else (if wrt p k = [] then [] else wrt p k ++ [43]) ++ tmx (p.getD (34 - k) 0) ((34 - k) % 7) ((34 - k) / 7)
def txt (p : List Nat) : List UInt8 := if wrt p 35 = [] then [48] else wrt p 35

theorem ptx_nil {c : UInt8} {n : Nat} : ptx c n = [] ↔ n = 0 := by
  unfold ptx; split
  · simp [*]
  · split <;> simp [*]
theorem pws_nil {u x : Nat} : pws u x = [] ↔ u = 0 ∧ x = 0 := by
  unfold pws; rw [List.append_eq_nil_iff, ptx_nil, ptx_nil]
theorem tmx_ne (n u x : Nat) : tmx n u x ≠ [] := by
  unfold tmx; split
  · rename_i h; intro q; rw [pws_nil] at q; omega
  · simp
theorem tms_ne (p : List Nat) : ∀ k, ∀ t ∈ tms p k, t ≠ []
  | 0, t, h => by simp [tms] at h
  | k + 1, t, h => by
    unfold tms at h
    split at h
    · exact tms_ne p k t h
    · rw [List.mem_append] at h
      rcases h with h | h
      · exact tms_ne p k t h
      · rw [List.mem_singleton] at h; subst h; exact tmx_ne _ _ _
theorem join_snoc (xs : List (List UInt8)) (x sep : List UInt8) (h : xs ≠ []) : Lib.join (xs ++ [x]) sep = Lib.join xs sep ++ sep ++ x := by
  cases xs with
  | nil => exact absurd rfl h
  | cons y r =>
    rw [List.cons_append, Lib.join_cons, Lib.join_cons]
    unfold Lib.joinTail
    simp [List.append_assoc]
theorem join_ne {xs : List (List UInt8)} {sep : List UInt8} (h : ∀ t ∈ xs, t ≠ []) : Lib.join xs sep = [] ↔ xs = [] := by
  cases xs with
  | nil => simp [Lib.join_nil]
  | cons y r =>
    rw [Lib.join_cons]
    have := h y (by simp)
    simp [this]
theorem wrt_join (p : List Nat) : ∀ k, wrt p k = Lib.join (tms p k) [43]
  | 0 => rfl
  | k + 1 => by
    unfold wrt tms
    split
    · exact wrt_join p k
    · rw [wrt_join p k]
      by_cases h : tms p k = []
      · rw [h]
        simp [Lib.join_nil, Lib.join_one]
      · rw [if_neg (fun q => h ((join_ne (tms_ne p k)).1 q)), join_snoc _ _ _ h]
theorem txt_join (p : List Nat) (h : tms p 35 ≠ []) : txt p = Lib.join (tms p 35) [43] := by
  unfold txt; rw [if_neg (by rw [wrt_join]; exact fun q => h ((join_ne (tms_ne p 35)).1 q)), wrt_join]
theorem tms_nil (p : List Nat) : ∀ k, k ≤ 35 → (tms p k = [] ↔ ∀ j, j < k → p.getD (34 - j) 0 = 0)
  | 0, _ => by simp [tms]
  | k + 1, hk => by
    unfold tms
    have ih := tms_nil p k (by omega)
    split
    · rename_i h
      rw [ih]
      constructor
      · intro q j hj
        by_cases e : j = k
        · subst e; exact h
        · exact q j (by omega)
      · intro q j hj; exact q j (by omega)
    · rename_i h
      constructor
      · intro q; simp at q
      · intro q; exact absurd (q k (by omega)) h
theorem txt_zero (p : List Nat) (h : tms p 35 = []) : txt p = [48] := by
  unfold txt; rw [wrt_join, h]; rfl
theorem good_zeros {p : List Nat} (hp : Good p) : tms p 35 = [] ↔ p = zeros := by
  rw [tms_nil p 35 (Nat.le_refl _)]
  constructor
  · intro q
    apply List.ext_getElem
    · rw [hp.1]; rfl
    · intro i h1 h2
      have e := q (34 - i) (by rw [hp.1] at h1; omega)
      rw [show 34 - (34 - i) = i by rw [hp.1] at h1; omega] at e
      rw [List.getD_eq_getElem?_getD, List.getElem?_eq_getElem h1] at e
      simp only [Option.getD_some] at e
      rw [e]
      unfold zeros at h2 ⊢
      rw [List.getElem_replicate]
  · intro q j hj
    subst q
    unfold zeros
    rw [List.getD_eq_getElem?_getD, List.getElem?_replicate]
    split <;> rfl
theorem tmx_len (n u x : Nat) : (tmx n u x).length ≤ 5 := by
  have h : ∀ c m, (ptx c m).length ≤ 2 := by
    intro c m; unfold ptx; split
    · simp
    · split <;> simp
  have h1 := h 117 u
  have h2 := h 120 x
  unfold tmx pws
  split <;> simp <;> omega
theorem tms_len (p : List Nat) : ∀ k, (tms p k).length ≤ k
  | 0 => by simp [tms]
  | k + 1 => by
    have := tms_len p k
    unfold tms; split
    · omega
    · simp; omega
theorem wrt_len (p : List Nat) : ∀ k, (wrt p k).length ≤ 6 * k
  | 0 => by simp [wrt]
  | k + 1 => by
    have := wrt_len p k
    have := tmx_len (p.getD (34 - k) 0) ((34 - k) % 7) ((34 - k) / 7)
    unfold wrt; split
    · omega
    · split <;> simp only [List.length_append, List.length_cons, List.length_nil] <;> omega
theorem dec_small {n : Nat} (h : n < 10) : Lib.decDigits n = [dgt n] := by
  match n, h with
  | 0, _ => decide +kernel
  | 1, _ => decide +kernel
  | 2, _ => decide +kernel
  | 3, _ => decide +kernel
  | 4, _ => decide +kernel
  | 5, _ => decide +kernel
  | 6, _ => decide +kernel
  | 7, _ => decide +kernel
  | 8, _ => decide +kernel
  | 9, _ => decide +kernel
theorem dgt_int {n : Nat} (h : n < 10) : ((dgt n).toNat : Int) = 48 + (n : Int) := by
  unfold dgt
  rw [UInt8.toNat_ofNat']
  omega
end Go.Proofs.YtaajdcaciofmaaaDoor
