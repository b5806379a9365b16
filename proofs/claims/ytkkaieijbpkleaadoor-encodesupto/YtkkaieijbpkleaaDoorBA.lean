import Derived.Test.YtkkaieijbpkleaaDoorF
import Derived.Lib.ItoaNum
namespace Go.Proofs.YtkkaieijbpkleaaDoor
open Go.RowKit

/-! ### Numbers in digits, digits in bytes -/
/-- So many digits of a number. -/
def decR : Nat → Nat → List UInt8
  | 0, _ => []
  | k + 1, n => decR k (n / 10) ++ [UInt8.ofNat (48 + n % 10)]
theorem decR_length : ∀ k n, (decR k n).length = k
  | 0, _ => rfl
  | k + 1, n => by simp [decR, decR_length k]
theorem decR_zero : ∀ k, decR k 0 = List.replicate k 48
  | 0 => rfl
  | k + 1 => by
    rw [decR, Nat.zero_div, decR_zero k, List.replicate_succ']
    rfl
theorem decR_vlr : ∀ r : List UInt8, isDig r.reverse → decR r.length (vlL r.reverse).toNat = r.reverse
  | [], _ => rfl
  | c :: r, hd => by
    rw [List.reverse_cons] at hd ⊢
    have hl : isDig r.reverse := fun x hx => hd x (List.mem_append_left _ hx)
    obtain ⟨h1, h2⟩ := hd c (by simp)
    have hv := (vlL_bound _ hl).1
    rw [List.length_cons, decR, vlL_snoc]
    have e1 : (10 * vlL r.reverse + ((c.toNat : Int) - 48)).toNat / 10 = (vlL r.reverse).toNat := by omega
    have e2 : 48 + (10 * vlL r.reverse + ((c.toNat : Int) - 48)).toNat % 10 = c.toNat := by omega
    rw [e1, e2, decR_vlr r hl, UInt8.ofNat_toNat]
theorem decR_vl (l : List UInt8) (h : isDig l) : decR l.length (vlL l).toNat = l := by
  have := decR_vlr l.reverse (by rw [List.reverse_reverse]; exact h)
  rwa [List.reverse_reverse, List.length_reverse] at this
theorem pad_dec : ∀ (k u : Nat), 1 ≤ k → u < 10 ^ k → List.replicate (k - (Lib.decDigits u).length) 48 ++ Lib.decDigits u = decR k u
  | 0, _, h, _ => by omega
  | k + 1, u, _, hu => by
    by_cases h10 : u < 10
    · rw [Lib.decDigits, dif_pos h10, decR, Nat.div_eq_of_lt h10, decR_zero, Nat.mod_eq_of_lt h10]
      simp
    · have hk : 1 ≤ k := by
        cases k with
        | zero => simp at hu; omega
        | succ => omega
      rw [Lib.decDigits, dif_neg h10, decR, ← pad_dec k (u / 10) hk (by rw [Nat.pow_succ] at hu; omega)]
      simp

/-- Two digits in a byte, as the program makes it, and as the reference does. -/
def byI (a b : UInt8) : UInt8 := UInt8.ofNat ((((a.toNat + 208) % 256) * 16 % 256) ||| ((b.toNat + 208) % 256))
def byR (a b : UInt8) : UInt8 := UInt8.ofNat ((16 * (a.toNat + 208) + b.toNat + 208) % 256)
def pkI : List UInt8 → List UInt8
  | a :: b :: t => byI a b :: pkI t
  | _ => []
def pkR : List UInt8 → List UInt8
  | a :: b :: t => byR a b :: pkR t
  | _ => []
set_option maxRecDepth 100000 in
theorem by_all : ∀ c : Fin 256, c.val / 16 ≤ 9 → c.val % 16 ≤ 9 → byI (UInt8.ofNat (48 + c.val / 16)) (UInt8.ofNat (48 + c.val % 16)) = UInt8.ofNat c.val ∧ byR (UInt8.ofNat (48 + c.val / 16)) (UInt8.ofNat (48 + c.val % 16)) = UInt8.ofNat c.val := by decide +kernel
theorem by_inv (c : UInt8) (h1 : c.toNat / 16 ≤ 9) (h2 : c.toNat % 16 ≤ 9) : byI (UInt8.ofNat (48 + c.toNat / 16)) (UInt8.ofNat (48 + c.toNat % 16)) = c ∧ byR (UInt8.ofNat (48 + c.toNat / 16)) (UInt8.ofNat (48 + c.toNat % 16)) = c := by
  have := by_all ⟨c.toNat, c.toNat_lt⟩ h1 h2
  simpa using this
theorem pk_dig2 (l : List UInt8) (h : okL l = true) : pkI (dig2 l) = l ∧ pkR (dig2 l) = l := by
  induction l with
  | nil => exact ⟨rfl, rfl⟩
  | cons c l ih =>
    have hc : c.toNat / 16 ≤ 9 ∧ c.toNat % 16 ≤ 9 := of_decide_eq_true (List.all_eq_true.1 h c (by simp))
    have hl : okL l = true := List.all_eq_true.2 fun x hx => List.all_eq_true.1 h x (by simp [hx])
    obtain ⟨i1, i2⟩ := ih hl
    obtain ⟨b1, b2⟩ := by_inv c hc.1 hc.2
    have e : dig2 (c :: l) = UInt8.ofNat (48 + c.toNat / 16) :: UInt8.ofNat (48 + c.toNat % 16) :: dig2 l := rfl
    rw [e]
    exact ⟨by rw [pkI, b1, i1], by rw [pkR, b2, i2]⟩

def evenL (d : List UInt8) : List UInt8 := if d.length % 2 = 1 then 48 :: d else d
/-- A number in so many bytes, as the program writes it. -/
def numI (n : Int) (k : Nat) : List UInt8 := pkI (evenL (List.replicate (2 * k - (Lib.itoa n).length) 48 ++ Lib.itoa n))
def numR (n : Nat) (k : Nat) : List UInt8 := pkR (decR (2 * k) n)

theorem itoa_nat (u : Nat) : Lib.itoa (u : Int) = Lib.decDigits u := by
  unfold Lib.itoa
  rw [if_neg (by omega), Int.toNat_natCast]
/-- Bytes that are digits are what is written of their number. -/
theorem num_back (t : List UInt8) (h : okL t = true) (h1 : 1 ≤ t.length) : numI (vlL (dig2 t)) t.length = t ∧ numR (vlL (dig2 t)).toNat t.length = t := by
  have hd := dig2_isDig t h
  have hb := vlL_bound _ hd
  have hl := dig2_length t
  have hv := decR_vl _ hd
  rw [hl] at hb hv
  obtain ⟨p1, p2⟩ := pk_dig2 t h
  refine ⟨?_, by unfold numR; rw [hv, p2]⟩
  obtain ⟨u, hu⟩ := Int.eq_ofNat_of_zero_le hb.1
  have hu2 : u < 10 ^ (2 * t.length) := by
    have := hb.2
    rw [hu] at this
    exact_mod_cast this
  rw [hu, Int.toNat_natCast] at hv
  unfold numI
  rw [hu, itoa_nat, pad_dec _ _ (by omega) hu2, hv, evenL, if_neg (by rw [hl]; omega), p1]
end Go.Proofs.YtkkaieijbpkleaaDoor
