import Derived.Lib.Strings
import Derived.Laws.BitsLemmas
import Derived.Lib.ValidLaws
import Derived.WalkKit
namespace Go.Proofs.YtkkaieijbpkleaaDoor
open Go.RowKit

theorem ext_list {a b : ByteArray} (h : a.data.toList = b.data.toList) : a = b := by
  apply ByteArray.ext; exact Array.toList_inj.1 h

/-- The text of no bytes. -/
def emp : ByteArray := ⟨#[]⟩

/-! ### Digits in bytes -/
/-- The digits that stand in bytes, two in each, as letters. -/
def dig2 (l : List UInt8) : List UInt8 := l.flatMap fun c => [UInt8.ofNat (48 + c.toNat / 16), UInt8.ofNat (48 + c.toNat % 16)]
def okL (l : List UInt8) : Bool := l.all fun c => decide (c.toNat / 16 ≤ 9 ∧ c.toNat % 16 ≤ 9)
def okD (s : ByteArray) : Bool := okL s.data.toList
/-- The digits, or nothing. -/
def dg (s : ByteArray) : ByteArray := if okD s then ⟨(dig2 s.data.toList).toArray⟩ else emp
/-- The number that letters say. -/
def vlL (l : List UInt8) : Int := l.foldl (fun n c => 10 * n + ((c.toNat : Int) - 48)) 0
def vl (s : ByteArray) : Int := vlL s.data.toList

theorem dig2_snoc (l : List UInt8) (c : UInt8) : dig2 (l ++ [c]) = dig2 l ++ [UInt8.ofNat (48 + c.toNat / 16), UInt8.ofNat (48 + c.toNat % 16)] := by simp [dig2]
theorem dig2_length (l : List UInt8) : (dig2 l).length = 2 * l.length := by
  induction l with
  | nil => rfl
  | cons c l ih => simp [dig2] at *; omega
theorem okL_snoc (l : List UInt8) (c : UInt8) : okL (l ++ [c]) = (okL l && decide (c.toNat / 16 ≤ 9 ∧ c.toNat % 16 ≤ 9)) := by simp [okL]
theorem vlL_snoc (l : List UInt8) (c : UInt8) : vlL (l ++ [c]) = 10 * vlL l + ((c.toNat : Int) - 48) := by simp [vlL]
/-- All letters are digits. -/
def isDig (l : List UInt8) : Prop := ∀ c ∈ l, 48 ≤ c.toNat ∧ c.toNat ≤ 57
theorem dig2_isDig (l : List UInt8) (h : okL l = true) : isDig (dig2 l) := by
  intro c hc
  simp only [dig2, List.mem_flatMap] at hc
  obtain ⟨x, hx, hc⟩ := hc
  have h1 := List.all_eq_true.1 h x hx
  have h2 := of_decide_eq_true h1
  have h3 := x.toNat_lt
  simp only [List.mem_cons, List.not_mem_nil, or_false] at hc
  rcases hc with rfl | rfl <;> simp [UInt8.toNat_ofNat'] <;> omega
theorem dg_isDig (s : ByteArray) : isDig (dg s).data.toList := by
  unfold dg
  split
  · rename_i h; simpa using dig2_isDig _ h
  · intro c hc; simp [emp] at hc
theorem dg_size (s : ByteArray) : (dg s).size ≤ 2 * s.size := by
  unfold dg
  split
  · show ((dig2 s.data.toList).toArray).size ≤ _
    rw [List.size_toArray, dig2_length, Lib.size_eq]; omega
  · exact Nat.zero_le _
theorem vlL_bound (l : List UInt8) (h : isDig l) : 0 ≤ vlL l ∧ vlL l < 10 ^ l.length := by
  have key : ∀ (l : List UInt8) (n : Int) (k : Nat), isDig l → 0 ≤ n → n < 10 ^ k → 0 ≤ l.foldl (fun n c => 10 * n + ((c.toNat : Int) - 48)) n ∧ l.foldl (fun n c => 10 * n + ((c.toNat : Int) - 48)) n < 10 ^ (k + l.length) := by
    intro l
    induction l with
    | nil => intro n k _ h0 h1; simpa using ⟨h0, h1⟩
    | cons c l ih =>
      intro n k hd h0 h1
      have hc := hd c (by simp)
      have h2 : (10 : Int) ^ (k + 1) = 10 * 10 ^ k := by rw [Int.pow_succ, Int.mul_comm]
      have := ih (10 * n + ((c.toNat : Int) - 48)) (k + 1) (fun x hx => hd x (by simp [hx])) (by omega) (by rw [h2]; omega)
      simp only [List.foldl_cons, List.length_cons]
      rw [show k + (l.length + 1) = k + 1 + l.length by omega]
      exact this
  have := key l 0 0 h (by omega) (by simp)
  unfold vlL
  simpa using this

/-! ### The reader, as plain functions: what is answered, what is left, whether something was wrong -/
def takeP (s : ByteArray) (b : Bool) (n : Nat) : ByteArray × ByteArray × Bool := if s.size < n then (emp, s, true) else (s.extract 0 n, s.extract n s.size, b)
def digitsP (s : ByteArray) (b : Bool) (n : Nat) : ByteArray × ByteArray × Bool := (dg (takeP s b n).1, (takeP s b n).2.1, (takeP s b n).2.2 || !okD (takeP s b n).1)
def numberP (s : ByteArray) (b : Bool) (n : Nat) : Int × ByteArray × Bool := (vl (digitsP s b n).1, (digitsP s b n).2)
def countP (s : ByteArray) (b : Bool) (lo hi : Int) : Int × ByteArray × Bool :=
  if (numberP s b 1).1 < lo ∨ hi < (numberP s b 1).1 then (0, (numberP s b 1).2.1, true) else numberP s b 1
/-- Does a text begin with the letter 0? -/
def zero0 (d : ByteArray) : Bool := Lib.hasPrefix d.data.toList [48]
def cut0 (d : ByteArray) : ByteArray := ⟨(Lib.trimPrefix d.data.toList [48]).toArray⟩
def panP (s : ByteArray) (b : Bool) : ByteArray × ByteArray × Bool :=
  let c := countP s b 12 19
  let d := digitsP c.2.1 c.2.2 ((c.1.toNat + 1) / 2)
  if c.1 % 2 = 0 then d else (cut0 d.1, d.2.1, d.2.2 || !zero0 d.1)
def plainL (l : List UInt8) : Bool := l.all fun c => decide (32 ≤ c.toNat ∧ c.toNat ≤ 126)
def plainP (s : ByteArray) (b : Bool) (n : Nat) : ByteArray × ByteArray × Bool := ((takeP s b n).1, (takeP s b n).2.1, (takeP s b n).2.2 || !plainL (takeP s b n).1.data.toList)
/-- A name: UTF-8, without the runes below 32 and 127. -/
def nameL (l : List UInt8) : Bool := Lib.validD l && l.all fun c => !(decide (c.toNat < 32 ∨ c.toNat = 127))
def nameP (s : ByteArray) (b : Bool) : ByteArray × ByteArray × Bool :=
  let c := countP s b 0 40
  let t := takeP c.2.1 c.2.2 c.1.toNat
  (t.1, t.2.1, t.2.2 || !nameL t.1.data.toList)

theorem plainL_snoc (l : List UInt8) (c : UInt8) : plainL (l ++ [c]) = (plainL l && decide (32 ≤ c.toNat ∧ c.toNat ≤ 126)) := by simp [plainL]
theorem takeP_size (s : ByteArray) (b : Bool) (n : Nat) : (takeP s b n).1.size ≤ n := by
  unfold takeP
  split
  · exact Nat.zero_le _
  · show (s.extract 0 n).size ≤ n
    rw [ByteArray.size_extract]; omega
theorem numberP_bound (s : ByteArray) (b : Bool) (n : Nat) : 0 ≤ (numberP s b n).1 ∧ (numberP s b n).1 < 10 ^ (2 * n) := by
  have h := vlL_bound _ (dg_isDig (takeP s b n).1)
  refine ⟨h.1, Int.lt_of_lt_of_le h.2 ?_⟩
  have h1 := dg_size (takeP s b n).1
  have h2 := takeP_size s b n
  rw [← Lib.size_eq]
  have h3 : 10 ^ (dg (takeP s b n).1).size ≤ 10 ^ (2 * n) := Nat.pow_le_pow_right (by omega) (by omega)
  exact_mod_cast h3
theorem countP_bound (s : ByteArray) (b : Bool) (lo hi : Int) (h0 : 0 ≤ hi) : 0 ≤ (countP s b lo hi).1 ∧ (countP s b lo hi).1 ≤ hi := by
  have := numberP_bound s b 1
  unfold countP
  split
  · exact ⟨by simp, h0⟩
  · omega

end Go.Proofs.YtkkaieijbpkleaaDoor
