import Derived.Lib.Strings
import Derived.Laws.BitsLemmas
import Derived.WalkKit
namespace Go.Proofs.Ytkkaieijbpkleaa
open Go.RowKit

/-- The byte at a place, 0 beyond the end. -/
def b8 (s : ByteArray) (i : Nat) : Nat := (s.data.toList.getD i 0).toNat
/-- The number of two bytes at the front. -/
def sz (s : ByteArray) : Nat := 256 * b8 s 0 + b8 s 1
def whl (s : ByteArray) : Bool := decide (2 ≤ s.size ∧ 1 ≤ sz s ∧ sz s ≤ 200 ∧ 2 + sz s ≤ s.size)
def brk (s : ByteArray) : Bool := decide (2 ≤ s.size ∧ (sz s < 1 ∨ 200 < sz s))
/-- What is left from a place on. -/
def tl (t : ByteArray) (p : Nat) : ByteArray := t.extract p t.size
/-- Where the frame of a number begins. -/
def pos (t : ByteArray) : Nat → Nat
  | 0 => 0
  | k + 1 => pos t k + 2 + sz (tl t (pos t k))
def fr (t : ByteArray) (p : Nat) : ByteArray := t.extract (p + 2) (p + 2 + sz (tl t p))
def cntF (t : ByteArray) : Nat → Nat → Nat
  | 0, k => k
  | f + 1, k => if whl (tl t (pos t k)) then cntF t f (k + 1) else k
def cnt (t : ByteArray) : Nat := cntF t (t.size + 1) 0

theorem b8_lt (s : ByteArray) (i : Nat) : b8 s i < 256 := by
  unfold b8; exact UInt8.toNat_lt _
theorem b8_of (s : ByteArray) (i : Nat) (h : i < s.size) : (s[i]).toNat = b8 s i := by
  unfold b8
  rw [List.getD_eq_getElem?_getD, List.getElem?_eq_getElem (by rw [← Lib.size_eq]; exact h)]
  rfl
theorem sz_lt (s : ByteArray) : sz s < 65536 := by
  have := b8_lt s 0; have := b8_lt s 1; unfold sz; omega
theorem tl_size (t : ByteArray) (p : Nat) : (tl t p).size = t.size - p := by
  unfold tl; rw [ByteArray.size_extract]; omega
theorem tl_zero (t : ByteArray) : tl t 0 = t := by
  unfold tl; exact ByteArray.extract_zero_size
theorem data_tl (t : ByteArray) (p : Nat) : (tl t p).data.toList = t.data.toList.drop p := by
  unfold tl; rw [Lib.extract_data, List.take_of_length_le (by rw [List.length_drop, Lib.size_eq]; omega)]
theorem ext_list {a b : ByteArray} (h : a.data.toList = b.data.toList) : a = b := by
  apply ByteArray.ext; exact Array.toList_inj.1 h
theorem tl_extract (t : ByteArray) (p a b : Nat) : (tl t p).extract a b = t.extract (p + a) (p + b) := by
  apply ext_list
  rw [Lib.extract_data, Lib.extract_data, data_tl, List.drop_drop]
  rw [show p + b - (p + a) = b - a by omega]
theorem tl_tail (t : ByteArray) (p a : Nat) : (tl t p).extract a (tl t p).size = tl t (p + a) := by
  apply ext_list
  rw [Lib.extract_data, data_tl, data_tl, List.drop_drop, List.take_of_length_le]
  rw [List.length_drop, tl_size, Lib.size_eq]; omega
theorem sz_two (t : ByteArray) (p : Nat) (_h : p + 2 ≤ t.size) : sz (t.extract p (p + 2)) = sz (tl t p) := by
  unfold sz b8
  rw [Lib.extract_data, data_tl]
  simp [List.getD_eq_getElem?_getD]

theorem sz_or (s : ByteArray) : bits .or .i64 ((b8 s 0 : Int) * 256) (b8 s 1 : Int) = (sz s : Int) := by
  have h0 := b8_lt s 0
  have h1 := b8_lt s 1
  rw [bits_join .i64 16 (by decide) (fun n h0 h1 => by simp [IntKind.wrap, IntKind.bits, IntKind.signed]; omega) 8 _ _ (by omega) (by omega) (by omega) (by omega) (by omega) (by omega)]
  unfold sz; omega

theorem pos_succ (t : ByteArray) (k : Nat) : pos t (k + 1) = pos t k + 2 + sz (tl t (pos t k)) := rfl

theorem cntF_spec (t : ByteArray) : ∀ (f k : Nat), (∀ j, j < k → whl (tl t (pos t j)) = true) → t.size + 1 ≤ f + k → 
    (∀ j, j < cntF t f k → whl (tl t (pos t j)) = true) ∧ whl (tl t (pos t (cntF t f k))) = false := by
  have grow : ∀ k, (∀ j, j < k → whl (tl t (pos t j)) = true) → k ≤ pos t k ∧ pos t k ≤ t.size := by
    intro k
    induction k with
    | zero => intro _; exact ⟨Nat.zero_le _, Nat.zero_le _⟩
    | succ k ih =>
      intro h
      have h1 := ih (fun j hj => h j (by omega))
      have h2 := of_decide_eq_true (h k (by omega))
      rw [tl_size] at h2
      rw [pos_succ]
      omega
  intro f
  induction f with
  | zero =>
    intro k h hk
    have := grow k h
    omega
  | succ f ih =>
    intro k h hk
    unfold cntF
    by_cases hw : whl (tl t (pos t k)) = true
    · rw [if_pos hw]
      refine ih (k + 1) (fun j hj => ?_) (by omega)
      by_cases e : j = k
      · subst e; exact hw
      · exact h j (by omega)
    · rw [if_neg hw]
      exact ⟨h, by simpa using hw⟩

theorem cnt_all (t : ByteArray) : (∀ j, j < cnt t → whl (tl t (pos t j)) = true) ∧ whl (tl t (pos t (cnt t))) = false :=
  cntF_spec t (t.size + 1) 0 (fun j hj => absurd hj (by omega)) (by omega)

theorem pos_le (t : ByteArray) (k : Nat) (h : k ≤ cnt t) : 3 * k ≤ pos t k ∧ pos t k ≤ t.size := by
  induction k with
  | zero => exact ⟨Nat.zero_le _, Nat.zero_le _⟩
  | succ k ih =>
    have h1 := ih (by omega)
    have h2 := of_decide_eq_true ((cnt_all t).1 k (by omega))
    rw [tl_size] at h2
    rw [pos_succ]
    omega
theorem cnt_lt (t : ByteArray) (k : Nat) (h : k ≤ cnt t) : whl (tl t (pos t k)) = decide (k < cnt t) := by
  by_cases e : k < cnt t
  · rw [(cnt_all t).1 k e]; simp [e]
  · have : k = cnt t := by omega
    subst this
    rw [(cnt_all t).2]; simp
theorem cnt_le (t : ByteArray) : cnt t ≤ t.size := by
  have := pos_le t (cnt t) (Nat.le_refl _)
  omega

/-- The frames, and what is behind each. -/
def frs (t : ByteArray) (k : Nat) : List ByteArray := (List.range k).map fun j => fr t (pos t j)
theorem frs_succ (t : ByteArray) (k : Nat) : frs t (k + 1) = frs t k ++ [fr t (pos t k)] := by
  unfold frs; rw [List.range_succ, List.map_append]; rfl
theorem frs_length (t : ByteArray) (k : Nat) : (frs t k).length = k := by simp [frs]
theorem fr_size (t : ByteArray) (p : Nat) : (fr t p).size ≤ 1048576 := by
  have := sz_lt (tl t p)
  unfold fr
  rw [ByteArray.size_extract]
  omega
/-- What a round is handed: a frame that is not great, and what is behind it. -/
abbrev Pr := { x : ByteArray × ByteArray // x.1.size ≤ 1048576 }
def pairs (t : ByteArray) (k : Nat) : List Pr := (List.range k).map fun j => ⟨(fr t (pos t j), tl t (pos t (j + 1))), fr_size t (pos t j)⟩
theorem pairs_succ (t : ByteArray) (k : Nat) : pairs t (k + 1) = pairs t k ++ [⟨(fr t (pos t k), tl t (pos t (k + 1))), fr_size t (pos t k)⟩] := by
  unfold pairs; rw [List.range_succ, List.map_append]; rfl
theorem pairs_length (t : ByteArray) (k : Nat) : (pairs t k).length = k := by simp [pairs]
/-- What is left behind the last that came. -/
def lastOf (t : ByteArray) (pre : List Pr) : ByteArray := (pre.getLast?.map fun x => x.1.2).getD t
theorem lastOf_snoc (t : ByteArray) (pre : List Pr) (x : Pr) : lastOf t (pre ++ [x]) = x.1.2 := by simp [lastOf]
theorem lastOf_pairs (t : ByteArray) (k : Nat) : lastOf t (pairs t k) = tl t (pos t k) := by
  cases k with
  | zero => simp [lastOf, pairs, pos, tl_zero]
  | succ k => rw [pairs_succ, lastOf_snoc]
theorem frs_pairs (t : ByteArray) (k : Nat) : (pairs t k).map (fun x => Value.string x.1.1) = (frs t k).map Value.string := by
  simp [pairs, frs]

end Go.Proofs.Ytkkaieijbpkleaa
