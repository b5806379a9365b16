import Derived.Test.YtkkaieijbpkleaaChecked
import Derived.Test.YtkkaieijbpkleaaM
import Derived.WalkKit
import Derived.WalkSpells
import Derived.WalkLawsBesides
import Derived.Deep.QuietTactic
import Derived.BigQuiet
namespace Go.Proofs.Ytkkaieijbpkleaa
open Go.RowKit

theorem ret_int {k : IntKind} {a b : Int} (h : a = b) : Ending.returned (.int k a) = .returned (.int k b) := by rw [h]
theorem ret_bool {a b : Bool} (h : a = b) : Ending.returned (.bool a) = .returned (.bool b) := by rw [h]
theorem w64 (n : Int) (h0 : 0 ≤ n) (h1 : n < 9223372036854775808) : wrap64 n = n := by
  unfold wrap64; omega

theorem sized_any (s : ByteArray) (w : World) : Calls Try.prog 17 #[.string s] w fun e w' => e = .returned (.bool (decide (2 ≤ s.size))) ∧ w = w' := by
  go_enter Try.func17, Try.ntmps17
  go_wp2
  go_ret
  exact ⟨ret_bool (by simp; omega), rfl⟩

theorem size_any (s : ByteArray) (w : World) (h : 2 ≤ s.size) : Calls Try.prog 15 #[.string s] w fun e w' => e = .returned (.int .i64 (sz s)) ∧ ∃ n, w' = w.drewN n := by
  have h0 : 0 < s.size := by omega
  have h1 : 1 < s.size := by omega
  have h1' : (1 : Int) < (s.size : Int) := by omega
  have b0 := b8_lt s 0
  have b1 := b8_lt s 1
  go_enter Try.func15, Try.ntmps15
  go_wp2
  go_quiet (fail)
  go_wp2
  go_ret
  refine ⟨ret_int ?_, _, rfl⟩
  rw [b8_of s 0 h0, b8_of s 1 h1, w64 (b8 s 0 : Int) (by omega) (by omega), w64 (b8 s 1 : Int) (by omega) (by omega), w64 _ (by omega) (by omega)]
  exact sz_or s

theorem number_any (s : ByteArray) (w : World) (h : 2 ≤ s.size) : Calls Try.prog 12 #[.string s] w fun e w' => e = .returned (.int .i64 (sz s)) ∧ ∃ n, w' = w.drewN n := by
  have h0 : 0 < s.size := by omega
  have h1 : 1 < s.size := by omega
  have h1' : (1 : Int) < (s.size : Int) := by omega
  have b0 := b8_lt s 0
  have b1 := b8_lt s 1
  go_enter Try.func12, Try.ntmps12
  go_wp2
  go_quiet (fail)
  go_wp2
  go_ret
  refine ⟨ret_int ?_, _, rfl⟩
  rw [b8_of s 0 h0, b8_of s 1 h1, w64 (b8 s 0 : Int) (by omega) (by omega), w64 (b8 s 1 : Int) (by omega) (by omega), w64 (256 * (b8 s 0 : Int)) (by omega) (by omega), w64 _ (by omega) (by omega)]
  unfold sz; omega

theorem broken_any (s : ByteArray) (w : World) : Calls Try.prog 11 #[.string s] w fun e w' => e = .returned (.bool (brk s)) ∧ ∃ n, w' = w.drewN n := by
  have hz := sz_lt s
  by_cases h : 2 ≤ s.size
  · have hd : decide (2 ≤ s.size) = true := by simpa using h
    go_enter Try.func11, Try.ntmps11
    go_wp2_with (first | (go_at_call 17; refine (sized_any _ _).mono ?_; rintro e w' ⟨rfl, rfl⟩; rw [hd]) | (go_at_call 15; refine (size_any _ _ h).mono ?_; rintro e w' ⟨rfl, n, rfl⟩))
    all_goals go_ret
    all_goals refine ⟨ret_bool ?_, _, rfl⟩
    · unfold brk; rw [Bool.eq_iff_iff]; simp only [Bool.or_eq_true, decide_eq_true_eq]; omega
    · unfold brk; simp [h]; omega
  · have hd : decide (2 ≤ s.size) = false := by simpa using h
    go_enter Try.func11, Try.ntmps11
    go_wp2_with (go_at_call 17; refine (sized_any _ _).mono ?_; rintro e w' ⟨rfl, rfl⟩; rw [hd])
    go_ret
    refine ⟨ret_bool ?_, 0, rfl⟩
    unfold brk; simp; omega

theorem whole_any (s : ByteArray) (w : World) : Calls Try.prog 14 #[.string s] w fun e w' => e = .returned (.bool (whl s)) ∧ ∃ n, w' = w.drewN n := by
  have hz := sz_lt s
  by_cases h : 2 ≤ s.size
  · have hd : decide (2 ≤ s.size) = true := by simpa using h
    by_cases hb : brk s = true
    · go_enter Try.func14, Try.ntmps14
      go_wp2_with (first | (go_at_call 17; refine (sized_any _ _).mono ?_; rintro e w' ⟨rfl, rfl⟩; rw [hd]) | (go_at_call 11; refine (broken_any _ _).mono ?_; rintro e w' ⟨rfl, n, rfl⟩; rw [hb]))
      go_ret
      refine ⟨ret_bool ?_, _, rfl⟩
      have hb' := of_decide_eq_true hb
      unfold whl; simp; omega
    · have hb : brk s = false := by simpa using hb
      go_enter Try.func14, Try.ntmps14
      go_wp2_with (first | (go_at_call 17; refine (sized_any _ _).mono ?_; rintro e w' ⟨rfl, rfl⟩; rw [hd]) | (go_at_call 11; refine (broken_any _ _).mono ?_; rintro e w' ⟨rfl, n, rfl⟩; rw [hb]) | (go_at_call 15; refine (size_any _ _ h).mono ?_; rintro e w' ⟨rfl, n, rfl⟩))
      go_ret
      refine ⟨ret_bool ?_, _, rfl⟩
      have hb' := of_decide_eq_false hb
      unfold whl; rw [Bool.eq_iff_iff]; simp only [decide_eq_true_eq]; omega
  · have hd : decide (2 ≤ s.size) = false := by simpa using h
    go_enter Try.func14, Try.ntmps14
    go_wp2_with (go_at_call 17; refine (sized_any _ _).mono ?_; rintro e w' ⟨rfl, rfl⟩; rw [hd])
    go_ret
    refine ⟨ret_bool ?_, 0, rfl⟩
    unfold whl; simp; omega
end Go.Proofs.Ytkkaieijbpkleaa
