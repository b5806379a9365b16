import Derived.Test.YtkkaieijbpkleaaDoorL
import Derived.OwnWalk
namespace Go.Proofs.YtkkaieijbpkleaaDoor
open Go.RowKit Go.Shelf

set_option maxRecDepth 100000 in
set_option maxHeartbeats 1000000 in
theorem rvalue_any (s : ByteArray) (w : World) (hd : isDig s.data.toList) (hs : s.size ≤ 12) : Calls Tryd.prog 42 #[.string s] w fun e w' => e = .returned (.int .i64 (vl s)) ∧ w = w' := by
  have HD := hide hd
  clear hd
  go_enter Tryd.func42, Tryd.ntmps42
  go_wp2
  go_loopw [3, 4] (fun n i wr => ∃ k : Nat, k ≤ s.size ∧ i = .int .i64 k ∧ n = .int .i64 (vlL (s.data.toList.take k)) ∧ wr = w) (fun _ i _ => s.size - (intOf i).toNat)
  case atStart => exact ⟨0, Nat.zero_le _, rfl, rfl, rfl⟩
  case round =>
    obtain ⟨k, hk, rfl, rfl, rfl⟩ := hrel
    by_cases hlt : k < s.size
    · obtain ⟨hd1, hd2⟩ : 48 ≤ s[k].toNat ∧ s[k].toNat ≤ 57 := unhide HD s[k] (List.getElem_mem (by rw [← Lib.size_eq]; exact hlt))
      obtain ⟨hv1, hv2⟩ := vl_small (s.data.toList.take k) (fun c hc => unhide HD c (List.mem_of_mem_take hc)) (by rw [List.length_take]; omega)
      have hvs : vlL (s.data.toList.take (k + 1)) = 10 * vlL (s.data.toList.take k) + (s[k].toNat : Int) - 48 := by rw [take_next s k hlt, vlL_snoc]; omega
      generalize vlL (s.data.toList.take k) = x at hv1 hv2 hvs ⊢
      have HV := hide hvs
      clear hvs
      go_wp2
      go_roundw
      case rel => exact ⟨k + 1, by omega, by go_num, by rw [unhide HV], trivial⟩
      case measure => simp [intOf]; omega
    · rw [take_all s k hlt]
      go_wp2
      go_ret
      exact ⟨rfl, rfl⟩

def cutR (s : ByteArray) (n : Nat) : ByteArray × ByteArray × Bool := if s.size < n then (emp, emp, false) else (s.extract 0 n, s.extract n s.size, true)
theorem rcut_any (s : ByteArray) (n : Nat) (w : World) (_ : n ≤ 1000) (_ : s.size ≤ 9223372036854775807) : Calls Tryd.prog 38 #[.string s, .int .i64 n] w fun e w' => e = .returned (.tuple #[.string (cutR s n).1, .string (cutR s n).2.1, .bool (cutR s n).2.2]) ∧ Below w.heap.size w w' := by
  unfold cutR
  by_cases h : s.size < n
  · rw [if_pos h]
    have hi : (s.size : Int) < (n : Int) := by omega
    go_enter Tryd.func38, Tryd.ntmps38
    go_wp2
    go_ret3
    exact ⟨rfl, Below.refl _ _⟩
  · rw [if_neg h]
    have hi : ¬ (s.size : Int) < (n : Int) := by omega
    have hle : n ≤ s.size := by omega
    go_enter Tryd.func38, Tryd.ntmps38
    go_wp2
    go_quiet (fail)
    go_wp2
    go_ret3
    exact ⟨rfl, below_drawn (Below.refl _ _)⟩

theorem cutR_size (s : ByteArray) (n : Nat) : (cutR s n).1.size ≤ n ∧ (cutR s n).2.1.size ≤ s.size := by
  unfold cutR
  split
  · exact ⟨Nat.zero_le _, Nat.zero_le _⟩
  · show (s.extract 0 n).size ≤ n ∧ (s.extract n s.size).size ≤ s.size
    rw [ByteArray.size_extract, ByteArray.size_extract]; omega

def countR (s : ByteArray) (lo hi : Int) : Int × ByteArray × Bool :=
  if (cutR s 1).2.2 = false then (0, emp, false)
  else if okD (cutR s 1).1 = false then (0, emp, false)
  else (vl (dg (cutR s 1).1), (cutR s 1).2.1, decide (lo ≤ vl (dg (cutR s 1).1)) && decide (vl (dg (cutR s 1).1) ≤ hi))

theorem rcounted_any (s : ByteArray) (lo hi : Int) (w : World) (hs : s.size ≤ 9223372036854775807) : Calls Tryd.prog 40 #[.string s, .int .i64 lo, .int .i64 hi] w fun e w' => e = .returned (.tuple #[.int .i64 (countR s lo hi).1, .string (countR s lo hi).2.1, .bool (countR s lo hi).2.2]) ∧ Below w.heap.size w w' := by
  have hcall := fun w => rcut_any s 1 w (by omega) hs
  have hsz := (cutR_size s 1).1
  unfold countR
  generalize cutR s 1 = q at hcall hsz ⊢
  obtain ⟨t, r, ok⟩ := q
  dsimp only at hcall hsz ⊢
  have HC := hide hcall
  clear hcall
  cases ok with
  | false =>
    rw [if_pos rfl]
    go_enter Tryd.func40, Tryd.ntmps40
    go_wp2_with (go_at_call 38; refine (unhide HC _).mono ?_; rintro e w1 ⟨rfl, hb1⟩)
    go_ret3
    exact ⟨rfl, hb1⟩
  | true =>
    rw [if_neg (by simp)]
    have hdig := fun w => rdigits_any t w (by omega)
    have hv := fun w => rvalue_any (dg t) w (dg_isDig t) (by have := dg_size t; omega)
    generalize vl (dg t) = n at hv ⊢
    have HV := hide hv
    cases hok : okD t with
    | false =>
      rw [hok] at hdig
      rw [if_pos rfl]
      have HD := hide hdig
      clear hdig hok hv
      go_enter Tryd.func40, Tryd.ntmps40
      go_wp2_with (first | (go_at_call 38; refine (unhide HC _).mono ?_; rintro e w1 ⟨rfl, hb1⟩) | (go_at_call 22; refine (unhide HD _).mono ?_; rintro e w2 ⟨rfl, hb2⟩))
      go_ret3
      exact ⟨rfl, hb1.trans (hb2.mono hb1.size)⟩
    | true =>
      rw [hok] at hdig
      rw [if_neg (by simp)]
      have HD := hide hdig
      clear hdig hok hv
      by_cases h1 : lo ≤ n
      · have e1 : decide (lo ≤ n) = true := decide_eq_true h1
        rw [e1]
        clear e1
        go_enter Tryd.func40, Tryd.ntmps40
        go_wp2_with (first | (go_at_call 38; refine (unhide HC _).mono ?_; rintro e w1 ⟨rfl, hb1⟩) | (go_at_call 22; refine (unhide HD _).mono ?_; rintro e w2 ⟨rfl, hb2⟩) | (go_at_call 42; refine (unhide HV _).mono ?_; rintro e w3 ⟨rfl, rfl⟩))
        go_ret3
        exact ⟨rfl, hb1.trans (hb2.mono hb1.size)⟩
      · have e1 : decide (lo ≤ n) = false := decide_eq_false h1
        rw [e1]
        clear e1
        go_enter Tryd.func40, Tryd.ntmps40
        go_wp2_with (first | (go_at_call 38; refine (unhide HC _).mono ?_; rintro e w1 ⟨rfl, hb1⟩) | (go_at_call 22; refine (unhide HD _).mono ?_; rintro e w2 ⟨rfl, hb2⟩) | (go_at_call 42; refine (unhide HV _).mono ?_; rintro e w3 ⟨rfl, rfl⟩))
        go_ret3
        exact ⟨rfl, hb1.trans (hb2.mono hb1.size)⟩

set_option maxRecDepth 100000 in
set_option maxHeartbeats 1000000 in
theorem rplain_any (s : ByteArray) (w : World) (hs : s.size ≤ 1000) : Calls Tryd.prog 39 #[.string s] w fun e w' => e = .returned (.bool (plainL s.data.toList)) ∧ w = w' := by
  go_enter Tryd.func39, Tryd.ntmps39
  go_wp2
  go_loopw [3] (fun i wr => ∃ k : Nat, k ≤ s.size ∧ i = .int .i64 k ∧ Hid (plainL (s.data.toList.take k) = true) ∧ wr = w) (fun i _ => s.size - (intOf i).toNat)
  case atStart => exact ⟨0, Nat.zero_le _, rfl, rfl, rfl⟩
  case round =>
    obtain ⟨k, hk, rfl, HF, rfl⟩ := hrel
    by_cases hlt : k < s.size
    · have hno : s[k].toNat < 32 ∨ 126 < s[k].toNat → plainL s.data.toList = false := fun h => by
        unfold plainL
        rw [List.all_eq_false]
        exact ⟨s[k], List.getElem_mem (by rw [← Lib.size_eq]; exact hlt), by simp; omega⟩
      by_cases h1 : s[k].toNat < 32
      · have h1i : (s[k].toNat : Int) < 32 := by omega
        have HN := hide (hno (.inl h1))
        clear hno
        go_wp2
        go_ret
        exact ⟨ret_bool (unhide HN).symm, rfl⟩
      · have h1i : ¬ (s[k].toNat : Int) < 32 := by omega
        by_cases h2 : 126 < s[k].toNat
        · have h2i : (126 : Int) < (s[k].toNat : Int) := by omega
          have HN := hide (hno (.inr h2))
          clear hno
          go_wp2
          go_ret
          exact ⟨ret_bool (unhide HN).symm, rfl⟩
        · have h2i : ¬ (126 : Int) < (s[k].toNat : Int) := by omega
          have hnx : plainL (s.data.toList.take (k + 1)) = true := by rw [take_next s k hlt, plainL_snoc, HF.out]; simp; omega
          have HN := hide hnx
          clear hno hnx
          go_wp2
          go_roundw
          case rel => exact ⟨k + 1, by omega, by go_num, HN, trivial⟩
          case measure => simp [intOf]; omega
    · have hf : plainL s.data.toList = true := by rw [← take_all s k hlt]; exact HF.out
      have HN := hide hf
      clear hf HF
      go_wp2
      go_ret
      exact ⟨ret_bool (unhide HN).symm, rfl⟩
end Go.Proofs.YtkkaieijbpkleaaDoor
