import Derived.Test.YtkkaieijbpkleaaDoorR
namespace Go.Proofs.YtkkaieijbpkleaaDoor
open Go.RowKit Go.Shelf

theorem r1_le (l : List UInt8) (hne : l ≠ []) : r1 l ≤ l.length := by
  by_cases h0 : 128 ≤ (l.getD 0 0).toNat
  · by_cases hg : (Lib.decodeL l).1 = 65533 ∧ (Lib.decodeL l).2 = 1
    · have hr : r1 l = 0 := if_pos hg
      omega
    · obtain ⟨_, e2, e3, e4⟩ := lead_bytes l hne h0 hg
      have hr : r1 l = (Lib.decodeL l).2 := if_neg hg
      omega
  · match l, hne with
    | c :: t, _ =>
      have hc : c.toNat < 128 := by simpa using h0
      have hd := Lib.decodeL_ascii c t hc
      have hr : r1 (c :: t) = 1 := by
        unfold r1; rw [hd, if_neg (by simp; omega)]
      rw [hr]; simp

/-- The walk of a name, a rune ahead. -/
theorem name_at (s : ByteArray) (p : Nat) (h : p < s.size) : rR (s.extract p s.size) ≤ s.size - p ∧
    nameL (s.data.toList.drop p) = if rR (s.extract p s.size) = 0 then false else if rR (s.extract p s.size) = 1 ∧ (s[p].toNat < 32 ∨ s[p].toNat = 127) then false else nameL (s.data.toList.drop (p + rR (s.extract p s.size))) := by
  have he : (s.extract p s.size).data.toList = s.data.toList.drop p := by
    rw [Lib.extract_data, List.take_of_length_le]
    rw [List.length_drop, Lib.size_eq]; exact Nat.le_refl _
  have hsz : 0 < (s.extract p s.size).size := by rw [ByteArray.size_extract]; omega
  have hne : s.data.toList.drop p ≠ [] := by
    intro e
    have := congrArg List.length e
    rw [List.length_drop, ← Lib.size_eq] at this
    simp at this; omega
  have hr : rR (s.extract p s.size) = r1 (s.data.toList.drop p) := by rw [← rR_eq _ hsz, he]
  have hg : (s.data.toList.drop p).getD 0 0 = s[p] := by
    rw [List.getD_eq_getElem?_getD, List.getElem?_drop, Nat.add_zero, List.getElem?_eq_getElem (by rw [← Lib.size_eq]; exact h)]
    rfl
  rw [hr]
  refine ⟨?_, ?_⟩
  · have := r1_le _ hne
    rw [List.length_drop, ← Lib.size_eq] at this
    exact this
  · rw [nameL_step _ hne, hg, List.drop_drop]
    simp only [ctl, decide_eq_true_eq]

set_option maxRecDepth 100000 in
set_option maxHeartbeats 2000000 in
theorem rname_any (s : ByteArray) (w : World) (hs : s.size ≤ 40) : Calls Tryd.prog 41 #[.string s] w fun e w' => e = .returned (.bool (nameL s.data.toList)) ∧ w = w' := by
  obtain ⟨R, hR⟩ : ∃ R, nameL s.data.toList = R := ⟨_, rfl⟩
  rw [hR]
  have HR := hide hR
  clear hR
  go_enter Tryd.func41, Tryd.ntmps41
  go_wp2
  go_loopw [3] (fun i wr => ∃ p : Nat, p ≤ s.size ∧ i = .int .i64 p ∧ Hid (nameL (s.data.toList.drop p) = R) ∧ wr = w) (fun i _ => s.size - (intOf i).toNat)
  case atStart => exact ⟨0, Nat.zero_le _, rfl, by rw [List.drop_zero]; exact HR, rfl⟩
  case round =>
    obtain ⟨p, hp, rfl, HF, rfl⟩ := hrel
    by_cases hlt : p < s.size
    · obtain ⟨hle, hst⟩ := name_at s p hlt
      have hcall := fun w => rrune_any (s.extract p s.size) w (by rw [ByteArray.size_extract]; omega) (by rw [ByteArray.size_extract]; omega)
      generalize rR (s.extract p s.size) = n at hle hst hcall
      rw [HF.out] at hst
      have HC := hide hcall
      clear hcall HF
      by_cases h0 : n = 0
      · subst h0
        rw [if_pos rfl] at hst
        subst hst
        go_wp2_with (go_at_call 53; refine (unhide HC _).mono ?_; rintro e w1 ⟨rfl, rfl⟩)
        go_ret
        exact ⟨rfl, rfl⟩
      rw [if_neg h0] at hst
      have h0i : ((n : Int) == 0) = false := by simp; omega
      by_cases h1 : n = 1
      · subst h1
        by_cases h2 : s[p].toNat < 32
        · rw [if_pos ⟨rfl, .inl h2⟩] at hst
          subst hst
          have h2i : (s[p].toNat : Int) < 32 := by omega
          go_wp2_with (go_at_call 53; refine (unhide HC _).mono ?_; rintro e w1 ⟨rfl, rfl⟩)
          go_ret
          exact ⟨rfl, rfl⟩
        have h2i : ¬ (s[p].toNat : Int) < 32 := by omega
        by_cases h3 : s[p].toNat = 127
        · rw [if_pos ⟨rfl, .inr h3⟩] at hst
          subst hst
          have h3i : ((s[p].toNat : Int) == 127) = true := by simp; omega
          go_wp2_with (go_at_call 53; refine (unhide HC _).mono ?_; rintro e w1 ⟨rfl, rfl⟩)
          go_ret
          exact ⟨rfl, rfl⟩
        rw [if_neg (by omega)] at hst
        have h3i : ((s[p].toNat : Int) == 127) = false := by simp; omega
        have HS := hide hst.symm
        clear hst h2 h3
        go_wp2_with (go_at_call 53; refine (unhide HC _).mono ?_; rintro e w1 ⟨rfl, rfl⟩)
        go_roundw
        case rel => exact ⟨p + 1, by omega, by go_num, HS, trivial⟩
        case measure => simp [intOf]; omega
      · rw [if_neg (by omega)] at hst
        have h1i : ((n : Int) == 1) = false := by simp; omega
        have HS := hide hst.symm
        have hn : 0 < n := by omega
        clear hst h0 h1
        go_wp2_with (go_at_call 53; refine (unhide HC _).mono ?_; rintro e w1 ⟨rfl, rfl⟩)
        go_roundw
        case rel => exact ⟨p + n, by omega, by go_num, HS, trivial⟩
        case measure => simp [intOf]; omega
    · have hfin : R = true := by
        rw [← HF.out, List.drop_of_length_le (by rw [← Lib.size_eq]; omega)]; rfl
      subst hfin
      clear HF
      go_wp2
      go_ret
      exact ⟨rfl, rfl⟩
end Go.Proofs.YtkkaieijbpkleaaDoor
