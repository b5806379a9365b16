import Derived.Test.YtkkaieijbpkleaaDoorC
namespace Go.Proofs.YtkkaieijbpkleaaDoor
open Go.RowKit

theorem numberP_rest (s : ByteArray) (b : Bool) (n : Nat) : (numberP s b n).2.1.size ≤ s.size := takeP_rest s b n
theorem countP_rest (s : ByteArray) (b : Bool) (lo hi : Int) : (countP s b lo hi).2.1.size ≤ s.size := by
  unfold countP
  split
  · exact numberP_rest s b 1
  · exact numberP_rest s b 1

theorem count_any (w : World) (rb : Nat) (s : ByteArray) (b : Bool) (lo hi : Int) (h : Rd w rb s b) (hs : s.size ≤ 9223372036854775807) :
    Calls Tryd.prog 55 #[.pointer (some ⟨rb, 0, none⟩), .int .i64 lo, .int .i64 hi] w fun e w' => e = .returned (.int .i64 (countP s b lo hi).1) ∧ Rd w' rb (countP s b lo hi).2.1 (countP s b lo hi).2.2 ∧ w.grownBy w' (some rb) := by
  have hcall := fun w (h : Rd w rb s b) => number_any w rb s b 1 h (by omega) (by omega) hs
  rw [show (1 : Int).toNat = 1 from rfl] at hcall
  unfold countP
  generalize numberP s b 1 = q at hcall ⊢
  obtain ⟨n, s', b'⟩ := q
  dsimp only at hcall ⊢
  have HC := hide hcall
  clear hcall
  by_cases h1 : n < lo
  · rw [if_pos (.inl h1)]
    go_enter Tryd.func55, Tryd.ntmps55
    go_wp2_with (first | (go_at_call 50; refine (unhide HC _ h).mono ?_; rintro e w1 ⟨rfl, hr1, hg1⟩) | (go_at_call 58; refine (must_any _ _ _ _ _ hr1).mono ?_; rintro e w2 ⟨rfl, hr2, hg2⟩))
    go_ret
    exact ⟨rfl, by simpa using hr2, grown_trans hg1 hg2⟩
  · by_cases h2 : hi < n
    · rw [if_pos (.inr h2)]
      go_enter Tryd.func55, Tryd.ntmps55
      go_wp2_with (first | (go_at_call 50; refine (unhide HC _ h).mono ?_; rintro e w1 ⟨rfl, hr1, hg1⟩) | (go_at_call 58; refine (must_any _ _ _ _ _ hr1).mono ?_; rintro e w2 ⟨rfl, hr2, hg2⟩))
      go_ret
      exact ⟨rfl, by simpa using hr2, grown_trans hg1 hg2⟩
    · rw [if_neg (by omega)]
      go_enter Tryd.func55, Tryd.ntmps55
      go_wp2_with (first | (go_at_call 50; refine (unhide HC _ h).mono ?_; rintro e w1 ⟨rfl, hr1, hg1⟩) | (go_at_call 58; refine (must_any _ _ _ _ _ hr1).mono ?_; rintro e w2 ⟨rfl, hr2, hg2⟩))
      go_ret
      exact ⟨rfl, hr1, hg1⟩

/-- HasPrefix at the letter 0. -/
theorem has0_any (d : ByteArray) (w : World) : Calls Tryd.prog 76 #[.string d, .string ⟨#[48]⟩] w fun e w' => e = .returned (.bool (zero0 d)) ∧ w = w' := by
  have hz : (decide (1 ≤ d.size) && ((d.extract 0 1).toList == [48])) = zero0 d := by
    have h := Lib.hasPrefix_raw d ⟨#[48]⟩
    rw [Lib.toList_data ⟨#[48]⟩] at h
    exact h
  have HZ := hide hz
  clear hz
  by_cases h1 : 1 ≤ d.size
  · go_enter Tryd.func76, Tryd.ntmps76
    go_wp2
    go_ret
    exact ⟨ret_bool (by rw [← unhide HZ]; simp [h1]), rfl⟩
  · have h1i : ¬ (1 : Int) ≤ (d.size : Int) := by omega
    go_enter Tryd.func76, Tryd.ntmps76
    go_wp2
    go_ret
    exact ⟨ret_bool (by rw [← unhide HZ]; simp [h1]), rfl⟩

theorem cutp_lib (d : ByteArray) (w : World) : Calls Tryd.prog 65 #[.string d, .string ⟨#[48]⟩] w fun e w' => e = .returned (.tuple #[.string (cut0 d), .bool (zero0 d)]) ∧ w = w' := by
  have hcall := fun w => has0_any d w
  have HC := hide hcall
  clear hcall
  cases hz : zero0 d with
  | true =>
    have hs : 1 ≤ d.size := by
      cases hd : d.data.toList with
      | nil => rw [zero0, hd] at hz; simp [Lib.hasPrefix] at hz
      | cons x l => rw [Lib.size_eq, hd]; simp
    have hcut : cut0 d = d.extract 1 d.size := by
      apply ext_list
      rw [Lib.extract_data]
      show Lib.trimPrefix d.data.toList [48] = _
      unfold Lib.trimPrefix
      rw [if_pos (show Lib.hasPrefix d.data.toList [48] = true from hz), List.take_of_length_le]
      · rfl
      · rw [List.length_drop, Lib.size_eq]; omega
    rw [hcut]
    clear hcut
    have HZ := hide hz
    clear hz
    go_enter Tryd.func65, Tryd.ntmps65
    go_wp2_with (go_at_call 76; refine (unhide HC _).mono ?_; rintro e w1 ⟨rfl, rfl⟩; rw [unhide HZ])
    go_ret2
    exact ⟨rfl, rfl⟩
  | false =>
    have hcut : cut0 d = d := by
      apply ext_list
      show Lib.trimPrefix d.data.toList [48] = _
      unfold Lib.trimPrefix
      rw [if_neg (by rw [show Lib.hasPrefix d.data.toList [48] = false from hz]; simp)]
    rw [hcut]
    clear hcut
    have HZ := hide hz
    clear hz
    go_enter Tryd.func65, Tryd.ntmps65
    go_wp2_with (go_at_call 76; refine (unhide HC _).mono ?_; rintro e w1 ⟨rfl, rfl⟩; rw [unhide HZ])
    go_ret2
    exact ⟨rfl, rfl⟩

theorem cutp_any (d : ByteArray) (w : World) : Calls Tryd.prog 57 #[.string d, .string ⟨#[48]⟩] w fun e w' => e = .returned (.tuple #[.string (cut0 d), .bool (zero0 d)]) ∧ w = w' := by
  go_enter Tryd.func57, Tryd.ntmps57
  go_wp2_with (go_at_call 65; refine (cutp_lib _ _).mono ?_; rintro e w1 ⟨rfl, rfl⟩)
  go_ret2
  exact ⟨rfl, rfl⟩

theorem pan_any (w : World) (rb : Nat) (s : ByteArray) (b : Bool) (h : Rd w rb s b) (hs : s.size ≤ 9223372036854775807) :
    Calls Tryd.prog 49 #[.pointer (some ⟨rb, 0, none⟩)] w fun e w' => e = .returned (.string (panP s b).1) ∧ Rd w' rb (panP s b).2.1 (panP s b).2.2 ∧ w.grownBy w' (some rb) := by
  have hcall := fun w (h : Rd w rb s b) => count_any w rb s b 12 19 h hs
  have hb := countP_bound s b 12 19 (by omega)
  have hr := countP_rest s b 12 19
  unfold panP
  generalize countP s b 12 19 = q at hcall hb hr ⊢
  obtain ⟨n, s1, b1⟩ := q
  dsimp only at hcall hb hr ⊢
  obtain ⟨m, rfl⟩ := Int.eq_ofNat_of_zero_le hb.1
  rw [Int.toNat_natCast]
  have hm : m ≤ 19 := by omega
  have hdig := fun w (h : Rd w rb s1 b1) => digits_any w rb s1 b1 (((m : Int) + 1) / 2) h (by omega) (by omega) (by omega)
  rw [show (((m : Int) + 1) / 2).toNat = (m + 1) / 2 by omega] at hdig
  generalize digitsP s1 b1 ((m + 1) / 2) = q2 at hdig ⊢
  obtain ⟨d, s2, b2⟩ := q2
  dsimp only at hdig ⊢
  have HC := hide hcall
  have HD := hide hdig
  clear hcall hdig hb hr
  by_cases he : m % 2 = 0
  · have hei : (m : Int) % 2 = 0 := by omega
    have heb : (((m : Int) % 2) == 0) = true := by simpa using hei
    rw [if_pos hei]
    clear he hei
    go_enter Tryd.func49, Tryd.ntmps49
    go_wp2_with (first | (go_at_call 55; refine (unhide HC _ h).mono ?_; rintro e w1 ⟨rfl, hr1, hg1⟩) | (go_at_call 56; refine (unhide HD _ hr1).mono ?_; rintro e w2 ⟨rfl, hr2, hg2⟩))
    go_ret
    exact ⟨rfl, hr2, grown_trans hg1 hg2⟩
  · have hei : ¬ (m : Int) % 2 = 0 := by omega
    have heb : (((m : Int) % 2) == 0) = false := by simpa using hei
    rw [if_neg hei]
    clear he hei
    go_enter Tryd.func49, Tryd.ntmps49
    go_wp2_with (first | (go_at_call 55; refine (unhide HC _ h).mono ?_; rintro e w1 ⟨rfl, hr1, hg1⟩) | (go_at_call 56; refine (unhide HD _ hr1).mono ?_; rintro e w2 ⟨rfl, hr2, hg2⟩) | (go_at_call 57; refine (cutp_any _ _).mono ?_; rintro e w3 ⟨rfl, rfl⟩) | (go_at_call 58; refine (must_any _ _ _ _ _ hr2).mono ?_; rintro e w4 ⟨rfl, hr4, hg4⟩))
    go_ret
    exact ⟨rfl, hr4, grown_trans (grown_trans hg1 hg2) hg4⟩

set_option maxRecDepth 100000 in
set_option maxHeartbeats 1000000 in
theorem plain_any (w : World) (rb : Nat) (s : ByteArray) (b : Bool) (n : Int) (h : Rd w rb s b) (h0 : 0 ≤ n) (h1 : n ≤ 100) (hs : s.size ≤ 9223372036854775807) :
    Calls Tryd.prog 51 #[.pointer (some ⟨rb, 0, none⟩), .int .i64 n] w fun e w' => e = .returned (.string (plainP s b n.toNat).1) ∧ Rd w' rb (plainP s b n.toNat).2.1 (plainP s b n.toNat).2.2 ∧ w.grownBy w' (some rb) := by
  have hts : (takeP s b n.toNat).1.size ≤ 100 := by have := takeP_size s b n.toNat; omega
  have hcall := fun w (h : Rd w rb s b) => take_any w rb s b n h h0 (by omega) hs
  unfold plainP
  generalize takeP s b n.toNat = q at hts hcall ⊢
  obtain ⟨t, s', b'⟩ := q
  dsimp only at hts hcall ⊢
  have HC := hide hcall
  clear hcall
  go_enter Tryd.func51, Tryd.ntmps51
  go_wp2_with (go_at_call 59; refine (unhide HC _ h).mono ?_; rintro e w1 ⟨rfl, hr1, hg1⟩)
  go_loopw [12] (fun i wr => ∃ k : Nat, k ≤ t.size ∧ i = .int .i64 k ∧ Rd wr rb s' (b' || !plainL (t.data.toList.take k)) ∧ w.grownBy wr (some rb)) (fun i _ => t.size - (intOf i).toNat)
  case atStart => exact ⟨0, Nat.zero_le _, rfl, by simpa [plainL] using hr1, hg1⟩
  case round =>
    obtain ⟨k, hk, rfl, hrk, hgk⟩ := hrel
    by_cases hlt : k < t.size
    · have hts2 : t.data.toList.take (k + 1) = t.data.toList.take k ++ [t[k]] := by
        rw [List.take_succ_eq_append_getElem (by rw [← Lib.size_eq]; exact hlt)]; rfl
      have hpl : plainL (t.data.toList.take (k + 1)) = (plainL (t.data.toList.take k) && decide (32 ≤ t[k].toNat ∧ t[k].toNat ≤ 126)) := by rw [hts2, plainL_snoc]
      have HP := hide hpl
      clear hpl hts2
      by_cases hge : 32 ≤ t[k].toNat
      · have hgi : (32 : Int) ≤ (t[k].toNat : Int) := by omega
        go_wp2_with (go_at_call 58; refine (must_any _ _ _ _ _ hrk).mono ?_; rintro e w2 ⟨rfl, hr2, hg2⟩)
        have hr3 : Rd w2 rb s' (b' || !plainL (t.data.toList.take (k + 1))) := by
          rw [unhide HP, show decide (32 ≤ t[k].toNat ∧ t[k].toNat ≤ 126) = decide ((t[k].toNat : Int) ≤ 126) by rw [decide_eq_decide]; omega, Bool.not_and, ← Bool.or_assoc]
          exact hr2
        go_roundw
        case rel => exact ⟨k + 1, by omega, by go_num, hr3, grown_trans hgk hg2⟩
        case measure => simp [intOf]; omega
      · have hgi : ¬ (32 : Int) ≤ (t[k].toNat : Int) := by omega
        go_wp2_with (go_at_call 58; refine (must_any _ _ _ _ _ hrk).mono ?_; rintro e w2 ⟨rfl, hr2, hg2⟩)
        have hr3 : Rd w2 rb s' (b' || !plainL (t.data.toList.take (k + 1))) := by
          rw [unhide HP, show decide (32 ≤ t[k].toNat ∧ t[k].toNat ≤ 126) = false by rw [decide_eq_false_iff_not]; omega, Bool.not_and, ← Bool.or_assoc]
          exact hr2
        go_roundw
        case rel => exact ⟨k + 1, by omega, by go_num, hr3, grown_trans hgk hg2⟩
        case measure => simp [intOf]; omega
    · have hall : t.data.toList.take k = t.data.toList := List.take_of_length_le (by rw [← Lib.size_eq]; omega)
      rw [hall] at hrk
      clear hall
      go_wp2
      go_ret
      exact ⟨rfl, hrk, hgk⟩
end Go.Proofs.YtkkaieijbpkleaaDoor
