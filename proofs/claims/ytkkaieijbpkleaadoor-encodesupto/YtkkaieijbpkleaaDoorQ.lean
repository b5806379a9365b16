import Derived.Test.YtkkaieijbpkleaaDoorO
namespace Go.Proofs.YtkkaieijbpkleaaDoor
open Go.RowKit Go.Shelf

theorem countR_bound (s : ByteArray) (lo hi : Int) : 0 ≤ (countR s lo hi).1 ∧ (countR s lo hi).1 < 1000000000000 ∧ ((countR s lo hi).2.2 = true → lo ≤ (countR s lo hi).1 ∧ (countR s lo hi).1 ≤ hi) ∧ (countR s lo hi).2.1.size ≤ s.size := by
  unfold countR
  split
  · exact ⟨by simp, by simp, by simp, Nat.zero_le _⟩
  · split
    · exact ⟨by simp, by simp, by simp, Nat.zero_le _⟩
    · have h1 := vl_small _ (dg_isDig (cutR s 1).1) (by have h1 := dg_size (cutR s 1).1; have h2 := (cutR_size s 1).1; rw [← Lib.size_eq]; omega)
      refine ⟨h1.1, h1.2, fun h => by simpa using h, (cutR_size s 1).2⟩

def panR (s : ByteArray) : ByteArray × ByteArray × Bool :=
  let c := countR s 12 19
  let t := cutR c.2.1 ((c.1.toNat + 1) / 2)
  if c.2.2 = false then (emp, emp, false)
  else if t.2.2 = false then (emp, emp, false)
  else if okD t.1 = false then (emp, emp, false)
  else if c.1.toNat % 2 = 0 then (dg t.1, t.2.1, true)
  else if zero0 (dg t.1) = false then (emp, emp, false)
  else (cut0 (dg t.1), t.2.1, true)

theorem cutR_full {s : ByteArray} {n : Nat} (h : (cutR s n).2.2 = true) : (cutR s n).1.size = n := by
  unfold cutR at h ⊢
  split at h
  · cases h
  · rename_i hn
    rw [if_neg hn]
    show (s.extract 0 n).size = n
    rw [ByteArray.size_extract]; omega
theorem dg_full {t : ByteArray} (h : okD t = true) : (dg t).size = 2 * t.size := by
  unfold dg
  rw [if_pos h]
  show ((dig2 t.data.toList).toArray).size = _
  rw [List.size_toArray, dig2_length, Lib.size_eq]
theorem zero0_eq (d : ByteArray) (h : 0 < d.size) : zero0 d = (d[0].toNat == 48) := by
  unfold zero0
  cases hd : d.data.toList with
  | nil => rw [Lib.size_eq, hd] at h; simp at h
  | cons c l =>
    have : d[0] = c := by
      have e : d.data.toList[0]? = some d[0] := by
        rw [List.getElem?_eq_getElem (by rw [← Lib.size_eq]; exact h)]; rfl
      rw [hd] at e; simpa using e.symm
    rw [this]
    simp [Lib.hasPrefix, List.isPrefixOf]
    rw [Bool.eq_iff_iff]
    simp only [beq_iff_eq]
    exact ⟨fun e => by rw [← e]; rfl, fun e => UInt8.toNat.inj (by rw [e]; rfl)⟩
theorem cut0_eq (d : ByteArray) (h : zero0 d = true) : cut0 d = d.extract 1 d.size := by
  apply ext_list
  rw [Lib.extract_data]
  show Lib.trimPrefix d.data.toList [48] = _
  unfold Lib.trimPrefix
  rw [if_pos (show Lib.hasPrefix d.data.toList [48] = true from h), List.take_of_length_le]
  · rfl
  · rw [List.length_drop, Lib.size_eq]; exact Nat.le_refl _

set_option maxHeartbeats 1000000 in
theorem rpan_any (s : ByteArray) (w : World) (hs : s.size ≤ 9223372036854775807) : Calls Tryd.prog 37 #[.string s] w fun e w' => e = .returned (.tuple #[.string (panR s).1, .string (panR s).2.1, .bool (panR s).2.2]) ∧ Below w.heap.size w w' := by
  have hcount := fun w => rcounted_any s 12 19 w hs
  obtain ⟨h0, _, hlh, hrs⟩ := countR_bound s 12 19
  unfold panR
  generalize countR s 12 19 = q at hcount h0 hlh hrs ⊢
  obtain ⟨n, r, ok⟩ := q
  dsimp only at hcount h0 hlh hrs ⊢
  have HC := hide hcount
  clear hcount
  cases ok with
  | false =>
    rw [if_pos rfl]
    clear hlh
    go_enter Tryd.func37, Tryd.ntmps37
    go_wp2_with (go_at_call 40; refine (unhide HC _).mono ?_; rintro e w1 ⟨rfl, hb1⟩)
    go_ret3
    exact ⟨rfl, hb1⟩
  | true =>
    rw [if_neg (by simp)]
    obtain ⟨hlo, hhi⟩ := hlh rfl
    obtain ⟨m, rfl⟩ := Int.eq_ofNat_of_zero_le h0
    rw [Int.toNat_natCast]
    have hm : m ≤ 19 := by omega
    have hm1 : 12 ≤ m := by omega
    have hcut := fun w => rcut_any r ((m + 1) / 2) w (by omega) (by omega)
    rw [show (((m + 1) / 2 : Nat) : Int) = ((m : Int) + 1) / 2 by omega] at hcut
    have hcs := (cutR_size r ((m + 1) / 2)).1
    have hfull := @cutR_full r ((m + 1) / 2)
    generalize cutR r ((m + 1) / 2) = q2 at hcut hcs hfull ⊢
    obtain ⟨t, r2, ok2⟩ := q2
    dsimp only at hcut hcs hfull ⊢
    have HT := hide hcut
    clear hcut hlh h0 hlo hhi
    cases ok2 with
    | false =>
      rw [if_pos rfl]
      clear hfull
      go_enter Tryd.func37, Tryd.ntmps37
      go_wp2_with (first | (go_at_call 40; refine (unhide HC _).mono ?_; rintro e w1 ⟨rfl, hb1⟩) | (go_at_call 38; refine (unhide HT _).mono ?_; rintro e w2 ⟨rfl, hb2⟩))
      go_ret3
      exact ⟨rfl, hb1.trans (hb2.mono hb1.size)⟩
    | true =>
      rw [if_neg (by simp)]
      have hts := hfull rfl
      have hdig := fun w => rdigits_any t w (by omega)
      have hdf := @dg_full t
      generalize dg t = d at hdig hdf ⊢
      clear hfull
      cases hok : okD t with
      | false =>
        rw [if_pos rfl]
        rw [hok] at hdig
        have HD := hide hdig
        clear hdig hdf hok
        go_enter Tryd.func37, Tryd.ntmps37
        go_wp2_with (first | (go_at_call 40; refine (unhide HC _).mono ?_; rintro e w1 ⟨rfl, hb1⟩) | (go_at_call 38; refine (unhide HT _).mono ?_; rintro e w2 ⟨rfl, hb2⟩) | (go_at_call 22; refine (unhide HD _).mono ?_; rintro e w3 ⟨rfl, hb3⟩))
        go_ret3
        exact ⟨rfl, (hb1.trans (hb2.mono hb1.size)).trans (hb3.mono (hb1.trans (hb2.mono hb1.size)).size)⟩
      | true =>
        rw [if_neg (by simp)]
        rw [hok] at hdig
        have hds := hdf hok
        have HD := hide hdig
        clear hdig hdf hok
        have hd0 : 0 < d.size := by omega
        have hdb : d.size ≤ 1000 := by omega
        clear hds hts
        by_cases he : m % 2 = 0
        · rw [if_pos he]
          have hei : (m : Int) % 2 = 0 := by omega
          clear he
          go_enter Tryd.func37, Tryd.ntmps37
          go_wp2_with (first | (go_at_call 40; refine (unhide HC _).mono ?_; rintro e w1 ⟨rfl, hb1⟩) | (go_at_call 38; refine (unhide HT _).mono ?_; rintro e w2 ⟨rfl, hb2⟩) | (go_at_call 22; refine (unhide HD _).mono ?_; rintro e w3 ⟨rfl, hb3⟩))
          go_ret3
          exact ⟨rfl, (hb1.trans (hb2.mono hb1.size)).trans (hb3.mono (hb1.trans (hb2.mono hb1.size)).size)⟩
        · rw [if_neg he]
          have hei : (m : Int) % 2 = 1 := by omega
          have hz := zero0_eq d hd0
          clear he
          cases hzz : zero0 d with
          | false =>
            rw [hzz] at hz
            have hzi : ((d[0].toNat : Int) == 48) = false := by
              have := hz.symm
              simp only [beq_eq_false_iff_ne, ne_eq] at this ⊢
              omega
            rw [if_pos rfl]
            clear hz hzz
            go_enter Tryd.func37, Tryd.ntmps37
            go_wp2_with (first | (go_at_call 40; refine (unhide HC _).mono ?_; rintro e w1 ⟨rfl, hb1⟩) | (go_at_call 38; refine (unhide HT _).mono ?_; rintro e w2 ⟨rfl, hb2⟩) | (go_at_call 22; refine (unhide HD _).mono ?_; rintro e w3 ⟨rfl, hb3⟩))
            go_ret3
            exact ⟨rfl, (hb1.trans (hb2.mono hb1.size)).trans (hb3.mono (hb1.trans (hb2.mono hb1.size)).size)⟩
          | true =>
            rw [hzz] at hz
            have hzi : (d[0].toNat : Int) = 48 := by
              have := hz.symm
              simp only [beq_iff_eq] at this
              omega
            rw [if_neg (by simp), cut0_eq d hzz]
            clear hz hzz
            go_enter Tryd.func37, Tryd.ntmps37
            go_wp2_with (first | (go_at_call 40; refine (unhide HC _).mono ?_; rintro e w1 ⟨rfl, hb1⟩) | (go_at_call 38; refine (unhide HT _).mono ?_; rintro e w2 ⟨rfl, hb2⟩) | (go_at_call 22; refine (unhide HD _).mono ?_; rintro e w3 ⟨rfl, hb3⟩))
            go_ret3
            exact ⟨rfl, (hb1.trans (hb2.mono hb1.size)).trans (hb3.mono (hb1.trans (hb2.mono hb1.size)).size)⟩
end Go.Proofs.YtkkaieijbpkleaaDoor
