import Derived.Test.YtkkaieijbpkleaaDoorV
namespace Go.Proofs.YtkkaieijbpkleaaDoor
open Go.RowKit Go.Shelf

/-- A way of reading that stops, held against one that goes on. -/
def Fits {α : Type} (P R : α × ByteArray × Bool) : Prop := R.2.2 = !P.2.2 ∧ (R.2.2 = true → P = (R.1, R.2.1, false))

theorem take_cut (s : ByteArray) (n : Nat) : (cutR s n).1 = (takeP s false n).1 ∧ Fits (takeP s false n) (cutR s n) := by
  unfold cutR takeP Fits
  split
  · exact ⟨rfl, rfl, by simp⟩
  · exact ⟨rfl, rfl, fun _ => rfl⟩
theorem cut_rest (s : ByteArray) (n : Nat) (h : (cutR s n).2.2 = true) : (takeP s false n).2.1 = (cutR s n).2.1 ∧ (takeP s false n).2.2 = false := by
  have := (take_cut s n).2.2 h
  rw [this]; exact ⟨rfl, rfl⟩
theorem cut_bad (s : ByteArray) (n : Nat) (h : (cutR s n).2.2 = false) : (takeP s false n).2.2 = true := by
  have := (take_cut s n).2.1
  rw [h] at this
  cases hh : (takeP s false n).2.2
  · rw [hh] at this; cases this
  · rfl

theorem fits_count (s : ByteArray) (lo hi : Int) : Fits (countP s false lo hi) (countR s lo hi) := by
  have e1 := (take_cut s 1).1
  have e3 := cut_rest s 1
  have e4 := cut_bad s 1
  unfold Fits countP countR numberP digitsP
  rw [← e1]
  generalize takeP s false 1 = t at *
  generalize cutR s 1 = c at *
  obtain ⟨t1, tr, tb⟩ := t
  obtain ⟨c1, cr, cb⟩ := c
  dsimp only at *
  subst e1
  cases cb with
  | false =>
    obtain rfl := e4 rfl
    simp only [if_pos, Bool.true_or]
    split <;> exact ⟨rfl, by simp⟩
  | true =>
    obtain ⟨rfl, rfl⟩ := e3 rfl
    cases hok : okD c1 with
    | false =>
      simp only [Bool.true_eq_false, if_false, if_true, Bool.not_false, Bool.or_true]
      split <;> exact ⟨rfl, by simp⟩
    | true =>
      simp only [Bool.true_eq_false, if_false, Bool.not_true, Bool.or_false]
      by_cases h1 : vl (dg c1) < lo ∨ hi < vl (dg c1)
      · rw [if_pos h1]
        have : (decide (lo ≤ vl (dg c1)) && decide (vl (dg c1) ≤ hi)) = false := by
          rw [Bool.and_eq_false_iff, decide_eq_false_iff_not, decide_eq_false_iff_not]; omega
        rw [this]
        exact ⟨rfl, by simp⟩
      · rw [if_neg h1]
        have : (decide (lo ≤ vl (dg c1)) && decide (vl (dg c1) ≤ hi)) = true := by
          rw [Bool.and_eq_true, decide_eq_true_eq, decide_eq_true_eq]; omega
        rw [this]
        exact ⟨rfl, fun _ => rfl⟩

/-- Once wrong, wrong for good. -/
theorem take_wrong (s : ByteArray) (n : Nat) : (takeP s true n).2.2 = true := by unfold takeP; split <;> rfl
theorem digits_wrong (s : ByteArray) (n : Nat) : (digitsP s true n).2.2 = true := by unfold digitsP; rw [take_wrong]; rfl
theorem number_wrong (s : ByteArray) (n : Nat) : (numberP s true n).2.2 = true := digits_wrong s n
theorem count_wrong (s : ByteArray) (lo hi : Int) : (countP s true lo hi).2.2 = true := by
  unfold countP
  split
  · rfl
  · exact number_wrong s 1
theorem pan_wrong (s : ByteArray) : (panP s true).2.2 = true := by
  unfold panP
  dsimp only
  rw [count_wrong]
  split
  · exact digits_wrong _ _
  · rw [digits_wrong]; rfl
theorem plain_wrong (s : ByteArray) (n : Nat) : (plainP s true n).2.2 = true := by unfold plainP; rw [take_wrong]; rfl
theorem name_wrong (s : ByteArray) : (nameP s true).2.2 = true := by
  unfold nameP
  dsimp only
  rw [count_wrong, take_wrong]
  rfl
theorem step_wrong (m : Msg) (s : ByteArray) (n : Int) : (stepP (m, s, true) n).2.2 = true := by
  unfold stepP
  dsimp only
  repeat' split
  · exact pan_wrong s
  · exact number_wrong s 6
  · exact number_wrong s 3
  · exact plain_wrong s 2
  · exact plain_wrong s 8
  · exact name_wrong s
  · exact number_wrong s 6
  · rfl
theorem fold_wrong (l : List Int) : ∀ st : Msg × ByteArray × Bool, st.2.2 = true → (foldP st l).2.2 = true := by
  induction l with
  | nil => exact fun st h => h
  | cons n l ih =>
    rintro ⟨m, s, b⟩ h
    obtain rfl : b = true := h
    exact ih _ (step_wrong m s n)

theorem fits_pan (s : ByteArray) : Fits (panP s false) (panR s) := by
  obtain ⟨h1, h2⟩ := fits_count s 12 19
  have h0 := (countR_bound s 12 19).1
  unfold panP panR
  generalize countP s false 12 19 = p at *
  generalize countR s 12 19 = c at *
  obtain ⟨pn, pr, pb⟩ := p
  obtain ⟨cn, cr, cb⟩ := c
  dsimp only at *
  cases cb with
  | false =>
    obtain rfl : pb = true := by
      cases pb with
      | false => cases h1
      | true => rfl
    rw [if_pos rfl]
    refine ⟨?_, fun h => by cases h⟩
    split
    · rw [digits_wrong]; rfl
    · rw [digits_wrong]; rfl
  | true =>
    obtain ⟨rfl, rfl, rfl⟩ : pn = cn ∧ pr = cr ∧ pb = false := by simpa using h2 rfl
    rw [if_neg (show ¬ (true = false) by simp)]
    clear h1 h2
    have e1 := (take_cut pr ((pn.toNat + 1) / 2)).1
    have e3 := cut_rest pr ((pn.toNat + 1) / 2)
    have e4 := cut_bad pr ((pn.toNat + 1) / 2)
    unfold digitsP
    generalize takeP pr false ((pn.toNat + 1) / 2) = t at *
    generalize cutR pr ((pn.toNat + 1) / 2) = c at *
    obtain ⟨t1, tr, tb⟩ := t
    obtain ⟨c1, cr, cb⟩ := c
    dsimp only at *
    subst e1
    have hpar : pn % 2 = 0 ↔ pn.toNat % 2 = 0 := by omega
    cases cb with
    | false =>
      obtain rfl := e4 rfl
      rw [if_pos rfl]
      refine ⟨?_, fun h => by cases h⟩
      split
      · rw [Bool.true_or]; rfl
      · rw [Bool.true_or, Bool.true_or]; rfl
    | true =>
      obtain ⟨rfl, rfl⟩ := e3 rfl
      rw [if_neg (show ¬ (true = false) by simp)]
      cases hok : okD c1 with
      | false =>
        rw [if_pos rfl]
        refine ⟨?_, fun h => by cases h⟩
        split
        · rfl
        · rw [Bool.not_false, Bool.or_true, Bool.true_or]; rfl
      | true =>
        rw [if_neg (show ¬ (true = false) by simp)]
        by_cases hp : pn.toNat % 2 = 0
        · rw [if_pos hp, if_pos (hpar.2 hp)]
          exact ⟨rfl, fun _ => rfl⟩
        · rw [if_neg hp, if_neg (fun h => hp (hpar.1 h))]
          cases hz : zero0 (dg c1) with
          | false => rw [if_pos rfl]; exact ⟨rfl, by simp⟩
          | true => rw [if_neg (show ¬ (true = false) by simp)]; exact ⟨rfl, fun _ => rfl⟩
end Go.Proofs.YtkkaieijbpkleaaDoor
