import Derived.Test.YtkkaieijbpkleaaDoorM
import Derived.Shelf.GgClosure.StringsIndexFunc
namespace Go.Proofs.YtkkaieijbpkleaaDoor
open Go.RowKit

/-- A byte that may not be in a name. -/
def ctl (c : UInt8) : Bool := decide (c.toNat < 32 ∨ c.toNat = 127)
/-- A rune that may not be in a name. -/
def ctlR (r : Nat) : Bool := decide (r < 32 ∨ r = 127)

set_option maxRecDepth 100000 in
set_option maxHeartbeats 2000000 in
/-- A rune of several bytes: so many are there, all are from 128 on, and so is the rune. -/
theorem decodeN_more (n b0 b1 b2 b3 : Nat) (h0 : 128 ≤ b0) (hne : ¬ ((Lib.decodeN n b0 b1 b2 b3).1 = 65533 ∧ (Lib.decodeN n b0 b1 b2 b3).2 = 1)) :
    128 ≤ (Lib.decodeN n b0 b1 b2 b3).1 ∧ 2 ≤ (Lib.decodeN n b0 b1 b2 b3).2 ∧ (Lib.decodeN n b0 b1 b2 b3).2 ≤ 4 ∧ (Lib.decodeN n b0 b1 b2 b3).2 ≤ n ∧ 128 ≤ b1 ∧
      (3 ≤ (Lib.decodeN n b0 b1 b2 b3).2 → 128 ≤ b2) ∧ (4 ≤ (Lib.decodeN n b0 b1 b2 b3).2 → 128 ≤ b3) := by
  unfold Lib.decodeN at hne ⊢
  repeat' split
  all_goals first | (exfalso; omega) | skip
  all_goals simp_all
  all_goals omega

/-- How many bytes the rune at the front has; 0: there is none. -/
def r1 (l : List UInt8) : Nat := if (Lib.decodeL l).1 = 65533 ∧ (Lib.decodeL l).2 = 1 then 0 else (Lib.decodeL l).2

theorem getD_mem_take (l : List UInt8) (k : Nat) (hk : k ≤ l.length) (P : UInt8 → Prop) (h : ∀ j, j < k → P (l.getD j 0)) : ∀ c ∈ l.take k, P c := by
  intro c hc
  obtain ⟨j, hj, rfl⟩ := List.getElem_of_mem hc
  rw [List.length_take] at hj
  have := h j (by omega)
  rw [List.getD_eq_getElem?_getD, List.getElem?_eq_getElem (by omega)] at this
  simpa using this

theorem lead_bytes (l : List UInt8) (_ : l ≠ []) (h0 : 128 ≤ (l.getD 0 0).toNat) (hg : ¬ ((Lib.decodeL l).1 = 65533 ∧ (Lib.decodeL l).2 = 1)) :
    128 ≤ (Lib.decodeL l).1 ∧ 2 ≤ (Lib.decodeL l).2 ∧ (Lib.decodeL l).2 ≤ l.length ∧ ∀ c ∈ l.take (Lib.decodeL l).2, 128 ≤ c.toNat := by
  rw [Lib.decodeL_N] at hg ⊢
  obtain ⟨e1, e2, e3, e4, e5, e6, e7⟩ := decodeN_more _ _ _ _ _ h0 hg
  refine ⟨e1, e2, e4, getD_mem_take l _ e4 (fun c => 128 ≤ c.toNat) (fun j hj => ?_)⟩
  have hj4 : j < 4 := by omega
  match j, hj4 with
  | 0, _ => exact h0
  | 1, _ => exact e5
  | 2, _ => exact e6 (by omega)
  | 3, _ => exact e7 (by omega)

theorem all_split (l : List UInt8) (k : Nat) : (l.all fun c => !ctl c) = ((l.take k).all (fun c => !ctl c) && (l.drop k).all (fun c => !ctl c)) := by
  rw [← List.all_append, List.take_append_drop]

theorem nameL_eq (l : List UInt8) : nameL l = (Lib.validD l && l.all fun c => !ctl c) := rfl

theorem nameL_step (l : List UInt8) (hne : l ≠ []) : nameL l = if r1 l = 0 then false else if r1 l = 1 ∧ ctl (l.getD 0 0) = true then false else nameL (l.drop (r1 l)) := by
  by_cases h0 : 128 ≤ (l.getD 0 0).toNat
  · by_cases hg : (Lib.decodeL l).1 = 65533 ∧ (Lib.decodeL l).2 = 1
    · have hr : r1 l = 0 := if_pos hg
      rw [hr, if_pos rfl, nameL_eq, Lib.validD_step l hne, if_pos hg, Bool.false_and]
    · obtain ⟨_, e2, e3, e4⟩ := lead_bytes l hne h0 hg
      have hr : r1 l = (Lib.decodeL l).2 := if_neg hg
      rw [if_neg (by omega), if_neg (by omega), nameL_eq, nameL_eq, Lib.validD_step l hne, if_neg hg, all_split l (r1 l), hr]
      have : (l.take (Lib.decodeL l).2).all (fun c => !ctl c) = true := List.all_eq_true.2 fun c hc => by
        have := e4 c hc
        simp [ctl]; omega
      rw [this, Bool.true_and]
  · match l, hne with
    | c :: t, _ =>
      have hc : c.toNat < 128 := by simpa using h0
      have hd := Lib.decodeL_ascii c t hc
      have hr : r1 (c :: t) = 1 := by
        unfold r1; rw [hd, if_neg (by simp; omega)]
      rw [hr, if_neg (by omega), nameL_eq, nameL_eq, Lib.validD_cons c t hc]
      simp only [List.getD_cons_zero, List.all_cons, List.drop_succ_cons, List.drop_zero, true_and]
      cases ctl c <;> simp

theorem nameL_nil : nameL [] = true := rfl

/-- In what is UTF-8 the search for a rune finds one just where a byte is one. -/
theorem idx_valid (s : ByteArray) : ∀ (f pos : Nat), s.size ≤ pos + f → Lib.validD (s.data.toList.drop pos) = true →
    decide (0 ≤ Lib.idxFuncFrom ctlR true s f pos) = (s.data.toList.drop pos).any ctl := by
  intro f
  induction f with
  | zero =>
    intro pos hp _
    rw [List.drop_of_length_le (by rw [← Lib.size_eq]; omega)]
    simp [Lib.idxFuncFrom]
  | succ f ih =>
    intro pos hp hv
    by_cases hlt : pos < s.size
    · have hdec : Utf8.decode s pos = Lib.decodeL (s.data.toList.drop pos) := (Lib.decodeL_drop s pos).symm
      have hne : s.data.toList.drop pos ≠ [] := by
        intro e
        have := congrArg List.length e
        rw [List.length_drop, ← Lib.size_eq] at this
        simp at this; omega
      unfold Lib.idxFuncFrom
      rw [if_pos hlt, hdec]
      generalize hL : s.data.toList.drop pos = l at hv hne ⊢
      have hstep := Lib.validD_step l hne
      by_cases hg : (Lib.decodeL l).1 = 65533 ∧ (Lib.decodeL l).2 = 1
      · rw [if_pos hg, hv] at hstep; cases hstep
      · rw [if_neg hg, hv] at hstep
        have hnext : s.data.toList.drop (pos + (Lib.decodeL l).2) = l.drop (Lib.decodeL l).2 := by rw [← hL, List.drop_drop]
        by_cases h0 : 128 ≤ (l.getD 0 0).toNat
        · obtain ⟨e1, e2, e3, e4⟩ := lead_bytes l hne h0 hg
          have hp : ctlR (Lib.decodeL l).1 = false := by simp [ctlR]; omega
          rw [if_neg (by rw [hp]; simp), ih _ (by omega) (by rw [hnext]; exact hstep.symm), hnext]
          have h1 : (l.take (Lib.decodeL l).2).any ctl = false := by
            rw [List.any_eq_false]
            intro c hc
            have := e4 c hc
            simp [ctl]; omega
          have h2 : l.any ctl = ((l.take (Lib.decodeL l).2).any ctl || (l.drop (Lib.decodeL l).2).any ctl) := by rw [← List.any_append, List.take_append_drop]
          rw [h2, h1, Bool.false_or]
        · match l, hne, h0 with
          | c :: t, _, h0 =>
            have hc : c.toNat < 128 := by simpa using h0
            have hd := Lib.decodeL_ascii c t hc
            rw [hd] at hnext hstep ⊢
            have hcc : ctlR c.toNat = ctl c := rfl
            simp only [List.any_cons, hcc]
            cases hct : ctl c with
            | true => simp
            | false =>
              simp only [Bool.false_eq_true, if_false, Bool.false_or]
              rw [ih _ (by omega) (by rw [hnext]; exact hstep.symm), hnext]
              simp
    · rw [List.drop_of_length_le (by rw [← Lib.size_eq]; omega), Lib.idxFuncFrom_end _ _ _ _ _ hlt]
      simp
end Go.Proofs.YtkkaieijbpkleaaDoor
