import Derived.Test.YtkkaieijbpkleaaDoorBA
import Derived.Test.YtkkaieijbpkleaaDoorAB
namespace Go.Proofs.YtkkaieijbpkleaaDoor
open Go.RowKit

def fI (m : Msg) (n : Int) : List UInt8 :=
  if n = 2 then numI m.pan.size 1 ++ pkI (evenL m.pan.data.toList)
  else if n = 4 then numI m.amount 6
  else if n = 11 then numI m.trace 3
  else if n = 39 then m.code.data.toList
  else if n = 41 then m.place.data.toList
  else if n = 43 then numI m.name.size 1 ++ m.name.data.toList
  else if n = 54 then numI m.more 6
  else []
def fR (m : Msg) (n : Int) : List UInt8 :=
  if n = 2 then numR m.pan.size 1 ++ pkR (evenL m.pan.data.toList)
  else if n = 4 then numR m.amount.toNat 6
  else if n = 11 then numR m.trace.toNat 3
  else if n = 39 then m.code.data.toList
  else if n = 41 then m.place.data.toList
  else if n = 43 then numR m.name.size 1 ++ m.name.data.toList
  else if n = 54 then numR m.more.toNat 6
  else []

theorem take_back {s : ByteArray} {n : Nat} {t r : ByteArray} (h : takeP s false n = (t, r, false)) : s.data.toList = t.data.toList ++ r.data.toList ∧ t.size = n := by
  unfold takeP at h
  split at h
  · cases h
  · rename_i hn
    simp only [Prod.mk.injEq, and_true] at h
    obtain ⟨rfl, rfl⟩ := h
    rw [Lib.extract_data, Lib.extract_data, List.drop_zero, Nat.sub_zero]
    refine ⟨?_, by rw [ByteArray.size_extract]; omega⟩
    rw [List.take_of_length_le (l := s.data.toList.drop n) (by rw [List.length_drop, Lib.size_eq]; exact Nat.le_refl _), List.take_append_drop]
theorem digits_back {s : ByteArray} {n : Nat} {d r : ByteArray} (h : digitsP s false n = (d, r, false)) :
    ∃ t : List UInt8, s.data.toList = t ++ r.data.toList ∧ t.length = n ∧ okL t = true ∧ d.data.toList = dig2 t := by
  unfold digitsP at h
  rcases hq : takeP s false n with ⟨t, r', b⟩
  rw [hq] at h
  simp only [Prod.mk.injEq, Bool.or_eq_false_iff, Bool.not_eq_false'] at h
  obtain ⟨rfl, rfl, rfl, hok⟩ := h
  obtain ⟨e1, e2⟩ := take_back hq
  refine ⟨t.data.toList, e1, by rw [← Lib.size_eq]; exact e2, hok, ?_⟩
  unfold dg
  rw [if_pos hok]
theorem number_back {s : ByteArray} {n : Nat} {x : Int} {r : ByteArray} (h : numberP s false n = (x, r, false)) (hn : 1 ≤ n) :
    s.data.toList = numI x n ++ r.data.toList ∧ s.data.toList = numR x.toNat n ++ r.data.toList ∧ 0 ≤ x := by
  unfold numberP at h
  rcases hq : digitsP s false n with ⟨d, r', b⟩
  rw [hq] at h
  simp only [Prod.mk.injEq] at h
  obtain ⟨rfl, rfl, rfl⟩ := h
  obtain ⟨t, e1, e2, e3, e4⟩ := digits_back hq
  have hb := num_back t e3 (by omega)
  have hv : vl d = vlL (dig2 t) := by unfold vl; rw [e4]
  rw [hv, ← e2, hb.1, hb.2]
  exact ⟨e1, e1, (vlL_bound _ (dig2_isDig t e3)).1⟩
theorem count_back {s : ByteArray} {lo hi : Int} {x : Int} {r : ByteArray} (h : countP s false lo hi = (x, r, false)) : numberP s false 1 = (x, r, false) ∧ lo ≤ x ∧ x ≤ hi := by
  unfold countP at h
  split at h
  · simp at h
  · rename_i hb
    rw [h] at hb
    exact ⟨h, by omega⟩

/-- What one field's reading takes is what its writing gives. -/
structure Back (s : ByteArray) (m1 : Msg) (n : Int) (s1 : ByteArray) : Prop where
  i : s.data.toList = fI m1 n ++ s1.data.toList
  r : s.data.toList = fR m1 n ++ s1.data.toList

theorem plain_back {s : ByteArray} {n : Nat} {t r : ByteArray} (h : plainP s false n = (t, r, false)) : s.data.toList = t.data.toList ++ r.data.toList := by
  unfold plainP at h
  rcases hq : takeP s false n with ⟨t', r', b⟩
  rw [hq] at h
  simp only [Prod.mk.injEq, Bool.or_eq_false_iff] at h
  obtain ⟨rfl, rfl, rfl, _⟩ := h
  exact (take_back hq).1
theorem name_back {s nm r : ByteArray} (h : nameP s false = (nm, r, false)) : s.data.toList = numI nm.size 1 ++ nm.data.toList ++ r.data.toList ∧ s.data.toList = numR nm.size 1 ++ nm.data.toList ++ r.data.toList ∧ nm.size ≤ 40 := by
  unfold nameP at h
  rcases hc : countP s false 0 40 with ⟨k, r1, b1⟩
  rw [hc] at h
  dsimp only at h
  rcases ht : takeP r1 b1 k.toNat with ⟨t, r2, b2⟩
  rw [ht] at h
  simp only [Prod.mk.injEq, Bool.or_eq_false_iff] at h
  obtain ⟨rfl, rfl, rfl, _⟩ := h
  have hb1 : b1 = false := by
    cases b1 with
    | false => rfl
    | true =>
      have := take_wrong r1 k.toNat
      rw [ht] at this; cases this
  subst hb1
  obtain ⟨hn, h0, h40⟩ := count_back hc
  obtain ⟨e1, e2, _⟩ := number_back hn (by omega)
  obtain ⟨e3, e4⟩ := take_back ht
  have hk : (t.size : Int) = k := by omega
  rw [← hk] at e1 e2
  rw [Int.toNat_natCast] at e2
  refine ⟨by rw [e1, e3, List.append_assoc], by rw [e2, e3, List.append_assoc], by omega⟩
theorem pan_back {s p r : ByteArray} (h : panP s false = (p, r, false)) : s.data.toList = numI p.size 1 ++ pkI (evenL p.data.toList) ++ r.data.toList ∧ s.data.toList = numR p.size 1 ++ pkR (evenL p.data.toList) ++ r.data.toList ∧ isDig p.data.toList ∧ 12 ≤ p.size ∧ p.size ≤ 19 := by
  unfold panP at h
  rcases hc : countP s false 12 19 with ⟨k, r1, b1⟩
  rw [hc] at h
  dsimp only at h
  rcases hd : digitsP r1 b1 ((k.toNat + 1) / 2) with ⟨d, r2, b2⟩
  rw [hd] at h
  dsimp only at h
  have hb2 : b2 = false := by
    split at h
    · simp only [Prod.mk.injEq] at h; exact h.2.2
    · simp only [Prod.mk.injEq, Bool.or_eq_false_iff] at h; exact h.2.2.1
  subst hb2
  have hb1 : b1 = false := by
    cases b1 with
    | false => rfl
    | true =>
      have := digits_wrong r1 ((k.toNat + 1) / 2)
      rw [hd] at this; cases this
  subst hb1
  obtain ⟨hn, h12, h19⟩ := count_back hc
  obtain ⟨e1, e2, _⟩ := number_back hn (by omega)
  obtain ⟨t, e3, e4, e5, e6⟩ := digits_back hd
  obtain ⟨p1, p2⟩ := pk_dig2 t e5
  have hdl : d.data.toList.length = 2 * ((k.toNat + 1) / 2) := by rw [e6, dig2_length, e4]
  have hdd : isDig d.data.toList := by rw [e6]; exact dig2_isDig t e5
  split at h
  · rename_i hev
    simp only [Prod.mk.injEq, and_true] at h
    obtain ⟨rfl, rfl⟩ := h
    have hs : (d.size : Int) = k := by rw [Lib.size_eq, hdl]; omega
    have hs2 : evenL d.data.toList = d.data.toList := by unfold evenL; rw [if_neg (by omega)]
    rw [← hs] at e1 e2
    rw [Int.toNat_natCast] at e2
    rw [hs2, e6, p1, p2]
    exact ⟨by rw [e1, e3, List.append_assoc], by rw [e2, e3, List.append_assoc], by rw [← e6]; exact hdd, by omega, by omega⟩
  · rename_i hodd
    simp only [Prod.mk.injEq, Bool.false_or, Bool.not_eq_false'] at h
    obtain ⟨rfl, rfl, hz⟩ := h
    have hz2 : zero0 d = true := hz
    obtain ⟨l, hl⟩ : ∃ l, d.data.toList = 48 :: l := by
      unfold zero0 at hz2
      cases hdt : d.data.toList with
      | nil => rw [hdt] at hz2; simp [Lib.hasPrefix] at hz2
      | cons x l =>
        rw [hdt] at hz2
        simp [Lib.hasPrefix, List.isPrefixOf] at hz2
        exact ⟨l, by rw [hz2]⟩
    have hcut : (cut0 d).data.toList = l := by
      show Lib.trimPrefix d.data.toList [48] = l
      unfold Lib.trimPrefix
      rw [if_pos (show Lib.hasPrefix d.data.toList [48] = true from hz2), hl]
      rfl
    have hll : l.length + 1 = 2 * ((k.toNat + 1) / 2) := by rw [← hdl, hl]; rfl
    have hs : ((cut0 d).size : Int) = k := by rw [Lib.size_eq, hcut]; omega
    have hs2 : evenL (cut0 d).data.toList = d.data.toList := by
      unfold evenL
      rw [hcut, if_pos (by omega), hl]
    rw [← hs] at e1 e2
    rw [Int.toNat_natCast] at e2
    rw [hs2, e6, p1, p2]
    exact ⟨by rw [e1, e3, List.append_assoc], by rw [e2, e3, List.append_assoc], by rw [hcut]; exact fun c hc => hdd c (by rw [hl]; simp [hc]), by omega, by omega⟩
end Go.Proofs.YtkkaieijbpkleaaDoor
