import Derived.Test.YtkkaieijbpkleaaDoorBK
namespace Go.Proofs.YtkkaieijbpkleaaDoor
open Go.RowKit Go.Shelf

/-- A list of numbers as it reads, wherever it lies. -/
def Lies (w : World) (a : Option Addr) (l : List Int) : Prop := ∀ j x, l[j]? = some x → ∃ ad, a = some ad ∧ w.cell? (ad.add j) = some (.int .i64 x)
theorem cell_below {w w' : World} {p : Addr} {u : Value} (h : w.cell? p = some u) (hb : Below w.heap.size w w') : w'.cell? p = some u := by
  have hlt : p.block < w.heap.size := by
    unfold World.cell? at h
    rcases Nat.lt_or_ge p.block w.heap.size with h1 | h1
    · exact h1
    · rw [Array.getElem?_eq_none h1] at h; simp at h
  unfold World.cell? at h ⊢
  rw [hb.block _ hlt]; exact h
theorem Lies.below {w w' : World} {a : Option Addr} {l : List Int} (h : Lies w a l) (hb : Below w.heap.size w w') : Lies w' a l := fun j x hj => by
  obtain ⟨ad, e, hc⟩ := h j x hj
  exact ⟨ad, e, cell_below hc hb⟩
theorem Lies.of_row {w : World} {b n c : Nat} {a : Option Addr} {l : List Int} (h : w.ownsRow b 3 1 (.slice a n c) n (l.map (Value.int .i64))) : Lies w a l := fun j x hj => by
  have hl : l.length = n := by have := h.1; simpa using this
  rcases row_form h with ⟨h0, _⟩ | ⟨_, g1, d1, he1, _, hcells1⟩
  · have := (List.getElem?_eq_some_iff.1 hj).1
    omega
  · obtain ⟨rfl, rfl⟩ : a = some ⟨g1, 0, none⟩ ∧ c = d1 := by simpa using he1
    refine ⟨_, rfl, ?_⟩
    have := hcells1 j (.int .i64 x) (by rw [List.getElem?_map, hj]; rfl)
    rw [show Addr.add ⟨g1, 0, none⟩ j = ⟨g1, j, none⟩ by cases j <;> simp [Addr.add]]
    exact this

set_option maxRecDepth 100000 in
set_option maxHeartbeats 2000000 in
theorem rsame_any (k1 p1 : ByteArray) (x1 t1 : Int) (c1 pl1 n1 : ByteArray) (mo1 : Int) (k2 p2 : ByteArray) (x2 t2 : Int) (c2 pl2 n2 : ByteArray) (mo2 : Int) (l1 l2 : List Int) (w : World) (a1 a2 : Option Addr) (d1 d2 : Nat) (h1 : Lies w a1 l1) (h2 : Lies w a2 l2) (hn1 : l1.length ≤ 1000000000) (hn2 : l2.length ≤ 1000000000) :
    Calls Tryd.prog 8 #[.agg (Msg.cells ⟨k1, p1, x1, t1, c1, pl1, n1, mo1⟩ (.slice a1 l1.length d1)), .agg (Msg.cells ⟨k2, p2, x2, t2, c2, pl2, n2, mo2⟩ (.slice a2 l2.length d2))] w (SamePost ⟨k1, p1, x1, t1, c1, pl1, n1, mo1⟩ ⟨k2, p2, x2, t2, c2, pl2, n2, mo2⟩ l1 l2 w) := by
  obtain ⟨s1, hs1⟩ : ∃ n, l1.length = n := ⟨_, rfl⟩
  obtain ⟨s2, hs2⟩ : ∃ n, l2.length = n := ⟨_, rfl⟩
  rw [hs1] at hn1 ⊢
  rw [hs2] at hn2 ⊢
  obtain ⟨hm1, hm2, hB0⟩ := two_boxes w ⟨k1, p1, x1, t1, c1, pl1, n1, mo1⟩ ⟨k2, p2, x2, t2, c2, pl2, n2, mo2⟩ (.slice a1 s1 d1) (.slice a2 s2 d2)
  by_cases hne : ¬ s1 = s2
  · have hb : ((s1 : Int) == (s2 : Int)) = false := by rw [beq_eq_false_iff_ne]; omega
    have HH : Hid (¬ l1 = l2) := fun e => hne (by rw [← hs1, ← hs2, e])
    clear hs1 hs2 hne h1 h2 hm1 hm2
    have HB := hide hB0
    clear hB0
    unfold Msg.cells at *
    dsimp only at *
    go_enter Tryd.func8, Tryd.ntmps8
    go_wp2_with fail
    go_ret
    exact ⟨false, by simp, by simp only [Bool.false_eq_true, false_iff]; exact fun x => unhide HH x.2, unhide HB⟩
  obtain rfl := Classical.not_not.1 hne
  clear hne
  have H1 := hide (h1.below hB0)
  have H2 := hide (h2.below hB0)
  clear h1 h2
  obtain ⟨W, hW⟩ : ∃ W, (w.alloc (.cells (Msg.cells ⟨k1, p1, x1, t1, c1, pl1, n1, mo1⟩ (.slice a1 s1 d1)) 24)).alloc (.cells (Msg.cells ⟨k2, p2, x2, t2, c2, pl2, n2, mo2⟩ (.slice a2 s1 d2)) 24) = W := ⟨_, rfl⟩
  rw [hW] at H1 H2 hm1 hm2 hB0
  have HW := hide hW
  clear hW
  obtain ⟨p0, p1', p2', p3, p4, p5, p6, p7, p8⟩ := hm1.nine
  obtain ⟨q0, q1, q2, q3, q4, q5, q6, q7, q8⟩ := hm2.nine
  clear hm1 hm2
  have HS := hide hs1
  have HS2 := hide hs2
  clear hs1 hs2
  unfold Msg.cells at *
  dsimp only at *
  go_enter Tryd.func8, Tryd.ntmps8
  go_wp2
  go_loopw [5] (fun i wr => ∃ k d : Nat, k ≤ s1 ∧ i = .int .i64 k ∧ Hid (l1.take k = l2.take k) ∧ wr = W.drewN d) (fun i _ => s1 - (intOf i).toNat)
  case atStart => exact ⟨0, 0, Nat.zero_le _, rfl, rfl, unhide HW⟩
  case round =>
    obtain ⟨k, d, hk, rfl, HF, rfl⟩ := hrel
    by_cases hlt : k < s1
    · have hlk : k < l1.length := by rw [unhide HS]; exact hlt
      have hlk2 : k < l2.length := by rw [unhide HS2]; exact hlt
      obtain ⟨ad1, rfl, e1⟩ := unhide H1 k l1[k] (List.getElem?_eq_getElem hlk)
      obtain ⟨ad2, rfl, e2⟩ := unhide H2 k l2[k] (List.getElem?_eq_getElem hlk2)
      have hno : ¬ l1[k] = l2[k] → ¬ l1 = l2 := fun h e => h (by subst e; rfl)
      have hnx : l1[k] = l2[k] → l1.take (k + 1) = l2.take (k + 1) := fun h => by
        rw [List.take_succ_eq_append_getElem hlk, List.take_succ_eq_append_getElem hlk2, HF.out, h]
      generalize l1[k] = x at e1 hno hnx
      generalize l2[k] = y at e2 hno hnx
      by_cases hxy : ¬ x = y
      · have hb : (x == y) = false := by rw [beq_eq_false_iff_ne]; exact hxy
        have HN := hide (hno hxy)
        clear hno hnx hxy
        go_wp2
        go_quiet (fail)
        go_wp2
        go_ret
        exact ⟨false, by simp, by simp only [Bool.false_eq_true, false_iff]; exact fun x => unhide HN x.2, below_drawn (unhide (hide (below_drawn hB0)))⟩
      · obtain rfl := Classical.not_not.1 hxy
        have HN := hide (hnx rfl)
        clear hno hnx hxy
        go_wp2
        go_quiet (fail)
        go_wp2
        go_roundw
        case rel => exact ⟨k + 1, d + nq, by omega, by go_num, HN, by simp⟩
        case measure => simp [intOf]; omega
    · have hl : l1 = l2 := by
        have h := HF.out
        rw [List.take_of_length_le (by rw [unhide HS]; omega), List.take_of_length_le (by rw [unhide HS2]; omega)] at h
        exact h
      have HE := hide hl
      clear hl HF
      have HB := hide (below_drawn (n := d) hB0)
      clear hB0
      by_cases h : ¬ k1 = k2
      · have hb := text_ne h
        have HH := hide h
        clear h
        go_wp2
        go_ret
        exact ⟨false, by simp, by simp only [Bool.false_eq_true, false_iff, Msg.mk.injEq]; exact fun x => unhide HH (by simp [x]), unhide HB⟩
      obtain rfl := Classical.not_not.1 h
      clear h
      by_cases h : ¬ p1 = p2
      · have hb := text_ne h
        have HH := hide h
        clear h
        go_wp2
        go_ret
        exact ⟨false, by simp, by simp only [Bool.false_eq_true, false_iff, Msg.mk.injEq]; exact fun x => unhide HH (by simp [x]), unhide HB⟩
      obtain rfl := Classical.not_not.1 h
      clear h
      by_cases h : ¬ x1 = x2
      · have hb := beq_eq_false_iff_ne.2 h
        have HH := hide h
        clear h
        go_wp2
        go_ret
        exact ⟨false, by simp, by simp only [Bool.false_eq_true, false_iff, Msg.mk.injEq]; exact fun x => unhide HH (by simp [x]), unhide HB⟩
      obtain rfl := Classical.not_not.1 h
      clear h
      by_cases h : ¬ t1 = t2
      · have hb := beq_eq_false_iff_ne.2 h
        have HH := hide h
        clear h
        go_wp2
        go_ret
        exact ⟨false, by simp, by simp only [Bool.false_eq_true, false_iff, Msg.mk.injEq]; exact fun x => unhide HH (by simp [x]), unhide HB⟩
      obtain rfl := Classical.not_not.1 h
      clear h
      by_cases h : ¬ c1 = c2
      · have hb := text_ne h
        have HH := hide h
        clear h
        go_wp2
        go_ret
        exact ⟨false, by simp, by simp only [Bool.false_eq_true, false_iff, Msg.mk.injEq]; exact fun x => unhide HH (by simp [x]), unhide HB⟩
      obtain rfl := Classical.not_not.1 h
      clear h
      by_cases h : ¬ pl1 = pl2
      · have hb := text_ne h
        have HH := hide h
        clear h
        go_wp2
        go_ret
        exact ⟨false, by simp, by simp only [Bool.false_eq_true, false_iff, Msg.mk.injEq]; exact fun x => unhide HH (by simp [x]), unhide HB⟩
      obtain rfl := Classical.not_not.1 h
      clear h
      by_cases h : ¬ n1 = n2
      · have hb := text_ne h
        have HH := hide h
        clear h
        go_wp2
        go_ret
        exact ⟨false, by simp, by simp only [Bool.false_eq_true, false_iff, Msg.mk.injEq]; exact fun x => unhide HH (by simp [x]), unhide HB⟩
      obtain rfl := Classical.not_not.1 h
      clear h
      by_cases h : ¬ mo1 = mo2
      · have hb := beq_eq_false_iff_ne.2 h
        have HH := hide h
        clear h
        go_wp2
        go_ret
        exact ⟨false, by simp, by simp only [Bool.false_eq_true, false_iff, Msg.mk.injEq]; exact fun x => unhide HH (by simp [x]), unhide HB⟩
      obtain rfl := Classical.not_not.1 h
      clear h
      go_wp2
      go_ret
      exact ⟨true, by simp, by simp [unhide HE], unhide HB⟩
end Go.Proofs.YtkkaieijbpkleaaDoor
