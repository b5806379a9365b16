import Derived.Test.YtkkaieijbpkleaaDoorBJ
import Derived.Test.YtkkaieijbpkleaaDoorAF
namespace Go.Proofs.YtkkaieijbpkleaaDoor
open Go.RowKit Go.Shelf

theorem two_boxes (w : World) (m1 m2 : Msg) (v1 v2 : Value) : Ms ((w.alloc (.cells (m1.cells v1) 24)).alloc (.cells (m2.cells v2) 24)) w.heap.size m1 v1 ∧
    Ms ((w.alloc (.cells (m1.cells v1) 24)).alloc (.cells (m2.cells v2) 24)) (w.heap.size + 1) m2 v2 ∧
    Below w.heap.size w ((w.alloc (.cells (m1.cells v1) 24)).alloc (.cells (m2.cells v2) 24)) := by
  refine ⟨?_, ?_, ((Below.refl _ w).alloc (Nat.le_refl _) _).alloc (by simp) _⟩
  · exact Ms.kept (w := w.alloc (.cells (m1.cells v1) 24)) (heap_alloc_new w _) (World.grownBy_alloc _ _ none) (by simp)
  · have := heap_alloc_new (w.alloc (.cells (m1.cells v1) 24)) (.cells (m2.cells v2) 24)
    rw [show (w.alloc (.cells (m1.cells v1) 24)).heap.size = w.heap.size + 1 by simp] at this
    exact this
theorem text_ne {a b : ByteArray} (h : ¬ a = b) : (a.toList == b.toList) = false := by
  rw [beq_eq_false_iff_ne]
  intro e
  apply h
  apply ext_list
  rw [← Lib.toList_data, e, Lib.toList_data]

/-- What a comparison of two messages answers. -/
def SamePost (m1 m2 : Msg) (l1 l2 : List Int) (w : World) (e : Ending) (w' : World) : Prop :=
  ∃ r : Bool, e = .returned (.bool r) ∧ (r = true ↔ m1 = m2 ∧ l1 = l2) ∧ Below w.heap.size w w'

set_option maxRecDepth 100000 in
set_option maxHeartbeats 2000000 in
theorem isame_any (k1 p1 : ByteArray) (a1 t1 : Int) (c1 pl1 n1 : ByteArray) (mo1 : Int) (k2 p2 : ByteArray) (a2 t2 : Int) (c2 pl2 n2 : ByteArray) (mo2 : Int) (l1 l2 : List Int) (w : World) {b1 b2 s1 s2 : Nat} {v1 v2 : Value} (h1 : w.ownsRow b1 3 1 v1 s1 (l1.map (Value.int .i64))) (h2 : w.ownsRow b2 3 1 v2 s2 (l2.map (Value.int .i64))) (hn1 : s1 ≤ 1000000000) (hn2 : s2 ≤ 1000000000) :
    Calls Tryd.prog 28 #[.agg (Msg.cells ⟨k1, p1, a1, t1, c1, pl1, n1, mo1⟩ v1), .agg (Msg.cells ⟨k2, p2, a2, t2, c2, pl2, n2, mo2⟩ v2)] w (SamePost ⟨k1, p1, a1, t1, c1, pl1, n1, mo1⟩ ⟨k2, p2, a2, t2, c2, pl2, n2, mo2⟩ l1 l2 w) := by
  obtain ⟨hm1, hm2, hB0⟩ := two_boxes w ⟨k1, p1, a1, t1, c1, pl1, n1, mo1⟩ ⟨k2, p2, a2, t2, c2, pl2, n2, mo2⟩ v1 v2
  have heq := fun (W : World) (hb : Below w.heap.size w W) => equal_any l1 l2 W (row_below h1 hb) (row_below h2 hb) hn1 hn2
  obtain ⟨d1, e1, rfl⟩ := row_slice h1
  obtain ⟨d2, e2, rfl⟩ := row_slice h2
  have HE := hide (heq _ hB0)
  have HB := hide hB0
  clear heq h1 h2 hm1 hm2 hB0
  unfold Msg.cells at *
  dsimp only at *
  by_cases h : ¬ k1 = k2
  · have hb := text_ne h
    have HH := hide h
    clear h
    go_enter Tryd.func28, Tryd.ntmps28
    go_wp2_with fail
    go_ret
    exact ⟨false, by simp, by simp only [Bool.false_eq_true, false_iff, Msg.mk.injEq]; exact fun x => unhide HH x.1.1, unhide HB⟩
  obtain rfl := Classical.not_not.1 h
  clear h
  by_cases hl : ¬ l1 = l2
  · have HD := hide (decide_eq_false hl)
    have HH := hide hl
    clear hl
    go_enter Tryd.func28, Tryd.ntmps28
    go_wp2_with (go_at_call 34; refine (unhide HE).mono ?_; rintro e w1 ⟨rfl, dn, rfl⟩; rw [unhide HD])
    go_ret
    exact ⟨false, by simp, by simp only [Bool.false_eq_true, false_iff]; exact fun x => unhide HH x.2, below_drawn (unhide HB)⟩
  obtain rfl := Classical.not_not.1 hl
  clear hl
  have HD : Hid (decide (l1 = l1) = true) := decide_eq_true rfl
  by_cases h : ¬ p1 = p2
  · have hb := text_ne h
    have HH := hide h
    clear h
    go_enter Tryd.func28, Tryd.ntmps28
    go_wp2_with (go_at_call 34; refine (unhide HE).mono ?_; rintro e w1 ⟨rfl, dn, rfl⟩; rw [HD.out])
    go_ret
    exact ⟨false, by simp, by simp only [Bool.false_eq_true, false_iff, Msg.mk.injEq]; exact fun x => unhide HH (by simp [x]), below_drawn (unhide HB)⟩
  obtain rfl := Classical.not_not.1 h
  clear h
  by_cases h : ¬ a1 = a2
  · have hb := beq_eq_false_iff_ne.2 h
    have HH := hide h
    clear h
    go_enter Tryd.func28, Tryd.ntmps28
    go_wp2_with (go_at_call 34; refine (unhide HE).mono ?_; rintro e w1 ⟨rfl, dn, rfl⟩; rw [HD.out])
    go_ret
    exact ⟨false, by simp, by simp only [Bool.false_eq_true, false_iff, Msg.mk.injEq]; exact fun x => unhide HH (by simp [x]), below_drawn (unhide HB)⟩
  obtain rfl := Classical.not_not.1 h
  clear h
  by_cases h : ¬ t1 = t2
  · have hb := beq_eq_false_iff_ne.2 h
    have HH := hide h
    clear h
    go_enter Tryd.func28, Tryd.ntmps28
    go_wp2_with (go_at_call 34; refine (unhide HE).mono ?_; rintro e w1 ⟨rfl, dn, rfl⟩; rw [HD.out])
    go_ret
    exact ⟨false, by simp, by simp only [Bool.false_eq_true, false_iff, Msg.mk.injEq]; exact fun x => unhide HH (by simp [x]), below_drawn (unhide HB)⟩
  obtain rfl := Classical.not_not.1 h
  clear h
  by_cases h : ¬ c1 = c2
  · have hb := text_ne h
    have HH := hide h
    clear h
    go_enter Tryd.func28, Tryd.ntmps28
    go_wp2_with (go_at_call 34; refine (unhide HE).mono ?_; rintro e w1 ⟨rfl, dn, rfl⟩; rw [HD.out])
    go_ret
    exact ⟨false, by simp, by simp only [Bool.false_eq_true, false_iff, Msg.mk.injEq]; exact fun x => unhide HH (by simp [x]), below_drawn (unhide HB)⟩
  obtain rfl := Classical.not_not.1 h
  clear h
  by_cases h : ¬ pl1 = pl2
  · have hb := text_ne h
    have HH := hide h
    clear h
    go_enter Tryd.func28, Tryd.ntmps28
    go_wp2_with (go_at_call 34; refine (unhide HE).mono ?_; rintro e w1 ⟨rfl, dn, rfl⟩; rw [HD.out])
    go_ret
    exact ⟨false, by simp, by simp only [Bool.false_eq_true, false_iff, Msg.mk.injEq]; exact fun x => unhide HH (by simp [x]), below_drawn (unhide HB)⟩
  obtain rfl := Classical.not_not.1 h
  clear h
  by_cases h : ¬ n1 = n2
  · have hb := text_ne h
    have HH := hide h
    clear h
    go_enter Tryd.func28, Tryd.ntmps28
    go_wp2_with (go_at_call 34; refine (unhide HE).mono ?_; rintro e w1 ⟨rfl, dn, rfl⟩; rw [HD.out])
    go_ret
    exact ⟨false, by simp, by simp only [Bool.false_eq_true, false_iff, Msg.mk.injEq]; exact fun x => unhide HH (by simp [x]), below_drawn (unhide HB)⟩
  obtain rfl := Classical.not_not.1 h
  clear h
  by_cases h : ¬ mo1 = mo2
  · have hb := beq_eq_false_iff_ne.2 h
    have HH := hide h
    clear h
    go_enter Tryd.func28, Tryd.ntmps28
    go_wp2_with (go_at_call 34; refine (unhide HE).mono ?_; rintro e w1 ⟨rfl, dn, rfl⟩; rw [HD.out])
    go_ret
    exact ⟨false, by simp, by simp only [Bool.false_eq_true, false_iff, Msg.mk.injEq]; exact fun x => unhide HH (by simp [x]), below_drawn (unhide HB)⟩
  obtain rfl := Classical.not_not.1 h
  clear h
  go_enter Tryd.func28, Tryd.ntmps28
  go_wp2_with (go_at_call 34; refine (unhide HE).mono ?_; rintro e w1 ⟨rfl, dn, rfl⟩; rw [HD.out])
  go_ret
  exact ⟨true, by simp, by simp, below_drawn (unhide HB)⟩
end Go.Proofs.YtkkaieijbpkleaaDoor
