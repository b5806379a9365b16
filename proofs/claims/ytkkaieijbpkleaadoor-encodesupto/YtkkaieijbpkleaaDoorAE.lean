import Derived.Test.YtkkaieijbpkleaaDoorAD
namespace Go.Proofs.YtkkaieijbpkleaaDoor
open Go.RowKit Go.Shelf

/-- Two messages handed in, each in a block of its own. -/
theorem both_new (w : World) (m : Msg) (v1 v2 : Value) : Ms ((w.alloc (.cells (m.cells v1) 24)).alloc (.cells (m.cells v2) 24)) w.heap.size m v1 ∧
    Ms ((w.alloc (.cells (m.cells v1) 24)).alloc (.cells (m.cells v2) 24)) (w.heap.size + 1) m v2 ∧
    Below w.heap.size w ((w.alloc (.cells (m.cells v1) 24)).alloc (.cells (m.cells v2) 24)) := by
  refine ⟨?_, ?_, ((Below.refl _ w).alloc (Nat.le_refl _) _).alloc (by simp) _⟩
  · exact Ms.kept (w := w.alloc (.cells (m.cells v1) 24)) (heap_alloc_new w _) (World.grownBy_alloc _ _ none) (by simp)
  · have := heap_alloc_new (w.alloc (.cells (m.cells v1) 24)) (.cells (m.cells v2) 24)
    rw [show (w.alloc (.cells (m.cells v1) 24)).heap.size = w.heap.size + 1 by simp] at this
    exact this

set_option maxRecDepth 100000 in
set_option maxHeartbeats 1000000 in
theorem same_any (m : Msg) (l : List Int) (w : World) {b1 b2 : Nat} {v1 v2 : Value} (h1 : w.ownsRow b1 3 1 v1 l.length (l.map (Value.int .i64))) (h2 : w.ownsRow b2 3 1 v2 l.length (l.map (Value.int .i64))) (hn : l.length ≤ 1000) :
    Calls Tryd.prog 8 #[.agg (m.cells v1), .agg (m.cells v2)] w fun e w' => e = .returned (.bool true) ∧ Below w.heap.size w w' := by
  obtain ⟨a1, c1, rfl⟩ := row_slice h1
  obtain ⟨a2, c2, rfl⟩ := row_slice h2
  obtain ⟨hn1, hn2, hB0⟩ := both_new w m (.slice a1 l.length c1) (.slice a2 l.length c2)
  have H1 := hide (row_below h1 hB0)
  have H2 := hide (row_below h2 hB0)
  clear h1 h2
  obtain ⟨W, hW⟩ : ∃ W, (w.alloc (.cells (m.cells (.slice a1 l.length c1)) 24)).alloc (.cells (m.cells (.slice a2 l.length c2)) 24) = W := ⟨_, rfl⟩
  rw [hW] at H1 H2 hn1 hn2 hB0
  have HW := hide hW
  clear hW
  obtain ⟨p0, p1, p2, p3, p4, p5, p6, p7, p8⟩ := hn1.nine
  obtain ⟨q0, q1, q2, q3, q4, q5, q6, q7, q8⟩ := hn2.nine
  clear hn1 hn2
  obtain ⟨n, hln⟩ : ∃ n, l.length = n := ⟨_, rfl⟩
  rw [hln] at H1 H2 hn p1 q1 HW ⊢
  have HL := hide hln
  clear hln
  unfold Msg.cells
  go_enter Tryd.func8, Tryd.ntmps8
  go_wp2
  go_loopw [5] (fun i wr => ∃ k d : Nat, k ≤ n ∧ i = .int .i64 k ∧ wr = W.drewN d) (fun i _ => n - (intOf i).toNat)
  case atStart => exact ⟨0, 0, Nat.zero_le _, rfl, unhide HW⟩
  case round =>
    obtain ⟨k, d, hk, rfl, rfl⟩ := hrel
    by_cases hlt : k < n
    · have hlk : k < l.length := by rw [unhide HL]; exact hlt
      rcases row_form (unhide H1) with ⟨h0, _⟩ | ⟨_, g1, d1, he1, _, hcells1⟩
      · omega
      rcases row_form (unhide H2) with ⟨h0, _⟩ | ⟨_, g2, d2, he2, _, hcells2⟩
      · omega
      obtain ⟨rfl, rfl⟩ : a1 = some ⟨g1, 0, none⟩ ∧ c1 = d1 := by simpa using he1
      obtain ⟨rfl, rfl⟩ : a2 = some ⟨g2, 0, none⟩ ∧ c2 = d2 := by simpa using he2
      have e1 := hcells1 k (.int .i64 l[k]) (by rw [List.getElem?_map, List.getElem?_eq_getElem hlk]; rfl)
      have e2 := hcells2 k (.int .i64 l[k]) (by rw [List.getElem?_map, List.getElem?_eq_getElem hlk]; rfl)
      generalize l[k] = x at e1 e2
      clear hcells1 hcells2 he1 he2
      go_wp2
      go_quiet (fail)
      go_wp2
      go_roundw
      case rel => exact ⟨k + 1, d + nq, by omega, by go_num, by simp⟩
      case measure => simp [intOf]; omega
    · go_wp2
      go_ret
      exact ⟨by simp, below_drawn hB0⟩
end Go.Proofs.YtkkaieijbpkleaaDoor
