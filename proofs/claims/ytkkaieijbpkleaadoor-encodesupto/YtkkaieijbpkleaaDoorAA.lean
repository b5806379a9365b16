import Derived.Test.YtkkaieijbpkleaaDoorZ
namespace Go.Proofs.YtkkaieijbpkleaaDoor
open Go.RowKit Go.Shelf

theorem nilOr_isNone {b : Bool} {v : Value} (h : NilOr b v) : ∃ a n c, v = .slice a n c ∧ a.isNone = b := by
  unfold NilOr at h
  cases b with
  | true => exact ⟨none, 0, 0, h, rfl⟩
  | false => obtain ⟨a, n, c, rfl⟩ := h; exact ⟨some a, n, c, rfl, rfl⟩
theorem zz_new (w : World) : Ms ((w.alloc (.cells ((emptyMsg emp).cells (.slice none 0 0)) 24)).alloc (.cells ((emptyMsg emp).cells (.slice none 0 0)) 24)) w.heap.size (emptyMsg emp) (.slice none 0 0) ∧
    Ms ((w.alloc (.cells ((emptyMsg emp).cells (.slice none 0 0)) 24)).alloc (.cells ((emptyMsg emp).cells (.slice none 0 0)) 24)) (w.heap.size + 1) (emptyMsg emp) (.slice none 0 0) ∧
    Below w.heap.size w ((w.alloc (.cells ((emptyMsg emp).cells (.slice none 0 0)) 24)).alloc (.cells ((emptyMsg emp).cells (.slice none 0 0)) 24)) := two_new w (emptyMsg emp) (.slice none 0 0)

set_option maxRecDepth 100000 in
set_option maxHeartbeats 1000000 in
theorem rshort (f : ByteArray) (w : World) (h10 : f.size < 10) : Calls Tryd.prog 7 #[.string f] w (DecPost (none, why 49) w) := by
  have h10i : (f.size : Int) < 10 := by omega
  obtain ⟨hn1, hn2, hB0⟩ := zz_new w
  have HN1 := hide hn1
  clear h10 hn1 hn2
  go_enter Tryd.func7, Tryd.ntmps7
  go_wp2
  refine bodyPost_ret (v := .tuple #[.agg ((emptyMsg emp).cells (.slice none 0 0)), .string (why 49)]) ?_ rfl (decPost_none (why 49) w _ hB0)
  exact msg_res rfl (unhide HN1) _ rfl rfl

set_option maxRecDepth 100000 in
set_option maxHeartbeats 1000000 in
theorem rnodig (f : ByteArray) (w : World) (h10 : ¬ f.size < 10) (hok : okD (f.extract 0 2) = false) : Calls Tryd.prog 7 #[.string f] w (DecPost (none, why 49) w) := by
  have h10i : ¬ (f.size : Int) < 10 := by omega
  have h2 : 2 ≤ f.size := by omega
  have hu := fun w => rdigits_any (f.extract 0 2) w (by rw [ByteArray.size_extract]; omega)
  rw [hok] at hu
  obtain ⟨hn1, hn2, hB0⟩ := zz_new w
  have HN1 := hide hn1
  have HN2 := hide hn2
  have HU := hide hu
  clear h10 hn1 hn2 hu hok
  go_enter Tryd.func7, Tryd.ntmps7
  go_wp2_with (go_at_call 22; refine (unhide HU _).mono ?_; rintro e w1 ⟨rfl, hb1⟩; have hm1 := (unhide HN1).kept (below_grown' hb1) (by simp); have hz1 := (unhide HN2).kept (below_grown' hb1) (by simp); have hB1 := hB0.trans (hb1.mono hB0.size); obtain ⟨p0, p1, p2, p3, p4, p5, p6, p7, p8⟩ := hm1.nine; have pf := hm1.frozen; obtain ⟨q0, q1, q2, q3, q4, q5, q6, q7, q8⟩ := hz1.nine; have qf := hz1.frozen)
  have hB9 : Below w.heap.size w (nineSet w1 w.heap.size (emptyMsg emp) (.slice none 0 0)) := hB1.trans (nineSet_below w1 w.heap.size (emptyMsg emp) (.slice none 0 0) (Nat.le_refl _))
  have hres := nine_set hm1 (emptyMsg emp) (.slice none 0 0)
  clear p0 p1 p2 p3 p4 p5 p6 p7 p8 q0 q1 q2 q3 q4 q5 q6 q7 q8
  refine bodyPost_ret (v := .tuple #[.agg ((emptyMsg emp).cells (.slice none 0 0)), .string (why 49)]) ?_ rfl (decPost_none (why 49) w _ hB9)
  exact msg_res rfl hres _ rfl rfl

set_option maxRecDepth 100000 in
set_option maxHeartbeats 1000000 in
theorem rnokind (f : ByteArray) (w : World) (h10 : ¬ f.size < 10) (hok : okD (f.extract 0 2) = true) (hl : lays (dg (f.extract 0 2)) = [] ∨ flds (f.extract 2 10) 64 ∉ lays (dg (f.extract 0 2))) :
    Calls Tryd.prog 7 #[.string f] w (DecPost (none, if lays (dg (f.extract 0 2)) = [] then why 50 else why 51) w) := by
  have h10i : ¬ (f.size : Int) < 10 := by omega
  have h2 : 2 ≤ f.size := by omega
  have hk10 : 10 ≤ f.size := by omega
  have hu := fun w => rdigits_any (f.extract 0 2) w (by rw [ByteArray.size_extract]; omega)
  rw [hok] at hu
  have hfi := fun w => rfields_any (dg (f.extract 0 2)) w
  have hsz8 : (f.extract 2 10).size = 8 := by rw [ByteArray.size_extract]; omega
  have hf := fun w => rhas_any (f.extract 2 10) w hsz8
  have hfl := flds_length (f.extract 2 10) 64
  have hrise := flds_rise (f.extract 2 10) 64
  have hal0 := allowed_eq (dg (f.extract 0 2)) (flds (f.extract 2 10) 64) hrise
  generalize flds (f.extract 2 10) 64 = l at hf hfl hal0 hl
  have hal := fun (w' : World) (b : Nat) (v : Value) (hv : w'.ownsRow b 3 1 v l.length (l.map (Value.int .i64))) => rallowed_any (dg (f.extract 0 2)) l w' hv (by omega)
  generalize dg (f.extract 0 2) = k at hu hfi hal0 hal hl ⊢
  obtain ⟨hn1, hn2, hB0⟩ := zz_new w
  have HN1 := hide hn1
  have HN2 := hide hn2
  have HU := hide hu
  have HL := hide hfi
  have HF := hide hf
  have HA := hide hal
  by_cases hnil : lays k = []
  · rw [if_pos hnil]
    have HNIL := hide (decide_eq_true hnil)
    clear h10 hn1 hn2 hu hfi hf hal hsz8 hfl hrise hal0 hl hok hnil
    go_enter Tryd.func7, Tryd.ntmps7
    go_wp2_with (first | (go_at_call 22; refine (unhide HU _).mono ?_; rintro e w1 ⟨rfl, hb1⟩; have hm1 := (unhide HN1).kept (below_grown' hb1) (by simp); have hz1 := (unhide HN2).kept (below_grown' hb1) (by simp); have hB1 := hB0.trans (hb1.mono hB0.size); obtain ⟨p0, p1, p2, p3, p4, p5, p6, p7, p8⟩ := hm1.nine; have pf := hm1.frozen; obtain ⟨q0, q1, q2, q3, q4, q5, q6, q7, q8⟩ := hz1.nine; have qf := hz1.frozen) | (go_at_call 23; refine (unhide HL _).mono ?_; rintro e w2 ⟨v2, rfl, hnil2, hrow2, hb2⟩; have hm2 := hm1.kept (below_grown' hb2) (by simp); have hz2 := hz1.kept (below_grown' hb2) (by simp); have hB2 := hB1.trans (hb2.mono hB1.size); obtain ⟨p0, p1, p2, p3, p4, p5, p6, p7, p8⟩ := hm2.nine; have pf := hm2.frozen; obtain ⟨q0, q1, q2, q3, q4, q5, q6, q7, q8⟩ := hz2.nine; have qf := hz2.frozen; rw [unhide HNIL] at hnil2; obtain rfl : v2 = .slice none 0 0 := hnil2; have hcmp : ∀ W : World, (binOp .eql 22 (.slice none 0 0) (.slice none 0 0)).run Tryd.prog W = .ok (.bool true) W := fun W => Lib.run_eql_slice_nil_nil W 0 0 Tryd.underlying22) | (go_at_call 24; refine (unhide HF _).mono ?_; rintro e w3 ⟨v3, rfl, hrow3, hb3⟩; obtain ⟨a3, c3, rfl⟩ := row_slice hrow3; have hm3 := hm2.kept (below_grown' hb3) (by simp); have hz3 := hz2.kept (below_grown' hb3) (by simp); have hB3 := hB2.trans (hb3.mono hB2.size); obtain ⟨p0, p1, p2, p3, p4, p5, p6, p7, p8⟩ := hm3.nine; have pf := hm3.frozen; obtain ⟨q0, q1, q2, q3, q4, q5, q6, q7, q8⟩ := hz3.nine; have qf := hz3.frozen) | (go_at_call 25; refine (unhide HA _ _ _ hrow3).mono ?_; rintro e w4 ⟨rfl, hb4⟩; have hm4 := hm3.kept (below_grown' hb4) (by simp); have hz4 := hz3.kept (below_grown' hb4) (by simp); have hB4 := hB3.trans (hb4.mono hB3.size); obtain ⟨p0, p1, p2, p3, p4, p5, p6, p7, p8⟩ := hm4.nine; have pf := hm4.frozen; obtain ⟨q0, q1, q2, q3, q4, q5, q6, q7, q8⟩ := hz4.nine; have qf := hz4.frozen; have hlt4 := hm4.lt; have hltz4 := hz4.lt))
    have hB9 : Below w.heap.size w (nineSet w4 w.heap.size (emptyMsg emp) (.slice none 0 0)) := hB4.trans (nineSet_below w4 w.heap.size (emptyMsg emp) (.slice none 0 0) (Nat.le_refl _))
    have hres := nine_set hm4 (emptyMsg emp) (.slice none 0 0)
    clear p0 p1 p2 p3 p4 p5 p6 p7 p8 q0 q1 q2 q3 q4 q5 q6 q7 q8
    refine bodyPost_ret (v := .tuple #[.agg ((emptyMsg emp).cells (.slice none 0 0)), .string (why 50)]) ?_ rfl (decPost_none (why 50) w _ hB9)
    exact msg_res rfl hres _ rfl rfl
  · rw [if_neg hnil]
    have hno : decide (l ∈ lays k) = false := decide_eq_false (hl.resolve_left hnil)
    rw [← hal0 hnil] at hno
    have HNIL := hide (decide_eq_false hnil)
    have HNO := hide hno
    clear h10 hn1 hn2 hu hfi hf hal hsz8 hfl hrise hal0 hl hok hnil hno
    go_enter Tryd.func7, Tryd.ntmps7
    go_wp2_with (first | (go_at_call 22; refine (unhide HU _).mono ?_; rintro e w1 ⟨rfl, hb1⟩; have hm1 := (unhide HN1).kept (below_grown' hb1) (by simp); have hz1 := (unhide HN2).kept (below_grown' hb1) (by simp); have hB1 := hB0.trans (hb1.mono hB0.size); obtain ⟨p0, p1, p2, p3, p4, p5, p6, p7, p8⟩ := hm1.nine; have pf := hm1.frozen; obtain ⟨q0, q1, q2, q3, q4, q5, q6, q7, q8⟩ := hz1.nine; have qf := hz1.frozen) | (go_at_call 23; refine (unhide HL _).mono ?_; rintro e w2 ⟨v2, rfl, hnil2, hrow2, hb2⟩; have hm2 := hm1.kept (below_grown' hb2) (by simp); have hz2 := hz1.kept (below_grown' hb2) (by simp); have hB2 := hB1.trans (hb2.mono hB1.size); obtain ⟨p0, p1, p2, p3, p4, p5, p6, p7, p8⟩ := hm2.nine; have pf := hm2.frozen; obtain ⟨q0, q1, q2, q3, q4, q5, q6, q7, q8⟩ := hz2.nine; have qf := hz2.frozen; rw [unhide HNIL] at hnil2; obtain ⟨a2, n2, c2, rfl⟩ : ∃ a n c, v2 = .slice (some a) n c := hnil2; have hcmp : ∀ W : World, (binOp .eql 22 (.slice (some a2) n2 c2) (.slice none 0 0)).run Tryd.prog W = .ok (.bool false) W := fun W => Lib.run_eql_slice_nil W 22 3 (some a2) n2 c2 0 0 Tryd.underlying22) | (go_at_call 24; refine (unhide HF _).mono ?_; rintro e w3 ⟨v3, rfl, hrow3, hb3⟩; obtain ⟨a3, c3, rfl⟩ := row_slice hrow3; have hm3 := hm2.kept (below_grown' hb3) (by simp); have hz3 := hz2.kept (below_grown' hb3) (by simp); have hB3 := hB2.trans (hb3.mono hB2.size); obtain ⟨p0, p1, p2, p3, p4, p5, p6, p7, p8⟩ := hm3.nine; have pf := hm3.frozen; obtain ⟨q0, q1, q2, q3, q4, q5, q6, q7, q8⟩ := hz3.nine; have qf := hz3.frozen) | (go_at_call 25; refine (unhide HA _ _ _ hrow3).mono ?_; rintro e w4 ⟨rfl, hb4⟩; have hm4 := hm3.kept (below_grown' hb4) (by simp); have hz4 := hz3.kept (below_grown' hb4) (by simp); have hB4 := hB3.trans (hb4.mono hB3.size); obtain ⟨p0, p1, p2, p3, p4, p5, p6, p7, p8⟩ := hm4.nine; have pf := hm4.frozen; obtain ⟨q0, q1, q2, q3, q4, q5, q6, q7, q8⟩ := hz4.nine; have qf := hz4.frozen; have hlt4 := hm4.lt; have hltz4 := hz4.lt; rw [unhide HNO]))
    have hB9 : Below w.heap.size w (nineSet w4 w.heap.size (emptyMsg emp) (.slice none 0 0)) := hB4.trans (nineSet_below w4 w.heap.size (emptyMsg emp) (.slice none 0 0) (Nat.le_refl _))
    have hres := nine_set hm4 (emptyMsg emp) (.slice none 0 0)
    clear p0 p1 p2 p3 p4 p5 p6 p7 p8 q0 q1 q2 q3 q4 q5 q6 q7 q8
    refine bodyPost_ret (v := .tuple #[.agg ((emptyMsg emp).cells (.slice none 0 0)), .string (why 51)]) ?_ rfl (decPost_none (why 51) w _ hB9)
    exact msg_res rfl hres _ rfl rfl

end Go.Proofs.YtkkaieijbpkleaaDoor
