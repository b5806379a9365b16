import Derived.Test.YtkkaieijbpkleaaDoorJ
namespace Go.Proofs.YtkkaieijbpkleaaDoor
open Go.RowKit Go.Shelf

/-- A reason: R and a digit. -/
def why (n : UInt8) : ByteArray := ⟨#[82, n]⟩
/-- What a frame says: a message with its fields, or a reason. -/
def dec (f : ByteArray) : Option (Msg × List Int) × ByteArray :=
  if f.size < 10 then (none, why 49)
  else if okD (f.extract 0 2) = false then (none, why 49)
  else if lays (dg (f.extract 0 2)) = [] then (none, why 50)
  else if flds (f.extract 2 10) 64 ∉ lays (dg (f.extract 0 2)) then (none, why 51)
  else if okOf (foldP (emptyMsg (dg (f.extract 0 2)), f.extract 10 f.size, false) (flds (f.extract 2 10) 64)) then
    (some ((foldP (emptyMsg (dg (f.extract 0 2)), f.extract 10 f.size, false) (flds (f.extract 2 10) 64)).1, flds (f.extract 2 10) 64), emp)
  else (none, why 52)
def msgOf : Option (Msg × List Int) → Msg
  | none => emptyMsg emp
  | some x => x.1
def fldOf : Option (Msg × List Int) → List Int
  | none => []
  | some x => x.2
/-- What a call of Decode leaves. -/
def DecPost (d : Option (Msg × List Int) × ByteArray) (w : World) (e : Ending) (w' : World) : Prop :=
  ∃ v, e = .returned (.tuple #[.agg ((msgOf d.1).cells v), .string d.2]) ∧ w'.ownsRow w.heap.size 3 1 v (fldOf d.1).length ((fldOf d.1).map (Value.int .i64)) ∧ Below w.heap.size w w'
theorem decPost_none (r : ByteArray) (w w' : World) (h : Below w.heap.size w w') : DecPost (none, r) w (.returned (.tuple #[.agg ((emptyMsg emp).cells (.slice none 0 0)), .string r])) w' :=
  ⟨.slice none 0 0, rfl, World.ownsRow_nil _ _ _ _, h⟩

theorem zero_new (w : World) : Ms (w.alloc (.cells ((emptyMsg emp).cells (.slice none 0 0)) 24)) w.heap.size (emptyMsg emp) (.slice none 0 0) := heap_alloc_new w _
theorem zero_below (w : World) : Below w.heap.size w (w.alloc (.cells ((emptyMsg emp).cells (.slice none 0 0)) 24)) := (Below.refl _ w).alloc (Nat.le_refl _) _

theorem nineSet_grown (w : World) (mb : Nat) (m : Msg) (v : Value) : w.grownBy (nineSet w mb m v) (some mb) :=
  grown_trans (grown_trans (grown_trans (grown_trans (grown_trans (grown_trans (grown_trans (grown_trans (grown_set _ mb 0 _) (grown_set _ mb 1 _)) (grown_set _ mb 2 _)) (grown_set _ mb 3 _)) (grown_set _ mb 4 _)) (grown_set _ mb 5 _)) (grown_set _ mb 6 _)) (grown_set _ mb 7 _)) (grown_set _ mb 8 _)
/-- The list of fields stays where it lies while the result is written. -/
theorem row_res {w5 : World} {mb base n : Nat} {m0 : Msg} {v0 v : Value} {xs : List Value} (hm : Ms w5 mb m0 v0) (m : Msg) (h : w5.ownsRow base 3 1 v n xs) {base' : Nat} (hb : base' ≤ base) (o : Obj) : ((nineSet w5 mb m v).alloc o).ownsRow base' 3 1 v n xs := by
  have h1 : (nineSet w5 mb m v).ownsRow base 3 1 v n xs := h.kept (nineSet_grown w5 mb m v) (by
    rcases h.2 with ⟨rfl, _⟩ | ⟨g, cap, cur, rfl, _, hg, _⟩
    · exact .inl rfl
    · refine .inr fun e => ?_
      obtain rfl : g = mb := by simpa [Value.ownBlock] using e
      rw [show w5.heap[g]? = _ from hm] at hg
      simp at hg)
  have h2 := h1.alloc o
  exact ⟨h2.1, h2.2.imp id fun ⟨g, cap, cur, e1, e2, e3⟩ => ⟨g, cap, cur, e1, Nat.le_trans hb e2, e3⟩⟩

/-- The result of a call that stores a message into its result, and a text. -/
theorem msg_res {fn : Func} (hfn : fn.results = #[.cell 2 24, .tmp 3]) {w' : World} {mb : Nat} {m : Msg} {v : Value} (h : Ms w' mb m v) (tmps : Array Value) (h2 : tmps.getD 2 undef = .pointer (some ⟨mb, 0, none⟩)) {r : ByteArray} (h3 : tmps.getD 3 undef = .string r) :
    (results fn tmps).run Tryd.prog w' = .ok (.tuple #[.agg (m.cells v), .string r]) w' := by
  obtain ⟨q0, q1, q2, q3, q4, q5, q6, q7, q8⟩ := h.nine
  rw [Array.getD_eq_getD_getElem?] at h2 h3
  simp [results, go_sem, *]
  rfl
theorem err_res {w : World} {mb : Nat} {m0 : Msg} {v0 : Value} (h : Ms w mb m0 v0) (tmps : Array Value) (h2 : tmps.getD 2 undef = .pointer (some ⟨mb, 0, none⟩)) {r : ByteArray} (h3 : tmps.getD 3 undef = .string r) :
    (results Tryd.f6 tmps).run Tryd.prog (nineSet w mb (emptyMsg emp) (.slice none 0 0)) = .ok (.tuple #[.agg ((emptyMsg emp).cells (.slice none 0 0)), .string r]) (nineSet w mb (emptyMsg emp) (.slice none 0 0)) :=
  msg_res rfl (nine_set h _ _) tmps h2 h3

set_option maxRecDepth 100000 in
set_option maxHeartbeats 4000000 in
theorem decode_any (f : ByteArray) (w : World) (hT : Tabs w) (hs : f.size ≤ 9223372036854775807) : Calls Tryd.prog 6 #[.string f] w (DecPost (dec f) w) := by
  unfold dec
  by_cases h10 : f.size < 10
  · rw [if_pos h10]
    have h10i : (f.size : Int) < 10 := by omega
    clear h10
    go_enter Tryd.func6, Tryd.ntmps6
    go_wp2
    refine bodyPost_ret (v := .tuple #[.agg ((emptyMsg emp).cells (.slice none 0 0)), .string (why 49)]) ?_ rfl (decPost_none _ w _ (zero_below w))
    obtain ⟨q0, q1, q2, q3, q4, q5, q6, q7, q8⟩ := (zero_new w).nine
    unfold emptyMsg emp at *
    simp [results, Tryd.f6, go_sem, *]
    exact ⟨rfl, rfl⟩
  rw [if_neg h10]
  have h10i : ¬ (f.size : Int) < 10 := by omega
  have h2 : 2 ≤ f.size := by omega
  have hk10 : 10 ≤ f.size := by omega
  have hu := fun w => unpack_any (f.extract 0 2) w (by rw [ByteArray.size_extract]; omega)
  generalize dg (f.extract 0 2) = k at hu ⊢
  cases hok : okD (f.extract 0 2) with
  | false =>
    rw [hok] at hu
    rw [if_pos rfl]
    have HU := hide hu
    clear hu hok h10
    go_enter Tryd.func6, Tryd.ntmps6
    go_wp2_with (go_at_call 17; refine (unhide HU _).mono ?_; rintro e w1 ⟨rfl, hb1⟩; have hm1 := (zero_new w).kept (below_grown' hb1) (by simp); have hB1 := (zero_below w).trans (hb1.mono (by simp)); obtain ⟨p0, p1, p2, p3, p4, p5, p6, p7, p8⟩ := hm1.nine; have pf := hm1.frozen)
    refine bodyPost_ret (v := .tuple #[.agg ((emptyMsg emp).cells (.slice none 0 0)), .string (why 49)]) ?_ rfl (decPost_none (why 49) w _ (hB1.trans (nineSet_below w1 w.heap.size (emptyMsg emp) (.slice none 0 0) (Nat.le_refl _))))
    exact err_res hm1 _ rfl rfl
  | true =>
    rw [hok] at hu
    rw [if_neg (by simp)]
    have HU := hide hu
    clear hu hok h10
    have hlay := fun w => layouts_any k w
    have hall := fun (l : List Int) w {base n : Nat} {v : Value} (hv : w.ownsRow base 3 1 v n (l.map (Value.int .i64))) (hn : n ≤ 1000000000) => allowed_any k l w hv hn
    have hls := (lays_small k).1
    generalize lays k = ls at hlay hall hls ⊢
    have HL := hide hlay
    clear hlay
    by_cases hnil : ls = []
    · rw [if_pos hnil]
      have hn0 : (((ls.length : Nat) : Int) == 0) = true := by rw [hnil]; rfl
      clear hall hls hnil
      go_enter Tryd.func6, Tryd.ntmps6
      go_wp2_with (first | (go_at_call 17; refine (unhide HU _).mono ?_; rintro e w1 ⟨rfl, hb1⟩; have hm1 := (zero_new w).kept (below_grown' hb1) (by simp); have hB1 := (zero_below w).trans (hb1.mono (by simp)); obtain ⟨p0, p1, p2, p3, p4, p5, p6, p7, p8⟩ := hm1.nine; have pf := hm1.frozen) | (go_at_call 18; refine (unhide HL _).mono ?_; rintro e w2 ⟨v2, rfl, ⟨vs2, hrow2, _⟩, hb2⟩; obtain ⟨a2, c2, rfl⟩ := row_slice hrow2; have hm2 := hm1.kept (below_grown' hb2) (by simp); have hB2 := hB1.trans (hb2.mono hB1.size); obtain ⟨p0, p1, p2, p3, p4, p5, p6, p7, p8⟩ := hm2.nine; have pf := hm2.frozen))
      refine bodyPost_ret (v := .tuple #[.agg ((emptyMsg emp).cells (.slice none 0 0)), .string (why 50)]) ?_ rfl (decPost_none (why 50) w _ (hB2.trans (nineSet_below w2 w.heap.size (emptyMsg emp) (.slice none 0 0) (Nat.le_refl _))))
      exact err_res hm2 _ rfl rfl
    rw [if_neg hnil]
    have hn0 : (((ls.length : Nat) : Int) == 0) = false := by
      have : ls.length ≠ 0 := fun e => hnil (List.eq_nil_of_length_eq_zero e)
      simp; omega
    clear hnil
    have hsz8 : (f.extract 2 10).size = 8 := by rw [ByteArray.size_extract]; omega
    have hf := fun w => listed_any (f.extract 2 10) w hsz8
    have hfl := flds_length (f.extract 2 10) 64
    generalize flds (f.extract 2 10) 64 = l at hf hfl ⊢
    have hal := fun (w' : World) (b : Nat) (v : Value) (hv : w'.ownsRow b 3 1 v l.length (l.map (Value.int .i64))) => hall l w' hv (by omega)
    have HF := hide hf
    have HA := hide hal
    clear hf hal hall hsz8
    by_cases hin : l ∈ ls
    · rw [if_neg (by simpa using hin)]
      have HM := hide (decide_eq_true hin)
      clear hin
      have hrd := fun (w' : World) (b : Nat) (v : Value) (hv : w'.ownsRow b 3 1 v l.length (l.map (Value.int .i64))) (ht : Tabs w') => read_any k (f.extract 10 f.size) w' hv (by omega) ht (by rw [ByteArray.size_extract]; omega)
      generalize foldP (emptyMsg k, f.extract 10 f.size, false) l = st at hrd ⊢
      obtain ⟨m, s5, b5⟩ := st
      cases hk : okOf (m, s5, b5) with
      | true =>
        rw [hk] at hrd
        rw [if_pos rfl]
        have HR := hide hrd
        clear hrd hk
        go_enter Tryd.func6, Tryd.ntmps6
        go_wp2_with (first | (go_at_call 17; refine (unhide HU _).mono ?_; rintro e w1 ⟨rfl, hb1⟩; have hm1 := (zero_new w).kept (below_grown' hb1) (by simp); have hB1 := (zero_below w).trans (hb1.mono (by simp)); obtain ⟨p0, p1, p2, p3, p4, p5, p6, p7, p8⟩ := hm1.nine; have pf := hm1.frozen) | (go_at_call 18; refine (unhide HL _).mono ?_; rintro e w2 ⟨v2, rfl, ⟨vs2, hrow2, _⟩, hb2⟩; obtain ⟨a2, c2, rfl⟩ := row_slice hrow2; have hm2 := hm1.kept (below_grown' hb2) (by simp); have hB2 := hB1.trans (hb2.mono hB1.size); obtain ⟨p0, p1, p2, p3, p4, p5, p6, p7, p8⟩ := hm2.nine; have pf := hm2.frozen) | (go_at_call 19; refine (unhide HF _).mono ?_; rintro e w3 ⟨v3, rfl, hrow3, hb3⟩; obtain ⟨a3, c3, rfl⟩ := row_slice hrow3; have hm3 := hm2.kept (below_grown' hb3) (by simp); have hB3 := hB2.trans (hb3.mono hB2.size)) | (go_at_call 20; refine (unhide HA _ _ _ hrow3).mono ?_; rintro e w4 ⟨rfl, hb4⟩; rw [unhide HM]; have hm4 := hm3.kept (below_grown' hb4) (by simp); have hB4 := hB3.trans (hb4.mono hB3.size); obtain ⟨p0, p1, p2, p3, p4, p5, p6, p7, p8⟩ := hm4.nine; have pf := hm4.frozen) | (go_at_call 21; refine (unhide HR _ _ _ (row_below hrow3 hb4) (tabs_below hT hB4)).mono ?_; rintro e w5 ⟨rfl, hb5⟩; unfold Msg.cells; have hm5 := hm4.kept (below_grown' hb5) (by simp); have hB5 := hB4.trans (hb5.mono hB4.size); have hlt5 := hm5.lt; obtain ⟨p0, p1, p2, p3, p4, p5, p6, p7, p8⟩ := hm5.nine; have pf := hm5.frozen))
        have hMsF : Ms ((nineSet w5 w.heap.size m (.slice a3 l.length c3)).alloc (.cells (m.cells (.slice a3 l.length c3)) 24)) w.heap.size m (.slice a3 l.length c3) := (nine_set hm5 m _).kept (World.grownBy_alloc _ _ none) (by simp)
        refine bodyPost_ret (v := .tuple #[.agg (m.cells (.slice a3 l.length c3)), .string emp]) (msg_res rfl hMsF _ rfl rfl) rfl ⟨.slice a3 l.length c3, rfl, ?_, ?_⟩
        · exact row_res hm5 m (row_below (row_below hrow3 hb4) hb5) (Nat.le_trans hB2.size (Nat.le_refl _)) _
        · exact (hB5.trans (nineSet_below w5 w.heap.size m (.slice a3 l.length c3) (Nat.le_refl _))).alloc (by have := hB5.size; have := (nineSet_below w5 w.heap.size m (.slice a3 l.length c3) (Nat.le_refl _)).size; omega) _
      | false =>
        rw [hk] at hrd
        rw [if_neg (by simp)]
        have HR := hide hrd
        clear hrd hk
        go_enter Tryd.func6, Tryd.ntmps6
        go_wp2_with (first | (go_at_call 17; refine (unhide HU _).mono ?_; rintro e w1 ⟨rfl, hb1⟩; have hm1 := (zero_new w).kept (below_grown' hb1) (by simp); have hB1 := (zero_below w).trans (hb1.mono (by simp)); obtain ⟨p0, p1, p2, p3, p4, p5, p6, p7, p8⟩ := hm1.nine; have pf := hm1.frozen) | (go_at_call 18; refine (unhide HL _).mono ?_; rintro e w2 ⟨v2, rfl, ⟨vs2, hrow2, _⟩, hb2⟩; obtain ⟨a2, c2, rfl⟩ := row_slice hrow2; have hm2 := hm1.kept (below_grown' hb2) (by simp); have hB2 := hB1.trans (hb2.mono hB1.size); obtain ⟨p0, p1, p2, p3, p4, p5, p6, p7, p8⟩ := hm2.nine; have pf := hm2.frozen) | (go_at_call 19; refine (unhide HF _).mono ?_; rintro e w3 ⟨v3, rfl, hrow3, hb3⟩; obtain ⟨a3, c3, rfl⟩ := row_slice hrow3; have hm3 := hm2.kept (below_grown' hb3) (by simp); have hB3 := hB2.trans (hb3.mono hB2.size)) | (go_at_call 20; refine (unhide HA _ _ _ hrow3).mono ?_; rintro e w4 ⟨rfl, hb4⟩; rw [unhide HM]; have hm4 := hm3.kept (below_grown' hb4) (by simp); have hB4 := hB3.trans (hb4.mono hB3.size); obtain ⟨p0, p1, p2, p3, p4, p5, p6, p7, p8⟩ := hm4.nine; have pf := hm4.frozen) | (go_at_call 21; refine (unhide HR _ _ _ (row_below hrow3 hb4) (tabs_below hT hB4)).mono ?_; rintro e w5 ⟨rfl, hb5⟩; unfold Msg.cells; have hm5 := hm4.kept (below_grown' hb5) (by simp); have hB5 := hB4.trans (hb5.mono hB4.size); have hlt5 := hm5.lt; obtain ⟨p0, p1, p2, p3, p4, p5, p6, p7, p8⟩ := hm5.nine; have pf := hm5.frozen))
        have hMsF : Ms ((nineSet w5 w.heap.size (emptyMsg emp) (.slice none 0 0)).alloc (.cells (m.cells (.slice a3 l.length c3)) 24)) w.heap.size (emptyMsg emp) (.slice none 0 0) := (nine_set hm5 _ _).kept (World.grownBy_alloc _ _ none) (by simp)
        refine bodyPost_ret (v := .tuple #[.agg ((emptyMsg emp).cells (.slice none 0 0)), .string (why 52)]) (msg_res rfl hMsF _ rfl rfl) rfl (decPost_none (why 52) w _ ?_)
        exact (hB5.trans (nineSet_below w5 w.heap.size (emptyMsg emp) (.slice none 0 0) (Nat.le_refl _))).alloc (by have := hB5.size; have := (nineSet_below w5 w.heap.size (emptyMsg emp) (.slice none 0 0) (Nat.le_refl _)).size; omega) _
    · rw [if_pos hin]
      have HM := hide (decide_eq_false hin)
      clear hin
      go_enter Tryd.func6, Tryd.ntmps6
      go_wp2_with (first | (go_at_call 17; refine (unhide HU _).mono ?_; rintro e w1 ⟨rfl, hb1⟩; have hm1 := (zero_new w).kept (below_grown' hb1) (by simp); have hB1 := (zero_below w).trans (hb1.mono (by simp)); obtain ⟨p0, p1, p2, p3, p4, p5, p6, p7, p8⟩ := hm1.nine; have pf := hm1.frozen) | (go_at_call 18; refine (unhide HL _).mono ?_; rintro e w2 ⟨v2, rfl, ⟨vs2, hrow2, _⟩, hb2⟩; obtain ⟨a2, c2, rfl⟩ := row_slice hrow2; have hm2 := hm1.kept (below_grown' hb2) (by simp); have hB2 := hB1.trans (hb2.mono hB1.size); obtain ⟨p0, p1, p2, p3, p4, p5, p6, p7, p8⟩ := hm2.nine; have pf := hm2.frozen) | (go_at_call 19; refine (unhide HF _).mono ?_; rintro e w3 ⟨v3, rfl, hrow3, hb3⟩; obtain ⟨a3, c3, rfl⟩ := row_slice hrow3; have hm3 := hm2.kept (below_grown' hb3) (by simp); have hB3 := hB2.trans (hb3.mono hB2.size)) | (go_at_call 20; refine (unhide HA _ _ _ hrow3).mono ?_; rintro e w4 ⟨rfl, hb4⟩; rw [unhide HM]; have hm4 := hm3.kept (below_grown' hb4) (by simp); have hB4 := hB3.trans (hb4.mono hB3.size); obtain ⟨p0, p1, p2, p3, p4, p5, p6, p7, p8⟩ := hm4.nine; have pf := hm4.frozen))
      refine bodyPost_ret (v := .tuple #[.agg ((emptyMsg emp).cells (.slice none 0 0)), .string (why 51)]) ?_ rfl (decPost_none (why 51) w _ (hB4.trans (nineSet_below w4 w.heap.size (emptyMsg emp) (.slice none 0 0) (Nat.le_refl _))))
      exact err_res hm4 _ rfl rfl
end Go.Proofs.YtkkaieijbpkleaaDoor
