import Derived.Test.YtkkaieijbpkleaaDoorX
namespace Go.Proofs.YtkkaieijbpkleaaDoor
open Go.RowKit Go.Shelf

theorem fits_plain (s : ByteArray) (n : Nat) : Fits (plainP s false n) ((cutR s n).1, (cutR s n).2.1, (cutR s n).2.2 && plainL (cutR s n).1.data.toList) := by
  have e1 := (take_cut s n).1
  have e3 := cut_rest s n
  have e4 := cut_bad s n
  unfold Fits plainP
  rw [← e1]
  generalize takeP s false n = t at *
  generalize cutR s n = c at *
  obtain ⟨t1, tr, tb⟩ := t
  obtain ⟨c1, cr, cb⟩ := c
  dsimp only at *
  cases cb with
  | false =>
    obtain rfl := e4 rfl
    exact ⟨rfl, fun h => by cases h⟩
  | true =>
    obtain ⟨rfl, rfl⟩ := e3 rfl
    cases plainL c1.data.toList
    · exact ⟨rfl, fun h => by cases h⟩
    · exact ⟨rfl, fun _ => rfl⟩
theorem fits_number (s : ByteArray) (n : Nat) : Fits (numberP s false n) (vl (dg (cutR s n).1), (cutR s n).2.1, (cutR s n).2.2 && okD (cutR s n).1) := by
  have e1 := (take_cut s n).1
  have e3 := cut_rest s n
  have e4 := cut_bad s n
  unfold Fits numberP digitsP
  rw [← e1]
  generalize takeP s false n = t at *
  generalize cutR s n = c at *
  obtain ⟨t1, tr, tb⟩ := t
  obtain ⟨c1, cr, cb⟩ := c
  dsimp only at *
  cases cb with
  | false =>
    obtain rfl := e4 rfl
    exact ⟨rfl, fun h => by cases h⟩
  | true =>
    obtain ⟨rfl, rfl⟩ := e3 rfl
    cases okD c1
    · exact ⟨rfl, fun h => by cases h⟩
    · exact ⟨rfl, fun _ => rfl⟩
theorem fits_name (s : ByteArray) : Fits (nameP s false) (if (countR s 0 40).2.2 = false then (emp, emp, false) else ((cutR (countR s 0 40).2.1 (countR s 0 40).1.toNat).1, (cutR (countR s 0 40).2.1 (countR s 0 40).1.toNat).2.1, (cutR (countR s 0 40).2.1 (countR s 0 40).1.toNat).2.2 && nameL (cutR (countR s 0 40).2.1 (countR s 0 40).1.toNat).1.data.toList)) := by
  obtain ⟨h1, h2⟩ := fits_count s 0 40
  unfold nameP
  generalize countP s false 0 40 = p at *
  generalize countR s 0 40 = c at *
  obtain ⟨pn, pr, pb⟩ := p
  obtain ⟨cn, cr, cb⟩ := c
  dsimp only at *
  cases cb with
  | false =>
    obtain rfl : pb = true := by
      cases pb with
      | false => cases h1
      | true => rfl
    rw [if_pos rfl]
    refine ⟨?_, fun h => by cases h⟩
    show false = !((takeP pr true pn.toNat).2.2 || _)
    rw [take_wrong]; rfl
  | true =>
    obtain ⟨rfl, rfl, rfl⟩ : pn = cn ∧ pr = cr ∧ pb = false := by simpa using h2 rfl
    rw [if_neg (show ¬ (true = false) by simp)]
    have e1 := (take_cut pr pn.toNat).1
    have e3 := cut_rest pr pn.toNat
    have e4 := cut_bad pr pn.toNat
    generalize takeP pr false pn.toNat = t at *
    generalize cutR pr pn.toNat = c at *
    obtain ⟨t1, tr, tb⟩ := t
    obtain ⟨c1, cr, cb⟩ := c
    dsimp only at *
    subst e1
    cases cb with
    | false =>
      obtain rfl := e4 rfl
      exact ⟨rfl, fun h => by cases h⟩
    | true =>
      obtain ⟨rfl, rfl⟩ := e3 rfl
      unfold Fits
      dsimp only
      cases nameL c1.data.toList
      · exact ⟨rfl, fun h => by cases h⟩
      · exact ⟨rfl, fun _ => rfl⟩

set_option maxHeartbeats 1000000 in
theorem field39 (m : Msg) (s : ByteArray) (a0 : Option Addr) (n0 c0 : Nat) (w : World) (hs : s.size ≤ 9223372036854775807) : Calls Tryd.prog 26 #[.agg (m.cells (.slice a0 n0 c0)), .int .i64 39, .string s] w (FldPost m s 39 (.slice a0 n0 c0) w) := by
  have hfit := fits_plain s 2
  have hc := fun w => rcut_any s 2 w (by omega) hs
  have hcs := (cutR_size s 2).1
  generalize hcc : cutR s 2 = c at hc hfit hcs
  obtain ⟨p, r, ok⟩ := c
  dsimp only at hc hfit hcs
  have hpl := fun w => rplain_any p w (by omega)
  have hst : Fits (stepP (m, s, false) 39) ({ m with code := p }, r, ok && plainL p.data.toList) := ⟨hfit.1, fun h => by
    show ({ m with code := (plainP s false 2).1 }, (plainP s false 2).2) = _
    rw [hfit.2 h]⟩
  generalize plainL p.data.toList = pb at hpl hst
  have HC := hide hc
  have HP := hide hpl
  have HS := hide hst
  clear hc hst hfit hcc hpl hcs
  obtain ⟨hn1, hn2, hB0⟩ := two_new w m (.slice a0 n0 c0)
  have HN1 := hide hn1
  have HN2 := hide hn2
  clear hn1 hn2
  unfold Msg.cells
  cases ok with
  | true =>
    go_enter Tryd.func26, Tryd.ntmps26
    go_wp2_with (first | (go_at_call 38; refine (unhide HC _).mono ?_; rintro e w1 ⟨rfl, hb1⟩; have hm1 := (unhide HN1).kept (below_grown' hb1) (by simp); have hz1 := (unhide HN2).kept (below_grown' hb1) (by simp); have hB1 := hB0.trans (hb1.mono hB0.size); obtain ⟨p0, p1, p2, p3, p4, p5, p6, p7, p8⟩ := hm1.nine; have pf := hm1.frozen; obtain ⟨q0, q1, q2, q3, q4, q5, q6, q7, q8⟩ := hz1.nine; have qf := hz1.frozen) | (go_at_call 39; refine (unhide HP _).mono ?_; rintro e w2 ⟨rfl, rfl⟩))
    have hz9 : Ms (w1.setCell ⟨w.heap.size, 5, none⟩ (.string p)) (w.heap.size + 1) (emptyMsg emp) (.slice none 0 0) := hz1.kept (grown_set w1 w.heap.size 5 _) (by simp)
    have hres := nine_set hz9 { m with code := p } (.slice a0 n0 c0)
    have hB9 : Below w.heap.size w (nineSet (w1.setCell ⟨w.heap.size, 5, none⟩ (.string p)) (w.heap.size + 1) { m with code := p } (.slice a0 n0 c0)) := (below_set hB1 5 _).trans (nineSet_below _ (w.heap.size + 1) _ _ (by omega))
    clear p0 p1 p2 p3 p4 p5 p6 p7 p8 q0 q1 q2 q3 q4 q5 q6 q7 q8
    refine bodyPost_ret (v := .tuple #[.agg (Msg.cells { m with code := p } (.slice a0 n0 c0)), .string r, .bool pb]) ?_ rfl ⟨{ m with code := p }, r, pb, rfl, unhide HS, hB9⟩
    exact fld_res hres _ rfl rfl rfl
  | false =>
    go_enter Tryd.func26, Tryd.ntmps26
    go_wp2_with (first | (go_at_call 38; refine (unhide HC _).mono ?_; rintro e w1 ⟨rfl, hb1⟩; have hm1 := (unhide HN1).kept (below_grown' hb1) (by simp); have hz1 := (unhide HN2).kept (below_grown' hb1) (by simp); have hB1 := hB0.trans (hb1.mono hB0.size); obtain ⟨p0, p1, p2, p3, p4, p5, p6, p7, p8⟩ := hm1.nine; have pf := hm1.frozen; obtain ⟨q0, q1, q2, q3, q4, q5, q6, q7, q8⟩ := hz1.nine; have qf := hz1.frozen) | (go_at_call 39; refine (unhide HP _).mono ?_; rintro e w2 ⟨rfl, rfl⟩))
    have hz9 : Ms (w1.setCell ⟨w.heap.size, 5, none⟩ (.string p)) (w.heap.size + 1) (emptyMsg emp) (.slice none 0 0) := hz1.kept (grown_set w1 w.heap.size 5 _) (by simp)
    have hres := nine_set hz9 { m with code := p } (.slice a0 n0 c0)
    have hB9 : Below w.heap.size w (nineSet (w1.setCell ⟨w.heap.size, 5, none⟩ (.string p)) (w.heap.size + 1) { m with code := p } (.slice a0 n0 c0)) := (below_set hB1 5 _).trans (nineSet_below _ (w.heap.size + 1) _ _ (by omega))
    clear p0 p1 p2 p3 p4 p5 p6 p7 p8 q0 q1 q2 q3 q4 q5 q6 q7 q8
    refine bodyPost_ret (v := .tuple #[.agg (Msg.cells { m with code := p } (.slice a0 n0 c0)), .string r, .bool false]) ?_ rfl ⟨{ m with code := p }, r, false, rfl, unhide HS, hB9⟩
    exact fld_res hres _ rfl rfl rfl

set_option maxHeartbeats 1000000 in
theorem field41 (m : Msg) (s : ByteArray) (a0 : Option Addr) (n0 c0 : Nat) (w : World) (hs : s.size ≤ 9223372036854775807) : Calls Tryd.prog 26 #[.agg (m.cells (.slice a0 n0 c0)), .int .i64 41, .string s] w (FldPost m s 41 (.slice a0 n0 c0) w) := by
  have hfit := fits_plain s 8
  have hc := fun w => rcut_any s 8 w (by omega) hs
  have hcs := (cutR_size s 8).1
  generalize hcc : cutR s 8 = c at hc hfit hcs
  obtain ⟨p, r, ok⟩ := c
  dsimp only at hc hfit hcs
  have hpl := fun w => rplain_any p w (by omega)
  have hst : Fits (stepP (m, s, false) 41) ({ m with place := p }, r, ok && plainL p.data.toList) := ⟨hfit.1, fun h => by
    show ({ m with place := (plainP s false 8).1 }, (plainP s false 8).2) = _
    rw [hfit.2 h]⟩
  generalize plainL p.data.toList = pb at hpl hst
  have HC := hide hc
  have HP := hide hpl
  have HS := hide hst
  clear hc hst hfit hcc hpl hcs
  obtain ⟨hn1, hn2, hB0⟩ := two_new w m (.slice a0 n0 c0)
  have HN1 := hide hn1
  have HN2 := hide hn2
  clear hn1 hn2
  unfold Msg.cells
  cases ok with
  | true =>
    go_enter Tryd.func26, Tryd.ntmps26
    go_wp2_with (first | (go_at_call 38; refine (unhide HC _).mono ?_; rintro e w1 ⟨rfl, hb1⟩; have hm1 := (unhide HN1).kept (below_grown' hb1) (by simp); have hz1 := (unhide HN2).kept (below_grown' hb1) (by simp); have hB1 := hB0.trans (hb1.mono hB0.size); obtain ⟨p0, p1, p2, p3, p4, p5, p6, p7, p8⟩ := hm1.nine; have pf := hm1.frozen; obtain ⟨q0, q1, q2, q3, q4, q5, q6, q7, q8⟩ := hz1.nine; have qf := hz1.frozen) | (go_at_call 39; refine (unhide HP _).mono ?_; rintro e w2 ⟨rfl, rfl⟩))
    have hz9 : Ms (w1.setCell ⟨w.heap.size, 6, none⟩ (.string p)) (w.heap.size + 1) (emptyMsg emp) (.slice none 0 0) := hz1.kept (grown_set w1 w.heap.size 6 _) (by simp)
    have hres := nine_set hz9 { m with place := p } (.slice a0 n0 c0)
    have hB9 : Below w.heap.size w (nineSet (w1.setCell ⟨w.heap.size, 6, none⟩ (.string p)) (w.heap.size + 1) { m with place := p } (.slice a0 n0 c0)) := (below_set hB1 6 _).trans (nineSet_below _ (w.heap.size + 1) _ _ (by omega))
    clear p0 p1 p2 p3 p4 p5 p6 p7 p8 q0 q1 q2 q3 q4 q5 q6 q7 q8
    refine bodyPost_ret (v := .tuple #[.agg (Msg.cells { m with place := p } (.slice a0 n0 c0)), .string r, .bool pb]) ?_ rfl ⟨{ m with place := p }, r, pb, rfl, unhide HS, hB9⟩
    exact fld_res hres _ rfl rfl rfl
  | false =>
    go_enter Tryd.func26, Tryd.ntmps26
    go_wp2_with (first | (go_at_call 38; refine (unhide HC _).mono ?_; rintro e w1 ⟨rfl, hb1⟩; have hm1 := (unhide HN1).kept (below_grown' hb1) (by simp); have hz1 := (unhide HN2).kept (below_grown' hb1) (by simp); have hB1 := hB0.trans (hb1.mono hB0.size); obtain ⟨p0, p1, p2, p3, p4, p5, p6, p7, p8⟩ := hm1.nine; have pf := hm1.frozen; obtain ⟨q0, q1, q2, q3, q4, q5, q6, q7, q8⟩ := hz1.nine; have qf := hz1.frozen) | (go_at_call 39; refine (unhide HP _).mono ?_; rintro e w2 ⟨rfl, rfl⟩))
    have hz9 : Ms (w1.setCell ⟨w.heap.size, 6, none⟩ (.string p)) (w.heap.size + 1) (emptyMsg emp) (.slice none 0 0) := hz1.kept (grown_set w1 w.heap.size 6 _) (by simp)
    have hres := nine_set hz9 { m with place := p } (.slice a0 n0 c0)
    have hB9 : Below w.heap.size w (nineSet (w1.setCell ⟨w.heap.size, 6, none⟩ (.string p)) (w.heap.size + 1) { m with place := p } (.slice a0 n0 c0)) := (below_set hB1 6 _).trans (nineSet_below _ (w.heap.size + 1) _ _ (by omega))
    clear p0 p1 p2 p3 p4 p5 p6 p7 p8 q0 q1 q2 q3 q4 q5 q6 q7 q8
    refine bodyPost_ret (v := .tuple #[.agg (Msg.cells { m with place := p } (.slice a0 n0 c0)), .string r, .bool false]) ?_ rfl ⟨{ m with place := p }, r, false, rfl, unhide HS, hB9⟩
    exact fld_res hres _ rfl rfl rfl

set_option maxHeartbeats 1000000 in
theorem field4 (m : Msg) (s : ByteArray) (a0 : Option Addr) (n0 c0 : Nat) (w : World) (hs : s.size ≤ 9223372036854775807) : Calls Tryd.prog 26 #[.agg (m.cells (.slice a0 n0 c0)), .int .i64 4, .string s] w (FldPost m s 4 (.slice a0 n0 c0) w) := by
  have hfit := fits_number s 6
  have hc := fun w => rcut_any s 6 w (by omega) hs
  have hcs := (cutR_size s 6).1
  generalize hcc : cutR s 6 = c at hc hfit hcs
  obtain ⟨p, r, ok⟩ := c
  dsimp only at hc hfit hcs
  have hd := fun w => rdigits_any p w (by omega)
  have hv := fun w => rvalue_any (dg p) w (dg_isDig p) (by have := dg_size p; omega)
  have hst : Fits (stepP (m, s, false) 4) ({ m with amount := vl (dg p) }, r, ok && okD p) := ⟨hfit.1, fun h => by
    show ({ m with amount := (numberP s false 6).1 }, (numberP s false 6).2) = _
    rw [hfit.2 h]⟩
  generalize vl (dg p) = x at hv hst
  generalize dg p = d at hd hv
  generalize okD p = pb at hd hst
  have HC := hide hc
  have HD := hide hd
  have HV := hide hv
  have HS := hide hst
  clear hc hst hfit hcc hcs hd hv
  obtain ⟨hn1, hn2, hB0⟩ := two_new w m (.slice a0 n0 c0)
  have HN1 := hide hn1
  have HN2 := hide hn2
  clear hn1 hn2
  unfold Msg.cells
  cases ok with
  | true =>
    go_enter Tryd.func26, Tryd.ntmps26
    go_wp2_with (first | (go_at_call 38; refine (unhide HC _).mono ?_; rintro e w1 ⟨rfl, hb1⟩; have hm1 := (unhide HN1).kept (below_grown' hb1) (by simp); have hz1 := (unhide HN2).kept (below_grown' hb1) (by simp); have hB1 := hB0.trans (hb1.mono hB0.size); obtain ⟨p0, p1, p2, p3, p4, p5, p6, p7, p8⟩ := hm1.nine; have pf := hm1.frozen; obtain ⟨q0, q1, q2, q3, q4, q5, q6, q7, q8⟩ := hz1.nine; have qf := hz1.frozen) | (go_at_call 22; refine (unhide HD _).mono ?_; rintro e w2 ⟨rfl, hb2⟩; have hm2 := hm1.kept (below_grown' hb2) (by simp); have hz2 := hz1.kept (below_grown' hb2) (by simp); have hB2 := hB1.trans (hb2.mono hB1.size); obtain ⟨p0, p1, p2, p3, p4, p5, p6, p7, p8⟩ := hm2.nine; have pf := hm2.frozen; obtain ⟨q0, q1, q2, q3, q4, q5, q6, q7, q8⟩ := hz2.nine; have qf := hz2.frozen) | (go_at_call 42; refine (unhide HV _).mono ?_; rintro e w3 ⟨rfl, rfl⟩))
    have hz9 : Ms (w2.setCell ⟨w.heap.size, 3, none⟩ (.int .i64 x)) (w.heap.size + 1) (emptyMsg emp) (.slice none 0 0) := hz2.kept (grown_set w2 w.heap.size 3 _) (by simp)
    have hres := nine_set hz9 { m with amount := x } (.slice a0 n0 c0)
    have hB9 : Below w.heap.size w (nineSet (w2.setCell ⟨w.heap.size, 3, none⟩ (.int .i64 x)) (w.heap.size + 1) { m with amount := x } (.slice a0 n0 c0)) := (below_set hB2 3 _).trans (nineSet_below _ (w.heap.size + 1) _ _ (by omega))
    clear p0 p1 p2 p3 p4 p5 p6 p7 p8 q0 q1 q2 q3 q4 q5 q6 q7 q8
    refine bodyPost_ret (v := .tuple #[.agg (Msg.cells { m with amount := x } (.slice a0 n0 c0)), .string r, .bool pb]) ?_ rfl ⟨{ m with amount := x }, r, pb, rfl, unhide HS, hB9⟩
    exact fld_res hres _ rfl rfl rfl
  | false =>
    go_enter Tryd.func26, Tryd.ntmps26
    go_wp2_with (first | (go_at_call 38; refine (unhide HC _).mono ?_; rintro e w1 ⟨rfl, hb1⟩; have hm1 := (unhide HN1).kept (below_grown' hb1) (by simp); have hz1 := (unhide HN2).kept (below_grown' hb1) (by simp); have hB1 := hB0.trans (hb1.mono hB0.size); obtain ⟨p0, p1, p2, p3, p4, p5, p6, p7, p8⟩ := hm1.nine; have pf := hm1.frozen; obtain ⟨q0, q1, q2, q3, q4, q5, q6, q7, q8⟩ := hz1.nine; have qf := hz1.frozen) | (go_at_call 22; refine (unhide HD _).mono ?_; rintro e w2 ⟨rfl, hb2⟩; have hm2 := hm1.kept (below_grown' hb2) (by simp); have hz2 := hz1.kept (below_grown' hb2) (by simp); have hB2 := hB1.trans (hb2.mono hB1.size); obtain ⟨p0, p1, p2, p3, p4, p5, p6, p7, p8⟩ := hm2.nine; have pf := hm2.frozen; obtain ⟨q0, q1, q2, q3, q4, q5, q6, q7, q8⟩ := hz2.nine; have qf := hz2.frozen) | (go_at_call 42; refine (unhide HV _).mono ?_; rintro e w3 ⟨rfl, rfl⟩))
    have hz9 : Ms (w2.setCell ⟨w.heap.size, 3, none⟩ (.int .i64 x)) (w.heap.size + 1) (emptyMsg emp) (.slice none 0 0) := hz2.kept (grown_set w2 w.heap.size 3 _) (by simp)
    have hres := nine_set hz9 { m with amount := x } (.slice a0 n0 c0)
    have hB9 : Below w.heap.size w (nineSet (w2.setCell ⟨w.heap.size, 3, none⟩ (.int .i64 x)) (w.heap.size + 1) { m with amount := x } (.slice a0 n0 c0)) := (below_set hB2 3 _).trans (nineSet_below _ (w.heap.size + 1) _ _ (by omega))
    clear p0 p1 p2 p3 p4 p5 p6 p7 p8 q0 q1 q2 q3 q4 q5 q6 q7 q8
    refine bodyPost_ret (v := .tuple #[.agg (Msg.cells { m with amount := x } (.slice a0 n0 c0)), .string r, .bool false]) ?_ rfl ⟨{ m with amount := x }, r, false, rfl, unhide HS, hB9⟩
    exact fld_res hres _ rfl rfl rfl

end Go.Proofs.YtkkaieijbpkleaaDoor
