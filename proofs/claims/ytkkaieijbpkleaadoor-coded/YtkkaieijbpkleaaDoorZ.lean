import Derived.Test.YtkkaieijbpkleaaDoorY
namespace Go.Proofs.YtkkaieijbpkleaaDoor
open Go.RowKit Go.Shelf

set_option maxHeartbeats 1000000 in
theorem field11 (m : Msg) (s : ByteArray) (a0 : Option Addr) (n0 c0 : Nat) (w : World) (hs : s.size ≤ 9223372036854775807) : Calls Tryd.prog 26 #[.agg (m.cells (.slice a0 n0 c0)), .int .i64 11, .string s] w (FldPost m s 11 (.slice a0 n0 c0) w) := by
  have hfit := fits_number s 3
  have hc := fun w => rcut_any s 3 w (by omega) hs
  have hcs := (cutR_size s 3).1
  generalize hcc : cutR s 3 = c at hc hfit hcs
  obtain ⟨p, r, ok⟩ := c
  dsimp only at hc hfit hcs
  have hd := fun w => rdigits_any p w (by omega)
  have hv := fun w => rvalue_any (dg p) w (dg_isDig p) (by have := dg_size p; omega)
  have hst : Fits (stepP (m, s, false) 11) ({ m with trace := vl (dg p) }, r, ok && okD p) := ⟨hfit.1, fun h => by
    show ({ m with trace := (numberP s false 3).1 }, (numberP s false 3).2) = _
    rw [hfit.2 h]⟩
  generalize vl (dg p) = x at hv hst
  generalize dg p = d at hd hv
  generalize okD p = pb at hd hst
  have HC := hide hc
  have HD := hide hd
  have HV := hide hv
  have HS := hide hst
  clear hc hst hfit hcc hcs hd hv
  obtain ⟨hn1, hn2, hB0⟩ := two_new w m (.slice a0 n0 c0)
  have HN1 := hide hn1
  have HN2 := hide hn2
  clear hn1 hn2
  unfold Msg.cells
  cases ok with
  | true =>
    go_enter Tryd.func26, Tryd.ntmps26
    go_wp2_with (first | (go_at_call 38; refine (unhide HC _).mono ?_; rintro e w1 ⟨rfl, hb1⟩; have hm1 := (unhide HN1).kept (below_grown' hb1) (by simp); have hz1 := (unhide HN2).kept (below_grown' hb1) (by simp); have hB1 := hB0.trans (hb1.mono hB0.size); obtain ⟨p0, p1, p2, p3, p4, p5, p6, p7, p8⟩ := hm1.nine; have pf := hm1.frozen; obtain ⟨q0, q1, q2, q3, q4, q5, q6, q7, q8⟩ := hz1.nine; have qf := hz1.frozen) | (go_at_call 22; refine (unhide HD _).mono ?_; rintro e w2 ⟨rfl, hb2⟩; have hm2 := hm1.kept (below_grown' hb2) (by simp); have hz2 := hz1.kept (below_grown' hb2) (by simp); have hB2 := hB1.trans (hb2.mono hB1.size); obtain ⟨p0, p1, p2, p3, p4, p5, p6, p7, p8⟩ := hm2.nine; have pf := hm2.frozen; obtain ⟨q0, q1, q2, q3, q4, q5, q6, q7, q8⟩ := hz2.nine; have qf := hz2.frozen) | (go_at_call 42; refine (unhide HV _).mono ?_; rintro e w3 ⟨rfl, rfl⟩))
    have hz9 : Ms (w2.setCell ⟨w.heap.size, 4, none⟩ (.int .i64 x)) (w.heap.size + 1) (emptyMsg emp) (.slice none 0 0) := hz2.kept (grown_set w2 w.heap.size 4 _) (by simp)
    have hres := nine_set hz9 { m with trace := x } (.slice a0 n0 c0)
    have hB9 : Below w.heap.size w (nineSet (w2.setCell ⟨w.heap.size, 4, none⟩ (.int .i64 x)) (w.heap.size + 1) { m with trace := x } (.slice a0 n0 c0)) := (below_set hB2 4 _).trans (nineSet_below _ (w.heap.size + 1) _ _ (by omega))
    clear p0 p1 p2 p3 p4 p5 p6 p7 p8 q0 q1 q2 q3 q4 q5 q6 q7 q8
    refine bodyPost_ret (v := .tuple #[.agg (Msg.cells { m with trace := x } (.slice a0 n0 c0)), .string r, .bool pb]) ?_ rfl ⟨{ m with trace := x }, r, pb, rfl, unhide HS, hB9⟩
    exact fld_res hres _ rfl rfl rfl
  | false =>
    go_enter Tryd.func26, Tryd.ntmps26
    go_wp2_with (first | (go_at_call 38; refine (unhide HC _).mono ?_; rintro e w1 ⟨rfl, hb1⟩; have hm1 := (unhide HN1).kept (below_grown' hb1) (by simp); have hz1 := (unhide HN2).kept (below_grown' hb1) (by simp); have hB1 := hB0.trans (hb1.mono hB0.size); obtain ⟨p0, p1, p2, p3, p4, p5, p6, p7, p8⟩ := hm1.nine; have pf := hm1.frozen; obtain ⟨q0, q1, q2, q3, q4, q5, q6, q7, q8⟩ := hz1.nine; have qf := hz1.frozen) | (go_at_call 22; refine (unhide HD _).mono ?_; rintro e w2 ⟨rfl, hb2⟩; have hm2 := hm1.kept (below_grown' hb2) (by simp); have hz2 := hz1.kept (below_grown' hb2) (by simp); have hB2 := hB1.trans (hb2.mono hB1.size); obtain ⟨p0, p1, p2, p3, p4, p5, p6, p7, p8⟩ := hm2.nine; have pf := hm2.frozen; obtain ⟨q0, q1, q2, q3, q4, q5, q6, q7, q8⟩ := hz2.nine; have qf := hz2.frozen) | (go_at_call 42; refine (unhide HV _).mono ?_; rintro e w3 ⟨rfl, rfl⟩))
    have hz9 : Ms (w2.setCell ⟨w.heap.size, 4, none⟩ (.int .i64 x)) (w.heap.size + 1) (emptyMsg emp) (.slice none 0 0) := hz2.kept (grown_set w2 w.heap.size 4 _) (by simp)
    have hres := nine_set hz9 { m with trace := x } (.slice a0 n0 c0)
    have hB9 : Below w.heap.size w (nineSet (w2.setCell ⟨w.heap.size, 4, none⟩ (.int .i64 x)) (w.heap.size + 1) { m with trace := x } (.slice a0 n0 c0)) := (below_set hB2 4 _).trans (nineSet_below _ (w.heap.size + 1) _ _ (by omega))
    clear p0 p1 p2 p3 p4 p5 p6 p7 p8 q0 q1 q2 q3 q4 q5 q6 q7 q8
    refine bodyPost_ret (v := .tuple #[.agg (Msg.cells { m with trace := x } (.slice a0 n0 c0)), .string r, .bool false]) ?_ rfl ⟨{ m with trace := x }, r, false, rfl, unhide HS, hB9⟩
    exact fld_res hres _ rfl rfl rfl

set_option maxHeartbeats 1000000 in
theorem field54 (m : Msg) (s : ByteArray) (a0 : Option Addr) (n0 c0 : Nat) (w : World) (hs : s.size ≤ 9223372036854775807) : Calls Tryd.prog 26 #[.agg (m.cells (.slice a0 n0 c0)), .int .i64 54, .string s] w (FldPost m s 54 (.slice a0 n0 c0) w) := by
  have hfit := fits_number s 6
  have hc := fun w => rcut_any s 6 w (by omega) hs
  have hcs := (cutR_size s 6).1
  generalize hcc : cutR s 6 = c at hc hfit hcs
  obtain ⟨p, r, ok⟩ := c
  dsimp only at hc hfit hcs
  have hd := fun w => rdigits_any p w (by omega)
  have hv := fun w => rvalue_any (dg p) w (dg_isDig p) (by have := dg_size p; omega)
  have hst : Fits (stepP (m, s, false) 54) ({ m with more := vl (dg p) }, r, ok && okD p) := ⟨hfit.1, fun h => by
    show ({ m with more := (numberP s false 6).1 }, (numberP s false 6).2) = _
    rw [hfit.2 h]⟩
  generalize vl (dg p) = x at hv hst
  generalize dg p = d at hd hv
  generalize okD p = pb at hd hst
  have HC := hide hc
  have HD := hide hd
  have HV := hide hv
  have HS := hide hst
  clear hc hst hfit hcc hcs hd hv
  obtain ⟨hn1, hn2, hB0⟩ := two_new w m (.slice a0 n0 c0)
  have HN1 := hide hn1
  have HN2 := hide hn2
  clear hn1 hn2
  unfold Msg.cells
  cases ok with
  | true =>
    go_enter Tryd.func26, Tryd.ntmps26
    go_wp2_with (first | (go_at_call 38; refine (unhide HC _).mono ?_; rintro e w1 ⟨rfl, hb1⟩; have hm1 := (unhide HN1).kept (below_grown' hb1) (by simp); have hz1 := (unhide HN2).kept (below_grown' hb1) (by simp); have hB1 := hB0.trans (hb1.mono hB0.size); obtain ⟨p0, p1, p2, p3, p4, p5, p6, p7, p8⟩ := hm1.nine; have pf := hm1.frozen; obtain ⟨q0, q1, q2, q3, q4, q5, q6, q7, q8⟩ := hz1.nine; have qf := hz1.frozen) | (go_at_call 22; refine (unhide HD _).mono ?_; rintro e w2 ⟨rfl, hb2⟩; have hm2 := hm1.kept (below_grown' hb2) (by simp); have hz2 := hz1.kept (below_grown' hb2) (by simp); have hB2 := hB1.trans (hb2.mono hB1.size); obtain ⟨p0, p1, p2, p3, p4, p5, p6, p7, p8⟩ := hm2.nine; have pf := hm2.frozen; obtain ⟨q0, q1, q2, q3, q4, q5, q6, q7, q8⟩ := hz2.nine; have qf := hz2.frozen) | (go_at_call 42; refine (unhide HV _).mono ?_; rintro e w3 ⟨rfl, rfl⟩))
    have hz9 : Ms (w2.setCell ⟨w.heap.size, 8, none⟩ (.int .i64 x)) (w.heap.size + 1) (emptyMsg emp) (.slice none 0 0) := hz2.kept (grown_set w2 w.heap.size 8 _) (by simp)
    have hres := nine_set hz9 { m with more := x } (.slice a0 n0 c0)
    have hB9 : Below w.heap.size w (nineSet (w2.setCell ⟨w.heap.size, 8, none⟩ (.int .i64 x)) (w.heap.size + 1) { m with more := x } (.slice a0 n0 c0)) := (below_set hB2 8 _).trans (nineSet_below _ (w.heap.size + 1) _ _ (by omega))
    clear p0 p1 p2 p3 p4 p5 p6 p7 p8 q0 q1 q2 q3 q4 q5 q6 q7 q8
    refine bodyPost_ret (v := .tuple #[.agg (Msg.cells { m with more := x } (.slice a0 n0 c0)), .string r, .bool pb]) ?_ rfl ⟨{ m with more := x }, r, pb, rfl, unhide HS, hB9⟩
    exact fld_res hres _ rfl rfl rfl
  | false =>
    go_enter Tryd.func26, Tryd.ntmps26
    go_wp2_with (first | (go_at_call 38; refine (unhide HC _).mono ?_; rintro e w1 ⟨rfl, hb1⟩; have hm1 := (unhide HN1).kept (below_grown' hb1) (by simp); have hz1 := (unhide HN2).kept (below_grown' hb1) (by simp); have hB1 := hB0.trans (hb1.mono hB0.size); obtain ⟨p0, p1, p2, p3, p4, p5, p6, p7, p8⟩ := hm1.nine; have pf := hm1.frozen; obtain ⟨q0, q1, q2, q3, q4, q5, q6, q7, q8⟩ := hz1.nine; have qf := hz1.frozen) | (go_at_call 22; refine (unhide HD _).mono ?_; rintro e w2 ⟨rfl, hb2⟩; have hm2 := hm1.kept (below_grown' hb2) (by simp); have hz2 := hz1.kept (below_grown' hb2) (by simp); have hB2 := hB1.trans (hb2.mono hB1.size); obtain ⟨p0, p1, p2, p3, p4, p5, p6, p7, p8⟩ := hm2.nine; have pf := hm2.frozen; obtain ⟨q0, q1, q2, q3, q4, q5, q6, q7, q8⟩ := hz2.nine; have qf := hz2.frozen) | (go_at_call 42; refine (unhide HV _).mono ?_; rintro e w3 ⟨rfl, rfl⟩))
    have hz9 : Ms (w2.setCell ⟨w.heap.size, 8, none⟩ (.int .i64 x)) (w.heap.size + 1) (emptyMsg emp) (.slice none 0 0) := hz2.kept (grown_set w2 w.heap.size 8 _) (by simp)
    have hres := nine_set hz9 { m with more := x } (.slice a0 n0 c0)
    have hB9 : Below w.heap.size w (nineSet (w2.setCell ⟨w.heap.size, 8, none⟩ (.int .i64 x)) (w.heap.size + 1) { m with more := x } (.slice a0 n0 c0)) := (below_set hB2 8 _).trans (nineSet_below _ (w.heap.size + 1) _ _ (by omega))
    clear p0 p1 p2 p3 p4 p5 p6 p7 p8 q0 q1 q2 q3 q4 q5 q6 q7 q8
    refine bodyPost_ret (v := .tuple #[.agg (Msg.cells { m with more := x } (.slice a0 n0 c0)), .string r, .bool false]) ?_ rfl ⟨{ m with more := x }, r, false, rfl, unhide HS, hB9⟩
    exact fld_res hres _ rfl rfl rfl

set_option maxHeartbeats 1000000 in
theorem field43 (m : Msg) (s : ByteArray) (a0 : Option Addr) (n0 c0 : Nat) (w : World) (hs : s.size ≤ 9223372036854775807) : Calls Tryd.prog 26 #[.agg (m.cells (.slice a0 n0 c0)), .int .i64 43, .string s] w (FldPost m s 43 (.slice a0 n0 c0) w) := by
  have hfit := fits_name s
  have hk := fun w => rcounted_any s 0 40 w hs
  obtain ⟨hk0, _, hk1, hk2⟩ := countR_bound s 0 40
  generalize hcc : countR s 0 40 = c at hk hfit hk0 hk1 hk2
  obtain ⟨kn, kr, ok0⟩ := c
  dsimp only at hk hfit hk0 hk1 hk2
  have HK := hide hk
  clear hk hcc
  cases ok0 with
  | false =>
    rw [if_pos rfl] at hfit
    have hst : Fits (stepP (m, s, false) 43) (m, emp, false) := ⟨hfit.1, fun h => by cases h⟩
    have HS := hide hst
    clear hst hfit hk0 hk1 hk2
    obtain ⟨hn1, hn2, hB0⟩ := two_new w m (.slice a0 n0 c0)
    have HN1 := hide hn1
    have HN2 := hide hn2
    clear hn1 hn2
    unfold Msg.cells
    go_enter Tryd.func26, Tryd.ntmps26
    go_wp2_with (go_at_call 40; refine (unhide HK _).mono ?_; rintro e w1 ⟨rfl, hb1⟩; have hm1 := (unhide HN1).kept (below_grown' hb1) (by simp); have hz1 := (unhide HN2).kept (below_grown' hb1) (by simp); have hB1 := hB0.trans (hb1.mono hB0.size); obtain ⟨p0, p1, p2, p3, p4, p5, p6, p7, p8⟩ := hm1.nine; have pf := hm1.frozen; obtain ⟨q0, q1, q2, q3, q4, q5, q6, q7, q8⟩ := hz1.nine; have qf := hz1.frozen)
    have hres := nine_set hz1 m (.slice a0 n0 c0)
    have hB9 : Below w.heap.size w (nineSet w1 (w.heap.size + 1) m (.slice a0 n0 c0)) := hB1.trans (nineSet_below _ (w.heap.size + 1) _ _ (by omega))
    clear p0 p1 p2 p3 p4 p5 p6 p7 p8 q0 q1 q2 q3 q4 q5 q6 q7 q8
    refine bodyPost_ret (v := .tuple #[.agg (Msg.cells m (.slice a0 n0 c0)), .string emp, .bool false]) ?_ rfl ⟨m, emp, false, rfl, unhide HS, hB9⟩
    exact fld_res hres _ rfl rfl rfl
  | true =>
    rw [if_neg (show ¬ (true = false) by simp)] at hfit
    obtain ⟨kn, rfl⟩ := Int.eq_ofNat_of_zero_le hk0
    rw [Int.toNat_natCast] at hfit
    have hkn : kn ≤ 40 := by have := (hk1 rfl).2; omega
    have hc := fun w => rcut_any kr kn w (by omega) (by omega)
    have hcs := (cutR_size kr kn).1
    generalize hcc : cutR kr kn = c at hc hfit hcs
    obtain ⟨p, r, ok⟩ := c
    dsimp only at hc hfit hcs
    have hpl := fun w => rname_any p w (by omega)
    have hst : Fits (stepP (m, s, false) 43) ({ m with name := p }, r, ok && nameL p.data.toList) := ⟨hfit.1, fun h => by
      show ({ m with name := (nameP s false).1 }, (nameP s false).2) = _
      rw [hfit.2 h]⟩
    generalize nameL p.data.toList = pb at hpl hst
    have HC := hide hc
    have HP := hide hpl
    have HS := hide hst
    clear hc hst hfit hcc hpl hcs hk1 hk0
    obtain ⟨hn1, hn2, hB0⟩ := two_new w m (.slice a0 n0 c0)
    have HN1 := hide hn1
    have HN2 := hide hn2
    clear hn1 hn2
    unfold Msg.cells
    cases ok with
    | true =>
      go_enter Tryd.func26, Tryd.ntmps26
      go_wp2_with (first | (go_at_call 40; refine (unhide HK _).mono ?_; rintro e w1 ⟨rfl, hb1⟩; have hm1 := (unhide HN1).kept (below_grown' hb1) (by simp); have hz1 := (unhide HN2).kept (below_grown' hb1) (by simp); have hB1 := hB0.trans (hb1.mono hB0.size); obtain ⟨p0, p1, p2, p3, p4, p5, p6, p7, p8⟩ := hm1.nine; have pf := hm1.frozen; obtain ⟨q0, q1, q2, q3, q4, q5, q6, q7, q8⟩ := hz1.nine; have qf := hz1.frozen) | (go_at_call 38; refine (unhide HC _).mono ?_; rintro e w2 ⟨rfl, hb2⟩; have hm2 := hm1.kept (below_grown' hb2) (by simp); have hz2 := hz1.kept (below_grown' hb2) (by simp); have hB2 := hB1.trans (hb2.mono hB1.size); obtain ⟨p0, p1, p2, p3, p4, p5, p6, p7, p8⟩ := hm2.nine; have pf := hm2.frozen; obtain ⟨q0, q1, q2, q3, q4, q5, q6, q7, q8⟩ := hz2.nine; have qf := hz2.frozen) | (go_at_call 41; refine (unhide HP _).mono ?_; rintro e w3 ⟨rfl, rfl⟩))
      have hz9 : Ms (w2.setCell ⟨w.heap.size, 7, none⟩ (.string p)) (w.heap.size + 1) (emptyMsg emp) (.slice none 0 0) := hz2.kept (grown_set w2 w.heap.size 7 _) (by simp)
      have hres := nine_set hz9 { m with name := p } (.slice a0 n0 c0)
      have hB9 : Below w.heap.size w (nineSet (w2.setCell ⟨w.heap.size, 7, none⟩ (.string p)) (w.heap.size + 1) { m with name := p } (.slice a0 n0 c0)) := (below_set hB2 7 _).trans (nineSet_below _ (w.heap.size + 1) _ _ (by omega))
      clear p0 p1 p2 p3 p4 p5 p6 p7 p8 q0 q1 q2 q3 q4 q5 q6 q7 q8
      refine bodyPost_ret (v := .tuple #[.agg (Msg.cells { m with name := p } (.slice a0 n0 c0)), .string r, .bool pb]) ?_ rfl ⟨{ m with name := p }, r, pb, rfl, unhide HS, hB9⟩
      exact fld_res hres _ rfl rfl rfl
    | false =>
      go_enter Tryd.func26, Tryd.ntmps26
      go_wp2_with (first | (go_at_call 40; refine (unhide HK _).mono ?_; rintro e w1 ⟨rfl, hb1⟩; have hm1 := (unhide HN1).kept (below_grown' hb1) (by simp); have hz1 := (unhide HN2).kept (below_grown' hb1) (by simp); have hB1 := hB0.trans (hb1.mono hB0.size); obtain ⟨p0, p1, p2, p3, p4, p5, p6, p7, p8⟩ := hm1.nine; have pf := hm1.frozen; obtain ⟨q0, q1, q2, q3, q4, q5, q6, q7, q8⟩ := hz1.nine; have qf := hz1.frozen) | (go_at_call 38; refine (unhide HC _).mono ?_; rintro e w2 ⟨rfl, hb2⟩; have hm2 := hm1.kept (below_grown' hb2) (by simp); have hz2 := hz1.kept (below_grown' hb2) (by simp); have hB2 := hB1.trans (hb2.mono hB1.size); obtain ⟨p0, p1, p2, p3, p4, p5, p6, p7, p8⟩ := hm2.nine; have pf := hm2.frozen; obtain ⟨q0, q1, q2, q3, q4, q5, q6, q7, q8⟩ := hz2.nine; have qf := hz2.frozen) | (go_at_call 41; refine (unhide HP _).mono ?_; rintro e w3 ⟨rfl, rfl⟩))
      have hz9 : Ms (w2.setCell ⟨w.heap.size, 7, none⟩ (.string p)) (w.heap.size + 1) (emptyMsg emp) (.slice none 0 0) := hz2.kept (grown_set w2 w.heap.size 7 _) (by simp)
      have hres := nine_set hz9 { m with name := p } (.slice a0 n0 c0)
      have hB9 : Below w.heap.size w (nineSet (w2.setCell ⟨w.heap.size, 7, none⟩ (.string p)) (w.heap.size + 1) { m with name := p } (.slice a0 n0 c0)) := (below_set hB2 7 _).trans (nineSet_below _ (w.heap.size + 1) _ _ (by omega))
      clear p0 p1 p2 p3 p4 p5 p6 p7 p8 q0 q1 q2 q3 q4 q5 q6 q7 q8
      refine bodyPost_ret (v := .tuple #[.agg (Msg.cells { m with name := p } (.slice a0 n0 c0)), .string r, .bool false]) ?_ rfl ⟨{ m with name := p }, r, false, rfl, unhide HS, hB9⟩
      exact fld_res hres _ rfl rfl rfl

theorem rfield_any (m : Msg) (s : ByteArray) (n : Int) (hn : n ∈ ([2, 4, 11, 39, 41, 43, 54] : List Int)) (v : Value) {w : World} {base k : Nat} {xs : List Value} (hv : w.ownsRow base 3 1 v k xs) (hs : s.size ≤ 9223372036854775807) : Calls Tryd.prog 26 #[.agg (m.cells v), .int .i64 n, .string s] w (FldPost m s n v w) := by
  obtain ⟨a0, c0, rfl⟩ := row_slice hv
  simp only [List.mem_cons, List.not_mem_nil, or_false] at hn
  rcases hn with rfl | rfl | rfl | rfl | rfl | rfl | rfl
  · exact field2 m s a0 k c0 w hs
  · exact field4 m s a0 k c0 w hs
  · exact field11 m s a0 k c0 w hs
  · exact field39 m s a0 k c0 w hs
  · exact field41 m s a0 k c0 w hs
  · exact field43 m s a0 k c0 w hs
  · exact field54 m s a0 k c0 w hs
end Go.Proofs.YtkkaieijbpkleaaDoor
