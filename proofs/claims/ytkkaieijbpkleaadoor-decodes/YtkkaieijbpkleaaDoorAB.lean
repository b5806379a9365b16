import Derived.Test.YtkkaieijbpkleaaDoorAA
import Derived.Deep.DeepCutAuto
import Derived.Deep.CutRange
namespace Go.Proofs.YtkkaieijbpkleaaDoor
open Go.RowKit Go.Shelf

theorem lays_known (k : ByteArray) (l : List Int) (h : l ∈ lays k) : ∀ n ∈ l, n ∈ ([2, 4, 11, 39, 41, 43, 54] : List Int) := by
  have key : ∀ l ∈ lays k, ∀ n ∈ l, n ∈ ([2, 4, 11, 39, 41, 43, 54] : List Int) := by
    unfold lays
    repeat' split
    all_goals decide
  exact key l h
theorem foldP_split (st : Msg × ByteArray × Bool) (l : List Int) (k : Nat) : foldP st l = foldP (foldP st (l.take k)) (l.drop k) := by
  unfold foldP
  rw [← List.foldl_append, List.take_append_drop]
theorem okOf_wrong {st : Msg × ByteArray × Bool} (h : st.2.2 = true) : okOf st = false := by unfold okOf; rw [h]; rfl
theorem rfield_at (m : Msg) (s : ByteArray) (n : Int) (hn : n ∈ ([2, 4, 11, 39, 41, 43, 54] : List Int)) (a0 : Option Addr) (k c0 : Nat) (hs : s.size ≤ 9223372036854775807) (w : World) : Calls Tryd.prog 26 #[.agg (m.cells (.slice a0 k c0)), .int .i64 n, .string s] w (FldPost m s n (.slice a0 k c0) w) := by
  simp only [List.mem_cons, List.not_mem_nil, or_false] at hn
  rcases hn with rfl | rfl | rfl | rfl | rfl | rfl | rfl
  · exact field2 m s a0 k c0 w hs
  · exact field4 m s a0 k c0 w hs
  · exact field11 m s a0 k c0 w hs
  · exact field39 m s a0 k c0 w hs
  · exact field41 m s a0 k c0 w hs
  · exact field43 m s a0 k c0 w hs
  · exact field54 m s a0 k c0 w hs
theorem fits_size {m : Msg} {s : ByteArray} {n : Int} {m' : Msg} {r : ByteArray} (h : Fits (stepP (m, s, false) n) (m', r, true)) : r.size ≤ s.size := by
  have h1 := stepP_rest (m, s, false) n
  rw [h.2 rfl] at h1
  exact h1

theorem row_res2 {w5 : World} {mb base n : Nat} {m0 : Msg} {v0 v : Value} {xs : List Value} (hm : Ms w5 mb m0 v0) (m : Msg) (h : w5.ownsRow base 3 1 v n xs) {base' : Nat} (hb : base' ≤ base) : (nineSet w5 mb m v).ownsRow base' 3 1 v n xs := by
  have h1 : (nineSet w5 mb m v).ownsRow base 3 1 v n xs := h.kept (nineSet_grown w5 mb m v) (by
    rcases h.2 with ⟨rfl, _⟩ | ⟨g, cap, cur, rfl, _, hg, _⟩
    · exact .inl rfl
    · refine .inr fun e => ?_
      obtain rfl : g = mb := by simpa [Value.ownBlock] using e
      rw [show w5.heap[g]? = _ from hm] at hg
      simp at hg)
  exact ⟨h1.1, h1.2.imp id fun ⟨g, cap, cur, e1, e2, e3⟩ => ⟨g, cap, cur, e1, Nat.le_trans hb e2, e3⟩⟩
theorem reg_a {w4 wr w5 : World} {m : Msg} {v : Value} (hm : Ms wr w4.heap.size m v) (hB : Below w4.heap.size w4 wr) (hb5 : Below wr.drew.heap.size wr.drew w5) (m' : Msg) :
    Ms (w5.alloc (.cells (m'.cells v) 24)) w5.heap.size m' v ∧ Ms (w5.alloc (.cells (m'.cells v) 24)) w4.heap.size m v ∧ w4.heap.size < w5.heap.size ∧ Below w4.heap.size w4 (w5.alloc (.cells (m'.cells v) 24)) := by
  have hmd : Ms wr.drew w4.heap.size m v := hm
  have h5 : Ms w5 w4.heap.size m v := hmd.kept (below_grown' hb5) (by simp)
  have hlt : w4.heap.size < w5.heap.size := h5.lt
  have hBd : Below w4.heap.size w4 wr.drew := hB.drew
  have hB5 : Below w4.heap.size w4 w5 := hBd.trans (hb5.mono hBd.size)
  exact ⟨heap_alloc_new w5 _, h5.kept (World.grownBy_alloc _ _ none) (by simp), hlt, hB5.alloc hB5.size _⟩
theorem reg_b {w4 wr w5 : World} {m : Msg} {v : Value} (hm : Ms wr w4.heap.size m v) (hB : Below w4.heap.size w4 wr) (hb5 : Below (wr.alloc (.cells ((emptyMsg emp).cells (.slice none 0 0)) 24)).drew.heap.size (wr.alloc (.cells ((emptyMsg emp).cells (.slice none 0 0)) 24)).drew w5) (m' : Msg) :
    Ms (nineSet w5 wr.heap.size m' v) wr.heap.size m' v ∧ Ms (nineSet w5 wr.heap.size m' v) w4.heap.size m v ∧ w4.heap.size < wr.heap.size ∧ Below w4.heap.size w4 (nineSet w5 wr.heap.size m' v) := by
  have hlt : w4.heap.size < wr.heap.size := hm.lt
  have hma0 : Ms (wr.alloc (.cells ((emptyMsg emp).cells (.slice none 0 0)) 24)) w4.heap.size m v := hm.kept (World.grownBy_alloc wr (.cells ((emptyMsg emp).cells (.slice none 0 0)) 24) none) (by simp)
  have hma : Ms (wr.alloc (.cells ((emptyMsg emp).cells (.slice none 0 0)) 24)).drew w4.heap.size m v := hma0
  have hza : Ms (wr.alloc (.cells ((emptyMsg emp).cells (.slice none 0 0)) 24)).drew wr.heap.size (emptyMsg emp) (.slice none 0 0) := heap_alloc_new wr _
  have h5 : Ms w5 w4.heap.size m v := hma.kept (below_grown' hb5) (by simp)
  have hz5 : Ms w5 wr.heap.size (emptyMsg emp) (.slice none 0 0) := hza.kept (below_grown' hb5) (by simp)
  have hBd : Below w4.heap.size w4 (wr.alloc (.cells ((emptyMsg emp).cells (.slice none 0 0)) 24)).drew := (hB.alloc hB.size _).drew
  have hB5 : Below w4.heap.size w4 w5 := hBd.trans (hb5.mono hBd.size)
  exact ⟨nine_set hz5 m' v, h5.kept (nineSet_grown w5 wr.heap.size m' v) (by simp; omega), hlt, hB5.trans (nineSet_below w5 wr.heap.size m' v (by omega))⟩

set_option maxRecDepth 100000 in
set_option maxHeartbeats 1000000 in
theorem rmain (f : ByteArray) (w : World) (hs : f.size ≤ 9223372036854775807) (h10 : ¬ f.size < 10) (hok : okD (f.extract 0 2) = true) (hnil : lays (dg (f.extract 0 2)) ≠ []) (hin : flds (f.extract 2 10) 64 ∈ lays (dg (f.extract 0 2))) :
    Calls Tryd.prog 7 #[.string f] w (DecPost (if okOf (foldP (emptyMsg (dg (f.extract 0 2)), f.extract 10 f.size, false) (flds (f.extract 2 10) 64)) then
    (some ((foldP (emptyMsg (dg (f.extract 0 2)), f.extract 10 f.size, false) (flds (f.extract 2 10) 64)).1, flds (f.extract 2 10) 64), emp)
  else (none, why 52)) w) := by
  have h10i : ¬ (f.size : Int) < 10 := by omega
  have h2 : 2 ≤ f.size := by omega
  have hk10 : 10 ≤ f.size := by omega
  have hu := fun w => rdigits_any (f.extract 0 2) w (by rw [ByteArray.size_extract]; omega)
  rw [hok] at hu
  have hfi := fun w => rfields_any (dg (f.extract 0 2)) w
  have hsz8 : (f.extract 2 10).size = 8 := by rw [ByteArray.size_extract]; omega
  have hf := fun w => rhas_any (f.extract 2 10) w hsz8
  have hfl := flds_length (f.extract 2 10) 64
  have hrise := flds_rise (f.extract 2 10) 64
  have hal0 := allowed_eq (dg (f.extract 0 2)) (flds (f.extract 2 10) 64) hrise hnil
  have hkn := lays_known _ _ hin
  generalize flds (f.extract 2 10) 64 = l at hf hfl hal0 hin hkn ⊢
  have hal := fun (w' : World) (b : Nat) (v : Value) (hv : w'.ownsRow b 3 1 v l.length (l.map (Value.int .i64))) => rallowed_any (dg (f.extract 0 2)) l w' hv (by omega)
  generalize dg (f.extract 0 2) = k at hu hfi hal0 hal hnil hin ⊢
  have hyes : decide (l ∈ lays k) = true := decide_eq_true hin
  rw [← hal0] at hyes
  have hts : (f.extract 10 f.size).size ≤ 9223372036854775807 := by rw [ByteArray.size_extract]; omega
  obtain ⟨D, hD⟩ : ∃ D, (if okOf (foldP (emptyMsg k, f.extract 10 f.size, false) l) then (some ((foldP (emptyMsg k, f.extract 10 f.size, false) l).1, l), emp) else (none, why 52)) = D := ⟨_, rfl⟩
  rw [hD]
  obtain ⟨hn1, hn2, hB0⟩ := zz_new w
  have HN1 := hide hn1
  have HN2 := hide hn2
  have HU := hide hu
  have HL := hide hfi
  have HF := hide hf
  have HA := hide hal
  have HNIL := hide (decide_eq_false hnil)
  have HYES := hide hyes
  have HD := hide hD
  have HK := hide hkn
  clear h10 hn1 hn2 hu hfi hf hal hsz8 hrise hal0 hin hok hnil hyes hD hkn
  go_enter Tryd.func7, Tryd.ntmps7
  go_wp2_with (first | (go_at_call 22; refine (unhide HU _).mono ?_; rintro e w1 ⟨rfl, hb1⟩; have hm1 := (unhide HN1).kept (below_grown' hb1) (by simp); have hz1 := (unhide HN2).kept (below_grown' hb1) (by simp); have hB1 := hB0.trans (hb1.mono hB0.size); obtain ⟨p0, p1, p2, p3, p4, p5, p6, p7, p8⟩ := hm1.nine; have pf := hm1.frozen; obtain ⟨q0, q1, q2, q3, q4, q5, q6, q7, q8⟩ := hz1.nine; have qf := hz1.frozen) | (go_at_call 23; refine (unhide HL _).mono ?_; rintro e w2 ⟨v2, rfl, hnil2, hrow2, hb2⟩; have hm2 := hm1.kept (below_grown' hb2) (by simp); have hz2 := hz1.kept (below_grown' hb2) (by simp); have hB2 := hB1.trans (hb2.mono hB1.size); obtain ⟨p0, p1, p2, p3, p4, p5, p6, p7, p8⟩ := hm2.nine; have pf := hm2.frozen; obtain ⟨q0, q1, q2, q3, q4, q5, q6, q7, q8⟩ := hz2.nine; have qf := hz2.frozen; rw [unhide HNIL] at hnil2; obtain ⟨a2, n2, c2, rfl⟩ : ∃ a n c, v2 = .slice (some a) n c := hnil2; have hcmp : ∀ W : World, (binOp .eql 22 (.slice (some a2) n2 c2) (.slice none 0 0)).run Tryd.prog W = .ok (.bool false) W := fun W => Lib.run_eql_slice_nil W 22 3 (some a2) n2 c2 0 0 Tryd.underlying22) | (go_at_call 24; refine (unhide HF _).mono ?_; rintro e w3 ⟨v3, rfl, hrow3, hb3⟩; obtain ⟨a3, c3, rfl⟩ := row_slice hrow3; have hm3 := hm2.kept (below_grown' hb3) (by simp); have hz3 := hz2.kept (below_grown' hb3) (by simp); have hB3 := hB2.trans (hb3.mono hB2.size); obtain ⟨p0, p1, p2, p3, p4, p5, p6, p7, p8⟩ := hm3.nine; have pf := hm3.frozen; obtain ⟨q0, q1, q2, q3, q4, q5, q6, q7, q8⟩ := hz3.nine; have qf := hz3.frozen) | (go_at_call 25; refine (unhide HA _ _ _ hrow3).mono ?_; rintro e w4 ⟨rfl, hb4⟩; have hm4 := hm3.kept (below_grown' hb4) (by simp); have hz4 := hz3.kept (below_grown' hb4) (by simp); have hB4 := hB3.trans (hb4.mono hB3.size); obtain ⟨p0, p1, p2, p3, p4, p5, p6, p7, p8⟩ := hm4.nine; have pf := hm4.frozen; obtain ⟨q0, q1, q2, q3, q4, q5, q6, q7, q8⟩ := hz4.nine; have qf := hz4.frozen; have hlt4 := hm4.lt; have hltz4 := hz4.lt; rw [unhide HYES]))
  clear hcmp p0 p1 p2 p3 p4 p5 p6 p7 p8 q0 q1 q2 q3 q4 q5 q6 q7 q8 pf qf hrow2
  have hrow4 := row_below hrow3 hb4
  have HB4 := hide hB4
  have hb20 : w.heap.size ≤ w2.heap.size := hB2.size
  clear hm1 hm2 hm3 hz1 hz2 hz3 hb1 hb2 hb3 hb4 hB1 hB2 hB3 HA HF HL HU HN1 HN2 hB0 hrow3 hB4
  go_loopg [11, 12] l.length (fun gk sv i wr => ∃ (j : Nat) (m : Msg) (s : ByteArray), j ≤ l.length ∧ i = .int .i64 j ∧ sv = .string s ∧ Hid (foldP (emptyMsg k, f.extract 10 f.size, false) (l.take j) = (m, s, false)) ∧ s.size ≤ (f.extract 10 f.size).size ∧ Ms wr w4.heap.size m (.slice a3 l.length c3) ∧ Below w4.heap.size w4 wr ∧ l.length ≤ j + gk)
  case atStart => exact ⟨0, emptyMsg k, f.extract 10 f.size, Nat.zero_le _, rfl, rfl, rfl, Nat.le_refl _, heap_alloc_new w4 _, (Below.refl _ w4).alloc (Nat.le_refl _) _, by omega⟩
  case round =>
    obtain ⟨j, m, s, hj, rfl, rfl, HJ, hss, hm, hB, hgk⟩ := hrel
    by_cases hlt : j < l.length
    · obtain ⟨g', rfl⟩ : ∃ g', gk = g' + 1 := ⟨gk - 1, by omega⟩
      rcases row_form (row_below hrow4 hB) with ⟨h0, _⟩ | ⟨_, g1, d1, he1, hg1, hcells1⟩
      · omega
      obtain ⟨rfl, rfl⟩ : a3 = some ⟨g1, 0, none⟩ ∧ c3 = d1 := by simpa using he1
      have hck := hcells1 j (.int .i64 l[j]) (by rw [List.getElem?_map, List.getElem?_eq_getElem hlt]; rfl)
      have hcall := rfield_at m s l[j] (unhide HK l[j] (List.getElem_mem hlt)) (some ⟨g1, 0, none⟩) l.length c3 (by omega)
      have hnx : foldP (emptyMsg k, f.extract 10 f.size, false) (l.take (j + 1)) = stepP (m, s, false) l[j] := by
        rw [List.take_succ_eq_append_getElem hlt, foldP_snoc, HJ.out]
      generalize l[j] = x at hck hcall hnx
      have HC := hide hcall
      have HX := hide hnx
      obtain ⟨p0, p1, p2, p3, p4, p5, p6, p7, p8⟩ := hm.nine
      have pf := hm.frozen
      have hlt5 := hm.lt
      have hgl := World.block_lt_of_cell? wr _ hck
      clear hcall hnx hcells1 he1 HJ
      unfold Msg.cells at HC
      go_upto_region 19 with fail
      go_cut [13, 14, 15] (fun xp y z wx => ∃ (m' : Msg) (r : ByteArray) (ok : Bool) (xb : Nat), xp = .pointer (some ⟨xb, 0, none⟩) ∧ y = .string r ∧ z = .bool ok ∧ Hid (Fits (stepP (m, s, false) x) (m', r, ok)) ∧ Ms wx xb m' (.slice (some ⟨g1, 0, none⟩) l.length c3) ∧ Ms wx w4.heap.size m (.slice (some ⟨g1, 0, none⟩) l.length c3) ∧ w4.heap.size < xb ∧ Below w4.heap.size w4 wx)
      case first =>
        go_region_with (go_at_call 26; refine (unhide HC _).mono ?_; rintro e w5 ⟨m', r, ok, rfl, hfit, hb5⟩; have HFIT := hide hfit; clear hfit; unfold Msg.cells; try (have hx5 : Ms w5 wr.heap.size (emptyMsg emp) (.slice none 0 0) := (by refine Ms.kept ?_ (below_grown' hb5) (by simp); exact heap_alloc_new _ _); obtain ⟨q0, q1, q2, q3, q4, q5, q6, q7, q8⟩ := hx5.nine; have qf := hx5.frozen))
        all_goals (go_wp2_with fail; go_meet; first | exact ⟨m', r, ok, _, rfl, rfl, rfl, HFIT, reg_a hm hB hb5 m'⟩ | exact ⟨m', r, ok, _, rfl, rfl, rfl, HFIT, reg_b hm hB hb5 m'⟩)
      case rest =>
        obtain ⟨m', r, ok, xb, rfl, rfl, rfl, HFIT, hx, hm2, hxb, hB2⟩ := hcut
        have ha2 := hm4.kept (below_grown' hB2) (by simp)
        have hz2 := hz4.kept (below_grown' hB2) (by simp)
        have hBw : Below w.heap.size w wc := (unhide HB4).trans (hB2.mono (unhide HB4).size)
        clear p0 p1 p2 p3 p4 p5 p6 p7 p8 pf
        cases ok with
        | false =>
          have hD2 : D = (none, why 52) := by
            have e1 : (stepP (m, s, false) x).2.2 = true := by
              have := HFIT.out.1
              cases hh : (stepP (m, s, false) x).2.2
              · rw [hh] at this; cases this
              · rfl
            have e2 : okOf (foldP (emptyMsg k, f.extract 10 f.size, false) l) = false := okOf_wrong (by rw [foldP_split _ l (j + 1), unhide HX]; exact fold_wrong _ _ e1)
            rw [← unhide HD, e2]; rfl
          subst hD2
          obtain ⟨p0, p1, p2, p3, p4, p5, p6, p7, p8⟩ := ha2.nine
          have pf := ha2.frozen
          obtain ⟨q0, q1, q2, q3, q4, q5, q6, q7, q8⟩ := hz2.nine
          clear HC HX HD HFIT
          go_wp2
          have hres := nine_set ha2 (emptyMsg emp) (.slice none 0 0)
          have hB9 : Below w.heap.size w (nineSet wc w.heap.size (emptyMsg emp) (.slice none 0 0)) := hBw.trans (nineSet_below wc w.heap.size (emptyMsg emp) (.slice none 0 0) (Nat.le_refl _))
          clear p0 p1 p2 p3 p4 p5 p6 p7 p8 q0 q1 q2 q3 q4 q5 q6 q7 q8
          refine bodyPost_ret (v := .tuple #[.agg ((emptyMsg emp).cells (.slice none 0 0)), .string (why 52)]) ?_ rfl (decPost_none (why 52) w _ hB9)
          exact msg_res rfl hres _ rfl rfl
        | true =>
          have hnx2 : foldP (emptyMsg k, f.extract 10 f.size, false) (l.take (j + 1)) = (m', r, false) := (unhide HX).trans (HFIT.out.2 rfl)
          have hrs := fits_size HFIT.out
          have HX2 := hide hnx2
          obtain ⟨p0, p1, p2, p3, p4, p5, p6, p7, p8⟩ := hm2.nine
          have pf := hm2.frozen
          obtain ⟨q0, q1, q2, q3, q4, q5, q6, q7, q8⟩ := hx.nine
          clear HC HX HD HFIT hnx2
          go_wp2
          go_roundg g'
          case measure => omega
          case rel => exact ⟨j + 1, m', r, by omega, by go_num, rfl, HX2, by omega, nine_set hm2 m' _, hB2.trans (nineSet_below wc w4.heap.size m' _ (Nat.le_refl _)), by omega⟩
    · have hfin : foldP (emptyMsg k, f.extract 10 f.size, false) l = (m, s, false) := by rw [← HJ.out, List.take_of_length_le (by omega)]
      have hD := unhide HD
      rw [hfin] at hD
      have ha2 := hm4.kept (below_grown' hB) (by simp)
      have hz2 := hz4.kept (below_grown' hB) (by simp)
      have hBw : Below w.heap.size w wr := (unhide HB4).trans (hB.mono (unhide HB4).size)
      obtain ⟨p0, p1, p2, p3, p4, p5, p6, p7, p8⟩ := ha2.nine
      have pf := ha2.frozen
      clear HJ hfin HD
      by_cases h0 : s.size = 0
      · obtain rfl : s = ⟨#[]⟩ := ByteArray.ext (Array.eq_empty_of_size_eq_zero h0)
        obtain rfl : (some (m, l), emp) = D := hD
        obtain ⟨q0, q1, q2, q3, q4, q5, q6, q7, q8⟩ := hm.nine
        clear h0
        go_wp2
        have hres := nine_set ha2 m (.slice a3 l.length c3)
        have hB9 : Below w.heap.size w (nineSet wr w.heap.size m (.slice a3 l.length c3)) := hBw.trans (nineSet_below wr w.heap.size m (.slice a3 l.length c3) (Nat.le_refl _))
        have hrow9 := row_res2 ha2 m (row_below hrow4 hB) hb20
        clear p0 p1 p2 p3 p4 p5 p6 p7 p8 q0 q1 q2 q3 q4 q5 q6 q7 q8
        refine bodyPost_ret (v := .tuple #[.agg (m.cells (.slice a3 l.length c3)), .string emp]) ?_ rfl ⟨.slice a3 l.length c3, rfl, hrow9, hB9⟩
        exact msg_res rfl hres _ rfl rfl
      · have hne : s.toList.isEmpty = false := by
          rw [Lib.toList_data]
          cases hd : s.data.toList with
          | nil => exact absurd (by rw [Lib.size_eq, hd]; rfl) h0
          | cons => rfl
        have hD2 : D = (none, why 52) := by
          rw [← hD, show okOf (m, s, false) = false by unfold okOf; simp [h0]]; rfl
        subst hD2
        obtain ⟨q0, q1, q2, q3, q4, q5, q6, q7, q8⟩ := hz2.nine
        clear h0 hD
        go_wp2
        have hres := nine_set ha2 (emptyMsg emp) (.slice none 0 0)
        have hB9 : Below w.heap.size w (nineSet wr w.heap.size (emptyMsg emp) (.slice none 0 0)) := hBw.trans (nineSet_below wr w.heap.size (emptyMsg emp) (.slice none 0 0) (Nat.le_refl _))
        clear p0 p1 p2 p3 p4 p5 p6 p7 p8 q0 q1 q2 q3 q4 q5 q6 q7 q8
        refine bodyPost_ret (v := .tuple #[.agg ((emptyMsg emp).cells (.slice none 0 0)), .string (why 52)]) ?_ rfl (decPost_none (why 52) w _ hB9)
        exact msg_res rfl hres _ rfl rfl

theorem rdecode_any (f : ByteArray) (w : World) (hs : f.size ≤ 9223372036854775807) : Calls Tryd.prog 7 #[.string f] w (DecPost (dec f) w) := by
  unfold dec
  by_cases h10 : f.size < 10
  · rw [if_pos h10]; exact rshort f w h10
  rw [if_neg h10]
  by_cases hok : okD (f.extract 0 2) = false
  · rw [if_pos hok]; exact rnodig f w h10 hok
  rw [if_neg hok]
  have hok2 : okD (f.extract 0 2) = true := by simpa using hok
  by_cases hnil : lays (dg (f.extract 0 2)) = []
  · rw [if_pos hnil]
    have := rnokind f w h10 hok2 (.inl hnil)
    rw [if_pos hnil] at this
    exact this
  rw [if_neg hnil]
  by_cases hin : flds (f.extract 2 10) 64 ∈ lays (dg (f.extract 0 2))
  · rw [if_neg (by simpa using hin)]
    exact rmain f w hs h10 hok2 hnil hin
  · rw [if_pos hin]
    have := rnokind f w h10 hok2 (.inr hin)
    rw [if_neg hnil] at this
    exact this
end Go.Proofs.YtkkaieijbpkleaaDoor
