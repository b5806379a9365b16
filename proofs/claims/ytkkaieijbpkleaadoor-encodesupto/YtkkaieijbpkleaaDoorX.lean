import Derived.Test.YtkkaieijbpkleaaDoorW
namespace Go.Proofs.YtkkaieijbpkleaaDoor
open Go.RowKit Go.Shelf

/-- What a call of the reference's field leaves. -/
def FldPost (m : Msg) (s : ByteArray) (n : Int) (v : Value) (w : World) (e : Ending) (w' : World) : Prop :=
  ∃ (m' : Msg) (r : ByteArray) (ok : Bool), e = .returned (.tuple #[.agg (m'.cells v), .string r, .bool ok]) ∧ Fits (stepP (m, s, false) n) (m', r, ok) ∧ Below w.heap.size w w'

/-- The two blocks of a call: what was handed in, and the result. -/
theorem two_new (w : World) (m : Msg) (v : Value) : Ms ((w.alloc (.cells (m.cells v) 24)).alloc (.cells ((emptyMsg emp).cells (.slice none 0 0)) 24)) w.heap.size m v ∧
    Ms ((w.alloc (.cells (m.cells v) 24)).alloc (.cells ((emptyMsg emp).cells (.slice none 0 0)) 24)) (w.heap.size + 1) (emptyMsg emp) (.slice none 0 0) ∧
    Below w.heap.size w ((w.alloc (.cells (m.cells v) 24)).alloc (.cells ((emptyMsg emp).cells (.slice none 0 0)) 24)) := by
  refine ⟨?_, ?_, ((Below.refl _ w).alloc (Nat.le_refl _) _).alloc (by simp) _⟩
  · exact Ms.kept (w := w.alloc (.cells (m.cells v) 24)) (heap_alloc_new w _) (World.grownBy_alloc _ _ none) (by simp)
  · have := heap_alloc_new (w.alloc (.cells (m.cells v) 24)) (.cells ((emptyMsg emp).cells (.slice none 0 0)) 24)
    rw [show (w.alloc (.cells (m.cells v) 24)).heap.size = w.heap.size + 1 by simp] at this
    exact this

/-- The results of such a call. -/
theorem fld_res {w' : World} {mb : Nat} {m : Msg} {v : Value} (h : Ms w' mb m v) (tmps : Array Value) (h6 : tmps.getD 6 undef = .pointer (some ⟨mb, 0, none⟩)) {r : ByteArray} (h7 : tmps.getD 7 undef = .string r) {ok : Bool} (h8 : tmps.getD 8 undef = .bool ok) :
    (results Tryd.f26 tmps).run Tryd.prog w' = .ok (.tuple #[.agg (m.cells v), .string r, .bool ok]) w' := by
  obtain ⟨q0, q1, q2, q3, q4, q5, q6, q7, q8⟩ := h.nine
  rw [Array.getD_eq_getD_getElem?] at h6 h7 h8
  simp [results, Tryd.f26, go_sem, *]
  rfl

theorem below_set {B : Nat} {w w1 : World} (h : Below B w w1) (j : Nat) (u : Value) : Below B w (w1.setCell ⟨B, j, none⟩ u) := h.trans ((Below.refl B w1).setCell (p := ⟨B, j, none⟩) (Nat.le_refl _) u)

set_option maxHeartbeats 400000 in
theorem field2 (m : Msg) (s : ByteArray) (a0 : Option Addr) (n0 c0 : Nat) (w : World) (hs : s.size ≤ 9223372036854775807) : Calls Tryd.prog 26 #[.agg (m.cells (.slice a0 n0 c0)), .int .i64 2, .string s] w (FldPost m s 2 (.slice a0 n0 c0) w) := by
  have hfit := fits_pan s
  have hc := fun w => rpan_any s w hs
  have hst : Fits (stepP (m, s, false) 2) ({ m with pan := (panR s).1 }, (panR s).2.1, (panR s).2.2) := ⟨hfit.1, fun h => by
    show ({ m with pan := (panP s false).1 }, (panP s false).2) = _
    rw [hfit.2 h]⟩
  generalize panR s = c at hc hst
  obtain ⟨p, r, ok⟩ := c
  dsimp only at hc hst
  have HC := hide hc
  have HS := hide hst
  obtain ⟨hn1, hn2, hB0⟩ := two_new w m (.slice a0 n0 c0)
  clear hc hst hfit
  have HN1 := hide hn1
  have HN2 := hide hn2
  unfold Msg.cells
  clear hn1 hn2
  go_enter Tryd.func26, Tryd.ntmps26
  go_wp2_with (go_at_call 37; refine (unhide HC _).mono ?_; rintro e w1 ⟨rfl, hb1⟩; have hm1 := (unhide HN1).kept (below_grown' hb1) (by simp); have hz1 := (unhide HN2).kept (below_grown' hb1) (by simp); have hB1 := hB0.trans (hb1.mono hB0.size); obtain ⟨p0, p1, p2, p3, p4, p5, p6, p7, p8⟩ := hm1.nine; have pf := hm1.frozen; obtain ⟨q0, q1, q2, q3, q4, q5, q6, q7, q8⟩ := hz1.nine; have qf := hz1.frozen)
  have hz2 : Ms (w1.setCell ⟨w.heap.size, 2, none⟩ (.string p)) (w.heap.size + 1) (emptyMsg emp) (.slice none 0 0) := hz1.kept (grown_set w1 w.heap.size 2 _) (by simp)
  have hres := nine_set hz2 { m with pan := p } (.slice a0 n0 c0)
  have hB2 : Below w.heap.size w (nineSet (w1.setCell ⟨w.heap.size, 2, none⟩ (.string p)) (w.heap.size + 1) { m with pan := p } (.slice a0 n0 c0)) := (below_set hB1 2 _).trans (nineSet_below _ (w.heap.size + 1) _ _ (by omega))
  clear p0 p1 p2 p3 p4 p5 p6 p7 p8 q0 q1 q2 q3 q4 q5 q6 q7 q8
  refine bodyPost_ret (v := .tuple #[.agg (Msg.cells { m with pan := p } (.slice a0 n0 c0)), .string r, .bool ok]) ?_ rfl ⟨{ m with pan := p }, r, ok, rfl, unhide HS, hB2⟩
  exact fld_res hres _ rfl rfl rfl
end Go.Proofs.YtkkaieijbpkleaaDoor
