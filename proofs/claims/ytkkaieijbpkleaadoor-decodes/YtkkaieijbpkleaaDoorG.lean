import Derived.Test.YtkkaieijbpkleaaDoorF
namespace Go.Proofs.YtkkaieijbpkleaaDoor
open Go.RowKit Go.Shelf

def emptyMsg (kind : ByteArray) : Msg := ⟨kind, emp, 0, 0, emp, emp, emp, 0⟩
/-- All fields, one after the other. -/
def foldP (st : Msg × ByteArray × Bool) (l : List Int) : Msg × ByteArray × Bool := l.foldl stepP st
theorem foldP_snoc (st : Msg × ByteArray × Bool) (l : List Int) (n : Int) : foldP st (l ++ [n]) = stepP (foldP st l) n := by simp [foldP]

theorem panP_rest (s : ByteArray) (b : Bool) : (panP s b).2.1.size ≤ s.size := by
  unfold panP
  dsimp only
  split
  · exact Nat.le_trans (takeP_rest _ _ _) (countP_rest s b 12 19)
  · exact Nat.le_trans (takeP_rest _ _ _) (countP_rest s b 12 19)
theorem nameP_rest (s : ByteArray) (b : Bool) : (nameP s b).2.1.size ≤ s.size := Nat.le_trans (takeP_rest _ _ _) (countP_rest s b 0 40)
theorem stepP_rest (st : Msg × ByteArray × Bool) (n : Int) : (stepP st n).2.1.size ≤ st.2.1.size := by
  unfold stepP
  repeat' split
  · exact panP_rest _ _
  · exact numberP_rest _ _ _
  · exact numberP_rest _ _ _
  · exact takeP_rest _ _ _
  · exact takeP_rest _ _ _
  · exact nameP_rest _ _
  · exact numberP_rest _ _ _
  · exact Nat.le_refl _

theorem tabs_k2 {w w' : World} {rb mb : Nat} {s : ByteArray} {b : Bool} {m : Msg} {v : Value} (h : Tabs w) (hr : Rd w rb s b) (hm : Ms w mb m v) (hg : K2 rb mb w w') : Tabs w' := by
  have h0 := hr.cell0
  have h1 : w.cell? ⟨mb, 0, none⟩ = some (.string m.kind) := hm.cell 0 _ rfl
  have c0 := h.1 0 (by omega)
  have c1 := (h.2 0 (by omega)).1
  have n1 : (0 : Nat) ≠ rb := fun e => by rw [← e, c0] at h0; cases h0
  have n2 : (1 : Nat) ≠ rb := fun e => by rw [← e, show (0 : Nat) = 2 * 0 from rfl, c1] at h0; cases h0
  have n3 : (0 : Nat) ≠ mb := fun e => by rw [← e, c0] at h1; cases h1
  have n4 : (1 : Nat) ≠ mb := fun e => by rw [← e, show (0 : Nat) = 2 * 0 from rfl, c1] at h1; cases h1
  have lt : ∀ {a : Addr} {v : Value}, w.cell? a = some v → a.block < w.heap.size := fun {a v} hc => World.block_lt_of_cell? w a hc
  exact ⟨fun c hc => (World.cell?_of_block (hg.block 0 (lt (h.1 c hc)) n1 n3)).trans (h.1 c hc),
    fun i hi => ⟨(World.cell?_of_block (hg.block 1 (lt (h.2 i hi).1) n2 n4)).trans (h.2 i hi).1, (World.cell?_of_block (hg.block 1 (lt (h.2 i hi).2) n2 n4)).trans (h.2 i hi).2⟩⟩

/-- An own row: no element, or an array in a block of its own. -/
theorem row_form {w : World} {base : Nat} {e : TypeId} {v : Value} {n : Nat} {xs : List Value} (h : w.ownsRow base e 1 v n xs) :
    (n = 0 ∧ ∃ a cap, v = .slice a 0 cap) ∨ (0 < n ∧ ∃ g cap, v = .slice (some ⟨g, 0, none⟩) n cap ∧ base ≤ g ∧ ∀ j u, xs[j]? = some u → w.cell? ⟨g, j, none⟩ = some u) := by
  have hcells := fun g => h.cells (g := g)
  rcases h.2 with ⟨rfl, rfl⟩ | ⟨g, cap, cur, rfl, hb, hg, hn, hm, hs, ht⟩
  · exact .inl ⟨rfl, none, 0, rfl⟩
  · by_cases h0 : n = 0
    · subst h0; exact .inl ⟨rfl, _, cap, rfl⟩
    · refine .inr ⟨by omega, g, cap, rfl, hb, fun j u hu => ?_⟩
      have := hcells g rfl j u hu
      have hadd : (⟨g, 0, none⟩ : Addr).add j = ⟨g, j, none⟩ := by unfold Addr.add; split <;> simp_all
      rwa [hadd] at this

theorem row_below {w w' : World} {B e n : Nat} {v : Value} {xs : List Value} (h : w.ownsRow B e 1 v n xs) (hb : Below w.heap.size w w') : w'.ownsRow B e 1 v n xs :=
  h.kept (below_grown' hb) (by cases v.ownBlock <;> simp)

theorem Ms.nine {w : World} {mb : Nat} {m : Msg} {v : Value} (h : Ms w mb m v) :
    w.cell? ⟨mb, 0, none⟩ = some (.string m.kind) ∧ w.cell? ⟨mb, 1, none⟩ = some v ∧ w.cell? ⟨mb, 2, none⟩ = some (.string m.pan) ∧ w.cell? ⟨mb, 3, none⟩ = some (.int .i64 m.amount) ∧ w.cell? ⟨mb, 4, none⟩ = some (.int .i64 m.trace) ∧
    w.cell? ⟨mb, 5, none⟩ = some (.string m.code) ∧ w.cell? ⟨mb, 6, none⟩ = some (.string m.place) ∧ w.cell? ⟨mb, 7, none⟩ = some (.string m.name) ∧ w.cell? ⟨mb, 8, none⟩ = some (.int .i64 m.more) :=
  ⟨h.cell 0 _ rfl, h.cell 1 _ rfl, h.cell 2 _ rfl, h.cell 3 _ rfl, h.cell 4 _ rfl, h.cell 5 _ rfl, h.cell 6 _ rfl, h.cell 7 _ rfl, h.cell 8 _ rfl⟩

theorem three_blocks (w : World) (o1 o2 o3 : Obj) : (((w.alloc o1).alloc o2).alloc o3).heap[w.heap.size]? = some o1 ∧ (((w.alloc o1).alloc o2).alloc o3).heap[w.heap.size + 1]? = some o2 ∧ (((w.alloc o1).alloc o2).alloc o3).heap[w.heap.size + 1 + 1]? = some o3 := by
  have s1 : (w.alloc o1).heap.size = w.heap.size + 1 := by simp
  have s2 : ((w.alloc o1).alloc o2).heap.size = w.heap.size + 1 + 1 := by simp
  refine ⟨?_, ?_, ?_⟩
  · rw [Below.heap_alloc _ _ _ (by omega), Below.heap_alloc _ _ _ (by omega)]; exact heap_alloc_new w o1
  · rw [Below.heap_alloc _ _ _ (by omega), ← s1]; exact heap_alloc_new (w.alloc o1) o2
  · rw [← s2]; exact heap_alloc_new ((w.alloc o1).alloc o2) o3

/-- A message, written over a block cell by cell. -/
def nineSet (w : World) (mb : Nat) (m : Msg) (v : Value) : World :=
  ((((((((w.setCell ⟨mb, 0, none⟩ (.string m.kind)).setCell ⟨mb, 1, none⟩ v).setCell ⟨mb, 2, none⟩ (.string m.pan)).setCell ⟨mb, 3, none⟩ (.int .i64 m.amount)).setCell ⟨mb, 4, none⟩ (.int .i64 m.trace)).setCell ⟨mb, 5, none⟩ (.string m.code)).setCell
    ⟨mb, 6, none⟩ (.string m.place)).setCell ⟨mb, 7, none⟩ (.string m.name)).setCell ⟨mb, 8, none⟩ (.int .i64 m.more)
theorem cells_set {w : World} {mb : Nat} {cs : Array Value} {t : TypeId} (h : w.heap[mb]? = some (.cells cs t (0, 0))) (j : Nat) (u : Value) : (w.setCell ⟨mb, j, none⟩ u).heap[mb]? = some (.cells (cs.setIfInBounds j u) t (0, 0)) := by
  obtain ⟨hlt, hk⟩ := Array.getElem?_eq_some_iff.1 h
  show (w.heap.modify mb _)[mb]? = _
  rw [Array.getElem?_eq_getElem (by rw [Array.size_modify]; exact hlt), Array.getElem_modify_self, hk]
  rfl
theorem nine_set {w : World} {mb : Nat} {m0 : Msg} {v0 : Value} (h : Ms w mb m0 v0) (m : Msg) (v : Value) : Ms (nineSet w mb m v) mb m v := by
  unfold nineSet
  have h0 : (w.setCell ⟨mb, 0, none⟩ (.string m.kind)).heap[mb]? = some (.cells #[.string m.kind, v0, .string m0.pan, .int .i64 m0.amount, .int .i64 m0.trace, .string m0.code, .string m0.place, .string m0.name, .int .i64 m0.more] 24 (0, 0)) := cells_set h 0 _
  generalize (w.setCell ⟨mb, 0, none⟩ (.string m.kind)) = w0 at h0 ⊢
  have h1 : (w0.setCell ⟨mb, 1, none⟩ v).heap[mb]? = some (.cells #[.string m.kind, v, .string m0.pan, .int .i64 m0.amount, .int .i64 m0.trace, .string m0.code, .string m0.place, .string m0.name, .int .i64 m0.more] 24 (0, 0)) := cells_set h0 1 _
  generalize (w0.setCell ⟨mb, 1, none⟩ v) = w1 at h1 ⊢
  have h2 : (w1.setCell ⟨mb, 2, none⟩ (.string m.pan)).heap[mb]? = some (.cells #[.string m.kind, v, .string m.pan, .int .i64 m0.amount, .int .i64 m0.trace, .string m0.code, .string m0.place, .string m0.name, .int .i64 m0.more] 24 (0, 0)) := cells_set h1 2 _
  generalize (w1.setCell ⟨mb, 2, none⟩ (.string m.pan)) = w2 at h2 ⊢
  have h3 : (w2.setCell ⟨mb, 3, none⟩ (.int .i64 m.amount)).heap[mb]? = some (.cells #[.string m.kind, v, .string m.pan, .int .i64 m.amount, .int .i64 m0.trace, .string m0.code, .string m0.place, .string m0.name, .int .i64 m0.more] 24 (0, 0)) := cells_set h2 3 _
  generalize (w2.setCell ⟨mb, 3, none⟩ (.int .i64 m.amount)) = w3 at h3 ⊢
  have h4 : (w3.setCell ⟨mb, 4, none⟩ (.int .i64 m.trace)).heap[mb]? = some (.cells #[.string m.kind, v, .string m.pan, .int .i64 m.amount, .int .i64 m.trace, .string m0.code, .string m0.place, .string m0.name, .int .i64 m0.more] 24 (0, 0)) := cells_set h3 4 _
  generalize (w3.setCell ⟨mb, 4, none⟩ (.int .i64 m.trace)) = w4 at h4 ⊢
  have h5 : (w4.setCell ⟨mb, 5, none⟩ (.string m.code)).heap[mb]? = some (.cells #[.string m.kind, v, .string m.pan, .int .i64 m.amount, .int .i64 m.trace, .string m.code, .string m0.place, .string m0.name, .int .i64 m0.more] 24 (0, 0)) := cells_set h4 5 _
  generalize (w4.setCell ⟨mb, 5, none⟩ (.string m.code)) = w5 at h5 ⊢
  have h6 : (w5.setCell ⟨mb, 6, none⟩ (.string m.place)).heap[mb]? = some (.cells #[.string m.kind, v, .string m.pan, .int .i64 m.amount, .int .i64 m.trace, .string m.code, .string m.place, .string m0.name, .int .i64 m0.more] 24 (0, 0)) := cells_set h5 6 _
  generalize (w5.setCell ⟨mb, 6, none⟩ (.string m.place)) = w6 at h6 ⊢
  have h7 : (w6.setCell ⟨mb, 7, none⟩ (.string m.name)).heap[mb]? = some (.cells #[.string m.kind, v, .string m.pan, .int .i64 m.amount, .int .i64 m.trace, .string m.code, .string m.place, .string m.name, .int .i64 m0.more] 24 (0, 0)) := cells_set h6 7 _
  generalize (w6.setCell ⟨mb, 7, none⟩ (.string m.name)) = w7 at h7 ⊢
  have h8 : (w7.setCell ⟨mb, 8, none⟩ (.int .i64 m.more)).heap[mb]? = some (.cells #[.string m.kind, v, .string m.pan, .int .i64 m.amount, .int .i64 m.trace, .string m.code, .string m.place, .string m.name, .int .i64 m.more] 24 (0, 0)) := cells_set h7 8 _
  generalize (w7.setCell ⟨mb, 8, none⟩ (.int .i64 m.more)) = w8 at h8 ⊢
  exact h8
theorem nineSet_below (w : World) (mb : Nat) (m : Msg) (v : Value) {B : Nat} (hB : B ≤ mb) : Below B w (nineSet w mb m v) :=
  (((((((((Below.refl B w).setCell (p := ⟨mb, 0, none⟩) hB _).setCell (p := ⟨mb, 1, none⟩) hB _).setCell (p := ⟨mb, 2, none⟩) hB _).setCell (p := ⟨mb, 3, none⟩) hB _).setCell (p := ⟨mb, 4, none⟩) hB _).setCell (p := ⟨mb, 5, none⟩) hB _).setCell (p := ⟨mb, 6, none⟩) hB _).setCell (p := ⟨mb, 7, none⟩) hB _).setCell (p := ⟨mb, 8, none⟩) hB _

def okOf (st : Msg × ByteArray × Bool) : Bool := !st.2.2 && decide (st.2.1.size = 0)

set_option maxRecDepth 100000 in
set_option maxHeartbeats 2000000 in
theorem read_any (kind text : ByteArray) (w : World) {base n : Nat} {v : Value} {l : List Int} (hv : w.ownsRow base 3 1 v n (l.map (Value.int .i64))) (hn : n ≤ 1000) (hT : Tabs w) (hs : text.size ≤ 9223372036854775807) :
    Calls Tryd.prog 21 #[.string kind, v, .string text] w fun e w' =>
      e = .returned (.tuple #[.agg ((foldP (emptyMsg kind, text, false) l).1.cells v), .bool (okOf (foldP (emptyMsg kind, text, false) l))]) ∧ Below w.heap.size w w' := by
  have hl : l.length = n := by have := hv.1; simpa using this
  have HL := hide hl
  clear hl
  obtain ⟨a1, c1, rfl⟩ := row_slice hv
  obtain ⟨mF, sF, bF, hF⟩ : ∃ m s b, foldP (emptyMsg kind, text, false) l = (m, s, b) := ⟨_, _, _, rfl⟩
  rw [hF]
  have HFIN := hide hF
  clear hF
  unfold okOf
  dsimp only
  go_enter Tryd.func21, Tryd.ntmps21
  go_wp2
  go_loopw [19] (fun i wr => ∃ (k : Nat) (m : Msg) (s : ByteArray) (b : Bool), k ≤ n ∧ i = .int .i64 k ∧ Hid (foldP (emptyMsg kind, text, false) (l.take k) = (m, s, b)) ∧ Rd wr (w.heap.size + 1 + 1) s b ∧ Ms wr (w.heap.size + 1) m (.slice a1 n c1) ∧
      Ms wr w.heap.size (emptyMsg emp) (.slice none 0 0) ∧ Tabs wr ∧ Below w.heap.size w wr ∧ s.size ≤ text.size) (fun i _ => n - (intOf i).toNat)
  case atStart =>
    have hB0 : Below w.heap.size w (((w.alloc (.cells ((emptyMsg emp).cells (.slice none 0 0)) 24)).alloc (.cells ((emptyMsg kind).cells (.slice a1 n c1)) 24)).alloc (.cells #[.string text, .bool false] 61)) := (((Below.refl _ w).alloc (Nat.le_refl _) _).alloc (by simp) _).alloc (by simp; omega) _
    refine ⟨0, emptyMsg kind, text, false, Nat.zero_le _, rfl, rfl, ?_, ?_, ?_, tabs_below hT hB0, hB0, Nat.le_refl _⟩
    · exact (three_blocks w _ _ _).2.2
    · exact (three_blocks w _ _ _).2.1
    · exact (three_blocks w _ _ _).1
  case round =>
    obtain ⟨k, m, s, b, hk, rfl, HF, hr, hm, hres, hTr, hB, hss⟩ := hrel
    have hrow := row_below hv hB
    by_cases hlt : k < n
    · rcases row_form hrow with ⟨h0, _⟩ | ⟨_, g1, c2, he, hg1, hcells⟩
      · omega
      · obtain ⟨rfl, rfl⟩ : a1 = some ⟨g1, 0, none⟩ ∧ c1 = c2 := by simpa using he
        have hlk : k < l.length := by rw [unhide HL]; exact hlt
        have hck := hcells k (.int .i64 l[k]) (by rw [List.getElem?_map, List.getElem?_eq_getElem hlk]; rfl)
        have hstep : foldP (emptyMsg kind, text, false) (l.take (k + 1)) = stepP (m, s, b) l[k] := by
          rw [List.take_succ_eq_append_getElem hlk, foldP_snoc, HF.out]
        have hrest := stepP_rest (m, s, b) l[k]
        have hcall := fun w' (h1 : Rd w' (w.heap.size + 1 + 1) s b) (h2 : Ms w' (w.heap.size + 1) m (.slice (some ⟨g1, 0, none⟩) n c1)) (h3 : Tabs w') => field_any w' (w.heap.size + 1 + 1) (w.heap.size + 1) s b m (.slice (some ⟨g1, 0, none⟩) n c1) l[k] h1 h2 h3 (by omega)
        generalize stepP (m, s, b) l[k] = q at hstep hcall hrest
        obtain ⟨m', s', b'⟩ := q
        generalize l[k] = fl at hck hcall
        have HC := hide hcall
        have HS := hide hstep
        clear hcall hstep hcells he hrow
        go_wp2_with (go_at_call 35; refine (unhide HC _ hr hm hTr).mono ?_; rintro e w2 ⟨rfl, hr2, hm2, hk2⟩)
        have hT2 := tabs_k2 hTr hr hm hk2
        have hB2 : Below w.heap.size w w2 := hB.trans ⟨hk2.os, hk2.tape, hk2.output, hk2.size, fun i hi => hk2.block i (by have := hB.size; omega) (by omega) (by omega)⟩
        have hres2 : Ms w2 w.heap.size (emptyMsg emp) (.slice none 0 0) := (hk2.block _ hres.lt (by omega) (by omega)).trans hres
        go_roundw
        case rel => exact ⟨k + 1, m', s', b', by omega, by go_num, HS, hr2, hm2, hres2, hT2, hB2, Nat.le_trans hrest hss⟩
        case measure => simp [intOf]; omega
    · have hfin : foldP (emptyMsg kind, text, false) l = (m, s, b) := by rw [← HF.out, List.take_of_length_le (by rw [unhide HL]; omega)]
      rw [unhide HFIN] at hfin
      obtain ⟨rfl, rfl, rfl⟩ : mF = m ∧ sF = s ∧ bF = b := by simpa using hfin
      clear hfin HF HFIN hrow
      have r0 := hr.cell0
      have r1 := hr.cell1
      obtain ⟨q0, q1, q2, q3, q4, q5, q6, q7, q8⟩ := hm.nine
      obtain ⟨p0, p1, p2, p3, p4, p5, p6, p7, p8⟩ := hres.nine
      have pf := hres.frozen
      have hfin := nine_set hres mF (.slice a1 n c1)
      have hBf : Below w.heap.size w ((nineSet wr w.heap.size mF (.slice a1 n c1)).drew) := by
        have h1 : Below w.heap.size wr (nineSet wr w.heap.size mF (.slice a1 n c1)) := nineSet_below _ _ _ _ (Nat.le_refl _)
        exact (hB.trans h1).drew
      cases bF with
      | true =>
        go_wp2
        go_region
        go_wp2
        refine bodyPost_ret (v := .tuple #[.agg (mF.cells (.slice a1 n c1)), .bool false]) ?_ rfl ⟨rfl, hBf⟩
        obtain ⟨q0, q1, q2, q3, q4, q5, q6, q7, q8⟩ := hfin.nine
        unfold nineSet at *
        simp [results, Tryd.f21, go_sem, *]
        rfl
      | false =>
        by_cases h0 : sF.size = 0
        · obtain rfl : sF = ⟨#[]⟩ := ByteArray.ext (Array.eq_empty_of_size_eq_zero h0)
          go_wp2
          go_region
          go_wp2
          refine bodyPost_ret (v := .tuple #[.agg (mF.cells (.slice a1 n c1)), .bool true]) ?_ rfl ⟨rfl, hBf⟩
          obtain ⟨q0, q1, q2, q3, q4, q5, q6, q7, q8⟩ := hfin.nine
          unfold nineSet at *
          simp [results, Tryd.f21, go_sem, *]
          rfl
        · have hne : sF.toList.isEmpty = false := by
            rw [Lib.toList_data]
            cases hd : sF.data.toList with
            | nil => exact absurd (by rw [Lib.size_eq, hd]; rfl) h0
            | cons => rfl
          have HD : Hid (decide (sF.size = 0) = false) := decide_eq_false h0
          clear h0
          go_wp2
          go_region
          go_wp2
          refine bodyPost_ret (v := .tuple #[.agg (mF.cells (.slice a1 n c1)), .bool false]) ?_ rfl ⟨by rw [HD.out]; rfl, hBf⟩
          obtain ⟨q0, q1, q2, q3, q4, q5, q6, q7, q8⟩ := hfin.nine
          unfold nineSet at *
          simp [results, Tryd.f21, go_sem, *]
          rfl
end Go.Proofs.YtkkaieijbpkleaaDoor
