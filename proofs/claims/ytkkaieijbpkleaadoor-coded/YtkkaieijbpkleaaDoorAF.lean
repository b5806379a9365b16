import Derived.Test.YtkkaieijbpkleaaDoorAE
namespace Go.Proofs.YtkkaieijbpkleaaDoor
open Go.RowKit Go.Shelf

theorem Mk.below {base : Nat} {w w' : World} {mark : Int} {u : Value} {m : Nat} (h : Mk base w mark u m) (hb : Below w.heap.size w w') : Mk base w' mark u m :=
  h.kept fun g _ _ hc => (hb.block g (Array.getElem?_eq_some_iff.1 hc).1).trans hc

/-- The example's frame. -/
def echo : ByteArray := ⟨#[8, 0, 0, 32, 0, 0, 0, 0, 0, 0, 0, 0, 7]⟩
def echoM : Msg := { emptyMsg (kd 48 56 48 48) with trace := 7 }
theorem dec_echo : msgOf (dec echo).1 = echoM ∧ fldOf (dec echo).1 = [11] ∧ (dec echo).2 = emp := by
  have h : dec echo = (some (echoM, [11]), emp) := by kernel_rfl
  rw [h]; exact ⟨rfl, rfl, rfl⟩

/-- What a Decode answers to one frame. -/
def Says (f : ByteArray) (m : Msg) (l : List Int) (r : ByteArray) (fn : Nat) : Prop :=
  ∀ w : World, Tabs w → Calls Tryd.prog fn #[.string f] w fun e w' => ∃ v, e = .returned (.tuple #[.agg (m.cells v), .string r]) ∧ w'.ownsRow w.heap.size 3 1 v l.length (l.map (Value.int .i64)) ∧ Below w.heap.size w w'

theorem fld_small (f : ByteArray) : (fldOf (dec f).1).length ≤ 64 := by
  unfold dec
  repeat' split
  all_goals first | exact Nat.zero_le _ | exact flds_length _ _

theorem ms_below {w w' : World} {mb : Nat} {m : Msg} {v : Value} (h : Ms w mb m v) (hb : Below w.heap.size w w') : Ms w' mb m v := (hb.block mb h.lt).trans h

set_option maxRecDepth 100000 in
set_option maxHeartbeats 2000000 in
theorem decodes_core (f : ByteArray) (m : Msg) (l : List Int) (r : ByteArray) (h6 : Hid (Says f m l r 6)) (h7 : Hid (Says f m l r 7)) (hx : Hid (Says echo echoM [11] emp 6)) (hl : l.length ≤ 64) (w : World) (hT : Tabs w) :
    Calls Tryd.prog 3 #[.string f] w fun e w' => e = .returned (.bool true) ∧ Below w.heap.size w w' := by
  go_enter Tryd.func3, Tryd.ntmps3
  go_wp2_with fail
  refine (unhide hx w hT).mono ?_
  rintro e w1 ⟨v0, rfl, hrow0, hB1⟩
  obtain ⟨a0, c0, rfl⟩ := row_slice hrow0
  unfold Msg.cells echoM emptyMsg kd emp
  have hBa : Below w.heap.size w (w1.alloc (.cells (echoM.cells (.slice a0 1 c0)) 24)) := hB1.alloc hB1.size _
  go_wp2_with fail
  refine (unhide h7 _ (tabs_below hT hBa)).mono ?_
  rintro e w2 ⟨v1, rfl, hrow1, hb2⟩
  obtain ⟨a1, c1, rfl⟩ := row_slice hrow1
  have hB2 := hBa.trans (hb2.mono hBa.size)
  unfold Msg.cells
  have hBb : Below w.heap.size w (w2.alloc (.cells (m.cells (.slice a1 l.length c1)) 24)) := hB2.alloc hB2.size _
  have hX5 : Ms (w2.alloc (.cells (m.cells (.slice a1 l.length c1)) 24)) w2.heap.size m (.slice a1 l.length c1) := heap_alloc_new w2 _
  have hrow1b : (w2.alloc (.cells (m.cells (.slice a1 l.length c1)) 24)).ownsRow _ 3 1 (.slice a1 l.length c1) l.length (l.map (Value.int .i64)) := hrow1.alloc _
  go_wp2_with fail
  refine (unhide h6 _ (tabs_below hT hBb)).mono ?_
  rintro e w3 ⟨v2, rfl, hrow2, hb3⟩
  obtain ⟨a2, c2, rfl⟩ := row_slice hrow2
  have hX5c := ms_below hX5 hb3
  have hrow1c := row_below hrow1b hb3
  have hlt5 := hX5c.lt
  obtain ⟨p0, p1, p2, p3, p4, p5, p6, p7, p8⟩ := hX5c.nine
  unfold Msg.cells
  go_wp2_with fail
  have hX7 : Ms (w3.alloc (.cells (m.cells (.slice a2 l.length c2)) 24)) w3.heap.size m (.slice a2 l.length c2) := heap_alloc_new w3 _
  have hX5d : Ms (w3.alloc (.cells (m.cells (.slice a2 l.length c2)) 24)) w2.heap.size m (.slice a1 l.length c1) := hX5c.kept (World.grownBy_alloc _ _ none) (by simp)
  have hrow1d := hrow1c.alloc (.cells (m.cells (.slice a2 l.length c2)) 24)
  have hrow2d := hrow2.alloc (.cells (m.cells (.slice a2 l.length c2)) 24)
  have hBd : Below w.heap.size w (w3.alloc (.cells (m.cells (.slice a2 l.length c2)) 24)) := by
    have h3 := hBb.trans (hb3.mono hBb.size)
    exact h3.alloc h3.size _
  have hs2 : (w2.alloc (.cells (m.cells (.slice a1 l.length c1)) 24)).heap.size = w2.heap.size + 1 := by simp
  have hs3 : (w3.alloc (.cells (m.cells (.slice a2 l.length c2)) 24)).heap.size = w3.heap.size + 1 := by simp
  refine (same_any m l _ hrow2d hrow1d (by omega)).mono ?_
  rintro e w4 ⟨rfl, hb4⟩
  have hX7e := ms_below hX7 hb4
  have hX5e := ms_below hX5d hb4
  have hrow1e := row_below hrow1d hb4
  have hrow2e := row_below hrow2d hb4
  have hBe := hBd.trans (hb4.mono hBd.size)
  have hsz4 := hb4.size
  have hsz3 := hb3.size
  clear p0 p1 p2 p3 p4 p5 p6 p7 p8
  obtain ⟨_, p1, _⟩ := hX7e.nine
  go_wp2_with fail
  refine (own_any _ w4 hrow2e (by omega) (by omega)).mono ?_
  rintro e w5 ⟨one, vs1, rfl, hone, hM1, hb5⟩
  rw [hs2] at hb5 hone hM1
  have hX5f : Ms w5 w2.heap.size m (.slice a1 l.length c1) := (hb5.block _ (by omega)).trans hX5e
  have hrow1f : w5.ownsRow (w1.alloc (.cells (echoM.cells (.slice a0 1 c0)) 24)).heap.size 3 1 (.slice a1 l.length c1) l.length (l.map (Value.int .i64)) := by
    have k1 : Below w2.heap.size w2 (w2.alloc (.cells (m.cells (.slice a1 l.length c1)) 24)) := (Below.refl _ w2).alloc (Nat.le_refl _) _
    have k2 : Below w2.heap.size w2 w3 := k1.trans (hb3.mono (by omega))
    have k3 : Below w2.heap.size w2 (w3.alloc (.cells (m.cells (.slice a2 l.length c2)) 24)) := k2.alloc k2.size _
    have k4 : Below w2.heap.size w2 w4 := k3.trans (hb4.mono (by omega))
    exact row_below hrow1 (k4.trans (hb5.mono (by omega)))
  have hBf : Below w.heap.size w w5 := hBe.trans (hb5.mono (by have := hB2.size; omega))
  clear p1
  go_wp2_with fail
  refine (unhide h6 _ (tabs_below hT hBf)).mono ?_
  rintro e w6 ⟨v3, rfl, hrow3, hb6⟩
  obtain ⟨a3, c3, rfl⟩ := row_slice hrow3
  have hX5g := ms_below hX5f hb6
  have hrow1g := row_below hrow1f hb6
  have hlt6 := hX5g.lt
  obtain ⟨p0, p1, p2, p3, p4, p5, p6, p7, p8⟩ := hX5g.nine
  unfold Msg.cells
  go_wp2_with fail
  have hX11 : Ms (w6.alloc (.cells (m.cells (.slice a3 l.length c3)) 24)) w6.heap.size m (.slice a3 l.length c3) := heap_alloc_new w6 _
  have hrow1h := hrow1g.alloc (.cells (m.cells (.slice a3 l.length c3)) 24)
  have hrow3h := hrow3.alloc (.cells (m.cells (.slice a3 l.length c3)) 24)
  have hb56 : Below w5.heap.size w5 (w6.alloc (.cells (m.cells (.slice a3 l.length c3)) 24)) := hb6.alloc hb6.size _
  refine (same_any m l _ hrow3h hrow1h (by omega)).mono ?_
  rintro e w7 ⟨rfl, hb7⟩
  have hX11i := ms_below hX11 hb7
  have hrow3i := row_below hrow3h hb7
  have hb57 := hb56.trans (hb7.mono hb56.size)
  clear p0 p1 p2 p3 p4 p5 p6 p7 p8
  obtain ⟨_, p1, _⟩ := hX11i.nine
  go_wp2_with fail
  refine (own_any _ w7 hrow3i (by omega) hb57.size).mono ?_
  rintro e w8 ⟨two, vs2, rfl, htwo, hM2, hb8⟩
  have hb58 : Below w5.heap.size w5 w8 := hb57.trans hb8
  go_wp2_with fail
  refine (kept_any _ w8 (row_below hone hb58) (fun i u h => (hM1 i u h).below hb58) (by omega)).mono ?_
  rintro e w' ⟨rfl, rfl⟩
  go_wp2_with fail
  refine (kept_any _ w8 htwo hM2 (by omega)).mono ?_
  rintro e w' ⟨rfl, rfl⟩
  have hfin : Below w.heap.size w w8 := hBf.trans (hb58.mono hBf.size)
  clear p1
  go_wp2
  go_ret
  exact ⟨by simp, hfin⟩

theorem decodes_any (f : ByteArray) (w : World) (hT : Tabs w) (hs : f.size ≤ 9223372036854775807) : Calls Tryd.prog 3 #[.string f] w fun e w' => e = .returned (.bool true) ∧ Below w.heap.size w w' := by
  refine decodes_core f (msgOf (dec f).1) (fldOf (dec f).1) (dec f).2 (hide fun w hT => decode_any f w hT hs) (hide fun w _ => rdecode_any f w hs) (hide fun w hT => ?_) (fld_small f) w hT
  obtain ⟨e1, e2, e3⟩ := dec_echo
  rw [← e1, ← e2, ← e3]
  exact decode_any echo w hT (by decide)
end Go.Proofs.YtkkaieijbpkleaaDoor
