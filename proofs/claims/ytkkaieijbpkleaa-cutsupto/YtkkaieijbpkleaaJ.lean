import Derived.Test.YtkkaieijbpkleaaI
namespace Go.Proofs.Ytkkaieijbpkleaa
open Go.RowKit

/-- The example's text: the frame of an echo, and one byte more. -/
def exT : ByteArray := ⟨#[0, 13, 8, 0, 0, 32, 0, 0, 0, 0, 0, 0, 0, 0, 7, 0]⟩
theorem ex_cnt : cnt exT = 1 := by decide +kernel
theorem ex_tl : tl exT (pos exT 1) = ⟨#[0]⟩ := by decide +kernel
theorem ex_brk : brk ⟨#[0]⟩ = false := by decide +kernel
theorem ex_frs : frs exT 1 = [⟨#[8, 0, 0, 32, 0, 0, 0, 0, 0, 0, 0, 0, 7]⟩] := by decide +kernel

theorem row_below {w w' : World} {B e n : Nat} {v : Value} {xs : List Value} (h : w.ownsRow B e 1 v n xs) (hb : Below w.heap.size w w') : w'.ownsRow B e 1 v n xs :=
  h.kept (below_grown hb) (by cases v.ownBlock <;> simp)
theorem Mk.below {base : Nat} {w w' : World} {mark : ByteArray} {u : Value} {m : Nat} (h : Mk base w mark u m) (hb : Below w.heap.size w w') : Mk base w' mark u m :=
  h.kept fun g _ _ hc => (hb.block g (Array.getElem?_eq_some_iff.1 hc).1).trans hc
theorem below_undrawn {B n : Nat} {a w : World} (h : Below B (a.drewN n) w) : Below B a w := ⟨h.os, h.tape, h.output, h.size, h.block⟩

theorem ex_any (w : World) : Calls Try.prog 4 #[.string exT] w fun e w' => ∃ g c, e = .returned (.tuple #[.slice (some ⟨g, 0, none⟩) 1 c, .string ⟨#[0]⟩, .bool false]) ∧
    w'.cell? ⟨g, 0, none⟩ = some (.string ⟨#[8, 0, 0, 32, 0, 0, 0, 0, 0, 0, 0, 0, 7]⟩) ∧ Below w.heap.size w w' := by
  refine (cut_any exT w (by decide)).mono ?_
  rintro e w' ⟨v, rfl, hrow, hB⟩
  rw [ex_cnt, ex_frs] at hrow
  rw [ex_cnt, ex_tl, ex_brk]
  rcases row_form hrow with ⟨h0, _⟩ | ⟨_, g, c, rfl, _, hc⟩
  · omega
  · exact ⟨g, c, rfl, hc 0 _ rfl, hB⟩

/-- What both cuts answer to one text. -/
def CutSays (t rest : ByteArray) (bb : Bool) (c : Nat) (l : List ByteArray) (f : Nat) : Prop :=
  ∀ w : World, Calls Try.prog f #[.string t] w fun e w' => ∃ v, e = .returned (.tuple #[v, .string rest, .bool bb]) ∧ w'.ownsRow w.heap.size 9 1 v c (l.map Value.string) ∧ Below w.heap.size w w'

set_option maxRecDepth 100000 in
set_option maxHeartbeats 2000000 in
theorem cuts_core (t rest : ByteArray) (bb : Bool) (c : Nat) (l : List ByteArray) (hcut : Hid (CutSays t rest bb c l 4)) (href : Hid (CutSays t rest bb c l 5)) (hc : c ≤ 1048576) (w : World) :
    Calls Try.prog 3 #[.string t] w fun e w' => e = .returned (.bool true) ∧ Below w.heap.size w w' := by
  go_enter Try.func3, Try.ntmps3
  go_wp2_with fail
  refine (ex_any w).mono ?_
  rintro e w1 ⟨g0, c0, rfl, hc0, hB1⟩
  go_wp2_with fail
  refine (unhide href w1).mono ?_
  rintro e w2 ⟨want, rfl, hwant, hB2⟩
  go_wp2_with fail
  refine (unhide hcut w2).mono ?_
  rintro e w3 ⟨x, rfl, hx, hB3⟩
  go_wp2_with fail
  refine (same_any l w3 hx (row_below hwant hB3) hc).mono ?_
  rintro e w' ⟨rfl, m1, rfl⟩
  go_wp2_with fail
  refine (own_any _ (w3.drewN m1) (row_drawn hx) hc hB3.size).mono ?_
  rintro e w4 ⟨one, vs1, rfl, hone, hM1, hB4⟩
  have hB24 : Below w2.heap.size w2 w4 := hB3.trans (below_undrawn hB4)
  go_wp2_with fail
  refine (unhide hcut w4).mono ?_
  rintro e w5 ⟨y, rfl, hy, hB5⟩
  have hB25 : Below w2.heap.size w2 w5 := hB24.trans (hB5.mono hB24.size)
  go_wp2_with fail
  refine (same_any l w5 hy (row_below hwant hB25) hc).mono ?_
  rintro e w' ⟨rfl, m2, rfl⟩
  go_wp2_with fail
  refine (own_any _ (w5.drewN m2) (row_drawn hy) hc hB5.size).mono ?_
  rintro e w6 ⟨two, vs2, rfl, htwo, hM2, hB6⟩
  have hB46 : Below w4.heap.size w4 w6 := hB5.trans (below_undrawn hB6)
  go_wp2_with fail
  refine (kept_any _ w6 (row_below hone hB46) (fun i u h => (hM1 i u h).below hB46) hc).mono ?_
  rintro e w' ⟨rfl, rfl⟩
  go_wp2_with fail
  refine (kept_any _ w6 htwo hM2 hc).mono ?_
  rintro e w' ⟨rfl, rfl⟩
  have hfin : Below w.heap.size w w6 := ((hB1.trans (hB2.mono hB1.size)).trans (hB24.mono (Nat.le_trans hB1.size hB2.size))).trans (hB46.mono (by have := hB1.size; have := hB2.size; have := hB24.size; omega))
  go_wp2
  go_ret
  exact ⟨by simp, hfin⟩

theorem cuts_any (t : ByteArray) (w : World) (ht : t.size ≤ 1048576) :
    Calls Try.prog 3 #[.string t] w fun e w' => e = .returned (.bool true) ∧ Below w.heap.size w w' :=
  cuts_core t _ _ _ _ (hide fun w => cut_any t w ht) (hide fun w => ref_any t w ht) (Nat.le_trans (cnt_le t) ht) w
end Go.Proofs.Ytkkaieijbpkleaa
