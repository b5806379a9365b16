import Derived.Test.YtkkaieijbpkleaaDoorE
namespace Go.Proofs.YtkkaieijbpkleaaDoor
open Go.RowKit Go.Shelf

/-- What a message holds, but for its list of fields. -/
structure Msg where
  kind : ByteArray
  pan : ByteArray
  amount : Int
  trace : Int
  code : ByteArray
  place : ByteArray
  name : ByteArray
  more : Int
def Msg.cells (m : Msg) (v : Value) : Array Value := #[.string m.kind, v, .string m.pan, .int .i64 m.amount, .int .i64 m.trace, .string m.code, .string m.place, .string m.name, .int .i64 m.more]
/-- Block mb is a message. -/
def Ms (w : World) (mb : Nat) (m : Msg) (v : Value) : Prop := w.heap[mb]? = some (.cells (m.cells v) 24 (0, 0))

/-- One field, read. -/
def stepP (st : Msg × ByteArray × Bool) (n : Int) : Msg × ByteArray × Bool :=
  if n = 2 then ({ st.1 with pan := (panP st.2.1 st.2.2).1 }, (panP st.2.1 st.2.2).2)
  else if n = 4 then ({ st.1 with amount := (numberP st.2.1 st.2.2 6).1 }, (numberP st.2.1 st.2.2 6).2)
  else if n = 11 then ({ st.1 with trace := (numberP st.2.1 st.2.2 3).1 }, (numberP st.2.1 st.2.2 3).2)
  else if n = 39 then ({ st.1 with code := (plainP st.2.1 st.2.2 2).1 }, (plainP st.2.1 st.2.2 2).2)
  else if n = 41 then ({ st.1 with place := (plainP st.2.1 st.2.2 8).1 }, (plainP st.2.1 st.2.2 8).2)
  else if n = 43 then ({ st.1 with name := (nameP st.2.1 st.2.2).1 }, (nameP st.2.1 st.2.2).2)
  else if n = 54 then ({ st.1 with more := (numberP st.2.1 st.2.2 6).1 }, (numberP st.2.1 st.2.2 6).2)
  else st

theorem Ms.lt {w : World} {mb : Nat} {m : Msg} {v : Value} (h : Ms w mb m v) : mb < w.heap.size := (Array.getElem?_eq_some_iff.1 h).1
theorem Ms.cell {w : World} {mb : Nat} {m : Msg} {v : Value} (h : Ms w mb m v) (j : Nat) (u : Value) (hj : (m.cells v)[j]? = some u) : w.cell? ⟨mb, j, none⟩ = some u := by
  simp only [World.cell?, show w.heap[mb]? = _ from h]
  simpa using hj
theorem Ms.frozen {w : World} {mb : Nat} {m : Msg} {v : Value} (h : Ms w mb m v) (j : Nat) : w.frozen? ⟨mb, j, none⟩ = false := by simp [World.frozen?, show w.heap[mb]? = _ from h]
theorem Ms.set {w : World} {mb : Nat} {m m' : Msg} {v : Value} (h : Ms w mb m v) (j : Nat) (u : Value) (he : (m.cells v).setIfInBounds j u = m'.cells v) : Ms (w.setCell ⟨mb, j, none⟩ u) mb m' v := by
  obtain ⟨hlt, hk⟩ := Array.getElem?_eq_some_iff.1 h
  show (w.heap.modify mb _)[mb]? = _
  rw [Array.getElem?_eq_getElem (by rw [Array.size_modify]; exact hlt), Array.getElem_modify_self, hk]
  show some (Obj.cells ((m.cells v).setIfInBounds j u) 24 (0, 0)) = _
  rw [he]
theorem Ms.kept {w w' : World} {row : Option Nat} {mb : Nat} {m : Msg} {v : Value} (h : Ms w mb m v) (hg : w.grownBy w' row) (hne : some mb ≠ row) : Ms w' mb m v := (hg.block mb h.lt hne).trans h
theorem Ms.ne {w : World} {rb mb : Nat} {s : ByteArray} {b : Bool} {m : Msg} {v : Value} (hm : Ms w mb m v) (hr : Rd w rb s b) : mb ≠ rb := by
  intro e
  subst e
  have := (show w.heap[mb]? = _ from hm).symm.trans hr
  simp at this

/-- All but two blocks lie as they lay. -/
structure K2 (rb mb : Nat) (w w' : World) : Prop where
  os : w'.os = w.os
  tape : w'.tape = w.tape
  output : w'.output = w.output
  size : w.heap.size ≤ w'.heap.size
  block : ∀ k, k < w.heap.size → k ≠ rb → k ≠ mb → w'.heap[k]? = w.heap[k]?
theorem K2.of1 {rb mb : Nat} {w w' : World} (h : w.grownBy w' (some rb)) : K2 rb mb w w' := ⟨h.os, h.tape, h.output, h.size, fun k hk h1 _ => h.block k hk (by simpa using h1)⟩
theorem K2.of2 {rb mb : Nat} {w w' : World} (h : w.grownBy w' (some mb)) : K2 rb mb w w' := ⟨h.os, h.tape, h.output, h.size, fun k hk _ h2 => h.block k hk (by simpa using h2)⟩
theorem K2.trans {rb mb : Nat} {a b c : World} (h : K2 rb mb a b) (k : K2 rb mb b c) : K2 rb mb a c :=
  ⟨k.os.trans h.os, k.tape.trans h.tape, k.output.trans h.output, Nat.le_trans h.size k.size, fun i hi h1 h2 => (k.block i (Nat.lt_of_lt_of_le hi h.size) h1 h2).trans (h.block i hi h1 h2)⟩
theorem K2.refl (rb mb : Nat) (a : World) : K2 rb mb a a := ⟨rfl, rfl, rfl, Nat.le_refl _, fun _ _ _ _ => rfl⟩

/-- What a field's method leaves behind. -/
def FieldPost (rb mb : Nat) (v : Value) (st : Msg × ByteArray × Bool) (w : World) (e : Ending) (w' : World) : Prop :=
  e = .returned (.tuple #[]) ∧ Rd w' rb st.2.1 st.2.2 ∧ Ms w' mb st.1 v ∧ K2 rb mb w w'

/-- Behind the reader's method: the value goes into the message. -/
theorem field_store {w w1 : World} {rb mb : Nat} {s s' : ByteArray} {b b' : Bool} {m m' : Msg} {v : Value} (hr : Rd w rb s b) (hm : Ms w mb m v) (hr1 : Rd w1 rb s' b') (hg1 : w.grownBy w1 (some rb)) (j : Nat) (u : Value)
    (he : (m.cells v).setIfInBounds j u = m'.cells v) : Rd (w1.setCell ⟨mb, j, none⟩ u) rb s' b' ∧ Ms (w1.setCell ⟨mb, j, none⟩ u) mb m' v ∧ K2 rb mb w (w1.setCell ⟨mb, j, none⟩ u) := by
  have hne := hm.ne hr
  have hm1 := hm.kept hg1 (by simpa using hne)
  exact ⟨hr1.kept (grown_set w1 mb j u) (by simpa using fun e => hne e.symm), hm1.set j u he, (K2.of1 hg1).trans (K2.of2 (grown_set w1 mb j u))⟩

set_option maxHeartbeats 1000000 in
theorem field_any (w : World) (rb mb : Nat) (s : ByteArray) (b : Bool) (m : Msg) (v : Value) (n : Int) (h : Rd w rb s b) (hm : Ms w mb m v) (hT : Tabs w) (hs : s.size ≤ 9223372036854775807) :
    Calls Tryd.prog 35 #[.pointer (some ⟨rb, 0, none⟩), .pointer (some ⟨mb, 0, none⟩), .int .i64 n] w (FieldPost rb mb v (stepP (m, s, b) n) w) := by
  unfold stepP
  dsimp only
  by_cases h2 : n = 2
  · subst h2
    rw [if_pos rfl]
    have hcall := fun w (h : Rd w rb s b) => pan_any w rb s b h hs
    generalize panP s b = q at hcall ⊢
    obtain ⟨p, s', b'⟩ := q
    dsimp only at hcall ⊢
    have HC := hide hcall
    clear hcall
    go_enter Tryd.func35, Tryd.ntmps35
    go_wp2_with (go_at_call 49; refine (unhide HC _ h).mono ?_; rintro e w1 ⟨rfl, hr1, hg1⟩; have hm1 := hm.kept hg1 (by simpa using hm.ne h); have hc1 := hm1.cell 2 _ rfl; have hf1 := hm1.frozen 2)
    go_end0
    exact ⟨rfl, field_store h hm hr1 hg1 2 _ rfl⟩
  by_cases h4 : n = 4
  · subst h4
    rw [if_neg (by omega), if_pos rfl]
    have hcall := fun w (h : Rd w rb s b) => number_any w rb s b 6 h (by omega) (by omega) hs
    rw [show (6 : Int).toNat = 6 from rfl] at hcall
    generalize numberP s b 6 = q at hcall ⊢
    obtain ⟨p, s', b'⟩ := q
    dsimp only at hcall ⊢
    have HC := hide hcall
    clear hcall
    go_enter Tryd.func35, Tryd.ntmps35
    go_wp2_with (go_at_call 50; refine (unhide HC _ h).mono ?_; rintro e w1 ⟨rfl, hr1, hg1⟩; have hm1 := hm.kept hg1 (by simpa using hm.ne h); have hc1 := hm1.cell 3 _ rfl; have hf1 := hm1.frozen 3)
    go_end0
    exact ⟨rfl, field_store h hm hr1 hg1 3 _ rfl⟩
  by_cases h11 : n = 11
  · subst h11
    rw [if_neg (by omega), if_neg (by omega), if_pos rfl]
    have hcall := fun w (h : Rd w rb s b) => number_any w rb s b 3 h (by omega) (by omega) hs
    rw [show (3 : Int).toNat = 3 from rfl] at hcall
    generalize numberP s b 3 = q at hcall ⊢
    obtain ⟨p, s', b'⟩ := q
    dsimp only at hcall ⊢
    have HC := hide hcall
    clear hcall
    go_enter Tryd.func35, Tryd.ntmps35
    go_wp2_with (go_at_call 50; refine (unhide HC _ h).mono ?_; rintro e w1 ⟨rfl, hr1, hg1⟩; have hm1 := hm.kept hg1 (by simpa using hm.ne h); have hc1 := hm1.cell 4 _ rfl; have hf1 := hm1.frozen 4)
    go_end0
    exact ⟨rfl, field_store h hm hr1 hg1 4 _ rfl⟩
  by_cases h39 : n = 39
  · subst h39
    rw [if_neg (by omega), if_neg (by omega), if_neg (by omega), if_pos rfl]
    have hcall := fun w (h : Rd w rb s b) => plain_any w rb s b 2 h (by omega) (by omega) hs
    rw [show (2 : Int).toNat = 2 from rfl] at hcall
    generalize plainP s b 2 = q at hcall ⊢
    obtain ⟨p, s', b'⟩ := q
    dsimp only at hcall ⊢
    have HC := hide hcall
    clear hcall
    go_enter Tryd.func35, Tryd.ntmps35
    go_wp2_with (go_at_call 51; refine (unhide HC _ h).mono ?_; rintro e w1 ⟨rfl, hr1, hg1⟩; have hm1 := hm.kept hg1 (by simpa using hm.ne h); have hc1 := hm1.cell 5 _ rfl; have hf1 := hm1.frozen 5)
    go_end0
    exact ⟨rfl, field_store h hm hr1 hg1 5 _ rfl⟩
  by_cases h41 : n = 41
  · subst h41
    rw [if_neg (by omega), if_neg (by omega), if_neg (by omega), if_neg (by omega), if_pos rfl]
    have hcall := fun w (h : Rd w rb s b) => plain_any w rb s b 8 h (by omega) (by omega) hs
    rw [show (8 : Int).toNat = 8 from rfl] at hcall
    generalize plainP s b 8 = q at hcall ⊢
    obtain ⟨p, s', b'⟩ := q
    dsimp only at hcall ⊢
    have HC := hide hcall
    clear hcall
    go_enter Tryd.func35, Tryd.ntmps35
    go_wp2_with (go_at_call 51; refine (unhide HC _ h).mono ?_; rintro e w1 ⟨rfl, hr1, hg1⟩; have hm1 := hm.kept hg1 (by simpa using hm.ne h); have hc1 := hm1.cell 6 _ rfl; have hf1 := hm1.frozen 6)
    go_end0
    exact ⟨rfl, field_store h hm hr1 hg1 6 _ rfl⟩
  by_cases h43 : n = 43
  · subst h43
    rw [if_neg (by omega), if_neg (by omega), if_neg (by omega), if_neg (by omega), if_neg (by omega), if_pos rfl]
    have hcall := fun w (h : Rd w rb s b) (hT : Tabs w) => name_any w rb s b h hT hs
    generalize nameP s b = q at hcall ⊢
    obtain ⟨p, s', b'⟩ := q
    dsimp only at hcall ⊢
    have HC := hide hcall
    clear hcall
    go_enter Tryd.func35, Tryd.ntmps35
    go_wp2_with (go_at_call 52; refine (unhide HC _ h hT).mono ?_; rintro e w1 ⟨rfl, hr1, hg1⟩; have hm1 := hm.kept hg1 (by simpa using hm.ne h); have hc1 := hm1.cell 7 _ rfl; have hf1 := hm1.frozen 7)
    go_end0
    exact ⟨rfl, field_store h hm hr1 hg1 7 _ rfl⟩
  by_cases h54 : n = 54
  · subst h54
    rw [if_neg (by omega), if_neg (by omega), if_neg (by omega), if_neg (by omega), if_neg (by omega), if_neg (by omega), if_pos rfl]
    have hcall := fun w (h : Rd w rb s b) => number_any w rb s b 6 h (by omega) (by omega) hs
    rw [show (6 : Int).toNat = 6 from rfl] at hcall
    generalize numberP s b 6 = q at hcall ⊢
    obtain ⟨p, s', b'⟩ := q
    dsimp only at hcall ⊢
    have HC := hide hcall
    clear hcall
    go_enter Tryd.func35, Tryd.ntmps35
    go_wp2_with (go_at_call 50; refine (unhide HC _ h).mono ?_; rintro e w1 ⟨rfl, hr1, hg1⟩; have hm1 := hm.kept hg1 (by simpa using hm.ne h); have hc1 := hm1.cell 8 _ rfl; have hf1 := hm1.frozen 8)
    go_end0
    exact ⟨rfl, field_store h hm hr1 hg1 8 _ rfl⟩
  rw [if_neg h2, if_neg h4, if_neg h11, if_neg h39, if_neg h41, if_neg h43, if_neg h54]
  have b2 : (n == 2) = false := by simpa using h2
  have b4 : (n == 4) = false := by simpa using h4
  have b11 : (n == 11) = false := by simpa using h11
  have b39 : (n == 39) = false := by simpa using h39
  have b41 : (n == 41) = false := by simpa using h41
  have b43 : (n == 43) = false := by simpa using h43
  have b54 : (n == 54) = false := by simpa using h54
  go_enter Tryd.func35, Tryd.ntmps35
  go_wp2
  go_end0
  exact ⟨rfl, h, hm, K2.refl _ _ _⟩
end Go.Proofs.YtkkaieijbpkleaaDoor
