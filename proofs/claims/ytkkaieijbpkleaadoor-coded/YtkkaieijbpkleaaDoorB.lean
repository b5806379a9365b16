import Derived.Test.YtkkaieijbpkleaaDoorA
namespace Go.Proofs.YtkkaieijbpkleaaDoor
open Go.RowKit

set_option maxRecDepth 100000 in
/-- The library's copy of a text: the same bytes, in new memory. -/
theorem clone_lib (s : ByteArray) (w : World) (hs : s.size ≤ 1048576) :
    Calls Tryd.prog 77 #[.string s] w fun e w' => e = .returned (.string s) ∧ Below w.heap.size w w' := by
  by_cases h0 : s.size = 0
  · obtain rfl : s = ⟨#[]⟩ := ByteArray.ext (Array.eq_empty_of_size_eq_zero h0)
    go_enter Tryd.func77, Tryd.ntmps77
    go_wp2
    go_ret
    exact ⟨rfl, Below.refl _ _⟩
  · obtain ⟨i0, hi, hz0, hz1, hz2⟩ := info_parts info5
    have hinfo : (Tryd.prog.info? 5).map (·.size) = some 1 := by rw [hi]; simp [hz1]
    have hco : Tryd.prog.cellsOf 5 = 1 := by kernel_rfl
    obtain ⟨M, hM⟩ : ∃ M, M = madeCells (Value.int .u8 0).cells (((s.size : Nat) : Int).toNat * i0.size) := ⟨_, rfl⟩
    have hMs : M.size = s.size := by rw [hM, size_madeCells, hz1]; simp
    have hmk : ∀ W : World, (Instr.makeSlice 55 (.int .i64 (s.size : Int)) (.int .i64 (s.size : Int))).run Tryd.prog W =
        .ok (.slice (some ⟨W.heap.size, 0, none⟩) s.size s.size) (W.alloc (.cells M 5)) := fun W => by
      have h := run_make (P := Tryd.prog) W 55 5 i0 (.int .u8 0) Tryd.underlying55 hi hz0 .i64 .i64 (s.size : Int) (s.size : Int) (by omega) (by omega) (by rw [hz2]; omega) (by omega)
      rw [← hM] at h
      simpa using h
    clear hM
    have hcp := Lib.run_copy_row_string (P := Tryd.prog) (w.alloc (.cells M 5)) 55 9 3 5 w.heap.size 0 s.size s.size s M 5 Tryd.underlying55 hinfo (heap_alloc_new w _) (Nat.le_refl _) (by omega)
    obtain ⟨Y, hY⟩ : ∃ Y, Y = (M.toList.take 0 ++ Lib.byteCells s.data.toList ++ M.toList.drop (0 + s.size)).toArray := ⟨_, rfl⟩
    rw [← hY] at hcp
    have hYl : Y.toList = Lib.byteCells s.data.toList := by
      rw [hY, List.toList_toArray, List.take_zero, List.nil_append, List.drop_of_length_le (by rw [Array.length_toList]; omega), List.append_nil]
    have hYs : Y.size = s.size := by rw [← Array.length_toList, hYl, Lib.byteCells_length, ← Lib.size_eq]
    have hgY : ((w.alloc (.cells M 5)).setRow w.heap.size Y).heap[w.heap.size]? = some (.cells Y 5 (0, 0)) := setRow_heap _ _ M _ 5 (0, 0) (heap_alloc_new w _)
    have hne : s.data.toList ≠ [] := fun e => h0 (by rw [Lib.size_eq, e]; rfl)
    have hUS := Lib.run_unsafeString_row (P := Tryd.prog) ((w.alloc (.cells M 5)).setRow w.heap.size Y) 111 3 9 5 Tryd.underlying111 hco w.heap.size Y.size (by unfold World.shape?; rw [hgY]) s.data.toList hne (by rw [← Lib.size_eq]; omega) (by rw [← Lib.size_eq]; omega)
      (fun j x hx => Lib.cells_of_row hgY Y.size j _ (by rw [List.take_of_length_le (by rw [Array.length_toList]; exact Nat.le_refl _), hYl]; simp [Lib.byteCells, hx]))
    rw [← Lib.size_eq] at hUS
    clear hY
    go_enter Tryd.func77, Tryd.ntmps77
    go_wp2
    go_ret
    have hb1 : Below w.heap.size w (w.alloc (.cells M 5)) := (Below.refl _ w).alloc (Nat.le_refl _) _
    have hb2 : Below w.heap.size (w.alloc (.cells M 5)) ((w.alloc (.cells M 5)).setRow w.heap.size Y) := ⟨rfl, rfl, rfl, by simp, fun k hk => setRow_other _ _ _ _ (by omega)⟩
    exact ⟨rfl, Lib.below_freeze (hb1.trans hb2) (p := ⟨w.heap.size, 0, none⟩) (Nat.le_refl _) _⟩

theorem clone_any (s : ByteArray) (w : World) (hs : s.size ≤ 1048576) :
    Calls Tryd.prog 66 #[.string s] w fun e w' => e = .returned (.string s) ∧ Below w.heap.size w w' := by
  go_enter Tryd.func66, Tryd.ntmps66
  go_wp2_with (go_at_call 77; refine (clone_lib _ _ hs).mono ?_; rintro e w' ⟨rfl, hb⟩)
  go_ret
  exact ⟨rfl, hb⟩


/-! ### The reader in memory -/
/-- Block rb is a reader: what is left, and whether something was wrong. -/
def Rd (w : World) (rb : Nat) (s : ByteArray) (b : Bool) : Prop := w.heap[rb]? = some (.cells #[.string s, .bool b] 61 (0, 0))
theorem Rd.lt {w : World} {rb : Nat} {s : ByteArray} {b : Bool} (h : Rd w rb s b) : rb < w.heap.size := (Array.getElem?_eq_some_iff.1 h).1
theorem Rd.cell0 {w : World} {rb : Nat} {s : ByteArray} {b : Bool} (h : Rd w rb s b) : w.cell? ⟨rb, 0, none⟩ = some (.string s) := by simp [World.cell?, show w.heap[rb]? = _ from h]
theorem Rd.cell1 {w : World} {rb : Nat} {s : ByteArray} {b : Bool} (h : Rd w rb s b) : w.cell? ⟨rb, 1, none⟩ = some (.bool b) := by simp [World.cell?, show w.heap[rb]? = _ from h]
theorem Rd.frozen {w : World} {rb : Nat} {s : ByteArray} {b : Bool} (h : Rd w rb s b) (j : Nat) : w.frozen? ⟨rb, j, none⟩ = false := by simp [World.frozen?, show w.heap[rb]? = _ from h]
theorem Rd.set1 {w : World} {rb : Nat} {s : ByteArray} {b : Bool} (h : Rd w rb s b) (b' : Bool) : Rd (w.setCell ⟨rb, 1, none⟩ (.bool b')) rb s b' := by
  obtain ⟨hlt, hk⟩ := Array.getElem?_eq_some_iff.1 h
  show (w.heap.modify rb _)[rb]? = _
  rw [Array.getElem?_eq_getElem (by rw [Array.size_modify]; exact hlt), Array.getElem_modify_self, hk]
  rfl
theorem Rd.set0 {w : World} {rb : Nat} {s : ByteArray} {b : Bool} (h : Rd w rb s b) (s' : ByteArray) : Rd (w.setCell ⟨rb, 0, none⟩ (.string s')) rb s' b := by
  obtain ⟨hlt, hk⟩ := Array.getElem?_eq_some_iff.1 h
  show (w.heap.modify rb _)[rb]? = _
  rw [Array.getElem?_eq_getElem (by rw [Array.size_modify]; exact hlt), Array.getElem_modify_self, hk]
  rfl
theorem Rd.kept {w w' : World} {row : Option Nat} {rb : Nat} {s : ByteArray} {b : Bool} (h : Rd w rb s b) (hg : w.grownBy w' row) (hne : some rb ≠ row) : Rd w' rb s b := (hg.block rb h.lt hne).trans h
theorem grown_set (w : World) (rb j : Nat) (v : Value) : w.grownBy (w.setCell ⟨rb, j, none⟩ v) (some rb) :=
  ⟨rfl, rfl, rfl, by simp [World.setCell], fun k _ hk => Below.heap_setCell _ _ _ k (fun e => hk (by rw [e]))⟩
theorem grown_trans {a b c : World} {row : Option Nat} (h : a.grownBy b row) (k : b.grownBy c row) : a.grownBy c row :=
  ⟨k.os.trans h.os, k.tape.trans h.tape, k.output.trans h.output, Nat.le_trans h.size k.size, fun i hi hne => (k.block i (Nat.lt_of_lt_of_le hi h.size) hne).trans (h.block i hi hne)⟩
theorem grown_refl (a : World) (row : Option Nat) : a.grownBy a row := ⟨rfl, rfl, rfl, Nat.le_refl _, fun _ _ _ => rfl⟩
theorem below_grown {w w' : World} (h : Below w.heap.size w w') (row : Option Nat) : w.grownBy w' row := ⟨h.os, h.tape, h.output, h.size, fun k hk _ => h.block k hk⟩
theorem below_grown' {w w' : World} (h : Below w.heap.size w w') : w.grownBy w' none := below_grown h none

theorem must_any (w : World) (rb : Nat) (s : ByteArray) (b ok : Bool) (h : Rd w rb s b) :
    Calls Tryd.prog 58 #[.pointer (some ⟨rb, 0, none⟩), .bool ok] w fun e w' => e = .returned (.tuple #[]) ∧ Rd w' rb s (b || !ok) ∧ w.grownBy w' (some rb) := by
  have hc := h.cell1
  have hf := h.frozen 1
  cases b <;> cases ok
  all_goals go_enter Tryd.func58, Tryd.ntmps58
  all_goals go_wp2
  all_goals go_end0
  all_goals exact ⟨rfl, h.set1 _, grown_set _ _ _ _⟩

set_option maxHeartbeats 400000 in
theorem take_any (w : World) (rb : Nat) (s : ByteArray) (b : Bool) (n : Int) (h : Rd w rb s b) (h0 : 0 ≤ n) (h1 : n ≤ 1000) (_ : s.size ≤ 9223372036854775807) :
    Calls Tryd.prog 59 #[.pointer (some ⟨rb, 0, none⟩), .int .i64 n] w fun e w' => e = .returned (.string (takeP s b n.toNat).1) ∧ Rd w' rb (takeP s b n.toNat).2.1 (takeP s b n.toNat).2.2 ∧ w.grownBy w' (some rb) := by
  obtain ⟨m, rfl⟩ := Int.eq_ofNat_of_zero_le h0
  rw [Int.toNat_natCast]
  have hc := h.cell0
  have hf := h.frozen 0
  by_cases hlt : s.size < m
  · have hlti : (s.size : Int) < (m : Int) := by omega
    have ht : takeP s b m = (emp, s, true) := if_pos hlt
    have HT := hide ht
    clear ht hlt
    go_enter Tryd.func59, Tryd.ntmps59
    go_wp2_with (go_at_call 58; refine (must_any _ _ _ _ _ h).mono ?_; rintro e w1 ⟨rfl, hr1, hg1⟩)
    go_ret
    rw [unhide HT]
    exact ⟨rfl, by simpa using hr1, hg1⟩
  · have ht : takeP s b m = (s.extract 0 m, s.extract m s.size, b) := if_neg hlt
    have HT := hide ht
    have hle : m ≤ s.size := by omega
    have hms : (s.extract 0 m).size ≤ 1048576 := by rw [ByteArray.size_extract]; omega
    have HS := hide hms
    clear ht hms
    go_enter Tryd.func59, Tryd.ntmps59
    go_wp2_with (go_at_call 66; refine (clone_any _ _ (unhide HS)).mono ?_; rintro e w1 ⟨rfl, hb1⟩)
    go_ret
    rw [unhide HT]
    exact ⟨rfl, (h.set0 _).kept (below_grown' hb1) (by simp), grown_trans (grown_set w rb 0 _) (below_grown hb1 _)⟩
end Go.Proofs.YtkkaieijbpkleaaDoor
