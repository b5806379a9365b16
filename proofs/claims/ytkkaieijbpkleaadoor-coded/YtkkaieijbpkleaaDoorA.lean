import Derived.Test.YtkkaieijbpkleaaDoorChecked
import Derived.Test.YtkkaieijbpkleaaDoorM
import Derived.WalkKit
import Derived.WalkSpells
import Derived.WalkLawsBesides
import Derived.Outline
import Derived.Deep.QuietTactic
import Derived.BigQuiet
import Derived.Lib.Walk
import Derived.Lib.BufferWrite
import Derived.Lib.UnsafeStr
import Derived.Laws.MakeOwn
import Derived.Laws.BitsAllLaws
import Derived.Maps.AppendAt
namespace Go.Proofs.YtkkaieijbpkleaaDoor
open Go.RowKit

theorem hide {p : Prop} (h : p) : Hid p := h
theorem unhide {p : Prop} (h : Hid p) : p := h
theorem ret_int {k : IntKind} {a b : Int} (h : a = b) : Ending.returned (.int k a) = .returned (.int k b) := by rw [h]
theorem ret_bool {a b : Bool} (h : a = b) : Ending.returned (.bool a) = .returned (.bool b) := by rw [h]
theorem info5 : (Tryd.prog.info? 5).map (fun i => (i.zero, i.size, i.bytes)) = some (some (.int .u8 0), 1, 1) := by kernel_rfl
theorem info3 : (Tryd.prog.info? 3).map (fun i => (i.zero, i.size, i.bytes)) = some (some (.int .i64 0), 1, 8) := by kernel_rfl
theorem info22 : (Tryd.prog.info? 22).map (fun i => (i.zero, i.size, i.bytes)) = some (some (.slice none 0 0), 1, 24) := by kernel_rfl

theorem grownBy_drewN (w : World) (n : Nat) : w.grownBy (w.drewN n) none := ⟨rfl, rfl, rfl, Nat.le_refl _, fun _ _ _ => rfl⟩
theorem below_drawn {B n : Nat} {a w : World} (h : Below B a w) : Below B a (w.drewN n) := ⟨h.os, h.tape, h.output, h.size, h.block⟩
theorem row_drawn {w : World} {base : Nat} {e : TypeId} {size : Nat} {v : Value} {k n : Nat} {xs : List Value} (h : w.ownsRow base e size v k xs) : (w.drewN n).ownsRow base e size v k xs :=
  h.kept (grownBy_drewN w n) (by cases v.ownBlock <;> simp)
theorem row_slice {w : World} {B e n : Nat} {v : Value} {xs : List Value} (h : w.ownsRow B e 1 v n xs) : ∃ a c, v = .slice a n c := by
  rcases h.2 with ⟨rfl, rfl⟩ | ⟨g, cap, cur, rfl, _⟩
  · exact ⟨_, _, rfl⟩
  · exact ⟨_, _, rfl⟩

/-- 'string(b)' of an own row of bytes. -/
theorem conv_row {w : World} {B n : Nat} {v : Value} {l : List UInt8} (h : w.ownsRow B 5 1 v n (Lib.byteCells l)) : (convert 55 9 v).run Tryd.prog w = .ok (.string ⟨l.toArray⟩) w := by
  have hn : l.length = n := by have := h.1; rw [Lib.byteCells_length] at this; omega
  subst hn
  rcases h.2 with ⟨rfl, h0⟩ | ⟨g, cap, cur, rfl, hb, hg, _⟩
  · obtain rfl := List.eq_nil_of_length_eq_zero h0
    rw [run_convert_bytes_string w 55 9 5 none 0 0 Tryd.underlying55 Tryd.underlying5 Tryd.underlying9]
    simp [Conv.bytesToString, Sem.run_pure]
    rfl
  · refine run_convert_bytes_back w 55 9 5 ⟨g, 0, none⟩ cap l Tryd.underlying55 Tryd.underlying5 Tryd.underlying9 (fun j hj => ?_)
    refine h.cells (g := g) rfl j _ ?_
    simp [Lib.byteCells, List.getElem?_eq_getElem hj]

theorem okD_no {s : ByteArray} {k : Nat} (h : k < s.size) (hb : 9 < s[k].toNat / 16 ∨ 9 < s[k].toNat % 16) : okD s = false ∧ dg s = emp := by
  have h1 : okD s = false := by
    unfold okD okL
    rw [List.all_eq_false]
    refine ⟨s[k], ?_, by simp; omega⟩
    exact List.getElem_mem (by rw [← Lib.size_eq]; exact h)
  exact ⟨h1, by unfold dg; rw [h1]; rfl⟩

set_option maxRecDepth 100000 in
set_option maxHeartbeats 1000000 in
/-- unpack: the digits, or nothing; are they digits? -/
theorem unpack_any (s : ByteArray) (w : World) (hs : s.size ≤ 1000) :
    Calls Tryd.prog 17 #[.string s] w fun e w' => e = .returned (.tuple #[.string (dg s), .bool (okD s)]) ∧ Below w.heap.size w w' := by
  obtain ⟨i0, hi, hz0, hz1, hz2⟩ := info_parts info5
  have hmk : ∀ W : World, (Instr.makeSlice 55 (.int .i64 0) (.int .i64 (2 * (s.size : Int)))).run Tryd.prog W =
      .ok (.slice (some ⟨W.heap.size, 0, none⟩) 0 (2 * s.size)) (W.alloc (.cells (madeCells #[.int .u8 0] (2 * s.size)) 5)) := fun W => by
    have h := run_make (P := Tryd.prog) W 55 5 i0 (.int .u8 0) Tryd.underlying55 hi hz0 .i64 .i64 0 (2 * (s.size : Int)) (by omega) (by omega) (by rw [hz2]; omega) (by omega)
    have e : (2 * (s.size : Int)).toNat = 2 * s.size := by omega
    rw [e] at h
    simpa [hz1, Value.cells] using h
  go_enter Tryd.func17, Tryd.ntmps17
  go_wp2
  go_loopw [4, 14] (fun d i wr => ∃ k : Nat, k ≤ s.size ∧ i = .int .i64 k ∧ okL (s.data.toList.take k) = true ∧ wr.ownsRow w.heap.size 5 1 d (2 * k) (Lib.byteCells (dig2 (s.data.toList.take k))) ∧ Below w.heap.size w wr) (fun _ i _ => s.size - (intOf i).toNat)
  case atStart => exact ⟨0, Nat.zero_le _, rfl, rfl, World.ownsRow_made _ _ _ (Nat.le_refl _) (by unfold maxLen; omega) (by simp [madeCells]), (Below.refl _ _).alloc (Nat.le_refl _) _⟩
  case round =>
    obtain ⟨k, hk, rfl, hok, hrow, hB⟩ := hrel
    by_cases hlt : k < s.size
    · have hc := (s[k]).toNat_lt
      have hts : s.data.toList.take (k + 1) = s.data.toList.take k ++ [s[k]] := by
        rw [List.take_succ_eq_append_getElem (by rw [← Lib.size_eq]; exact hlt)]; rfl
      have HT := hide hts
      clear hts
      by_cases hu : 9 < s[k].toNat / 16
      · have hui : (9 : Int) < (s[k].toNat : Int) / 16 := by omega
        have hno := okD_no hlt (.inl hu)
        have HN := hide hno
        clear hno hok hu
        go_wp2
        go_quiet (fail)
        go_wp2
        go_ret2
        exact ⟨by rw [(unhide HN).1, (unhide HN).2]; rfl, below_drawn hB⟩
      · have hui : ¬ (9 : Int) < (s[k].toNat : Int) / 16 := by omega
        by_cases hl : 9 < s[k].toNat % 16
        · have hli : (9 : Int) < (s[k].toNat : Int) % 16 := by omega
          have hno := okD_no hlt (.inr hl)
          have HN := hide hno
          clear hno hok hu hl
          go_wp2
          go_quiet (fail)
          go_wp2
          go_ret2
          exact ⟨by rw [(unhide HN).1, (unhide HN).2]; rfl, below_drawn hB⟩
        · have hli : ¬ (9 : Int) < (s[k].toNat : Int) % 16 := by omega
          have hb1 := hB.size
          have hok2 : okL (s.data.toList.take (k + 1)) = true := by rw [unhide HT, okL_snoc, hok]; simp; omega
          have HO := hide hok2
          clear hok2
          go_wp2
          go_quiet (fail)
          go_wp2_with (at_builtin; refine wpList_append_own _ rfl _ _ 55 rfl w.heap.size 5 i0 _ 1 1 Tryd.underlying55 hi hz0 hz1 hz2 rfl (by decide) _ (2 * k) _ rfl ((row_drawn hrow).alloc _) ⟨_, 0, none⟩ 2 2 [.int .u8 (48 + (s[k].toNat : Int) / 16), .int .u8 (48 + (s[k].toNat : Int) % 16)] rfl rfl (cell_two_new _ _ _ _) (by simp [Value.oneCell']) (by unfold maxLen; omega) (by omega) (by simp; omega) ?_; intro v' w2 hown' hgrow _)
          have hB2 : Below w.heap.size w w2 := (below_drawn hB (n := nq)).alloc hB.size _ |>.grown hgrow (by simp; omega) (fun r e => (hrow.lt r e).1)
          have hrow2 : w2.ownsRow w.heap.size 5 1 v' (2 * (k + 1)) (Lib.byteCells (dig2 (s.data.toList.take (k + 1)))) := by
            rw [unhide HT, dig2_snoc, Lib.byteCells_append]
            have e1 : Lib.byteCells [UInt8.ofNat (48 + s[k].toNat / 16), UInt8.ofNat (48 + s[k].toNat % 16)] = [Value.int .u8 (48 + (s[k].toNat : Int) / 16), .int .u8 (48 + (s[k].toNat : Int) % 16)] := by
              simp [Lib.byteCells, UInt8.toNat_ofNat']; omega
            rw [e1]
            exact hown'
          go_roundw
          case rel => exact ⟨k + 1, by omega, by go_num, unhide HO, hrow2, hB2⟩
          case measure => simp [intOf]; omega
    · have hcv := conv_row hrow
      have hall : s.data.toList.take k = s.data.toList := List.take_of_length_le (by rw [← Lib.size_eq]; omega)
      rw [hall] at hcv hok
      have HK := hide hok
      clear hok hall
      go_wp2
      go_ret2
      exact ⟨by rw [show okD s = true from unhide HK, show dg s = ⟨(dig2 s.data.toList).toArray⟩ from if_pos (unhide HK)]; rfl, hB⟩
end Go.Proofs.YtkkaieijbpkleaaDoor
