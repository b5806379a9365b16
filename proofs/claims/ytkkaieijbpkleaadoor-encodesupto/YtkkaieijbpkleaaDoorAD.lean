import Derived.Test.YtkkaieijbpkleaaDoorAC
namespace Go.Proofs.YtkkaieijbpkleaaDoor
open Go.RowKit

theorem Mk.form {base : Nat} {w : World} {mark : Int} {u : Value} {m : Nat} (h : Mk base w mark u m) :
    ∃ a c, u = .slice a m c ∧ ∀ k, k < m → ∃ g, a = some ⟨g, 0, none⟩ ∧ w.cell? ⟨g, k, none⟩ = some (.int .i64 mark) := by
  rcases h with ⟨rfl, a, c, rfl⟩ | ⟨h0, g, c, cur, rfl, hb, hc, ht⟩
  · exact ⟨a, c, rfl, fun k hk => by omega⟩
  · refine ⟨_, c, rfl, fun k hk => ⟨g, rfl, ?_⟩⟩
    rw [cell_of_row w g k cur 3 (0, 0) hc]
    have e1 : (cur.toList.take m)[k]? = (List.replicate m (Value.int .i64 mark))[k]? := by rw [ht]
    rw [List.getElem?_take, if_pos hk, List.getElem?_replicate, if_pos hk] at e1
    simpa using e1

set_option maxRecDepth 100000 in
set_option maxHeartbeats 1000000 in
theorem kept_any (mark : Int) (w : World) {b b' n : Nat} {out : Value} {vs : List Value} (h : w.ownsRow b 22 1 out 4 vs) (hM : ∀ i u, vs[i]? = some u → Mk b' w mark u (n + i)) (hn : n ≤ 1048576) :
    Calls Tryd.prog 10 #[out, .int .i64 mark] w fun e w' => e = .returned (.bool true) ∧ w = w' := by
  have hl : vs.length = 4 := by have := h.1; omega
  rcases row_form h with ⟨h0, _⟩ | ⟨hpos, g0, c0, rfl, _, hc0⟩
  · omega
  · have HL := hide hl
    clear hl h
    go_enter Tryd.func10, Tryd.ntmps10
    go_wp2
    go_loopw [5] (fun i wr => ∃ k : Nat, k ≤ 4 ∧ i = .int .i64 k ∧ w = wr) (fun i _ => 4 - (intOf i).toNat)
    case atStart => exact ⟨0, by omega, rfl, rfl⟩
    case round =>
      obtain ⟨i, hi, rfl, rfl⟩ := hrel
      by_cases hlt : i < 4
      · have hget : vs[i]? = some (vs[i]'(by rw [unhide HL]; exact hlt)) := List.getElem?_eq_getElem _
        generalize vs[i]'(by rw [unhide HL]; exact hlt) = u at hget
        have hcu := hc0 i u hget
        obtain ⟨a, c, rfl, hcell⟩ := (hM i u hget).form
        clear hget hc0 hM
        go_wp2
        go_loopw [6] (fun k' wr => ∃ k : Nat, k ≤ n + i ∧ k' = .int .i64 k ∧ w = wr) (fun k' _ => n + i - (intOf k').toNat)
        case atStart => exact ⟨0, by omega, rfl, rfl⟩
        case round =>
          obtain ⟨k, hk, rfl, rfl⟩ := hrel
          by_cases hlk : k < n + i
          · obtain ⟨g, rfl, hck⟩ := hcell k hlk
            go_wp2
            go_roundw
            case rel => exact ⟨k + 1, by omega, by go_num, by trivial⟩
            case measure => simp [intOf]; omega
          · go_wp2
            go_roundw
            case rel => exact ⟨i + 1, by omega, by go_num, by trivial⟩
            case measure => simp [intOf]; omega
      · go_wp2
        go_ret
        exact ⟨rfl, rfl⟩
end Go.Proofs.YtkkaieijbpkleaaDoor
