import Derived.Test.YtkkaieijbpkleaaF
namespace Go.Proofs.Ytkkaieijbpkleaa
open Go.RowKit

/-- An own row: no element, or an array in a block of its own. -/
theorem row_form {w : World} {base : Nat} {e : TypeId} {v : Value} {n : Nat} {xs : List Value} (h : w.ownsRow base e 1 v n xs) :
    (n = 0 ∧ ∃ a cap, v = .slice a 0 cap) ∨ (0 < n ∧ ∃ g cap, v = .slice (some ⟨g, 0, none⟩) n cap ∧ base ≤ g ∧ ∀ j u, xs[j]? = some u → w.cell? ⟨g, j, none⟩ = some u) := by
  have hcells := fun g => h.cells (g := g)
  rcases h.2 with ⟨rfl, rfl⟩ | ⟨g, cap, cur, rfl, hb, hg, hn, hm, hs, ht⟩
  · exact .inl ⟨rfl, none, 0, rfl⟩
  · by_cases h0 : n = 0
    · subst h0; exact .inl ⟨rfl, _, cap, rfl⟩
    · refine .inr ⟨by omega, g, cap, rfl, hb, fun j u hu => ?_⟩
      have := hcells g rfl j u hu
      have hadd : (⟨g, 0, none⟩ : Addr).add j = ⟨g, j, none⟩ := by unfold Addr.add; split <;> simp_all
      rwa [hadd] at this

set_option maxRecDepth 100000 in
set_option maxHeartbeats 1000000 in
theorem same_any (l : List ByteArray) (w : World) {b1 b2 n : Nat} {v1 v2 : Value} (h1 : w.ownsRow b1 9 1 v1 n (l.map Value.string)) (h2 : w.ownsRow b2 9 1 v2 n (l.map Value.string)) (hn : n ≤ 1048576) :
    Calls Try.prog 6 #[v1, v2] w fun e w' => e = .returned (.bool true) ∧ ∃ m, w' = w.drewN m := by
  have hl : l.length = n := by have := h1.1; simpa using this
  rcases row_form h1 with ⟨rfl, a1, c1, rfl⟩ | ⟨hpos, g1, c1, rfl, _, hc1⟩
  · rcases row_form h2 with ⟨_, a2, c2, rfl⟩ | ⟨hpos, _⟩
    · go_enter Try.func6, Try.ntmps6
      go_wp2
      go_loopw [5] (fun i wr => i = .int .i64 0 ∧ w = wr) (fun _ _ => 0)
      case atStart => exact ⟨rfl, rfl⟩
      case round =>
        obtain ⟨rfl, rfl⟩ := hrel
        go_wp2
        go_ret
        exact ⟨rfl, 0, rfl⟩
    · omega
  · rcases row_form h2 with ⟨h0, _⟩ | ⟨_, g2, c2, rfl, _, hc2⟩
    · omega
    · clear h1 h2
      go_enter Try.func6, Try.ntmps6
      go_wp2
      go_loopw [5] (fun i wr => ∃ k m : Nat, k ≤ n ∧ i = .int .i64 k ∧ wr = w.drewN m) (fun i _ => n - (intOf i).toNat)
      case atStart => exact ⟨0, 0, Nat.zero_le _, rfl, rfl⟩
      case round =>
        obtain ⟨k, m, hk, rfl, rfl⟩ := hrel
        by_cases hlt : k < n
        · have e1 := hc1 k (.string (l.getD k ⟨#[]⟩)) (by rw [List.getElem?_map, List.getElem?_eq_getElem (by omega)]; simp [List.getD_eq_getElem?_getD, List.getElem?_eq_getElem (show k < l.length by omega)])
          have e2 := hc2 k (.string (l.getD k ⟨#[]⟩)) (by rw [List.getElem?_map, List.getElem?_eq_getElem (by omega)]; simp [List.getD_eq_getElem?_getD, List.getElem?_eq_getElem (show k < l.length by omega)])
          generalize l.getD k ⟨#[]⟩ = x at e1 e2
          clear hc1 hc2
          go_wp2
          go_quiet (fail)
          go_wp2
          go_roundw
          case rel => exact ⟨k + 1, m + nq, by omega, by go_num, by simp⟩
          case measure => simp [intOf]; omega
        · go_wp2
          go_ret
          exact ⟨rfl, m, rfl⟩
end Go.Proofs.Ytkkaieijbpkleaa
