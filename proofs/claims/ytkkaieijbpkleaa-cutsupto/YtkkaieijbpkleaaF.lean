import Derived.Test.YtkkaieijbpkleaaE
namespace Go.Proofs.Ytkkaieijbpkleaa
open Go.RowKit

theorem end_broken {t : ByteArray} {p z k c : Nat} (hC : whl (tl t p) = decide (k < c)) (hT : (tl t p).size = t.size - p) (hz : z = sz (tl t p)) (hk : k ≤ c) (h2 : p + 2 ≤ t.size) (hb : z < 1 ∨ 200 < z) : k = c ∧ brk (tl t p) = true := by
  have hw : whl (tl t p) = false := by unfold whl; rw [decide_eq_false_iff_not]; omega
  rw [hw] at hC
  have := of_decide_eq_false hC.symm
  exact ⟨by omega, by unfold brk; rw [decide_eq_true_eq]; omega⟩
theorem end_short {t : ByteArray} {p k c : Nat} (hC : whl (tl t p) = decide (k < c)) (hT : (tl t p).size = t.size - p) (hk : k ≤ c) (h2 : ¬ p + 2 ≤ t.size) : k = c ∧ brk (tl t p) = false := by
  have hw : whl (tl t p) = false := by unfold whl; rw [decide_eq_false_iff_not]; omega
  rw [hw] at hC
  have := of_decide_eq_false hC.symm
  exact ⟨by omega, by unfold brk; rw [decide_eq_false_iff_not]; omega⟩
theorem end_part {t : ByteArray} {p z k c : Nat} (hC : whl (tl t p) = decide (k < c)) (hT : (tl t p).size = t.size - p) (hz : z = sz (tl t p)) (hk : k ≤ c) (h1 : ¬ z < 1) (h3 : ¬ 200 < z) (h2 : ¬ p + 2 + z ≤ t.size) : k = c ∧ brk (tl t p) = false := by
  have hw : whl (tl t p) = false := by unfold whl; rw [decide_eq_false_iff_not]; omega
  rw [hw] at hC
  have := of_decide_eq_false hC.symm
  exact ⟨by omega, by unfold brk; rw [decide_eq_false_iff_not]; omega⟩
theorem end_on {t : ByteArray} {p z k c : Nat} (hC : whl (tl t p) = decide (k < c)) (hT : (tl t p).size = t.size - p) (hz : z = sz (tl t p)) (h1 : ¬ z < 1) (h3 : ¬ 200 < z) (h2 : p + 2 + z ≤ t.size) : k < c := by
  have hw : whl (tl t p) = true := by unfold whl; rw [decide_eq_true_eq]; omega
  rw [hw] at hC
  exact of_decide_eq_true hC.symm

theorem below_drawn {B n : Nat} {a w : World} (h : Below B a w) : Below B a (w.drewN n) := ⟨h.os, h.tape, h.output, h.size, h.block⟩
theorem row_drawn {w : World} {base : Nat} {e : TypeId} {size : Nat} {v : Value} {k n : Nat} {xs : List Value} (h : w.ownsRow base e size v k xs) : (w.drewN n).ownsRow base e size v k xs :=
  h.kept (grownBy_drewN w n) (by cases v.ownBlock <;> simp)
theorem ref_end {t : ByteArray} {w wr : World} {p k c n1 : Nat} {b : Bool} {v : Value} (hrow : wr.ownsRow w.heap.size 9 1 v k ((frs t k).map Value.string)) (hB : Below w.heap.size w wr)
    (hk : k = c) (hp : p = pos t k) (hb : brk (tl t p) = b) :
    ∃ v', Ending.returned (.tuple #[v, .string (t.extract p t.size), .bool b]) = .returned (.tuple #[v', .string (tl t (pos t c)), .bool (brk (tl t (pos t c)))]) ∧
      (wr.drewN n1).ownsRow w.heap.size 9 1 v' c ((frs t c).map Value.string) ∧ Below w.heap.size w (wr.drewN n1) := by
  subst hk; subst hp; subst hb
  exact ⟨v, rfl, row_drawn hrow, below_drawn hB⟩

set_option maxRecDepth 100000 in
set_option maxHeartbeats 2000000 in
theorem ref_any (t : ByteArray) (w : World) (ht : t.size ≤ 1048576) :
    Calls Try.prog 5 #[.string t] w fun e w' => ∃ v, e = .returned (.tuple #[v, .string (tl t (pos t (cnt t))), .bool (brk (tl t (pos t (cnt t))))]) ∧
      w'.ownsRow w.heap.size 9 1 v (cnt t) ((frs t (cnt t)).map Value.string) ∧ Below w.heap.size w w' := by
  obtain ⟨i0, hi, hz0, hz1, hz2⟩ := info_parts info9
  generalize hcd : cnt t = c
  have HD := hide hcd
  clear hcd
  go_enter Try.func5, Try.ntmps5
  go_wp2
  go_loopw [5, 6] (fun out at' wr => ∃ k : Nat, k ≤ c ∧ at' = .int .i64 (pos t k) ∧ wr.ownsRow w.heap.size 9 1 out k ((frs t k).map Value.string) ∧ Below w.heap.size w wr) (fun _ at' _ => t.size + 1 - (intOf at').toNat)
  case atStart => exact ⟨0, Nat.zero_le _, rfl, World.ownsRow_nil _ _ _ _, Below.refl _ _⟩
  case round =>
    obtain ⟨k, hk, rfl, hrow, hB⟩ := hrel
    have hp := pos_le t k (by rw [unhide HD]; exact hk)
    have hcl := cnt_lt t k (by rw [unhide HD]; exact hk)
    rw [unhide HD] at hcl
    have hts := tl_size t (pos t k)
    have hzl := sz_lt (tl t (pos t k))
    have hcn := cnt_le t
    rw [unhide HD] at hcn
    have HC := hide hcl
    have HT := hide hts
    clear hcl hts
    obtain ⟨p, hpd⟩ : ∃ p, p = pos t k := ⟨_, rfl⟩
    have HP := hide hpd
    rw [← hpd] at hp HC HT hzl ⊢
    obtain ⟨z, hzd⟩ : ∃ z, z = sz (tl t p) := ⟨_, rfl⟩
    have HZ := hide hzd
    rw [← hzd] at hzl
    clear hpd hzd
    obtain ⟨hp1, hp2⟩ := hp
    by_cases h2 : p + 2 ≤ t.size
    · have hsz := sz_two t p h2
      rw [← unhide HZ] at hsz
      have hex : 2 ≤ (t.extract p (p + 2)).size := by rw [ByteArray.size_extract]; omega
      have HE := hide hex
      have HS := hide hsz
      clear hsz hex
      by_cases hb1 : z < 1
      · obtain ⟨hkc, hbr⟩ := end_broken (unhide HC) (unhide HT) (unhide HZ) hk h2 (.inl hb1)
        have HK := hide hkc
        have HB := hide hbr
        clear hkc hbr
        go_wp2_with (go_at_call 12; refine (number_any _ _ (unhide HE)).mono ?_; rintro e w' ⟨rfl, n1, rfl⟩; rw [unhide HS])
        go_quiet (fail)
        go_wp2
        go_ret3
        exact ref_end (row_drawn hrow) (below_drawn hB) (unhide HK) (unhide HP) (unhide HB)
      · by_cases hb2 : 200 < z
        · obtain ⟨hkc, hbr⟩ := end_broken (unhide HC) (unhide HT) (unhide HZ) hk h2 (.inr hb2)
          have HK := hide hkc
          have HB := hide hbr
          clear hkc hbr
          go_wp2_with (go_at_call 12; refine (number_any _ _ (unhide HE)).mono ?_; rintro e w' ⟨rfl, n1, rfl⟩; rw [unhide HS])
          go_quiet (fail)
          go_wp2
          go_ret3
          exact ref_end (row_drawn hrow) (below_drawn hB) (unhide HK) (unhide HP) (unhide HB)
        · by_cases hfit : p + 2 + z ≤ t.size
          · have hlt := end_on (unhide HC) (unhide HT) (unhide HZ) hb1 hb2 hfit
            go_wp2_with (first | (go_at_call 12; refine (number_any _ _ (unhide HE)).mono ?_; rintro e w' ⟨rfl, n1, rfl⟩; rw [unhide HS]) | (at_builtin; refine wpList_append_own _ rfl _ _ 22 rfl w.heap.size 9 i0 _ 1 16 Try.underlying22 hi hz0 hz1 hz2 rfl (by decide) _ k ((frs t k).map Value.string) rfl ((row_drawn (n := n1) hrow).alloc _) ⟨wr.heap.size, 0, none⟩ 1 1 [.string (t.extract (p + 2) (p + 2 + z))] rfl rfl (cell_one_new _ _ _) (by simp [Value.oneCell']) (by unfold maxLen; omega) (by omega) (by have := hB.size; simp; omega) ?_; intro v' w2 hown' hgrow _))
            have hB2 : Below w.heap.size w w2 := by
              refine Below.grown (w := (wr.drewN n1).alloc (.cells #[.string (t.extract (p + 2) (p + 2 + z))] 9)) ((below_drawn (n := n1) hB).alloc hB.size _) hgrow (by have := hB.size; simp; omega) (fun j ej => (hrow.lt j ej).1)
            have hrow2 : w2.ownsRow w.heap.size 9 1 v' (k + 1) ((frs t (k + 1)).map Value.string) := by
              rw [frs_succ, List.map_append, ← unhide HP]
              unfold fr
              rw [← unhide HZ]
              exact hown'
            have hps : ((p : Int) + 2 + z) = ((pos t (k + 1) : Nat) : Int) := by
              have h1 := unhide HP
              have h2 := unhide HZ
              rw [pos_succ, ← h1, ← h2]; omega
            have HQ := hide hps
            clear hps
            go_roundw
            case rel => exact ⟨k + 1, by omega, by rw [unhide HQ], hrow2, hB2⟩
            case measure => simp [intOf]; omega
          · obtain ⟨hkc, hbr⟩ := end_part (unhide HC) (unhide HT) (unhide HZ) hk hb1 hb2 hfit
            have HK := hide hkc
            have HB := hide hbr
            clear hkc hbr
            go_wp2_with (go_at_call 12; refine (number_any _ _ (unhide HE)).mono ?_; rintro e w' ⟨rfl, n1, rfl⟩; rw [unhide HS])
            go_quiet (fail)
            go_wp2
            go_ret3
            exact ref_end (row_drawn hrow) (below_drawn hB) (unhide HK) (unhide HP) (unhide HB)
    · obtain ⟨hkc, hbr⟩ := end_short (unhide HC) (unhide HT) hk h2
      have HK := hide hkc
      have HB := hide hbr
      clear hkc hbr
      go_wp2
      go_quiet (fail)
      go_wp2
      go_ret3
      exact ref_end hrow hB (unhide HK) (unhide HP) (unhide HB)
end Go.Proofs.Ytkkaieijbpkleaa
