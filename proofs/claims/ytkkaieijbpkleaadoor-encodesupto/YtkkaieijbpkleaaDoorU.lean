import Derived.Test.YtkkaieijbpkleaaDoorT
namespace Go.Proofs.YtkkaieijbpkleaaDoor
open Go.RowKit Go.Shelf

set_option maxRecDepth 100000 in
set_option maxHeartbeats 1000000 in
theorem rhas_any (s : ByteArray) (w : World) (hs : s.size = 8) :
    Calls Tryd.prog 24 #[.string s] w fun e w' => ∃ v, e = .returned v ∧ w'.ownsRow w.heap.size 3 1 v (flds s 64).length ((flds s 64).map (Value.int .i64)) ∧ Below w.heap.size w w' := by
  obtain ⟨i0, hi, hz0, hz1, hz2⟩ := info_parts info3
  have HS := hide hs
  clear hs
  go_enter Tryd.func24, Tryd.ntmps24
  go_wp2
  go_loopw [3, 4] (fun v i wr => ∃ (k : Nat) (l : List Int), k ≤ 64 ∧ i = .int .i64 ((k : Int) + 1) ∧ Hid (flds s k = l) ∧ l.length ≤ k ∧ wr.ownsRow w.heap.size 3 1 v l.length (l.map (Value.int .i64)) ∧ Below w.heap.size w wr) (fun _ i _ => 65 - (intOf i).toNat)
  case atStart => exact ⟨0, [], Nat.zero_le _, rfl, rfl, Nat.le_refl _, World.ownsRow_nil _ _ _ _, Below.refl _ _⟩
  case round =>
    obtain ⟨k, l, hk, rfl, HF, hll, hrow, hB⟩ := hrel
    by_cases hlt : k < 64
    · obtain ⟨q, hq⟩ : ∃ q, q = k / 8 := ⟨_, rfl⟩
      obtain ⟨r, hr⟩ : ∃ r, r = k % 8 := ⟨_, rfl⟩
      have hqs : q < s.size := by have := unhide HS; omega
      have hqi : (k : Int) / 8 = (q : Int) := by omega
      have hri : (k : Int) % 8 = (r : Int) := by omega
      have hr7 : r ≤ 7 := by omega
      have hy := b8_of s q hqs
      have hyl := b8_lt s q
      have hbit := bit_of s k q r (b8 s q) hq hr rfl
      have hsucc := flds_succ s k
      rw [HF.out] at hsucc
      generalize b8 s q = y at hy hyl hbit
      have hb1 := hB.size
      have HB := hide hbit
      have HU := hide hsucc
      clear hsucc hbit hq hr HF
      go_wp2
      go_loopw [5, 6] (fun b i wx => ∃ c z : Nat, c ≤ 7 - r ∧ i = .int .i64 c ∧ b = .int .i64 z ∧ Hid (y / 2 ^ c = z) ∧ z ≤ 255 ∧ wx = wr) (fun _ i _ => 7 - r - (intOf i).toNat)
      case atStart => exact ⟨0, y, Nat.zero_le _, rfl, rfl, by simp [Hid], by omega, rfl⟩
      case round =>
        obtain ⟨c, z, hc, rfl, rfl, HZ, hz, rfl⟩ := hrel
        by_cases hcl : c < 7 - r
        · have hci : (c : Int) < 7 - (r : Int) := by omega
          have hnx : y / 2 ^ (c + 1) = z / 2 := by rw [Nat.pow_succ, ← Nat.div_div_eq_div_mul, HZ.out]
          have HN := hide hnx
          have hzi : (z : Int) / 2 = ((z / 2 : Nat) : Int) := by omega
          have hz2' : z / 2 ≤ 255 := by omega
          generalize z / 2 = z2 at HN hzi hz2'
          clear hnx HZ hcl
          go_wp2
          go_roundw
          case rel => exact ⟨c + 1, z2, by omega, by go_num, rfl, HN, hz2', trivial⟩
          case measure => simp [intOf]; omega
        · obtain rfl : c = 7 - r := by omega
          have hci : ¬ ((7 - r : Nat) : Int) < 7 - (r : Int) := by omega
          have hbit := unhide HB
          rw [HZ.out] at hbit
          have hsucc := unhide HU
          generalize hcc : 7 - r = c at hci
          clear HB HU HZ hcl
          cases hb : bitAt s k with
          | true =>
            rw [hb] at hbit hsucc
            rw [if_pos rfl] at hsucc
            have HF2 := hide hsucc
            clear hsucc hb
            go_wp2_with (at_builtin; refine wpList_append_own _ rfl _ _ 22 rfl w.heap.size 3 i0 _ 1 8 Tryd.underlying22 hi hz0 hz1 hz2 rfl (by decide) _ l.length _ rfl (hrow.alloc _) ⟨_, 0, none⟩ 1 1 [.int .i64 ((k : Int) + 1)] rfl rfl (cell_one_new _ _ _) (by simp [Value.oneCell']) (by unfold maxLen; omega) (by omega) (by simp; omega) ?_; intro v' w2 hown' hgrow _)
            have hB2 : Below w.heap.size w w2 := hB.alloc hB.size _ |>.grown hgrow (by simp; omega) (fun r e => (hrow.lt r e).1)
            go_roundw
            case rel => exact ⟨k + 1, l ++ [(k : Int) + 1], by omega, by go_num, HF2, by simp; omega, by simpa using hown', hB2⟩
            case measure => simp [intOf]; omega
          | false =>
            rw [hb] at hbit hsucc
            rw [if_neg (by simp)] at hsucc
            have HF2 := hide hsucc
            clear hsucc hb
            go_wp2
            go_roundw
            case rel => exact ⟨k + 1, l, by omega, by go_num, HF2, by omega, hrow, hB⟩
            case measure => simp [intOf]; omega
    · obtain rfl : k = 64 := by omega
      go_wp2
      go_ret
      rw [HF.out]
      exact ⟨_, rfl, hrow, hB⟩
end Go.Proofs.YtkkaieijbpkleaaDoor
