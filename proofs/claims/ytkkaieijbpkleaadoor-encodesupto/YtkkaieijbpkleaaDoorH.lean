import Derived.Test.YtkkaieijbpkleaaDoorG
namespace Go.Proofs.YtkkaieijbpkleaaDoor
open Go.RowKit Go.Shelf

/-- The byte at a place, 0 beyond the end. -/
def b8 (s : ByteArray) (i : Nat) : Nat := (s.data.toList.getD i 0).toNat
theorem b8_lt (s : ByteArray) (i : Nat) : b8 s i < 256 := by unfold b8; exact UInt8.toNat_lt _
theorem b8_of (s : ByteArray) (i : Nat) (h : i < s.size) : (s[i]).toNat = b8 s i := by
  unfold b8
  rw [List.getD_eq_getElem?_getD, List.getElem?_eq_getElem (by rw [← Lib.size_eq]; exact h)]
  rfl
/-- Does a map say the field j + 1? -/
def bitAt (s : ByteArray) (j : Nat) : Bool := decide (b8 s (j / 8) / 2 ^ (7 - j % 8) % 2 = 1)
/-- The fields that a map says, of the first so many. -/
def flds (s : ByteArray) (k : Nat) : List Int := ((List.range k).filter (bitAt s)).map fun (j : Nat) => (j : Int) + 1
theorem flds_succ (s : ByteArray) (k : Nat) : flds s (k + 1) = if bitAt s k then flds s k ++ [(k : Int) + 1] else flds s k := by
  unfold flds
  rw [List.range_succ, List.filter_append, List.map_append]
  cases h : bitAt s k <;> simp [h]
theorem flds_length (s : ByteArray) (k : Nat) : (flds s k).length ≤ k := by
  unfold flds
  rw [List.length_map]
  exact Nat.le_trans (List.length_filter_le _ _) (by simp)

theorem bitOf_any (f : Nat) (h1 : f ≤ 63) (w : World) : Calls Tryd.prog 33 #[.int .i64 ((f : Int) + 1)] w fun e w' => ∃ a mk : Nat, Hid (a = f / 8 ∧ mk = 2 ^ (7 - f % 8)) ∧ e = .returned (.tuple #[.int .i64 a, .int .u8 mk]) ∧ ∃ n, w' = w.drewN n := by
  have hf : (f : Int) ≤ 63 := by omega
  go_enter Tryd.func33, Tryd.ntmps33
  go_wp2
  go_quiet (fail)
  go_wp2
  go_ret2
  refine ⟨f / 8, 2 ^ (7 - f % 8), ⟨rfl, rfl⟩, ?_, _, rfl⟩
  have e1 : ((f / 8 : Nat) : Int) = (f : Int) / 8 := by omega
  have e2 : ((2 ^ (7 - f % 8) : Nat) : Int) = 128 / 2 ^ (f % 8) := by
    have : ∀ i : Fin 8, ((2 ^ (7 - i.val) : Nat) : Int) = 128 / 2 ^ i.val := by decide
    exact this ⟨f % 8, by omega⟩
  rw [e1, e2]
  rfl

set_option maxRecDepth 100000 in
theorem mask_all : ∀ (i : Fin 8) (c : Fin 256), (bits .and .u8 ((c.val : Nat) : Int) ((2 ^ (7 - i.val) : Nat) : Int) != 0) = decide (c.val / 2 ^ (7 - i.val) % 2 = 1) := by decide +kernel

theorem mask_bit (s : ByteArray) (f a mk : Nat) (h : a = f / 8 ∧ mk = 2 ^ (7 - f % 8)) (hs : a < s.size) : (bits .and .u8 (s[a].toNat : Int) (mk : Int) != 0) = bitAt s f := by
  obtain ⟨rfl, rfl⟩ := h
  rw [b8_of s (f / 8) hs]
  exact mask_all ⟨f % 8, by omega⟩ ⟨b8 s (f / 8), b8_lt _ _⟩

set_option maxRecDepth 100000 in
set_option maxHeartbeats 1000000 in
theorem listed_any (s : ByteArray) (w : World) (hs : s.size = 8) :
    Calls Tryd.prog 19 #[.string s] w fun e w' => ∃ v, e = .returned v ∧ w'.ownsRow w.heap.size 3 1 v (flds s 64).length ((flds s 64).map (Value.int .i64)) ∧ Below w.heap.size w w' := by
  obtain ⟨i0, hi, hz0, hz1, hz2⟩ := info_parts info3
  have HS := hide hs
  clear hs
  go_enter Tryd.func19, Tryd.ntmps19
  go_wp2
  go_loopw [3, 4] (fun v i wr => ∃ (k : Nat) (l : List Int), k ≤ 64 ∧ i = .int .i64 ((k : Int) + 1) ∧ Hid (flds s k = l) ∧ l.length ≤ k ∧ wr.ownsRow w.heap.size 3 1 v l.length (l.map (Value.int .i64)) ∧ Below w.heap.size w wr) (fun _ i _ => 65 - (intOf i).toNat)
  case atStart => exact ⟨0, [], Nat.zero_le _, rfl, rfl, Nat.le_refl _, World.ownsRow_nil _ _ _ _, Below.refl _ _⟩
  case round =>
    obtain ⟨k, l, hk, rfl, HF, hll, hrow, hB⟩ := hrel
    by_cases hlt : k < 64
    · go_wp2_with fail
      refine (bitOf_any k (by omega) _).mono ?_
      rintro e w1 ⟨a, mk, hid, rfl, n1, rfl⟩
      have has : a < s.size := by have := hid.out.1; have := unhide HS; omega
      have hbit := mask_bit s k a mk hid.out has
      have hsucc := flds_succ s k
      rw [HF.out] at hsucc
      have hb1 := hB.size
      cases hb : bitAt s k with
      | true =>
        rw [hb] at hbit hsucc
        rw [if_pos rfl] at hsucc
        have HF2 := hide hsucc
        clear hsucc hb
        go_wp2_with (at_builtin; refine wpList_append_own _ rfl _ _ 22 rfl w.heap.size 3 i0 _ 1 8 Tryd.underlying22 hi hz0 hz1 hz2 rfl (by decide) _ l.length _ rfl ((row_drawn hrow).alloc _) ⟨_, 0, none⟩ 1 1 [.int .i64 ((k : Int) + 1)] rfl rfl (cell_one_new _ _ _) (by simp [Value.oneCell']) (by unfold maxLen; omega) (by omega) (by simp; omega) ?_; intro v' w2 hown' hgrow _)
        have hB2 : Below w.heap.size w w2 := (below_drawn hB (n := n1)).alloc hB.size _ |>.grown hgrow (by simp; omega) (fun r e => (hrow.lt r e).1)
        go_roundw
        case rel => exact ⟨k + 1, l ++ [(k : Int) + 1], by omega, by go_num, HF2, by simp; omega, by simpa using hown', hB2⟩
        case measure => simp [intOf]; omega
      | false =>
        rw [hb] at hbit hsucc
        rw [if_neg (by simp)] at hsucc
        have HF2 := hide hsucc
        clear hsucc hb
        go_wp2
        go_roundw
        case rel => exact ⟨k + 1, l, by omega, by go_num, HF2, by omega, row_drawn hrow, below_drawn hB⟩
        case measure => simp [intOf]; omega
    · obtain rfl : k = 64 := by omega
      go_wp2
      go_ret
      rw [HF.out]
      exact ⟨_, rfl, hrow, hB⟩
end Go.Proofs.YtkkaieijbpkleaaDoor
