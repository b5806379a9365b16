import Derived.Test.YtkkaieijbpkleaaDoorBL
import Derived.Test.YtkkaieijbpkleaaDoorBD
namespace Go.Proofs.YtkkaieijbpkleaaDoor
open Go.RowKit Go.Shelf

theorem pkR_half : ∀ (l : List UInt8) (k : Nat), l.length / 2 ≤ k → pkR (l.take (2 * k)) = pkR l
  | [], _, _ => by simp
  | [_], k, _ => by cases k <;> rfl
  | a :: b :: l, 0, h => by simp at h; omega
  | a :: b :: l, k + 1, h => by
    rw [show 2 * (k + 1) = 2 * k + 1 + 1 by omega, List.take_succ_cons, List.take_succ_cons, pkR, pkR, pkR_half l k (by simp at h; omega)]

theorem byR_int (a b : UInt8) : (16 * (((a.toNat : Int) - 48) % 256) + (b.toNat : Int) - 48) % 256 = ((byR a b).toNat : Int) := by
  have ha := a.toNat_lt
  have hb := b.toNat_lt
  unfold byR
  rw [UInt8.toNat_ofNat']
  omega

set_option maxRecDepth 100000 in
set_option maxHeartbeats 1000000 in
theorem rpacked_any (s : ByteArray) (hs : s.size ≤ 9000000000000000000) (w : World) : Calls Tryd.prog 46 #[.string s] w fun e w' => e = .returned (.string ⟨(pkR s.data.toList).toArray⟩) ∧ Below w.heap.size w w' := by
  go_enter Tryd.func46, Tryd.ntmps46
  go_wp2
  go_loopw [3, 4] (fun o i wr => ∃ k j : Nat, 2 * k = j ∧ j ≤ s.size ∧ i = .int .i64 j ∧ o = .string ⟨(pkR (s.data.toList.take j)).toArray⟩ ∧ Below w.heap.size w wr) (fun _ i _ => s.size - (intOf i).toNat)
  case atStart => exact ⟨0, 0, rfl, Nat.zero_le _, rfl, rfl, Below.refl _ _⟩
  case round =>
    obtain ⟨k, j, hkj, hj, rfl, rfl, hB⟩ := hrel
    obtain ⟨j1, hj1⟩ : ∃ j1, j + 1 = j1 := ⟨_, rfl⟩
    have hw1 : IntKind.i64.wrap ((j : Int) + 1) = (j1 : Int) := by rw [IntKind.wrap_i64]; omega; all_goals omega
    have hpl : (pkR (s.data.toList.take j)).length ≤ s.size := by rw [pkR_length, List.length_take, ← Lib.size_eq]; omega
    by_cases hlt : j1 < s.size
    · have hlt0 : j < s.size := by omega
      have hby := byR_int s[j] s[j1]
      have hcv : (convert 55 9 (.slice (some ⟨wr.heap.size, 0, none⟩) 1 1)).run Tryd.prog (wr.alloc (.cells #[.int .u8 ((16 * (((s[j].toNat : Int) - 48) % 256) + (s[j1].toNat : Int) - 48) % 256)] 5)).drew = .ok (.string ⟨#[UInt8.ofNat (byR s[j] s[j1]).toNat]⟩) (wr.alloc (.cells #[.int .u8 ((16 * (((s[j].toNat : Int) - 48) % 256) + (s[j1].toNat : Int) - 48) % 256)] 5)).drew := by
        rw [hby]
        exact conv_one wr.drew (byR s[j] s[j1]).toNat (UInt8.toNat_lt _)
      have hnx : pkR (s.data.toList.take (j + 2)) = pkR (s.data.toList.take j) ++ [byR s[j] s[j1]] := by
        subst hj1
        rw [take_two s j hlt, pkR_snoc _ _ _ (by rw [List.length_take, ← Lib.size_eq]; omega)]
      generalize byR s[j] s[j1] = c at hcv hnx
      clear hby
      obtain ⟨X, hX⟩ : ∃ X : ByteArray, (⟨#[UInt8.ofNat c.toNat]⟩ : ByteArray) = X := ⟨_, rfl⟩
      rw [hX] at hcv
      have hXs : X.size = 1 := by rw [← hX]; rfl
      have hnext : (⟨(pkR (s.data.toList.take j)).toArray⟩ : ByteArray) ++ X = ⟨(pkR (s.data.toList.take (j + 2))).toArray⟩ := by
        apply ext_list
        rw [← hX, ByteArray.toList_data_append, hnx]
        simp
      have hDs : (⟨(pkR (s.data.toList.take j)).toArray⟩ : ByteArray).size ≤ s.size := hpl
      generalize (⟨(pkR (s.data.toList.take j)).toArray⟩ : ByteArray) = D at hnext hDs ⊢
      have HX := hide hnext
      have HJ := hide hj1
      clear hX hnext hpl hnx hj1
      go_wp2
      go_region
      go_wp2
      go_roundw
      case rel => exact ⟨k + 1, j + 2, by omega, by have := unhide HJ; omega, by go_num, by rw [unhide HX], below_drawn (n := 1) (hB.alloc hB.size _)⟩
      case measure => simp [intOf]; omega
    · have hfin : pkR (s.data.toList.take j) = pkR s.data.toList := by
        rw [← hkj]
        exact pkR_half _ _ (by rw [← Lib.size_eq]; omega)
      rw [hfin]
      go_wp2
      go_ret
      exact ⟨rfl, hB⟩
end Go.Proofs.YtkkaieijbpkleaaDoor
