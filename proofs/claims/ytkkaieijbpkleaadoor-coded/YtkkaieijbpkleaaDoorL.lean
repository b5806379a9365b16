import Derived.Test.YtkkaieijbpkleaaDoorK
namespace Go.Proofs.YtkkaieijbpkleaaDoor
open Go.RowKit Go.Shelf

theorem take_next (s : ByteArray) (k : Nat) (h : k < s.size) : s.data.toList.take (k + 1) = s.data.toList.take k ++ [s[k]] := by
  rw [List.take_succ_eq_append_getElem (by rw [← Lib.size_eq]; exact h)]; rfl
theorem take_all (s : ByteArray) (k : Nat) (h : ¬ k < s.size) : s.data.toList.take k = s.data.toList := List.take_of_length_le (by rw [← Lib.size_eq]; omega)

theorem two_digits (c : Nat) (hc : c < 256) : Lib.byteCells [UInt8.ofNat (48 + c / 16), UInt8.ofNat (48 + c % 16)] = [Value.int .u8 (48 + (c : Int) / 16), .int .u8 (48 + (c : Int) % 16)] := by
  simp [Lib.byteCells, UInt8.toNat_ofNat']; omega
theorem conv_two (W : World) (c : Nat) (hc : c < 256) : (convert 55 9 (.slice (some ⟨W.heap.size, 0, none⟩) 2 2)).run Tryd.prog (W.alloc (.cells #[.int .u8 (48 + (c : Int) / 16), .int .u8 (48 + (c : Int) % 16)] 5)) =
    .ok (.string ⟨#[UInt8.ofNat (48 + c / 16), UInt8.ofNat (48 + c % 16)]⟩) (W.alloc (.cells #[.int .u8 (48 + (c : Int) / 16), .int .u8 (48 + (c : Int) % 16)] 5)) := by
  have h := World.ownsRow_lit (base := 0) (e := 5) (size := 1) W #[.int .u8 (48 + (c : Int) / 16), .int .u8 (48 + (c : Int) % 16)] 2 (by omega) (by unfold maxLen; omega) rfl
  exact conv_row (l := [UInt8.ofNat (48 + c / 16), UInt8.ofNat (48 + c % 16)]) (B := 0) (n := 2) (by rw [two_digits c hc]; exact h)

set_option maxRecDepth 100000 in
set_option maxHeartbeats 1000000 in
theorem rdigits_any (s : ByteArray) (w : World) (hs : s.size ≤ 1000) :
    Calls Tryd.prog 22 #[.string s] w fun e w' => e = .returned (.tuple #[.string (dg s), .bool (okD s)]) ∧ Below w.heap.size w w' := by
  go_enter Tryd.func22, Tryd.ntmps22
  go_wp2
  go_loopw [4, 5] (fun d i wr => ∃ k : Nat, k ≤ s.size ∧ i = .int .i64 k ∧ okL (s.data.toList.take k) = true ∧ d = .string ⟨(dig2 (s.data.toList.take k)).toArray⟩ ∧ Below w.heap.size w wr) (fun _ i _ => s.size - (intOf i).toNat)
  case atStart => exact ⟨0, Nat.zero_le _, rfl, rfl, rfl, Below.refl _ _⟩
  case round =>
    obtain ⟨k, hk, rfl, hok, rfl, hB⟩ := hrel
    by_cases hlt : k < s.size
    · have HT := hide (take_next s k hlt)
      have hc := (s[k]).toNat_lt
      by_cases hu : 9 < s[k].toNat / 16
      · have hui : (9 : Int) < (s[k].toNat : Int) / 16 := by omega
        have HN := hide (okD_no hlt (.inl hu))
        clear hok hu
        go_wp2
        go_ret2
        exact ⟨by rw [(unhide HN).1, (unhide HN).2]; rfl, hB⟩
      · have hui : ¬ (9 : Int) < (s[k].toNat : Int) / 16 := by omega
        by_cases hl : 9 < s[k].toNat % 16
        · have hli : (9 : Int) < (s[k].toNat : Int) % 16 := by omega
          have HN := hide (okD_no hlt (.inr hl))
          clear hok hu hl
          go_wp2
          go_ret2
          exact ⟨by rw [(unhide HN).1, (unhide HN).2]; rfl, hB⟩
        · have hli : ¬ (9 : Int) < (s[k].toNat : Int) % 16 := by omega
          have hok2 : okL (s.data.toList.take (k + 1)) = true := by rw [unhide HT, okL_snoc, hok]; simp; omega
          have HO := hide hok2
          have hcv := conv_two wr s[k].toNat hc
          obtain ⟨X, hX⟩ : ∃ X : ByteArray, (⟨#[UInt8.ofNat (48 + s[k].toNat / 16), UInt8.ofNat (48 + s[k].toNat % 16)]⟩ : ByteArray) = X := ⟨_, rfl⟩
          rw [hX] at hcv
          have hXs : X.size = 2 := by rw [← hX]; rfl
          have hdl : (dig2 (s.data.toList.take k)).length ≤ 2000 := by rw [dig2_length, List.length_take]; omega
          have hnext : (⟨(dig2 (s.data.toList.take k)).toArray⟩ : ByteArray) ++ X = ⟨(dig2 (s.data.toList.take (k + 1))).toArray⟩ := by
            apply ext_list
            rw [← hX, ByteArray.toList_data_append, unhide HT, dig2_snoc]
          have hDs : (⟨(dig2 (s.data.toList.take k)).toArray⟩ : ByteArray).size ≤ 2000 := hdl
          generalize (⟨(dig2 (s.data.toList.take k)).toArray⟩ : ByteArray) = D at hnext hDs ⊢
          have HX := hide hnext
          clear hok2 hok hX hnext hdl
          go_wp2
          go_roundw
          case rel => exact ⟨k + 1, by omega, by go_num, unhide HO, by rw [unhide HX], hB.alloc hB.size _⟩
          case measure => simp [intOf]; omega
    · have HA := hide (take_all s k hlt)
      have HK := hide hok
      clear hok
      go_wp2
      go_ret2
      have h1 := unhide HK
      rw [unhide HA] at h1
      exact ⟨by rw [show okD s = true from h1, show dg s = ⟨(dig2 s.data.toList).toArray⟩ from if_pos h1, unhide HA]; rfl, hB⟩
end Go.Proofs.YtkkaieijbpkleaaDoor
