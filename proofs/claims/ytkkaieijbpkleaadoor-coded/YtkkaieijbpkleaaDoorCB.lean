import Derived.Test.YtkkaieijbpkleaaDoorCA
namespace Go.Proofs.YtkkaieijbpkleaaDoor
open Go.RowKit Go.Shelf

set_option maxRecDepth 100000 in
set_option maxHeartbeats 1000000 in
theorem kpan_any (c : Nat) (hc : c < 6) (w : World) : Calls Tryd.prog 15 #[.int .i64 c] w fun e w' => e = .returned (.string (ba (panL c))) ∧ Below w.heap.size w w' := by
  have hcv := conv_one w (48 + c) (by omega)
  have hres : (⟨#[52, 48, 48, 48, 48, 48, 48, 48, 48, 48, 48]⟩ : ByteArray) ++ ⟨#[UInt8.ofNat (48 + c)]⟩ = ba (panL c) := by
    apply ext_list
    rw [ByteArray.toList_data_append]
    rfl
  obtain ⟨X, hX⟩ : ∃ X : ByteArray, (⟨#[UInt8.ofNat (48 + c)]⟩ : ByteArray) = X := ⟨_, rfl⟩
  rw [hX] at hcv hres
  have hXs : X.size = 1 := by rw [← hX]; rfl
  rw [show (((48 + c : Nat)) : Int) = 48 + (c : Int) by omega] at hcv
  have HR := hide hres
  clear hres hX
  go_enter Tryd.func15, Tryd.ntmps15
  go_wp2_with (go_at_call 31; refine (pick_6 c (by omega) (by omega) _).mono ?_; rintro e w1 ⟨r, rfl, hr, hrc, rfl⟩; obtain rfl : r = c := (by have := hrc (by omega) (by omega); omega))
  go_ret
  exact ⟨by rw [unhide HR]; rfl, (Below.refl _ w).alloc (Nat.le_refl _) _⟩
set_option maxRecDepth 100000 in
set_option maxHeartbeats 1000000 in
theorem kplace_any (c : Nat) (hc : c < 3) (w : World) : Calls Tryd.prog 16 #[.int .i64 c] w fun e w' => e = .returned (.string (ba (placeL c))) ∧ Below w.heap.size w w' := by
  have hcv := conv_one w (49 + c) (by omega)
  have hres : (⟨#[84, 69, 82, 77, 73, 78, 65]⟩ : ByteArray) ++ ⟨#[UInt8.ofNat (49 + c)]⟩ = ba (placeL c) := by
    apply ext_list
    rw [ByteArray.toList_data_append]
    rfl
  obtain ⟨X, hX⟩ : ∃ X : ByteArray, (⟨#[UInt8.ofNat (49 + c)]⟩ : ByteArray) = X := ⟨_, rfl⟩
  rw [hX] at hcv hres
  have hXs : X.size = 1 := by rw [← hX]; rfl
  rw [show (((49 + c : Nat)) : Int) = 49 + (c : Int) by omega] at hcv
  have HR := hide hres
  clear hres hX
  go_enter Tryd.func16, Tryd.ntmps16
  go_wp2_with (go_at_call 31; refine (pick_3 c (by omega) (by omega) _).mono ?_; rintro e w1 ⟨r, rfl, hr, hrc, rfl⟩; obtain rfl : r = c := (by have := hrc (by omega) (by omega); omega))
  go_ret
  exact ⟨by rw [unhide HR]; rfl, (Below.refl _ w).alloc (Nat.le_refl _) _⟩

set_option maxRecDepth 100000 in
set_option maxHeartbeats 1000000 in
theorem bcd_any (u : Nat) (hu : u ≤ 1000000000) (many : Nat) (hm : many ≤ 100) (w : World) : Calls Tryd.prog 48 #[.int .i64 u, .int .i64 many] w fun e w' => ∃ D : ByteArray, e = .returned (.string D) ∧ Hid (D.data.toList = bcdL many u) ∧ D.size = many ∧ Below w.heap.size w w' := by
  go_enter Tryd.func48, Tryd.ntmps48
  go_wp2
  go_loopw [0, 5, 6] (fun n o i wr => ∃ (k x : Nat) (s : ByteArray), k ≤ many ∧ x ≤ 1000000000 ∧ i = .int .i64 k ∧ n = .int .i64 x ∧ o = .string s ∧ Hid (bcdL many u = bcdL (many - k) x ++ s.data.toList) ∧ s.size = k ∧ Below w.heap.size w wr) (fun _ _ i _ => many - (intOf i).toNat)
  case atStart => exact ⟨0, u, ⟨#[]⟩, Nat.zero_le _, hu, rfl, rfl, rfl, by show bcdL many u = _ ++ []; rw [List.append_nil]; rfl, rfl, Below.refl _ _⟩
  case round =>
    obtain ⟨k, x, s, hk, hx, rfl, rfl, rfl, HF, hsk, hB⟩ := hrel
    by_cases hlt : k < many
    · obtain ⟨d, hd⟩ : ∃ d, x % 10 + x / 10 % 10 * 16 = d := ⟨_, rfl⟩
      have hdi : (x : Int) % 10 + (x : Int) / 10 % 10 * 16 = (d : Int) := by omega
      have hd2 : d < 256 := by omega
      have hcv := conv_one wr d hd2
      obtain ⟨X, hX⟩ : ∃ X : ByteArray, (⟨#[UInt8.ofNat d]⟩ : ByteArray) = X := ⟨_, rfl⟩
      rw [hX] at hcv
      have hXs : X.size = 1 := by rw [← hX]; rfl
      obtain ⟨s2, hs2⟩ : ∃ s2, X ++ s = s2 := ⟨_, rfl⟩
      have hs2l : s2.data.toList = UInt8.ofNat d :: s.data.toList := by rw [← hs2, ByteArray.toList_data_append, ← hX]; rfl
      have hs2s : s2.size = k + 1 := by rw [Lib.size_eq, hs2l, List.length_cons, ← Lib.size_eq, hsk]
      obtain ⟨y, hy⟩ : ∃ y, x / 100 = y := ⟨_, rfl⟩
      have hyi : (x : Int) / 100 = (y : Int) := by omega
      have hnx : bcdL many u = bcdL (many - (k + 1)) y ++ s2.data.toList := by
        rw [HF.out, show many - k = (many - (k + 1)) + 1 by omega, bcdL, hs2l, hy, hd, List.append_assoc]
        rfl
      have HN := hide hnx
      have hy2 : y ≤ 1000000000 := by omega
      have hsb : s.size ≤ 100 := by omega
      clear hnx HF hd hy hX hs2l
      go_wp2
      go_roundw
      case rel => exact ⟨k + 1, y, s2, by omega, hy2, by go_num, rfl, rfl, HN, hs2s, hB.alloc hB.size _⟩
      case measure => simp [intOf]; omega
    · obtain rfl : k = many := by omega
      have hfin : s.data.toList = bcdL k u := by rw [HF.out, Nat.sub_self]; rfl
      have HFin := hide hfin
      clear HF hfin
      go_wp2
      go_ret
      exact ⟨s, rfl, HFin, hsk, hB⟩
theorem bcd6 (u : Nat) (hu : u ≤ 1000000000) (w : World) : Calls Tryd.prog 48 #[.int .i64 u, .int .i64 6] w fun e w' => ∃ D : ByteArray, e = .returned (.string D) ∧ Hid (D.data.toList = bcdL 6 u) ∧ D.size = 6 ∧ Below w.heap.size w w' := bcd_any u hu 6 (by omega) w
theorem bcd3 (u : Nat) (hu : u ≤ 1000000000) (w : World) : Calls Tryd.prog 48 #[.int .i64 u, .int .i64 3] w fun e w' => ∃ D : ByteArray, e = .returned (.string D) ∧ Hid (D.data.toList = bcdL 3 u) ∧ D.size = 3 ∧ Below w.heap.size w w' := bcd_any u hu 3 (by omega) w
end Go.Proofs.YtkkaieijbpkleaaDoor
