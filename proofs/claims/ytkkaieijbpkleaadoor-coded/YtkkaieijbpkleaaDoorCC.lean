import Derived.Test.YtkkaieijbpkleaaDoorCB
namespace Go.Proofs.YtkkaieijbpkleaaDoor
open Go.RowKit Go.Shelf

theorem ba_app (a b : List UInt8) : ba a ++ ba b = ba (a ++ b) := by
  apply ext_list
  rw [ByteArray.toList_data_append]
  rfl
theorem bel3 {w W w1 w2 w3 : World} (h : Below w.heap.size w W) (h1 : Below W.heap.size W w1) (h2 : Below w1.heap.size w1 w2) (h3 : Below w2.heap.size w2 w3) : Below w.heap.size w w3 :=
  have k := h.trans (h1.mono h.size)
  have k2 := k.trans (h2.mono k.size)
  k2.trans (h3.mono k2.size)
theorem ba_eq (b : ByteArray) (l : List UInt8) (h : b.data.toList = l) : b = ba l := by
  apply ext_list
  rw [h]
  rfl

set_option maxRecDepth 100000 in
set_option maxHeartbeats 2000000 in
theorem asked_0 (c a t p : Nat) (hc : c < 6) (ha : a < 300) (ht : t < 12) (hp : p < 3) (w : World) : Calls Tryd.prog 32 #[.int .i64 0, .int .i64 c, .int .i64 a, .int .i64 t, .int .i64 p] w fun e w' => e = .returned (.string (ba ([0, 34] ++ bodyL 0 c a t p))) ∧ Below w.heap.size w w' := by
  have hpl : (ba (panL c)).size = 12 := rfl
  obtain ⟨P, hP⟩ : ∃ P, ba (panL c) = P := ⟨_, rfl⟩
  have HPan := hide (fun W : World => kpan_any c hc W)
  rw [hP] at hpl HPan
  have HP := hide hP
  clear hP
  have hpre : (⟨#[1, 0]⟩ : ByteArray) ++ ⟨#[80, 32, 0, 0, 0, 128, 0, 0]⟩ ++ ⟨#[18]⟩ = ba ([1, 0] ++ (mapB ++ [18]) ++ []) := by
    apply ext_list
    rw [ByteArray.toList_data_append, ByteArray.toList_data_append]
    rfl
  have HPre := hide hpre
  clear hpre
  have hbl : (pkR P.data.toList).length = 6 := by rw [pkR_length, ← Lib.size_eq, hpl]
  have HBL := hide hbl
  clear hbl
  have HB6 := hide (fun W : World => bcd6 a (by omega) W)
  have HB3 := hide (fun W : World => bcd3 t (by omega) W)
  have HPl := hide (fun W : World => kplace_any p hp W)
  have hpls : (ba (placeL p)).size = 8 := rfl
  obtain ⟨L, hL⟩ : ∃ L, ba (placeL p) = L := ⟨_, rfl⟩
  rw [hL] at hpls HPl
  have HL := hide hL
  clear hL
  go_enter Tryd.func32, Tryd.ntmps32
  go_wp2_with (go_at_call 15; refine (unhide HPan _).mono ?_; rintro e w1 ⟨rfl, hb1⟩)
  have hB1 : Below w.heap.size w w1 := ((Below.refl _ w).alloc (Nat.le_refl _) _).trans (hb1.mono (by simp))
  clear hb1
  go_loopw [13, 14] (fun o i wr => ∃ k j : Nat, 2 * k = j ∧ k ≤ 6 ∧ i = .int .i64 j ∧ o = .string (ba ([1, 0] ++ (mapB ++ [18]) ++ pkR (P.data.toList.take j))) ∧ Below w.heap.size w wr) (fun _ i _ => 12 - (intOf i).toNat)
  case atStart => exact ⟨0, 0, rfl, Nat.zero_le _, rfl, by first | rfl | (rw [unhide HPre]; rfl), hB1⟩
  case round =>
    obtain ⟨k, j, hkj, hk, rfl, rfl, hB⟩ := hrel
    have hDs : (ba ([1, 0] ++ (mapB ++ [18]) ++ pkR (P.data.toList.take j))).size ≤ 100 := by
      rw [ba_size, List.length_append, pkR_length, List.length_take, ← Lib.size_eq, hpl]
      show 11 + _ ≤ 100
      omega
    by_cases hlt : j < 12
    · obtain ⟨j1, hj1⟩ : ∃ j1, j + 1 = j1 := ⟨_, rfl⟩
      have hw1 : IntKind.i64.wrap ((j : Int) + 1) = (j1 : Int) := by rw [IntKind.wrap_i64]; omega; all_goals omega
      have hlt0 : j < P.size := by omega
      have hlt1 : j1 < P.size := by omega
      have hj12 : (j1 : Int) < 12 := by omega
      have hj12n : j1 < 12 := by omega
      have hby := byR_int P[j] P[j1]
      have hcv : (convert 55 9 (.slice (some ⟨wr.heap.size, 0, none⟩) 1 1)).run Tryd.prog (wr.alloc (.cells #[.int .u8 ((16 * (((P[j].toNat : Int) - 48) % 256) + (P[j1].toNat : Int) - 48) % 256)] 5)).drew = .ok (.string ⟨#[UInt8.ofNat (byR P[j] P[j1]).toNat]⟩) (wr.alloc (.cells #[.int .u8 ((16 * (((P[j].toNat : Int) - 48) % 256) + (P[j1].toNat : Int) - 48) % 256)] 5)).drew := by
        rw [hby]
        exact conv_one wr.drew (byR P[j] P[j1]).toNat (UInt8.toNat_lt _)
      have hnx : pkR (P.data.toList.take (j + 2)) = pkR (P.data.toList.take j) ++ [byR P[j] P[j1]] := by
        subst hj1
        rw [take_two P j hlt1, pkR_snoc _ _ _ (by rw [List.length_take, ← Lib.size_eq]; omega)]
      generalize byR P[j] P[j1] = cc at hcv hnx
      clear hby
      obtain ⟨X, hX⟩ : ∃ X : ByteArray, (⟨#[UInt8.ofNat cc.toNat]⟩ : ByteArray) = X := ⟨_, rfl⟩
      rw [hX] at hcv
      have hXs : X.size = 1 := by rw [← hX]; rfl
      have hnext : ba ([1, 0] ++ (mapB ++ [18]) ++ pkR (P.data.toList.take j)) ++ X = ba ([1, 0] ++ (mapB ++ [18]) ++ pkR (P.data.toList.take (j + 2))) := by
        apply ext_list
        rw [← hX, ByteArray.toList_data_append, hnx, ba_list, ba_list]
        simp
      generalize ba ([1, 0] ++ (mapB ++ [18]) ++ pkR (P.data.toList.take j)) = D at hnext hDs ⊢
      have HX := hide hnext
      have HJ := hide hj1
      clear hX hnext hnx hj1
      go_wp2
      go_region
      go_wp2
      go_roundw
      case rel => exact ⟨k + 1, j + 2, by omega, by omega, by go_num, by rw [unhide HX], below_drawn (n := 1) (hB.alloc hB.size _)⟩
      case measure => simp [intOf]; omega
    · obtain rfl : j = 12 := by omega
      have hall : P.data.toList.take 12 = P.data.toList := List.take_of_length_le (by rw [← Lib.size_eq]; omega)
      rw [hall]
      have hDs2 : (ba ([1, 0] ++ (mapB ++ [18]) ++ pkR P.data.toList)).size = 17 := by rw [ba_size, List.length_append, unhide HBL]; rfl
      have hbody : ∀ E F : ByteArray, E.data.toList = bcdL 6 a → F.data.toList = bcdL 3 t → ba ([1, 0] ++ (mapB ++ [18]) ++ pkR P.data.toList) ++ E ++ F ++ L = ba (bodyL 0 c a t p) := fun E F hE hF => by
        rw [ba_eq E _ hE, ba_eq F _ hF, ← unhide HL, ba_app, ba_app, ba_app, ← unhide HP]
        exact congrArg ba (by simp [bodyL, restL, kindB, ba_list])
      generalize ba ([1, 0] ++ (mapB ++ [18]) ++ pkR P.data.toList) = D at hbody hDs2 ⊢
      have HBody := hide hbody
      clear hbody hall hDs hlt
      have hcv9 : ∀ W : World, (convert 55 9 (.slice (some ⟨W.heap.size, 0, none⟩) 1 1)).run Tryd.prog (W.alloc (.cells #[.int .u8 34] 5)) = .ok (.string ⟨#[34]⟩) (W.alloc (.cells #[.int .u8 34] 5)) := fun W => conv_one W 34 (by omega)
      go_wp2_with fail
      refine (unhide HB6 _).mono ?_
      rintro e w2 ⟨E, rfl, HE, hEs, hb2⟩
      have hs1 : (D ++ E).size = 23 := by rw [ByteArray.size_append]; omega
      go_wp2_with fail
      refine (unhide HB3 _).mono ?_
      rintro e w3 ⟨F, rfl, HF, hFs, hb3⟩
      have hs2 : (D ++ E ++ F).size = 26 := by rw [ByteArray.size_append]; omega
      go_wp2_with fail
      refine (unhide HPl _).mono ?_
      rintro e w4 ⟨rfl, hb4⟩
      have hB4 := bel3 hB hb2 hb3 hb4
      have hres : (⟨#[0]⟩ : ByteArray) ++ ⟨#[34]⟩ ++ (D ++ E ++ F ++ L) = ba ([0, 34] ++ bodyL 0 c a t p) := by
        rw [unhide HBody E F (unhide HE) (unhide HF)]
        apply ext_list
        rw [ByteArray.toList_data_append, ByteArray.toList_data_append]
        rfl
      have HRes := hide hres
      have hs3 : (D ++ E ++ F ++ L).size = 34 := by rw [ByteArray.size_append]; omega
      clear hres hb2 hb3 hb4
      go_wp2
      go_ret
      exact ⟨by show Ending.returned (.string ((⟨#[0]⟩ : ByteArray) ++ ⟨#[34]⟩ ++ (D ++ E ++ F ++ L))) = _; rw [unhide HRes]; rfl, hB4.alloc hB4.size _⟩

set_option maxRecDepth 100000 in
set_option maxHeartbeats 2000000 in
theorem asked_1 (c a t p : Nat) (hc : c < 6) (ha : a < 300) (ht : t < 12) (hp : p < 3) (w : World) : Calls Tryd.prog 32 #[.int .i64 1, .int .i64 c, .int .i64 a, .int .i64 t, .int .i64 p] w fun e w' => e = .returned (.string (ba ([0, 34] ++ bodyL 1 c a t p))) ∧ Below w.heap.size w w' := by
  have hpl : (ba (panL c)).size = 12 := rfl
  obtain ⟨P, hP⟩ : ∃ P, ba (panL c) = P := ⟨_, rfl⟩
  have HPan := hide (fun W : World => kpan_any c hc W)
  rw [hP] at hpl HPan
  have HP := hide hP
  clear hP
  have hpre : (⟨#[4, 0]⟩ : ByteArray) ++ ⟨#[80, 32, 0, 0, 0, 128, 0, 0]⟩ ++ ⟨#[18]⟩ = ba ([4, 0] ++ (mapB ++ [18]) ++ []) := by
    apply ext_list
    rw [ByteArray.toList_data_append, ByteArray.toList_data_append]
    rfl
  have HPre := hide hpre
  clear hpre
  have hbl : (pkR P.data.toList).length = 6 := by rw [pkR_length, ← Lib.size_eq, hpl]
  have HBL := hide hbl
  clear hbl
  have HB6 := hide (fun W : World => bcd6 a (by omega) W)
  have HB3 := hide (fun W : World => bcd3 t (by omega) W)
  have HPl := hide (fun W : World => kplace_any p hp W)
  have hpls : (ba (placeL p)).size = 8 := rfl
  obtain ⟨L, hL⟩ : ∃ L, ba (placeL p) = L := ⟨_, rfl⟩
  rw [hL] at hpls HPl
  have HL := hide hL
  clear hL
  go_enter Tryd.func32, Tryd.ntmps32
  go_wp2_with (go_at_call 15; refine (unhide HPan _).mono ?_; rintro e w1 ⟨rfl, hb1⟩)
  have hB1 : Below w.heap.size w w1 := ((Below.refl _ w).alloc (Nat.le_refl _) _).trans (hb1.mono (by simp))
  clear hb1
  go_loopw [13, 14] (fun o i wr => ∃ k j : Nat, 2 * k = j ∧ k ≤ 6 ∧ i = .int .i64 j ∧ o = .string (ba ([4, 0] ++ (mapB ++ [18]) ++ pkR (P.data.toList.take j))) ∧ Below w.heap.size w wr) (fun _ i _ => 12 - (intOf i).toNat)
  case atStart => exact ⟨0, 0, rfl, Nat.zero_le _, rfl, by first | rfl | (rw [unhide HPre]; rfl), hB1⟩
  case round =>
    obtain ⟨k, j, hkj, hk, rfl, rfl, hB⟩ := hrel
    have hDs : (ba ([4, 0] ++ (mapB ++ [18]) ++ pkR (P.data.toList.take j))).size ≤ 100 := by
      rw [ba_size, List.length_append, pkR_length, List.length_take, ← Lib.size_eq, hpl]
      show 11 + _ ≤ 100
      omega
    by_cases hlt : j < 12
    · obtain ⟨j1, hj1⟩ : ∃ j1, j + 1 = j1 := ⟨_, rfl⟩
      have hw1 : IntKind.i64.wrap ((j : Int) + 1) = (j1 : Int) := by rw [IntKind.wrap_i64]; omega; all_goals omega
      have hlt0 : j < P.size := by omega
      have hlt1 : j1 < P.size := by omega
      have hj12 : (j1 : Int) < 12 := by omega
      have hj12n : j1 < 12 := by omega
      have hby := byR_int P[j] P[j1]
      have hcv : (convert 55 9 (.slice (some ⟨wr.heap.size, 0, none⟩) 1 1)).run Tryd.prog (wr.alloc (.cells #[.int .u8 ((16 * (((P[j].toNat : Int) - 48) % 256) + (P[j1].toNat : Int) - 48) % 256)] 5)).drew = .ok (.string ⟨#[UInt8.ofNat (byR P[j] P[j1]).toNat]⟩) (wr.alloc (.cells #[.int .u8 ((16 * (((P[j].toNat : Int) - 48) % 256) + (P[j1].toNat : Int) - 48) % 256)] 5)).drew := by
        rw [hby]
        exact conv_one wr.drew (byR P[j] P[j1]).toNat (UInt8.toNat_lt _)
      have hnx : pkR (P.data.toList.take (j + 2)) = pkR (P.data.toList.take j) ++ [byR P[j] P[j1]] := by
        subst hj1
        rw [take_two P j hlt1, pkR_snoc _ _ _ (by rw [List.length_take, ← Lib.size_eq]; omega)]
      generalize byR P[j] P[j1] = cc at hcv hnx
      clear hby
      obtain ⟨X, hX⟩ : ∃ X : ByteArray, (⟨#[UInt8.ofNat cc.toNat]⟩ : ByteArray) = X := ⟨_, rfl⟩
      rw [hX] at hcv
      have hXs : X.size = 1 := by rw [← hX]; rfl
      have hnext : ba ([4, 0] ++ (mapB ++ [18]) ++ pkR (P.data.toList.take j)) ++ X = ba ([4, 0] ++ (mapB ++ [18]) ++ pkR (P.data.toList.take (j + 2))) := by
        apply ext_list
        rw [← hX, ByteArray.toList_data_append, hnx, ba_list, ba_list]
        simp
      generalize ba ([4, 0] ++ (mapB ++ [18]) ++ pkR (P.data.toList.take j)) = D at hnext hDs ⊢
      have HX := hide hnext
      have HJ := hide hj1
      clear hX hnext hnx hj1
      go_wp2
      go_region
      go_wp2
      go_roundw
      case rel => exact ⟨k + 1, j + 2, by omega, by omega, by go_num, by rw [unhide HX], below_drawn (n := 1) (hB.alloc hB.size _)⟩
      case measure => simp [intOf]; omega
    · obtain rfl : j = 12 := by omega
      have hall : P.data.toList.take 12 = P.data.toList := List.take_of_length_le (by rw [← Lib.size_eq]; omega)
      rw [hall]
      have hDs2 : (ba ([4, 0] ++ (mapB ++ [18]) ++ pkR P.data.toList)).size = 17 := by rw [ba_size, List.length_append, unhide HBL]; rfl
      have hbody : ∀ E F : ByteArray, E.data.toList = bcdL 6 a → F.data.toList = bcdL 3 t → ba ([4, 0] ++ (mapB ++ [18]) ++ pkR P.data.toList) ++ E ++ F ++ L = ba (bodyL 1 c a t p) := fun E F hE hF => by
        rw [ba_eq E _ hE, ba_eq F _ hF, ← unhide HL, ba_app, ba_app, ba_app, ← unhide HP]
        exact congrArg ba (by simp [bodyL, restL, kindB, ba_list])
      generalize ba ([4, 0] ++ (mapB ++ [18]) ++ pkR P.data.toList) = D at hbody hDs2 ⊢
      have HBody := hide hbody
      clear hbody hall hDs hlt
      have hcv9 : ∀ W : World, (convert 55 9 (.slice (some ⟨W.heap.size, 0, none⟩) 1 1)).run Tryd.prog (W.alloc (.cells #[.int .u8 34] 5)) = .ok (.string ⟨#[34]⟩) (W.alloc (.cells #[.int .u8 34] 5)) := fun W => conv_one W 34 (by omega)
      go_wp2_with fail
      refine (unhide HB6 _).mono ?_
      rintro e w2 ⟨E, rfl, HE, hEs, hb2⟩
      have hs1 : (D ++ E).size = 23 := by rw [ByteArray.size_append]; omega
      go_wp2_with fail
      refine (unhide HB3 _).mono ?_
      rintro e w3 ⟨F, rfl, HF, hFs, hb3⟩
      have hs2 : (D ++ E ++ F).size = 26 := by rw [ByteArray.size_append]; omega
      go_wp2_with fail
      refine (unhide HPl _).mono ?_
      rintro e w4 ⟨rfl, hb4⟩
      have hB4 := bel3 hB hb2 hb3 hb4
      have hres : (⟨#[0]⟩ : ByteArray) ++ ⟨#[34]⟩ ++ (D ++ E ++ F ++ L) = ba ([0, 34] ++ bodyL 1 c a t p) := by
        rw [unhide HBody E F (unhide HE) (unhide HF)]
        apply ext_list
        rw [ByteArray.toList_data_append, ByteArray.toList_data_append]
        rfl
      have HRes := hide hres
      have hs3 : (D ++ E ++ F ++ L).size = 34 := by rw [ByteArray.size_append]; omega
      clear hres hb2 hb3 hb4
      go_wp2
      go_ret
      exact ⟨by show Ending.returned (.string ((⟨#[0]⟩ : ByteArray) ++ ⟨#[34]⟩ ++ (D ++ E ++ F ++ L))) = _; rw [unhide HRes]; rfl, hB4.alloc hB4.size _⟩

set_option maxRecDepth 100000 in
set_option maxHeartbeats 2000000 in
theorem asked_2 (c a t p : Nat) (hc : c < 6) (ha : a < 300) (ht : t < 12) (hp : p < 3) (w : World) : Calls Tryd.prog 32 #[.int .i64 2, .int .i64 c, .int .i64 a, .int .i64 t, .int .i64 p] w fun e w' => e = .returned (.string (ba ([0, 34] ++ bodyL 2 c a t p))) ∧ Below w.heap.size w w' := by
  have hpl : (ba (panL c)).size = 12 := rfl
  obtain ⟨P, hP⟩ : ∃ P, ba (panL c) = P := ⟨_, rfl⟩
  have HPan := hide (fun W : World => kpan_any c hc W)
  rw [hP] at hpl HPan
  have HP := hide hP
  clear hP
  have hpre : (⟨#[4, 32]⟩ : ByteArray) ++ ⟨#[80, 32, 0, 0, 0, 128, 0, 0]⟩ ++ ⟨#[18]⟩ = ba ([4, 32] ++ (mapB ++ [18]) ++ []) := by
    apply ext_list
    rw [ByteArray.toList_data_append, ByteArray.toList_data_append]
    rfl
  have HPre := hide hpre
  clear hpre
  have hbl : (pkR P.data.toList).length = 6 := by rw [pkR_length, ← Lib.size_eq, hpl]
  have HBL := hide hbl
  clear hbl
  have HB6 := hide (fun W : World => bcd6 a (by omega) W)
  have HB3 := hide (fun W : World => bcd3 t (by omega) W)
  have HPl := hide (fun W : World => kplace_any p hp W)
  have hpls : (ba (placeL p)).size = 8 := rfl
  obtain ⟨L, hL⟩ : ∃ L, ba (placeL p) = L := ⟨_, rfl⟩
  rw [hL] at hpls HPl
  have HL := hide hL
  clear hL
  go_enter Tryd.func32, Tryd.ntmps32
  go_wp2_with (go_at_call 15; refine (unhide HPan _).mono ?_; rintro e w1 ⟨rfl, hb1⟩)
  have hB1 : Below w.heap.size w w1 := ((Below.refl _ w).alloc (Nat.le_refl _) _).trans (hb1.mono (by simp))
  clear hb1
  go_loopw [13, 14] (fun o i wr => ∃ k j : Nat, 2 * k = j ∧ k ≤ 6 ∧ i = .int .i64 j ∧ o = .string (ba ([4, 32] ++ (mapB ++ [18]) ++ pkR (P.data.toList.take j))) ∧ Below w.heap.size w wr) (fun _ i _ => 12 - (intOf i).toNat)
  case atStart => exact ⟨0, 0, rfl, Nat.zero_le _, rfl, by first | rfl | (rw [unhide HPre]; rfl), hB1⟩
  case round =>
    obtain ⟨k, j, hkj, hk, rfl, rfl, hB⟩ := hrel
    have hDs : (ba ([4, 32] ++ (mapB ++ [18]) ++ pkR (P.data.toList.take j))).size ≤ 100 := by
      rw [ba_size, List.length_append, pkR_length, List.length_take, ← Lib.size_eq, hpl]
      show 11 + _ ≤ 100
      omega
    by_cases hlt : j < 12
    · obtain ⟨j1, hj1⟩ : ∃ j1, j + 1 = j1 := ⟨_, rfl⟩
      have hw1 : IntKind.i64.wrap ((j : Int) + 1) = (j1 : Int) := by rw [IntKind.wrap_i64]; omega; all_goals omega
      have hlt0 : j < P.size := by omega
      have hlt1 : j1 < P.size := by omega
      have hj12 : (j1 : Int) < 12 := by omega
      have hj12n : j1 < 12 := by omega
      have hby := byR_int P[j] P[j1]
      have hcv : (convert 55 9 (.slice (some ⟨wr.heap.size, 0, none⟩) 1 1)).run Tryd.prog (wr.alloc (.cells #[.int .u8 ((16 * (((P[j].toNat : Int) - 48) % 256) + (P[j1].toNat : Int) - 48) % 256)] 5)).drew = .ok (.string ⟨#[UInt8.ofNat (byR P[j] P[j1]).toNat]⟩) (wr.alloc (.cells #[.int .u8 ((16 * (((P[j].toNat : Int) - 48) % 256) + (P[j1].toNat : Int) - 48) % 256)] 5)).drew := by
        rw [hby]
        exact conv_one wr.drew (byR P[j] P[j1]).toNat (UInt8.toNat_lt _)
      have hnx : pkR (P.data.toList.take (j + 2)) = pkR (P.data.toList.take j) ++ [byR P[j] P[j1]] := by
        subst hj1
        rw [take_two P j hlt1, pkR_snoc _ _ _ (by rw [List.length_take, ← Lib.size_eq]; omega)]
      generalize byR P[j] P[j1] = cc at hcv hnx
      clear hby
      obtain ⟨X, hX⟩ : ∃ X : ByteArray, (⟨#[UInt8.ofNat cc.toNat]⟩ : ByteArray) = X := ⟨_, rfl⟩
      rw [hX] at hcv
      have hXs : X.size = 1 := by rw [← hX]; rfl
      have hnext : ba ([4, 32] ++ (mapB ++ [18]) ++ pkR (P.data.toList.take j)) ++ X = ba ([4, 32] ++ (mapB ++ [18]) ++ pkR (P.data.toList.take (j + 2))) := by
        apply ext_list
        rw [← hX, ByteArray.toList_data_append, hnx, ba_list, ba_list]
        simp
      generalize ba ([4, 32] ++ (mapB ++ [18]) ++ pkR (P.data.toList.take j)) = D at hnext hDs ⊢
      have HX := hide hnext
      have HJ := hide hj1
      clear hX hnext hnx hj1
      go_wp2
      go_region
      go_wp2
      go_roundw
      case rel => exact ⟨k + 1, j + 2, by omega, by omega, by go_num, by rw [unhide HX], below_drawn (n := 1) (hB.alloc hB.size _)⟩
      case measure => simp [intOf]; omega
    · obtain rfl : j = 12 := by omega
      have hall : P.data.toList.take 12 = P.data.toList := List.take_of_length_le (by rw [← Lib.size_eq]; omega)
      rw [hall]
      have hDs2 : (ba ([4, 32] ++ (mapB ++ [18]) ++ pkR P.data.toList)).size = 17 := by rw [ba_size, List.length_append, unhide HBL]; rfl
      have hbody : ∀ E F : ByteArray, E.data.toList = bcdL 6 a → F.data.toList = bcdL 3 t → ba ([4, 32] ++ (mapB ++ [18]) ++ pkR P.data.toList) ++ E ++ F ++ L = ba (bodyL 2 c a t p) := fun E F hE hF => by
        rw [ba_eq E _ hE, ba_eq F _ hF, ← unhide HL, ba_app, ba_app, ba_app, ← unhide HP]
        exact congrArg ba (by simp [bodyL, restL, kindB, ba_list])
      generalize ba ([4, 32] ++ (mapB ++ [18]) ++ pkR P.data.toList) = D at hbody hDs2 ⊢
      have HBody := hide hbody
      clear hbody hall hDs hlt
      have hcv9 : ∀ W : World, (convert 55 9 (.slice (some ⟨W.heap.size, 0, none⟩) 1 1)).run Tryd.prog (W.alloc (.cells #[.int .u8 34] 5)) = .ok (.string ⟨#[34]⟩) (W.alloc (.cells #[.int .u8 34] 5)) := fun W => conv_one W 34 (by omega)
      go_wp2_with fail
      refine (unhide HB6 _).mono ?_
      rintro e w2 ⟨E, rfl, HE, hEs, hb2⟩
      have hs1 : (D ++ E).size = 23 := by rw [ByteArray.size_append]; omega
      go_wp2_with fail
      refine (unhide HB3 _).mono ?_
      rintro e w3 ⟨F, rfl, HF, hFs, hb3⟩
      have hs2 : (D ++ E ++ F).size = 26 := by rw [ByteArray.size_append]; omega
      go_wp2_with fail
      refine (unhide HPl _).mono ?_
      rintro e w4 ⟨rfl, hb4⟩
      have hB4 := bel3 hB hb2 hb3 hb4
      have hres : (⟨#[0]⟩ : ByteArray) ++ ⟨#[34]⟩ ++ (D ++ E ++ F ++ L) = ba ([0, 34] ++ bodyL 2 c a t p) := by
        rw [unhide HBody E F (unhide HE) (unhide HF)]
        apply ext_list
        rw [ByteArray.toList_data_append, ByteArray.toList_data_append]
        rfl
      have HRes := hide hres
      have hs3 : (D ++ E ++ F ++ L).size = 34 := by rw [ByteArray.size_append]; omega
      clear hres hb2 hb3 hb4
      go_wp2
      go_ret
      exact ⟨by show Ending.returned (.string ((⟨#[0]⟩ : ByteArray) ++ ⟨#[34]⟩ ++ (D ++ E ++ F ++ L))) = _; rw [unhide HRes]; rfl, hB4.alloc hB4.size _⟩
end Go.Proofs.YtkkaieijbpkleaaDoor
