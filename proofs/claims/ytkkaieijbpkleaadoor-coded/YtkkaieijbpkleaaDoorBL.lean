import Derived.Test.YtkkaieijbpkleaaDoorBE
namespace Go.Proofs.YtkkaieijbpkleaaDoor
open Go.RowKit Go.Shelf

theorem conv_one (W : World) (c : Nat) (hc : c < 256) : (convert 55 9 (.slice (some ⟨W.heap.size, 0, none⟩) 1 1)).run Tryd.prog (W.alloc (.cells #[.int .u8 (c : Int)] 5)) =
    .ok (.string ⟨#[UInt8.ofNat c]⟩) (W.alloc (.cells #[.int .u8 (c : Int)] 5)) := by
  have h := World.ownsRow_lit (base := 0) (e := 5) (size := 1) W #[.int .u8 (c : Int)] 1 (by omega) (by unfold maxLen; omega) rfl
  have e : Lib.byteCells [UInt8.ofNat c] = [Value.int .u8 (c : Int)] := by simp [Lib.byteCells, UInt8.toNat_ofNat']; omega
  exact conv_row (l := [UInt8.ofNat c]) (B := 0) (n := 1) (by rw [e]; exact h)

set_option maxRecDepth 100000 in
set_option maxHeartbeats 1000000 in
theorem rdecimal_any (u : Nat) (hu : u ≤ 9223372036854775807) (many : Nat) (hm : many ≤ 100) (w : World) : Calls Tryd.prog 47 #[.int .i64 u, .int .i64 many] w fun e w' => e = .returned (.string ⟨(decR many u).toArray⟩) ∧ Below w.heap.size w w' := by
  obtain ⟨RES, hRES⟩ : ∃ r, (⟨(decR many u).toArray⟩ : ByteArray) = r := ⟨_, rfl⟩
  rw [hRES]
  have HRES := hide hRES
  clear hRES
  go_enter Tryd.func47, Tryd.ntmps47
  go_wp2
  go_loopw [0, 5, 6] (fun n o i wr => ∃ (k x : Nat) (s : ByteArray), k ≤ many ∧ x ≤ 9223372036854775807 ∧ i = .int .i64 k ∧ n = .int .i64 x ∧ o = .string s ∧ Hid (decR many u = decR (many - k) x ++ s.data.toList) ∧ s.size = k ∧ Below w.heap.size w wr) (fun _ _ i _ => many - (intOf i).toNat)
  case atStart => exact ⟨0, u, ⟨#[]⟩, Nat.zero_le _, hu, rfl, rfl, rfl, by show decR many u = _ ++ []; rw [List.append_nil]; rfl, rfl, Below.refl _ _⟩
  case round =>
    obtain ⟨k, x, s, hk, hx, rfl, rfl, rfl, HF, hsk, hB⟩ := hrel
    by_cases hlt : k < many
    · obtain ⟨d, hd⟩ : ∃ d, 48 + x % 10 = d := ⟨_, rfl⟩
      have hdi : 48 + (x : Int) % 10 = (d : Int) := by omega
      have hd2 : d < 256 := by omega
      have hcv := conv_one wr d hd2
      obtain ⟨X, hX⟩ : ∃ X : ByteArray, (⟨#[UInt8.ofNat d]⟩ : ByteArray) = X := ⟨_, rfl⟩
      rw [hX] at hcv
      have hXs : X.size = 1 := by rw [← hX]; rfl
      obtain ⟨s2, hs2⟩ : ∃ s2, X ++ s = s2 := ⟨_, rfl⟩
      have hs2l : s2.data.toList = UInt8.ofNat d :: s.data.toList := by rw [← hs2, ByteArray.toList_data_append, ← hX]; rfl
      have hs2s : s2.size = k + 1 := by rw [Lib.size_eq, hs2l, List.length_cons, ← Lib.size_eq, hsk]
      obtain ⟨y, hy⟩ : ∃ y, x / 10 = y := ⟨_, rfl⟩
      have hyi : (x : Int) / 10 = (y : Int) := by omega
      have hnx : decR many u = decR (many - (k + 1)) y ++ s2.data.toList := by
        rw [HF.out, show many - k = (many - (k + 1)) + 1 by omega, decR, hs2l, hy, hd, List.append_assoc]
        rfl
      have HN := hide hnx
      have hy2 : y ≤ 9223372036854775807 := by omega
      have hsb : s.size ≤ 100 := by omega
      clear hnx HF hd hy hX hs2l
      go_wp2
      go_roundw
      case rel => exact ⟨k + 1, y, s2, by omega, hy2, by go_num, rfl, rfl, HN, hs2s, hB.alloc hB.size _⟩
      case measure => simp [intOf]; omega
    · obtain rfl : k = many := by omega
      have hfin : s = RES := by
        apply ext_list
        rw [← unhide HRES]
        show _ = decR k u
        rw [HF.out, Nat.sub_self]; rfl
      subst hfin
      clear HF
      go_wp2
      go_ret
      exact ⟨rfl, hB⟩

def digL (l : List UInt8) : Bool := l.all fun c => decide (48 ≤ c.toNat ∧ c.toNat ≤ 57)
theorem digL_snoc (l : List UInt8) (c : UInt8) : digL (l ++ [c]) = (digL l && decide (48 ≤ c.toNat ∧ c.toNat ≤ 57)) := by simp [digL]
theorem digL_iff (l : List UInt8) : digL l = true ↔ isDig l := by simp [digL, isDig]

set_option maxRecDepth 100000 in
set_option maxHeartbeats 1000000 in
theorem risDigits_any (s : ByteArray) (lo hi : Int) (hs : s.size ≤ 9223372036854775807) (w : World) : Calls Tryd.prog 29 #[.string s, .int .i64 lo, .int .i64 hi] w fun e w' => e = .returned (.bool (digL s.data.toList && (decide (lo ≤ (s.size : Int)) && decide ((s.size : Int) ≤ hi)))) ∧ w = w' := by
  obtain ⟨R, hR⟩ : ∃ R, digL s.data.toList = R := ⟨_, rfl⟩
  rw [hR]
  have HR := hide hR
  clear hR
  go_enter Tryd.func29, Tryd.ntmps29
  go_wp2
  go_loopw [7] (fun i wr => ∃ k : Nat, k ≤ s.size ∧ i = .int .i64 k ∧ Hid (digL (s.data.toList.take k) = true) ∧ wr = w) (fun i _ => s.size - (intOf i).toNat)
  case atStart => exact ⟨0, Nat.zero_le _, rfl, rfl, rfl⟩
  case round =>
    obtain ⟨k, hk, rfl, HF, rfl⟩ := hrel
    by_cases hlt : k < s.size
    · have hno : s[k].toNat < 48 ∨ 57 < s[k].toNat → R = false := fun h => by
        rw [← unhide HR]
        unfold digL
        rw [List.all_eq_false]
        exact ⟨s[k], List.getElem_mem (by rw [← Lib.size_eq]; exact hlt), by simp; omega⟩
      by_cases h1 : s[k].toNat < 48
      · have h1i : (s[k].toNat : Int) < 48 := by omega
        obtain rfl := hno (.inl h1)
        clear hno
        go_wp2
        go_ret
        exact ⟨rfl, rfl⟩
      · have h1i : ¬ (s[k].toNat : Int) < 48 := by omega
        by_cases h2 : 57 < s[k].toNat
        · have h2i : (57 : Int) < (s[k].toNat : Int) := by omega
          obtain rfl := hno (.inr h2)
          clear hno
          go_wp2
          go_ret
          exact ⟨rfl, rfl⟩
        · have h2i : ¬ (57 : Int) < (s[k].toNat : Int) := by omega
          have hnx : digL (s.data.toList.take (k + 1)) = true := by rw [take_next s k hlt, digL_snoc, HF.out]; simp; omega
          have HN := hide hnx
          clear hno hnx
          go_wp2
          go_roundw
          case rel => exact ⟨k + 1, by omega, by go_num, HN, trivial⟩
          case measure => simp [intOf]; omega
    · have hf : R = true := by rw [← unhide HR, ← take_all s k hlt]; exact HF.out
      subst hf
      clear HF
      by_cases hlo : lo ≤ (s.size : Int)
      · have e1 : decide (lo ≤ (s.size : Int)) = true := decide_eq_true hlo
        go_wp2
        go_ret
        exact ⟨ret_bool (by simp [e1]), rfl⟩
      · have e1 : decide (lo ≤ (s.size : Int)) = false := decide_eq_false hlo
        go_wp2
        go_ret
        exact ⟨ret_bool (by simp), rfl⟩
end Go.Proofs.YtkkaieijbpkleaaDoor
