import Derived.Test.YtkkaieijbpkleaaDoorQ
namespace Go.Proofs.YtkkaieijbpkleaaDoor
open Go.RowKit Go.Shelf

/-- The number that the bytes of a rune say, of the first so many. -/
def accR (s : ByteArray) (a : Int) : Nat → Int
  | 0 => a
  | k + 1 => 64 * accR s a k + (b8 s (k + 1) : Int) - 128
/-- Are the bytes behind the first all from 128 to 191, of so many? -/
def contR (s : ByteArray) : Nat → Bool
  | 0 => true
  | k + 1 => contR s k && decide (128 ≤ b8 s (k + 1) ∧ b8 s (k + 1) ≤ 191)
/-- A rune of k + 1 bytes whose first byte says a. -/
def runeN (s : ByteArray) (k : Nat) (least a : Int) : Nat :=
  if s.size < k + 1 then 0
  else if contR s k = false then 0
  else if accR s a k < least ∨ 1114111 < accR s a k ∨ (55296 ≤ accR s a k ∧ accR s a k < 57344) then 0 else k + 1
def rR (s : ByteArray) : Nat :=
  if b8 s 0 < 128 then 1
  else if 192 ≤ b8 s 0 ∧ b8 s 0 < 224 then runeN s 1 128 ((b8 s 0 : Int) - 192)
  else if 224 ≤ b8 s 0 ∧ b8 s 0 < 240 then runeN s 2 2048 ((b8 s 0 : Int) - 224)
  else if 240 ≤ b8 s 0 ∧ b8 s 0 < 248 then runeN s 3 65536 ((b8 s 0 : Int) - 240)
  else 0

set_option maxRecDepth 100000 in
set_option maxHeartbeats 4000000 in
theorem rR_N (n b0 b1 b2 b3 : Nat) (h0 : b0 < 256) (h1 : b1 < 256) (h2 : b2 < 256) (h3 : b3 < 256) (_ : 0 < n) :
    (if (Lib.decodeN n b0 b1 b2 b3).1 = 65533 ∧ (Lib.decodeN n b0 b1 b2 b3).2 = 1 then 0 else (Lib.decodeN n b0 b1 b2 b3).2) =
    if b0 < 128 then 1
    else if 192 ≤ b0 ∧ b0 < 224 then
      (if n < 2 then 0 else if ¬ (128 ≤ b1 ∧ b1 ≤ 191) then 0
       else if 64 * ((b0 : Int) - 192) + b1 - 128 < 128 ∨ 1114111 < 64 * ((b0 : Int) - 192) + b1 - 128 ∨ (55296 ≤ 64 * ((b0 : Int) - 192) + b1 - 128 ∧ 64 * ((b0 : Int) - 192) + b1 - 128 < 57344) then 0 else 2)
    else if 224 ≤ b0 ∧ b0 < 240 then
      (if n < 3 then 0 else if ¬ ((128 ≤ b1 ∧ b1 ≤ 191) ∧ (128 ≤ b2 ∧ b2 ≤ 191)) then 0
       else if 64 * (64 * ((b0 : Int) - 224) + b1 - 128) + b2 - 128 < 2048 ∨ 1114111 < 64 * (64 * ((b0 : Int) - 224) + b1 - 128) + b2 - 128 ∨ (55296 ≤ 64 * (64 * ((b0 : Int) - 224) + b1 - 128) + b2 - 128 ∧ 64 * (64 * ((b0 : Int) - 224) + b1 - 128) + b2 - 128 < 57344) then 0 else 3)
    else if 240 ≤ b0 ∧ b0 < 248 then
      (if n < 4 then 0 else if ¬ (((128 ≤ b1 ∧ b1 ≤ 191) ∧ (128 ≤ b2 ∧ b2 ≤ 191)) ∧ (128 ≤ b3 ∧ b3 ≤ 191)) then 0
       else if 64 * (64 * (64 * ((b0 : Int) - 240) + b1 - 128) + b2 - 128) + b3 - 128 < 65536 ∨ 1114111 < 64 * (64 * (64 * ((b0 : Int) - 240) + b1 - 128) + b2 - 128) + b3 - 128 ∨ (55296 ≤ 64 * (64 * (64 * ((b0 : Int) - 240) + b1 - 128) + b2 - 128) + b3 - 128 ∧ 64 * (64 * (64 * ((b0 : Int) - 240) + b1 - 128) + b2 - 128) + b3 - 128 < 57344) then 0 else 4)
    else 0 := by
  by_cases c0 : b0 < 128
  · rw [if_pos c0]; unfold Lib.decodeN; rw [if_pos c0]; simp; omega
  · rw [if_neg c0]
    unfold Lib.decodeN
    rw [if_neg c0]
    by_cases c1 : 192 ≤ b0 ∧ b0 < 224
    · rw [if_pos c1]
      repeat' split
      all_goals first | rfl | omega
    · rw [if_neg c1]
      by_cases c2 : 224 ≤ b0 ∧ b0 < 240
      · rw [if_pos c2]
        repeat' split
        all_goals first | rfl | omega
      · rw [if_neg c2]
        by_cases c3 : 240 ≤ b0 ∧ b0 < 248
        · rw [if_pos c3]
          repeat' split
          all_goals first | rfl | omega
        · rw [if_neg c3]
          repeat' split
          all_goals first | rfl | omega

theorem rR_eq (s : ByteArray) (hs : 0 < s.size) : r1 s.data.toList = rR s := by
  unfold r1
  rw [Lib.decodeL_N]
  have h := rR_N s.data.toList.length (b8 s 0) (b8 s 1) (b8 s 2) (b8 s 3) (b8_lt _ _) (b8_lt _ _) (b8_lt _ _) (b8_lt _ _) (by rw [← Lib.size_eq]; exact hs)
  refine Eq.trans h ?_
  unfold rR runeN
  have e1 : (contR s 1 = false) = ¬ (128 ≤ b8 s 1 ∧ b8 s 1 ≤ 191) := propext (by simp only [contR, Bool.true_and, ← Bool.not_eq_true, decide_eq_true_eq])
  have e2 : (contR s 2 = false) = ¬ ((128 ≤ b8 s 1 ∧ b8 s 1 ≤ 191) ∧ (128 ≤ b8 s 2 ∧ b8 s 2 ≤ 191)) := propext (by simp only [contR, Bool.true_and, ← Bool.not_eq_true, Bool.and_eq_true, decide_eq_true_eq])
  have e3 : (contR s 3 = false) = ¬ (((128 ≤ b8 s 1 ∧ b8 s 1 ≤ 191) ∧ (128 ≤ b8 s 2 ∧ b8 s 2 ≤ 191)) ∧ (128 ≤ b8 s 3 ∧ b8 s 3 ≤ 191)) := propext (by simp only [contR, Bool.true_and, ← Bool.not_eq_true, Bool.and_eq_true, decide_eq_true_eq])
  simp only [e1, e2, e3, accR, Lib.size_eq, Nat.reduceAdd, Nat.zero_add]

theorem accR_bound (s : ByteArray) (a : Int) (ha : 0 ≤ a ∧ a < 32) : ∀ k, contR s k = true → 0 ≤ accR s a k ∧ accR s a k < 32 * 64 ^ k
  | 0, _ => by simpa [accR] using ha
  | k + 1, h => by
    simp only [contR, Bool.and_eq_true, decide_eq_true_eq] at h
    have ih := accR_bound s a ha k h.1
    have e : (64 : Int) ^ (k + 1) = 64 * 64 ^ k := by rw [Int.pow_succ, Int.mul_comm]
    simp only [accR]
    rw [e]
    omega
theorem accR_small (s : ByteArray) (a : Int) (ha : 0 ≤ a ∧ a < 32) (k : Nat) (hk : k ≤ 3) (h : contR s k = true) : 0 ≤ accR s a k ∧ accR s a k < 8388608 := by
  have h1 := accR_bound s a ha k h
  refine ⟨h1.1, Int.lt_of_lt_of_le h1.2 ?_⟩
  match k, hk with
  | 0, _ => decide
  | 1, _ => decide
  | 2, _ => decide
  | 3, _ => decide
theorem contR_no (s : ByteArray) (p : Nat) (h1 : 1 ≤ p) (h : ¬ (128 ≤ b8 s p ∧ b8 s p ≤ 191)) : ∀ k, p ≤ k → contR s k = false
  | 0, hk => by omega
  | k + 1, hk => by
    simp only [contR, Bool.and_eq_false_iff, decide_eq_false_iff_not]
    by_cases e : p = k + 1
    · subst e; exact .inr h
    · exact .inl (contR_no s p h1 h k (by omega))

set_option maxRecDepth 100000 in
set_option maxHeartbeats 4000000 in
theorem rrune_any (s : ByteArray) (w : World) (h0 : 0 < s.size) (hs : s.size ≤ 1000) : Calls Tryd.prog 53 #[.string s] w fun e w' => e = .returned (.int .i64 (rR s)) ∧ w = w' := by
  have hb0 := b8_of s 0 h0
  have hbl := b8_lt s 0
  unfold rR
  generalize b8 s 0 = b at hb0 hbl ⊢
  by_cases c0 : b < 128
  · rw [if_pos c0]
    have c0i : (b : Int) < 128 := by omega
    clear c0
    go_enter Tryd.func53, Tryd.ntmps53
    go_wp2
    go_ret
    exact ⟨rfl, rfl⟩
  rw [if_neg c0]
  have c0i : ¬ (b : Int) < 128 := by omega
  by_cases c1 : 192 ≤ b ∧ b < 224
  · rw [if_pos c1]
    have ca : (192 : Int) ≤ (b : Int) := by omega
    have cb : (b : Int) < 224 := by omega
    have ha : 0 ≤ (b : Int) - 192 ∧ (b : Int) - 192 < 32 := by omega
    unfold runeN
    by_cases hsz : s.size < 1 + 1
    · rw [if_pos hsz]
      have hszi : (s.size : Int) < 2 := by omega
      clear c0 c1 ha hsz
      go_enter Tryd.func53, Tryd.ntmps53
      go_wp2
      go_ret
      exact ⟨rfl, rfl⟩
    rw [if_neg hsz]
    have hszi : ¬ (s.size : Int) < 2 := by omega
    have hszn : 2 ≤ s.size := by omega
    have HA := hide ha
    obtain ⟨R, hR⟩ : ∃ R : Nat, (if contR s 1 = false then 0 else if accR s ((b : Int) - 192) 1 < 128 ∨ 1114111 < accR s ((b : Int) - 192) 1 ∨ (55296 ≤ accR s ((b : Int) - 192) 1 ∧ accR s ((b : Int) - 192) 1 < 57344) then 0 else 1 + 1) = R := ⟨_, rfl⟩
    rw [hR]
    have HR := hide hR
    clear c0 c1 hsz ha hR
    go_enter Tryd.func53, Tryd.ntmps53
    go_wp2
    go_loopw [6, 7] (fun c i wr => ∃ (p : Nat) (x : Int), 1 ≤ p ∧ p ≤ 2 ∧ i = .int .i64 p ∧ c = .int .i64 x ∧ Hid (contR s (p - 1) = true ∧ accR s ((b : Int) - 192) (p - 1) = x) ∧ 0 ≤ x ∧ x < 8388608 ∧ wr = w) (fun _ i _ => 2 - (intOf i).toNat)
    case atStart => exact ⟨1, (b : Int) - 192, Nat.le_refl _, by omega, rfl, rfl, ⟨rfl, rfl⟩, by omega, by omega, rfl⟩
    case round =>
      obtain ⟨p, x, hp1, hp2, rfl, rfl, HF, hx0, hx1, rfl⟩ := hrel
      by_cases hlt : p < 2
      · have hlti : (p : Int) < 2 := by omega
        have hps : p < s.size := by omega
        have hby := b8_of s p hps
        have hno := contR_no s p hp1
        have hsm := accR_small s ((b : Int) - 192) (unhide HA) p (by omega)
        have hc1 : contR s p = (contR s (p - 1) && decide (128 ≤ b8 s p ∧ b8 s p ≤ 191)) := by
          obtain ⟨q, rfl⟩ : ∃ q, p = q + 1 := ⟨p - 1, by omega⟩
          rfl
        have hc2 : accR s ((b : Int) - 192) p = 64 * accR s ((b : Int) - 192) (p - 1) + (b8 s p : Int) - 128 := by
          obtain ⟨q, rfl⟩ : ∃ q, p = q + 1 := ⟨p - 1, by omega⟩
          rfl
        rw [HF.out.1, Bool.true_and] at hc1
        rw [HF.out.2] at hc2
        generalize b8 s p = y at hby hno hc1 hc2
        by_cases hy1 : y < 128
        · have hyi : (y : Int) < 128 := by omega
          have h0 : R = 0 := by rw [← unhide HR, if_pos (hno (by omega) 1 (by omega))]
          clear hno hsm hc1 hc2 hlt
          subst h0
          go_wp2
          go_ret
          exact ⟨rfl, rfl⟩
        have hyi : ¬ (y : Int) < 128 := by omega
        by_cases hy2 : 191 < y
        · have hyj : (191 : Int) < (y : Int) := by omega
          have h0 : R = 0 := by rw [← unhide HR, if_pos (hno (by omega) 1 (by omega))]
          clear hno hsm hc1 hc2 hlt
          subst h0
          go_wp2
          go_ret
          exact ⟨rfl, rfl⟩
        have hyj : ¬ (191 : Int) < (y : Int) := by omega
        have hc3 : contR s p = true := by rw [hc1]; exact decide_eq_true (by omega)
        have hs2 := hsm hc3
        rw [hc2] at hs2
        have HN := hide (And.intro hc3 hc2)
        clear hno hsm hc1 hc2 hc3 hlt
        go_wp2
        go_roundw
        case rel => exact ⟨p + 1, 64 * x + (y : Int) - 128, by omega, by omega, by go_num, rfl, by rw [Nat.add_sub_cancel]; exact HN, by omega, by omega, trivial⟩
        case measure => simp [intOf]; omega
      · obtain rfl : p = 2 := by omega
        have hR2 := unhide HR
        have e1 : contR s 1 = true := HF.out.1
        have e2 : accR s ((b : Int) - 192) 1 = x := HF.out.2
        rw [if_neg (by rw [e1]; simp), e2] at hR2
        clear HR e1 e2 HF hlt
        by_cases k1 : x < 128
        · obtain rfl : R = 0 := by rw [← hR2, if_pos (.inl k1)]
          clear hR2
          go_wp2
          go_ret
          exact ⟨rfl, rfl⟩
        by_cases k2 : 1114111 < x
        · obtain rfl : R = 0 := by rw [← hR2, if_pos (.inr (.inl k2))]
          clear hR2
          go_wp2
          go_ret
          exact ⟨rfl, rfl⟩
        by_cases k3 : 55296 ≤ x
        · by_cases k4 : x < 57344
          · obtain rfl : R = 0 := by rw [← hR2, if_pos (.inr (.inr ⟨k3, k4⟩))]
            clear hR2
            go_wp2
            go_ret
            exact ⟨rfl, rfl⟩
          · obtain rfl : R = 2 := by rw [← hR2, if_neg (by omega)]
            clear hR2
            go_wp2
            go_ret
            exact ⟨rfl, rfl⟩
        · obtain rfl : R = 2 := by rw [← hR2, if_neg (by omega)]
          clear hR2
          go_wp2
          go_ret
          exact ⟨rfl, rfl⟩
  rw [if_neg c1]
  by_cases c2 : 224 ≤ b ∧ b < 240
  · rw [if_pos c2]
    have ca : (224 : Int) ≤ (b : Int) := by omega
    have cb : (b : Int) < 240 := by omega
    have cc : ¬ (b : Int) < 224 := by omega
    have cd : (192 : Int) ≤ (b : Int) := by omega
    have ha : 0 ≤ (b : Int) - 224 ∧ (b : Int) - 224 < 32 := by omega
    unfold runeN
    by_cases hsz : s.size < 2 + 1
    · rw [if_pos hsz]
      have hszi : (s.size : Int) < 3 := by omega
      clear c0 c2 ha hsz
      go_enter Tryd.func53, Tryd.ntmps53
      go_wp2
      go_ret
      exact ⟨rfl, rfl⟩
    rw [if_neg hsz]
    have hszi : ¬ (s.size : Int) < 3 := by omega
    have hszn : 3 ≤ s.size := by omega
    have HA := hide ha
    obtain ⟨R, hR⟩ : ∃ R : Nat, (if contR s 2 = false then 0 else if accR s ((b : Int) - 224) 2 < 2048 ∨ 1114111 < accR s ((b : Int) - 224) 2 ∨ (55296 ≤ accR s ((b : Int) - 224) 2 ∧ accR s ((b : Int) - 224) 2 < 57344) then 0 else 2 + 1) = R := ⟨_, rfl⟩
    rw [hR]
    have HR := hide hR
    clear c0 c2 hsz ha hR
    go_enter Tryd.func53, Tryd.ntmps53
    go_wp2
    go_loopw [6, 7] (fun c i wr => ∃ (p : Nat) (x : Int), 1 ≤ p ∧ p ≤ 3 ∧ i = .int .i64 p ∧ c = .int .i64 x ∧ Hid (contR s (p - 1) = true ∧ accR s ((b : Int) - 224) (p - 1) = x) ∧ 0 ≤ x ∧ x < 8388608 ∧ wr = w) (fun _ i _ => 3 - (intOf i).toNat)
    case atStart => exact ⟨1, (b : Int) - 224, Nat.le_refl _, by omega, rfl, rfl, ⟨rfl, rfl⟩, by omega, by omega, rfl⟩
    case round =>
      obtain ⟨p, x, hp1, hp2, rfl, rfl, HF, hx0, hx1, rfl⟩ := hrel
      by_cases hlt : p < 3
      · have hlti : (p : Int) < 3 := by omega
        have hps : p < s.size := by omega
        have hby := b8_of s p hps
        have hno := contR_no s p hp1
        have hsm := accR_small s ((b : Int) - 224) (unhide HA) p (by omega)
        have hc1 : contR s p = (contR s (p - 1) && decide (128 ≤ b8 s p ∧ b8 s p ≤ 191)) := by
          obtain ⟨q, rfl⟩ : ∃ q, p = q + 1 := ⟨p - 1, by omega⟩
          rfl
        have hc2 : accR s ((b : Int) - 224) p = 64 * accR s ((b : Int) - 224) (p - 1) + (b8 s p : Int) - 128 := by
          obtain ⟨q, rfl⟩ : ∃ q, p = q + 1 := ⟨p - 1, by omega⟩
          rfl
        rw [HF.out.1, Bool.true_and] at hc1
        rw [HF.out.2] at hc2
        generalize b8 s p = y at hby hno hc1 hc2
        by_cases hy1 : y < 128
        · have hyi : (y : Int) < 128 := by omega
          have h0 : R = 0 := by rw [← unhide HR, if_pos (hno (by omega) 2 (by omega))]
          clear hno hsm hc1 hc2 hlt
          subst h0
          go_wp2
          go_ret
          exact ⟨rfl, rfl⟩
        have hyi : ¬ (y : Int) < 128 := by omega
        by_cases hy2 : 191 < y
        · have hyj : (191 : Int) < (y : Int) := by omega
          have h0 : R = 0 := by rw [← unhide HR, if_pos (hno (by omega) 2 (by omega))]
          clear hno hsm hc1 hc2 hlt
          subst h0
          go_wp2
          go_ret
          exact ⟨rfl, rfl⟩
        have hyj : ¬ (191 : Int) < (y : Int) := by omega
        have hc3 : contR s p = true := by rw [hc1]; exact decide_eq_true (by omega)
        have hs2 := hsm hc3
        rw [hc2] at hs2
        have HN := hide (And.intro hc3 hc2)
        clear hno hsm hc1 hc2 hc3 hlt
        go_wp2
        go_roundw
        case rel => exact ⟨p + 1, 64 * x + (y : Int) - 128, by omega, by omega, by go_num, rfl, by rw [Nat.add_sub_cancel]; exact HN, by omega, by omega, trivial⟩
        case measure => simp [intOf]; omega
      · obtain rfl : p = 3 := by omega
        have hR2 := unhide HR
        have e1 : contR s 2 = true := HF.out.1
        have e2 : accR s ((b : Int) - 224) 2 = x := HF.out.2
        rw [if_neg (by rw [e1]; simp), e2] at hR2
        clear HR e1 e2 HF hlt
        by_cases k1 : x < 2048
        · obtain rfl : R = 0 := by rw [← hR2, if_pos (.inl k1)]
          clear hR2
          go_wp2
          go_ret
          exact ⟨rfl, rfl⟩
        by_cases k2 : 1114111 < x
        · obtain rfl : R = 0 := by rw [← hR2, if_pos (.inr (.inl k2))]
          clear hR2
          go_wp2
          go_ret
          exact ⟨rfl, rfl⟩
        by_cases k3 : 55296 ≤ x
        · by_cases k4 : x < 57344
          · obtain rfl : R = 0 := by rw [← hR2, if_pos (.inr (.inr ⟨k3, k4⟩))]
            clear hR2
            go_wp2
            go_ret
            exact ⟨rfl, rfl⟩
          · obtain rfl : R = 3 := by rw [← hR2, if_neg (by omega)]
            clear hR2
            go_wp2
            go_ret
            exact ⟨rfl, rfl⟩
        · obtain rfl : R = 3 := by rw [← hR2, if_neg (by omega)]
          clear hR2
          go_wp2
          go_ret
          exact ⟨rfl, rfl⟩
  rw [if_neg c2]
  by_cases c3 : 240 ≤ b ∧ b < 248
  · rw [if_pos c3]
    have ca : (240 : Int) ≤ (b : Int) := by omega
    have cb : (b : Int) < 248 := by omega
    have cc : ¬ (b : Int) < 224 := by omega
    have cd : (192 : Int) ≤ (b : Int) := by omega
    have ce : ¬ (b : Int) < 240 := by omega
    have cf : (224 : Int) ≤ (b : Int) := by omega
    have ha : 0 ≤ (b : Int) - 240 ∧ (b : Int) - 240 < 32 := by omega
    unfold runeN
    by_cases hsz : s.size < 3 + 1
    · rw [if_pos hsz]
      have hszi : (s.size : Int) < 4 := by omega
      clear c0 c3 ha hsz
      go_enter Tryd.func53, Tryd.ntmps53
      go_wp2
      go_ret
      exact ⟨rfl, rfl⟩
    rw [if_neg hsz]
    have hszi : ¬ (s.size : Int) < 4 := by omega
    have hszn : 4 ≤ s.size := by omega
    have HA := hide ha
    obtain ⟨R, hR⟩ : ∃ R : Nat, (if contR s 3 = false then 0 else if accR s ((b : Int) - 240) 3 < 65536 ∨ 1114111 < accR s ((b : Int) - 240) 3 ∨ (55296 ≤ accR s ((b : Int) - 240) 3 ∧ accR s ((b : Int) - 240) 3 < 57344) then 0 else 3 + 1) = R := ⟨_, rfl⟩
    rw [hR]
    have HR := hide hR
    clear c0 c3 hsz ha hR
    go_enter Tryd.func53, Tryd.ntmps53
    go_wp2
    go_loopw [6, 7] (fun c i wr => ∃ (p : Nat) (x : Int), 1 ≤ p ∧ p ≤ 4 ∧ i = .int .i64 p ∧ c = .int .i64 x ∧ Hid (contR s (p - 1) = true ∧ accR s ((b : Int) - 240) (p - 1) = x) ∧ 0 ≤ x ∧ x < 8388608 ∧ wr = w) (fun _ i _ => 4 - (intOf i).toNat)
    case atStart => exact ⟨1, (b : Int) - 240, Nat.le_refl _, by omega, rfl, rfl, ⟨rfl, rfl⟩, by omega, by omega, rfl⟩
    case round =>
      obtain ⟨p, x, hp1, hp2, rfl, rfl, HF, hx0, hx1, rfl⟩ := hrel
      by_cases hlt : p < 4
      · have hlti : (p : Int) < 4 := by omega
        have hps : p < s.size := by omega
        have hby := b8_of s p hps
        have hno := contR_no s p hp1
        have hsm := accR_small s ((b : Int) - 240) (unhide HA) p (by omega)
        have hc1 : contR s p = (contR s (p - 1) && decide (128 ≤ b8 s p ∧ b8 s p ≤ 191)) := by
          obtain ⟨q, rfl⟩ : ∃ q, p = q + 1 := ⟨p - 1, by omega⟩
          rfl
        have hc2 : accR s ((b : Int) - 240) p = 64 * accR s ((b : Int) - 240) (p - 1) + (b8 s p : Int) - 128 := by
          obtain ⟨q, rfl⟩ : ∃ q, p = q + 1 := ⟨p - 1, by omega⟩
          rfl
        rw [HF.out.1, Bool.true_and] at hc1
        rw [HF.out.2] at hc2
        generalize b8 s p = y at hby hno hc1 hc2
        by_cases hy1 : y < 128
        · have hyi : (y : Int) < 128 := by omega
          have h0 : R = 0 := by rw [← unhide HR, if_pos (hno (by omega) 3 (by omega))]
          clear hno hsm hc1 hc2 hlt
          subst h0
          go_wp2
          go_ret
          exact ⟨rfl, rfl⟩
        have hyi : ¬ (y : Int) < 128 := by omega
        by_cases hy2 : 191 < y
        · have hyj : (191 : Int) < (y : Int) := by omega
          have h0 : R = 0 := by rw [← unhide HR, if_pos (hno (by omega) 3 (by omega))]
          clear hno hsm hc1 hc2 hlt
          subst h0
          go_wp2
          go_ret
          exact ⟨rfl, rfl⟩
        have hyj : ¬ (191 : Int) < (y : Int) := by omega
        have hc3 : contR s p = true := by rw [hc1]; exact decide_eq_true (by omega)
        have hs2 := hsm hc3
        rw [hc2] at hs2
        have HN := hide (And.intro hc3 hc2)
        clear hno hsm hc1 hc2 hc3 hlt
        go_wp2
        go_roundw
        case rel => exact ⟨p + 1, 64 * x + (y : Int) - 128, by omega, by omega, by go_num, rfl, by rw [Nat.add_sub_cancel]; exact HN, by omega, by omega, trivial⟩
        case measure => simp [intOf]; omega
      · obtain rfl : p = 4 := by omega
        have hR2 := unhide HR
        have e1 : contR s 3 = true := HF.out.1
        have e2 : accR s ((b : Int) - 240) 3 = x := HF.out.2
        rw [if_neg (by rw [e1]; simp), e2] at hR2
        clear HR e1 e2 HF hlt
        by_cases k1 : x < 65536
        · obtain rfl : R = 0 := by rw [← hR2, if_pos (.inl k1)]
          clear hR2
          go_wp2
          go_ret
          exact ⟨rfl, rfl⟩
        by_cases k2 : 1114111 < x
        · obtain rfl : R = 0 := by rw [← hR2, if_pos (.inr (.inl k2))]
          clear hR2
          go_wp2
          go_ret
          exact ⟨rfl, rfl⟩
        by_cases k3 : 55296 ≤ x
        · by_cases k4 : x < 57344
          · obtain rfl : R = 0 := by rw [← hR2, if_pos (.inr (.inr ⟨k3, k4⟩))]
            clear hR2
            go_wp2
            go_ret
            exact ⟨rfl, rfl⟩
          · obtain rfl : R = 4 := by rw [← hR2, if_neg (by omega)]
            clear hR2
            go_wp2
            go_ret
            exact ⟨rfl, rfl⟩
        · obtain rfl : R = 4 := by rw [← hR2, if_neg (by omega)]
          clear hR2
          go_wp2
          go_ret
          exact ⟨rfl, rfl⟩
  rw [if_neg c3]
  by_cases hlo : b < 192
  · have d1 : ¬ (192 : Int) ≤ (b : Int) := by omega
    have d2 : ¬ (224 : Int) ≤ (b : Int) := by omega
    have d3 : ¬ (240 : Int) ≤ (b : Int) := by omega
    clear c0 c1 c2 c3 hlo
    go_enter Tryd.func53, Tryd.ntmps53
    go_wp2
    go_ret
    exact ⟨rfl, rfl⟩
  · have d1 : (192 : Int) ≤ (b : Int) := by omega
    have d2 : (224 : Int) ≤ (b : Int) := by omega
    have d3 : (240 : Int) ≤ (b : Int) := by omega
    have d4 : ¬ (b : Int) < 224 := by omega
    have d5 : ¬ (b : Int) < 240 := by omega
    have d6 : ¬ (b : Int) < 248 := by omega
    clear c0 c1 c2 c3 hlo
    go_enter Tryd.func53, Tryd.ntmps53
    go_wp2
    go_ret
    exact ⟨rfl, rfl⟩
end Go.Proofs.YtkkaieijbpkleaaDoor
