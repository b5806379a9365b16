import Derived.Test.YtkkaieijbpkleaaDoorCC
namespace Go.Proofs.YtkkaieijbpkleaaDoor
open Go.RowKit Go.Shelf

theorem take_size (s : ByteArray) (b : Bool) (n : Nat) : (takeP s b n).1.size ≤ n := by
  unfold takeP
  split
  · exact Nat.zero_le _
  · show (s.extract 0 n).size ≤ n
    rw [ByteArray.size_extract]; omega
theorem number_le (s : ByteArray) (b : Bool) (n : Nat) (hn : n ≤ 6) : -9223372036854775808 ≤ (numberP s b n).1 ∧ (numberP s b n).1 ≤ 9223372036854775807 := by
  have h1 := vlL_bound _ (dg_isDig (takeP s b n).1)
  have h2 := dg_size (takeP s b n).1
  have h3 := take_size s b n
  have h4 : (10 : Int) ^ (dg (takeP s b n).1).data.toList.length ≤ 10 ^ 12 := by
    rw [← Lib.size_eq]
    have h := Int.ofNat_le.2 (Nat.pow_le_pow_right (n := 10) (by decide) (show (dg (takeP s b n).1).size ≤ 12 by omega))
    rw [Int.natCast_pow, Int.natCast_pow] at h
    exact h
  have h5 : (numberP s b n).1 = vlL (dg (takeP s b n).1).data.toList := rfl
  rw [h5]
  have h6 : (10 : Int) ^ 12 = 1000000000000 := by decide
  omega
/-- What is bounded by reading alone. -/
structure Sm (m : Msg) : Prop where
  code : m.code.size ≤ 8
  place : m.place.size ≤ 8
  a : -9223372036854775808 ≤ m.amount ∧ m.amount ≤ 9223372036854775807
  t : -9223372036854775808 ≤ m.trace ∧ m.trace ≤ 9223372036854775807
  m : -9223372036854775808 ≤ m.more ∧ m.more ≤ 9223372036854775807
theorem zero_in : (-9223372036854775808 : Int) ≤ 0 ∧ (0 : Int) ≤ 9223372036854775807 := by decide
theorem step_sm (st : Msg × ByteArray × Bool) (n : Int) (h : Sm st.1) : Sm (stepP st n).1 := by
  obtain ⟨h1, h2, h3, h4, h5⟩ := h
  have p2 := take_size st.2.1 st.2.2 2
  have p8 := take_size st.2.1 st.2.2 8
  unfold stepP
  repeat' split
  · exact ⟨h1, h2, h3, h4, h5⟩
  · exact ⟨h1, h2, number_le _ _ 6 (by omega), h4, h5⟩
  · exact ⟨h1, h2, h3, number_le _ _ 3 (by omega), h5⟩
  · exact ⟨Nat.le_trans p2 (by omega), h2, h3, h4, h5⟩
  · exact ⟨h1, p8, h3, h4, h5⟩
  · exact ⟨h1, h2, h3, h4, h5⟩
  · exact ⟨h1, h2, h3, h4, number_le _ _ 6 (by omega)⟩
  · exact ⟨h1, h2, h3, h4, h5⟩
theorem fold_sm : ∀ (l : List Int) (st : Msg × ByteArray × Bool), Sm st.1 → Sm (foldP st l).1
  | [], _, h => h
  | n :: l, st, h => by
    show Sm (foldP (stepP st n) l).1
    exact fold_sm l _ (step_sm st n h)
theorem dec_small {f : ByteArray} {m : Msg} {l : List Int} {w : ByteArray} (h : dec f = (some (m, l), w)) : Small m := by
  have c := canon h
  have hsm : Sm m := by
    unfold dec at h
    repeat' split at h
    all_goals first | (simp at h; done) | skip
    simp only [Prod.mk.injEq, Option.some.injEq] at h
    rw [← h.1.1]
    exact fold_sm _ _ ⟨Nat.zero_le _, Nat.zero_le _, zero_in, zero_in, zero_in⟩
  have hp : m.pan.size ≤ 1048576 := by
    rcases c.good.pan with h | ⟨_, _, h⟩
    · omega
    · omega
  have hn := c.good.name
  exact ⟨hp, Nat.le_trans hsm.code (by omega), Nat.le_trans hsm.place (by omega), by omega, hsm.a.1, hsm.a.2, hsm.t.1, hsm.t.2, hsm.m.1, hsm.m.2⟩
/-- What was read may be written: the same bytes. -/
theorem dec_okE {f : ByteArray} {m : Msg} {l : List Int} (h : dec f = (some (m, l), emp)) : OkE m l ∧ (⟨(wI m l).toArray⟩ : ByteArray) = f := by
  have c := canon h
  have e : (⟨(wI m l).toArray⟩ : ByteArray) = f := by
    apply ext_list
    rw [← c.i]
  exact ⟨by unfold OkE; rw [e]; exact h, e⟩
/-- Encode of what was read. -/
theorem encode_back {f : ByteArray} {m : Msg} {l : List Int} (h : dec f = (some (m, l), emp)) (w : World) (hT : Tabs w) (hT10 : T10 w) {b0 : Nat} {v : Value} (hv : w.ownsRow b0 3 1 v l.length (l.map (Value.int .i64))) :
    Calls Tryd.prog 11 #[.agg (m.cells v)] w fun e w' => e = .returned (.tuple #[.string f, .int .i64 0]) ∧ Below w.heap.size w w' := by
  obtain ⟨h1, h2⟩ := dec_okE h
  have hl : l.length ≤ 64 := by
    have := fld_small f
    rw [h] at this
    exact this
  refine (encode_any m (dec_small h) l w hT hT10 hv (by omega)).mono ?_
  rintro e w' ⟨s, x, rfl, hc, hb⟩
  rcases hc with ⟨_, rfl, rfl⟩ | ⟨h3, _⟩
  · exact ⟨by rw [h2], hb⟩
  · exact absurd h1 h3
theorem asked_any (k c a t p : Nat) (hk : k < 3) (hc : c < 6) (ha : a < 300) (ht : t < 12) (hp : p < 3) (w : World) : Calls Tryd.prog 32 #[.int .i64 k, .int .i64 c, .int .i64 a, .int .i64 t, .int .i64 p] w fun e w' => e = .returned (.string (ba ([0, 34] ++ bodyL k c a t p))) ∧ Below w.heap.size w w' := by
  match k, hk with
  | 0, _ => exact asked_0 c a t p hc ha ht hp w
  | 1, _ => exact asked_1 c a t p hc ha ht hp w
  | 2, _ => exact asked_2 c a t p hc ha ht hp w
theorem tdiv_b (a n : Int) (hn : 1 ≤ n) (h0 : -9223372036854775808 ≤ a) (h1 : a ≤ 9223372036854775807) : -9223372036854775808 ≤ a.tdiv n ∧ a.tdiv n ≤ 9223372036854775807 := by
  rcases Int.lt_or_le a 0 with h | h
  · have e : a.tdiv n = -((-a).tdiv n) := by rw [Int.neg_tdiv, Int.neg_neg]
    have h2 : 0 ≤ (-a).tdiv n := Int.tdiv_nonneg (by omega) (by omega)
    have h3 : (-a).tdiv n ≤ -a := by rw [Int.tdiv_eq_ediv_of_nonneg (by omega)]; exact Int.ediv_le_self _ (by omega)
    omega
  · have h2 : 0 ≤ a.tdiv n := Int.tdiv_nonneg h (by omega)
    have h3 : a.tdiv n ≤ a := by rw [Int.tdiv_eq_ediv_of_nonneg h]; exact Int.ediv_le_self _ h
    omega

/-- A deed's cells. -/
def deedC (k c a t p : Nat) : Array Value := #[.int .i64 k, .int .i64 c, .int .i64 a, .int .i64 t, .int .i64 p]
set_option maxRecDepth 100000 in
set_option maxHeartbeats 1000000 in
theorem made_any (a b c : Int) (a0 : -9223372036854775808 ≤ a) (a1 : a ≤ 9223372036854775807) (b0 : -9223372036854775808 ≤ b) (b1 : b ≤ 9223372036854775807) (c0 : -9223372036854775808 ≤ c) (c1 : c ≤ 9223372036854775807) (w : World) :
    Calls Tryd.prog 13 #[.int .i64 a, .int .i64 b, .int .i64 c] w fun e w' => ∃ k cd am tr wh : Nat, e = .returned (.agg (deedC k cd am tr wh)) ∧ (k < 3 ∧ cd < 6 ∧ am < 300 ∧ tr < 12 ∧ wh < 3) ∧ Below w.heap.size w w' := by
  have da := tdiv_b a 5 (by omega) a0 a1
  have dc := tdiv_b c 12 (by omega) c0 c1
  go_enter Tryd.func13, Tryd.ntmps13
  go_wp2_with fail
  refine (pick_5 a a0 a1 _).mono ?_
  rintro e w1 ⟨r1, rfl, hr1, _, rfl⟩
  obtain ⟨k, hk⟩ : ∃ k, r1 / 2 = k := ⟨_, rfl⟩
  have hki : (r1 : Int) / 2 = (k : Int) := by omega
  have hk3 : k < 3 := by omega
  clear hk
  go_wp2_with fail
  refine (pick_6 _ da.1 da.2 _).mono ?_
  rintro e w1 ⟨cd, rfl, hcd, _, rfl⟩
  go_wp2_with fail
  refine (pick_300 b b0 b1 _).mono ?_
  rintro e w1 ⟨am, rfl, ham, _, rfl⟩
  go_wp2_with fail
  refine (pick_12 c c0 c1 _).mono ?_
  rintro e w1 ⟨tr, rfl, htr, _, rfl⟩
  go_wp2_with fail
  refine (pick_3 _ dc.1 dc.2 _).mono ?_
  rintro e w1 ⟨wh, rfl, hwh, _, rfl⟩
  go_wp2
  refine bodyPost_ret (v := .agg (deedC k cd am tr wh)) (by simp [results, Tryd.f13, go_sem, deedC]) rfl ⟨k, cd, am, tr, wh, rfl, ⟨hk3, hcd, ham, htr, hwh⟩, (Below.refl _ w).alloc (Nat.le_refl _) _⟩

set_option maxRecDepth 100000 in
set_option maxHeartbeats 1000000 in
theorem frame_any (k c a t p : Nat) (hk : k < 3) (hc : c < 6) (ha : a < 300) (ht : t < 12) (hp : p < 3) (w : World) : Calls Tryd.prog 14 #[.agg (deedC k c a t p)] w fun e w' => e = .returned (.string (ba ([0, 34] ++ bodyL k c a t p))) ∧ Below w.heap.size w w' := by
  have HA := hide (fun W : World => asked_any k c a t p hk hc ha ht hp W)
  obtain ⟨R, hR⟩ : ∃ R, ba ([0, 34] ++ bodyL k c a t p) = R := ⟨_, rfl⟩
  rw [hR] at HA ⊢
  unfold deedC
  go_enter Tryd.func14, Tryd.ntmps14
  go_wp2_with (go_at_call 32; refine (unhide HA _).mono ?_; rintro e w1 ⟨rfl, hb1⟩)
  go_ret
  exact ⟨rfl, ((Below.refl _ w).alloc (Nat.le_refl _) _).trans (hb1.mono (by simp))⟩
end Go.Proofs.YtkkaieijbpkleaaDoor
