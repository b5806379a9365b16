import Derived.Test.YtkkaieijbpkleaaDoorBO
namespace Go.Proofs.YtkkaieijbpkleaaDoor
open Go.RowKit Go.Shelf

theorem fR_le (m : Msg) (hs : Small m) (k : Int) : (fR m k).length ≤ 1048600 := by
  have h1 := hs.pan
  have h2 := hs.code
  have h3 := hs.place
  have h4 := hs.name
  rw [Lib.size_eq] at h1 h2 h3 h4
  have h5 : (pkR (evenL m.pan.data.toList)).length ≤ 1048577 := by
    rw [pkR_length]
    unfold evenL
    split
    · rw [List.length_cons]; omega
    · omega
  have hn : ∀ a b, (numR a b).length = b := fun a b => by unfold numR; rw [pkR_length, decR_length]; omega
  unfold fR
  repeat' split
  all_goals (try rw [List.length_append]); (try rw [hn]); (try simp only [List.length_nil]); omega
theorem flatR_le (m : Msg) (hs : Small m) : ∀ l : List Int, (l.flatMap (fR m)).length ≤ l.length * 1048600
  | [] => Nat.le_refl _
  | x :: l => by
    have h1 := flatR_le m hs l
    have h2 := fR_le m hs x
    rw [List.flatMap_cons, List.length_append, List.length_cons]
    omega
theorem wF_le {m : Msg} (hs : Small m) (hk : m.kind.size ≤ 1000) (fs : List Nat) (hn : fs.length ≤ 64) : (wF m fs).length ≤ 68000000 := by
  have h1 := flatR_le m hs (fs.map fun (f : Nat) => (f : Int) + 1)
  rw [List.length_map] at h1
  have h2 : fs.length * 1048600 ≤ 64 * 1048600 := Nat.mul_le_mul_right _ hn
  rw [Lib.size_eq] at hk
  unfold wF
  rw [List.length_append, List.length_append, pkR_length, mapF_length]
  omega
/-- Both writers write the same, or neither may. -/
theorem okE_iff {m : Msg} {l : List Int} (hl : (fsOf l).map (fun (f : Nat) => (f : Int) + 1) = l) : (OkE m l ↔ dec ⟨(wF m (fsOf l)).toArray⟩ = (some (m, l), emp)) ∧ (OkE m l → wF m (fsOf l) = wI m l) := by
  have h1 : OkE m l → wF m (fsOf l) = wI m l := fun h => by
    have c := canon h
    have hm := (lay_ok c.lay).map
    have hr : wR m l = wI m l := c.r
    rw [← hr]
    unfold wF wR
    rw [hl, hm]
  refine ⟨⟨fun h => ?_, fun h => ?_⟩, h1⟩
  · rw [h1 h]; exact h
  · have c := canon h
    have hi : wI m l = wF m (fsOf l) := c.i
    unfold OkE
    rw [hi]; exact h
theorem fsOf_back : ∀ l : List Int, (∀ x ∈ l, 1 ≤ x ∧ x ≤ 64) → (fsOf l).map (fun (f : Nat) => (f : Int) + 1) = l
  | [], _ => rfl
  | x :: l, h => by
    have h1 := fsOf_back l fun y hy => h y (List.mem_cons_of_mem _ hy)
    have h2 := h x (List.mem_cons_self ..)
    show (((x - 1).toNat : Int) + 1) :: (fsOf l).map (fun (f : Nat) => (f : Int) + 1) = _
    rw [h1, show ((x - 1).toNat : Int) + 1 = x by omega]
theorem fsOf_le (l : List Int) (h : ∀ x ∈ l, 1 ≤ x ∧ x ≤ 64) : ∀ f ∈ fsOf l, f ≤ 63 := fun f hf => by
  obtain ⟨x, hx, rfl⟩ := List.mem_map.1 hf
  have := h x hx
  omega
/-- What a message that may be written is like. -/
structure Ready (m : Msg) (l : List Int) : Prop where
  kd : digL m.kind.data.toList = true
  k4 : m.kind.size = 4
  pan : m.pan.size = 0 ∨ (digL m.pan.data.toList = true ∧ 12 ≤ m.pan.size ∧ m.pan.size ≤ 19)
  amount : 0 ≤ m.amount
  trace : 0 ≤ m.trace
  more : 0 ≤ m.more
  name : m.name.size ≤ 40
  len : l.length ≤ 64
  each : ∀ x ∈ l, 1 ≤ x ∧ x ≤ 64
theorem okE_ready {m : Msg} {l : List Int} (h : OkE m l) : Ready m l := by
  have c := canon h
  refine ⟨(digL_iff _).2 c.kd, c.k4, ?_, c.good.amount, c.good.trace, c.good.more, c.good.name, ?_, fun x hx => ?_⟩
  · rcases c.good.pan with h | ⟨h1, h2, h3⟩
    · exact .inl h
    · exact .inr ⟨(digL_iff _).2 h1, h2, h3⟩
  · have := (lay_ok c.lay).five
    rw [show (fsOf l).length = l.length by simp [fsOf]] at this
    omega
  · have := lays_known _ _ c.lay x hx
    simp only [List.mem_cons, List.not_mem_nil, or_false] at this
    omega
theorem encPost_no {m : Msg} {l : List Int} {w w' : World} (h : ¬ Ready m l) (hb : Below w.heap.size w w') : EncPost m l w (.returned (.tuple #[.string ⟨#[]⟩, .int .i64 4])) w' :=
  ⟨emp, 4, rfl, .inr ⟨fun g => h (okE_ready g), rfl, rfl⟩, hb⟩
theorem isDig_at (s : ByteArray) (lo hi : Int) (hs : s.size ≤ 9223372036854775807) (b : Bool) (hb : (digL s.data.toList && (decide (lo ≤ (s.size : Int)) && decide ((s.size : Int) ≤ hi))) = b) (w : World) : Calls Tryd.prog 29 #[.string s, .int .i64 lo, .int .i64 hi] w fun e w' => e = .returned (.bool b) ∧ w = w' := by
  rw [← hb]; exact risDigits_any s lo hi hs w

set_option maxRecDepth 100000 in
set_option maxHeartbeats 4000000 in
theorem rencode_front (kd p : ByteArray) (a t : Int) (c pl nm : ByteArray) (mo : Int) (hs : Small ⟨kd, p, a, t, c, pl, nm, mo⟩) (hkd : kd.size ≤ 9223372036854775807) (l : List Int) (n : Nat) (hn : l.length = n) (hl : n ≤ 1000000000) (w : World) (a0 : Option Addr) (c0 : Nat)
    (hmain : 0 ≤ a → 0 ≤ t → 0 ≤ mo → nm.size ≤ 40 → n ≤ 64 → kd.size = 4 → (digL kd.data.toList && (decide (4 ≤ (kd.size : Int)) && decide ((kd.size : Int) ≤ 4))) = true → (p.size = 0 ∨ (¬ p.size = 0 ∧ (digL p.data.toList && (decide (12 ≤ (p.size : Int)) && decide ((p.size : Int) ≤ 19))) = true)) →
      Calls Tryd.prog 12 #[.agg (Msg.cells ⟨kd, p, a, t, c, pl, nm, mo⟩ (.slice a0 n c0))] w (EncPost ⟨kd, p, a, t, c, pl, nm, mo⟩ l w)) :
    Calls Tryd.prog 12 #[.agg (Msg.cells ⟨kd, p, a, t, c, pl, nm, mo⟩ (.slice a0 n c0))] w (EncPost ⟨kd, p, a, t, c, pl, nm, mo⟩ l w) := by
  have hps := hs.pan
  have hns := hs.name
  dsimp only at hps hns
  have hB0 : Below w.heap.size w (w.alloc (.cells (Msg.cells ⟨kd, p, a, t, c, pl, nm, mo⟩ (.slice a0 n c0)) 24)) := (Below.refl _ w).alloc (Nat.le_refl _) _
  have HB := hide hB0
  clear hB0
  have hmain := hide hmain
  have hrd := fun (h : Ready ⟨kd, p, a, t, c, pl, nm, mo⟩ l) => h
  have HS := hide hs
  clear hs
  obtain ⟨kB, hkB⟩ : ∃ b, (digL kd.data.toList && (decide (4 ≤ (kd.size : Int)) && decide ((kd.size : Int) ≤ 4))) = b := ⟨_, rfl⟩
  obtain ⟨pB, hpB⟩ : ∃ b, (digL p.data.toList && (decide (12 ≤ (p.size : Int)) && decide ((p.size : Int) ≤ 19))) = b := ⟨_, rfl⟩
  have HK := hide (fun (W : World) => isDig_at kd 4 4 hkd kB hkB W)
  have HP := hide (fun (W : World) => isDig_at p 12 19 (by omega) pB hpB W)
  have nok : kB = false → ¬ Ready ⟨kd, p, a, t, c, pl, nm, mo⟩ l := fun h r => by
    rw [h, r.kd, show (kd.size : Int) = 4 by have := r.k4; dsimp only at this; omega] at hkB; simp at hkB
  have nop : pB = false → ¬ p.size = 0 → ¬ Ready ⟨kd, p, a, t, c, pl, nm, mo⟩ l := fun h h0 r => by
    rcases r.pan with h1 | ⟨h1, h2, h3⟩
    · exact h0 h1
    · dsimp only at h1 h2 h3
      rw [h, h1, decide_eq_true (show (12 : Int) ≤ (p.size : Int) by omega), decide_eq_true (show (p.size : Int) ≤ 19 by omega)] at hpB; simp at hpB
  have k4 : kB = true → kd.size = 4 := fun h => by
    rw [h] at hkB
    simp at hkB
    omega
  have NOK := hide nok
  have NOP := hide nop
  have K4 := hide k4
  have HKB := hide hkB
  have HPB := hide hpB
  have HN := hide hn
  clear nok nop k4 hkB hpB hn hrd

  by_cases hpe : p.size = 0
  · have hp0 : (p.toList == ([] : List UInt8)) = true := by rw [Lib.toList_data, List.eq_nil_of_length_eq_zero ((Lib.size_eq p).symm.trans hpe)]; rfl
    have HPE := hide hpe
    clear hpe
    cases kB with
    | false =>
      have HNR : Hid (¬ Ready ⟨kd, p, a, t, c, pl, nm, mo⟩ l) := unhide NOK rfl
      unfold Msg.cells at *
      dsimp only at *
      go_enter Tryd.func12, Tryd.ntmps12
      go_wp2_with ((go_at_call 29; refine (unhide HK _).mono ?_; rintro e w1 ⟨rfl, rfl⟩; clear HK))
      go_ret2
      exact encPost_no (unhide HNR) (unhide HB)
    | true =>
      by_cases ha : a < 0
      · have hdum := ha
        clear hdum
        have HNR : Hid (¬ Ready ⟨kd, p, a, t, c, pl, nm, mo⟩ l) := fun r => by have := r.amount; dsimp only at this; omega
        unfold Msg.cells at *
        dsimp only at *
        go_enter Tryd.func12, Tryd.ntmps12
        go_wp2_with ((go_at_call 29; refine (unhide HK _).mono ?_; rintro e w1 ⟨rfl, rfl⟩; clear HK))
        go_ret2
        exact encPost_no (unhide HNR) (unhide HB)
      by_cases ht : t < 0
      · have hdum := ht
        clear hdum
        have HNR : Hid (¬ Ready ⟨kd, p, a, t, c, pl, nm, mo⟩ l) := fun r => by have := r.trace; dsimp only at this; omega
        unfold Msg.cells at *
        dsimp only at *
        go_enter Tryd.func12, Tryd.ntmps12
        go_wp2_with ((go_at_call 29; refine (unhide HK _).mono ?_; rintro e w1 ⟨rfl, rfl⟩; clear HK))
        go_ret2
        exact encPost_no (unhide HNR) (unhide HB)
      by_cases hm : mo < 0
      · have hdum := hm
        clear hdum
        have HNR : Hid (¬ Ready ⟨kd, p, a, t, c, pl, nm, mo⟩ l) := fun r => by have := r.more; dsimp only at this; omega
        unfold Msg.cells at *
        dsimp only at *
        go_enter Tryd.func12, Tryd.ntmps12
        go_wp2_with ((go_at_call 29; refine (unhide HK _).mono ?_; rintro e w1 ⟨rfl, rfl⟩; clear HK))
        go_ret2
        exact encPost_no (unhide HNR) (unhide HB)
      by_cases hnm : (40 : Int) < (nm.size : Int)
      · have hdum := hnm
        clear hdum
        have HNR : Hid (¬ Ready ⟨kd, p, a, t, c, pl, nm, mo⟩ l) := fun r => by have := r.name; dsimp only at this; omega
        unfold Msg.cells at *
        dsimp only at *
        go_enter Tryd.func12, Tryd.ntmps12
        go_wp2_with ((go_at_call 29; refine (unhide HK _).mono ?_; rintro e w1 ⟨rfl, rfl⟩; clear HK))
        go_ret2
        exact encPost_no (unhide HNR) (unhide HB)
      by_cases hl6 : (64 : Int) < (n : Int)
      · have hdum := hl6
        clear hdum
        have HNR : Hid (¬ Ready ⟨kd, p, a, t, c, pl, nm, mo⟩ l) := fun r => by have := r.len; rw [unhide HN] at this; omega
        unfold Msg.cells at *
        dsimp only at *
        go_enter Tryd.func12, Tryd.ntmps12
        go_wp2_with ((go_at_call 29; refine (unhide HK _).mono ?_; rintro e w1 ⟨rfl, rfl⟩; clear HK))
        go_ret2
        exact encPost_no (unhide HNR) (unhide HB)
      exact unhide hmain (by omega) (by omega) (by omega) (by omega) (by omega) (unhide K4 rfl) (unhide HKB) (.inl (unhide HPE))
  · have hp0 : (p.toList == ([] : List UInt8)) = false := by rw [beq_eq_false_iff_ne, Lib.toList_data]; exact fun g => hpe (by rw [Lib.size_eq, g]; rfl)
    have HPE := hide hpe
    clear hpe
    cases kB with
    | false =>
      have HNR : Hid (¬ Ready ⟨kd, p, a, t, c, pl, nm, mo⟩ l) := unhide NOK rfl
      unfold Msg.cells at *
      dsimp only at *
      go_enter Tryd.func12, Tryd.ntmps12
      go_wp2_with (first | (go_at_call 29; refine (unhide HK _).mono ?_; rintro e w1 ⟨rfl, rfl⟩; clear HK) | (go_at_call 29; refine (unhide HP _).mono ?_; rintro e w1 ⟨rfl, rfl⟩))
      go_ret2
      exact encPost_no (unhide HNR) (unhide HB)
    | true =>
      cases pB with
      | false =>
        have HNR : Hid (¬ Ready ⟨kd, p, a, t, c, pl, nm, mo⟩ l) := unhide NOP rfl (unhide HPE)
        unfold Msg.cells at *
        dsimp only at *
        go_enter Tryd.func12, Tryd.ntmps12
        go_wp2_with (first | (go_at_call 29; refine (unhide HK _).mono ?_; rintro e w1 ⟨rfl, rfl⟩; clear HK) | (go_at_call 29; refine (unhide HP _).mono ?_; rintro e w1 ⟨rfl, rfl⟩))
        go_ret2
        exact encPost_no (unhide HNR) (unhide HB)
      | true =>
        by_cases ha : a < 0
        · have hdum := ha
          clear hdum
          have HNR : Hid (¬ Ready ⟨kd, p, a, t, c, pl, nm, mo⟩ l) := fun r => by have := r.amount; dsimp only at this; omega
          unfold Msg.cells at *
          dsimp only at *
          go_enter Tryd.func12, Tryd.ntmps12
          go_wp2_with (first | (go_at_call 29; refine (unhide HK _).mono ?_; rintro e w1 ⟨rfl, rfl⟩; clear HK) | (go_at_call 29; refine (unhide HP _).mono ?_; rintro e w1 ⟨rfl, rfl⟩))
          go_ret2
          exact encPost_no (unhide HNR) (unhide HB)
        by_cases ht : t < 0
        · have hdum := ht
          clear hdum
          have HNR : Hid (¬ Ready ⟨kd, p, a, t, c, pl, nm, mo⟩ l) := fun r => by have := r.trace; dsimp only at this; omega
          unfold Msg.cells at *
          dsimp only at *
          go_enter Tryd.func12, Tryd.ntmps12
          go_wp2_with (first | (go_at_call 29; refine (unhide HK _).mono ?_; rintro e w1 ⟨rfl, rfl⟩; clear HK) | (go_at_call 29; refine (unhide HP _).mono ?_; rintro e w1 ⟨rfl, rfl⟩))
          go_ret2
          exact encPost_no (unhide HNR) (unhide HB)
        by_cases hm : mo < 0
        · have hdum := hm
          clear hdum
          have HNR : Hid (¬ Ready ⟨kd, p, a, t, c, pl, nm, mo⟩ l) := fun r => by have := r.more; dsimp only at this; omega
          unfold Msg.cells at *
          dsimp only at *
          go_enter Tryd.func12, Tryd.ntmps12
          go_wp2_with (first | (go_at_call 29; refine (unhide HK _).mono ?_; rintro e w1 ⟨rfl, rfl⟩; clear HK) | (go_at_call 29; refine (unhide HP _).mono ?_; rintro e w1 ⟨rfl, rfl⟩))
          go_ret2
          exact encPost_no (unhide HNR) (unhide HB)
        by_cases hnm : (40 : Int) < (nm.size : Int)
        · have hdum := hnm
          clear hdum
          have HNR : Hid (¬ Ready ⟨kd, p, a, t, c, pl, nm, mo⟩ l) := fun r => by have := r.name; dsimp only at this; omega
          unfold Msg.cells at *
          dsimp only at *
          go_enter Tryd.func12, Tryd.ntmps12
          go_wp2_with (first | (go_at_call 29; refine (unhide HK _).mono ?_; rintro e w1 ⟨rfl, rfl⟩; clear HK) | (go_at_call 29; refine (unhide HP _).mono ?_; rintro e w1 ⟨rfl, rfl⟩))
          go_ret2
          exact encPost_no (unhide HNR) (unhide HB)
        by_cases hl6 : (64 : Int) < (n : Int)
        · have hdum := hl6
          clear hdum
          have HNR : Hid (¬ Ready ⟨kd, p, a, t, c, pl, nm, mo⟩ l) := fun r => by have := r.len; rw [unhide HN] at this; omega
          unfold Msg.cells at *
          dsimp only at *
          go_enter Tryd.func12, Tryd.ntmps12
          go_wp2_with (first | (go_at_call 29; refine (unhide HK _).mono ?_; rintro e w1 ⟨rfl, rfl⟩; clear HK) | (go_at_call 29; refine (unhide HP _).mono ?_; rintro e w1 ⟨rfl, rfl⟩))
          go_ret2
          exact encPost_no (unhide HNR) (unhide HB)
        exact unhide hmain (by omega) (by omega) (by omega) (by omega) (by omega) (unhide K4 rfl) (unhide HKB) (.inr ⟨unhide HPE, unhide HPB⟩)

set_option maxRecDepth 100000 in
set_option maxHeartbeats 4000000 in
/-- Behind the tests: the fields one by one, the writing, the reading back. -/
theorem rencode_main (kd p : ByteArray) (A T M : Nat) (c pl nm : ByteArray) (hs : Small ⟨kd, p, A, T, c, pl, nm, M⟩) (l : List Int) (n : Nat) (hn : l.length = n) (h40 : nm.size ≤ 40) (h64 : n ≤ 64) (hk4 : kd.size = 4) (w : World) (a0 : Option Addr) (c0 : Nat) (hR : Lies w a0 l)
    (hkB : (digL kd.data.toList && (decide (4 ≤ (kd.size : Int)) && decide ((kd.size : Int) ≤ 4))) = true) (hpe : ¬ p.size = 0) (hpB : (digL p.data.toList && (decide (12 ≤ (p.size : Int)) && decide ((p.size : Int) ≤ 19))) = true) :
    Calls Tryd.prog 12 #[.agg (Msg.cells ⟨kd, p, A, T, c, pl, nm, M⟩ (.slice a0 n c0))] w (EncPost ⟨kd, p, A, T, c, pl, nm, M⟩ l w) := by
  obtain ⟨m, hm⟩ : ∃ m : Msg, (⟨kd, p, A, T, c, pl, nm, M⟩ : Msg) = m := ⟨_, rfl⟩
  obtain ⟨f, hf⟩ : ∃ f : ByteArray, (⟨(wF m (fsOf l)).toArray⟩ : ByteArray) = f := ⟨_, rfl⟩
  have hps := hs.pan
  have hcs := hs.code
  have hpls := hs.place
  have hA := hs.a1
  have hTt := hs.t1
  have hM := hs.m1
  rw [hm] at hs
  dsimp only at hps hcs hpls hA hTt hM
  have hB0 : Below w.heap.size w (w.alloc (.cells (Msg.cells ⟨kd, p, A, T, c, pl, nm, M⟩ (.slice a0 n c0)) 24)) := (Below.refl _ w).alloc (Nat.le_refl _) _
  have hbox : Ms (w.alloc (.cells (Msg.cells ⟨kd, p, A, T, c, pl, nm, M⟩ (.slice a0 n c0)) 24)) w.heap.size ⟨kd, p, A, T, c, pl, nm, M⟩ (.slice a0 n c0) := heap_alloc_new w _
  have hp0 : (p.toList == ([] : List UInt8)) = false := by rw [beq_eq_false_iff_ne, Lib.toList_data]; exact fun g => hpe (by rw [Lib.size_eq, g]; rfl)
  have HK := hide (fun (W : World) => isDig_at kd 4 4 (by omega) true hkB W)
  have HP := hide (fun (W : World) => isDig_at p 12 19 (by omega) true hpB W)
  clear hkB hpB hpe
  have HWr : Hid ((∀ x ∈ l, 1 ≤ x ∧ x ≤ 64) → ∀ W, Below w.heap.size w W → Calls Tryd.prog 30 #[.agg (Msg.cells ⟨kd, p, A, T, c, pl, nm, M⟩ (.slice a0 n c0))] W fun e w' => e = .returned (.string f) ∧ Below W.heap.size W w') := fun hall W hb => by
    rw [← hf, ← hm]
    exact rwritten_any kd p A T M c pl nm (by omega) (by omega) (by omega) (by omega) hps hcs hpls (by omega) (fsOf l) (fsOf_le l hall) n (by rw [← hn]; simp [fsOf]) h64 W a0 c0 (by rw [fsOf_back l hall]; exact hR.below hb)
  have hfs : f.size ≤ 9223372036854775807 := by
    rw [← hf, Lib.size_eq]
    exact Nat.le_trans (wF_le hs (by rw [← hm]; show kd.size ≤ 1000; omega) (fsOf l) (by rw [show (fsOf l).length = l.length by simp [fsOf], hn]; exact h64)) (by omega)
  have HD : Hid (∀ W, Calls Tryd.prog 7 #[.string f] W (DecPost (dec f) W)) := fun W => rdecode_any f W hfs
  have HSame : Hid (∀ (m1 : Msg) (l1 : List Int) (W : World) (a1 : Option Addr) (d1 : Nat), Below w.heap.size w W → Lies W a1 l1 → l1.length ≤ 1000000000 → Calls Tryd.prog 8 #[.agg (m1.cells (.slice a1 l1.length d1)), .agg (Msg.cells ⟨kd, p, A, T, c, pl, nm, M⟩ (.slice a0 n c0))] W (SamePost m1 m l1 l W)) :=
    fun m1 l1 W a1 d1 hb h1 hs1 => by
      obtain ⟨k1, p1, x1, t1, c1, pl1, n1, mo1⟩ := m1
      rw [← hm, ← hn]
      exact rsame_any k1 p1 x1 t1 c1 pl1 n1 mo1 kd p A T c pl nm M l1 l W a1 a0 d1 c0 h1 (hR.below hb) hs1 (by omega)
  have HFin : Hid ((∀ x ∈ l, 1 ≤ x ∧ x ≤ 64) → ∀ w', Below w.heap.size w w' → (dec f = (some (m, l), emp) → EncPost m l w (.returned (.tuple #[.string f, .int .i64 0])) w') ∧ (¬ dec f = (some (m, l), emp) → EncPost m l w (.returned (.tuple #[.string ⟨#[]⟩, .int .i64 4])) w')) := fun hall w' hb => by
    obtain ⟨h1, h2⟩ := okE_iff (m := m) (fsOf_back l hall)
    rw [hf] at h1
    exact ⟨fun h => ⟨f, 0, rfl, .inl ⟨h1.2 h, by rw [← hf, h2 (h1.2 h)], rfl⟩, hb⟩, fun h => ⟨emp, 4, rfl, .inr ⟨fun g => h (h1.1 g), rfl, rfl⟩, hb⟩⟩
  have HNo : Hid (¬ (∀ x ∈ l, 1 ≤ x ∧ x ≤ 64) → ¬ Ready m l) := fun h r => h r.each
  have HR0 := hide (hR.below hB0)
  have HN := hide hn
  have HM := hide hm
  have HL1 : Hid ((fldOf (dec f).1).length ≤ 1000000000) := Nat.le_trans (fld_small f) (by omega)
  have hd := dec_two f
  obtain ⟨q, hq⟩ : ∃ q, dec f = q := ⟨_, rfl⟩
  rw [hq] at HD HFin hd HL1
  have HDq := hide hd
  obtain ⟨W0, hW0⟩ : ∃ W, w.alloc (.cells (Msg.cells ⟨kd, p, A, T, c, pl, nm, M⟩ (.slice a0 n c0)) 24) = W := ⟨_, rfl⟩
  rw [hW0] at HR0 hbox hB0
  have HW0 := hide hW0
  have HBox := hide hbox
  obtain ⟨P0, P1, P2, P3, P4, P5, P6, P7, P8⟩ := hbox.nine
  have hA0 : ¬ (A : Int) < 0 := by omega
  have hT0 : ¬ (T : Int) < 0 := by omega
  have hM0 : ¬ (M : Int) < 0 := by omega
  have h40i : ¬ (40 : Int) < (nm.size : Int) := by omega
  have h64i : ¬ (64 : Int) < (n : Int) := by omega
  clear hs hn hm hf hfs hq hd hR hW0 hbox hps hcs hpls hA hTt hM hk4
  unfold Msg.cells at HW0
  unfold Msg.cells
  dsimp only at *
  go_enter Tryd.func12, Tryd.ntmps12
  go_wp2_with (first | (go_at_call 29; refine (unhide HK _).mono ?_; rintro e w1 ⟨rfl, rfl⟩; clear HK) | (go_at_call 29; refine (unhide HP _).mono ?_; rintro e w1 ⟨rfl, rfl⟩))
  go_loopw [6] (fun i wr => ∃ k : Nat, k ≤ n ∧ i = .int .i64 k ∧ Hid (∀ x ∈ l.take k, 1 ≤ x ∧ x ≤ 64) ∧ wr = W0) (fun i _ => n - (intOf i).toNat)
  case atStart => exact ⟨0, Nat.zero_le _, rfl, fun x hx => (by simp at hx), unhide HW0⟩
  case round =>
    obtain ⟨k, hk, rfl, HF, rfl⟩ := hrel
    by_cases hlt : k < n
    · have hlk : k < l.length := by rw [unhide HN]; exact hlt
      obtain ⟨ad, rfl, e1⟩ := unhide HR0 k l[k] (List.getElem?_eq_getElem hlk)
      have hbad : ¬ (1 ≤ l[k] ∧ l[k] ≤ 64) → ¬ (∀ x ∈ l, 1 ≤ x ∧ x ≤ 64) := fun h g => h (g _ (List.getElem_mem hlk))
      have hnx : (1 ≤ l[k] ∧ l[k] ≤ 64) → ∀ x ∈ l.take (k + 1), 1 ≤ x ∧ x ≤ 64 := fun h x hx => by
        rw [List.take_succ_eq_append_getElem hlk] at hx
        rcases List.mem_append.1 hx with h1 | h1
        · exact HF.out x h1
        · rw [List.mem_singleton.1 h1]; exact h
      generalize l[k] = x at e1 hbad hnx
      have HBad := hide hbad
      have HNx := hide hnx
      clear hbad hnx HF hlk
      by_cases h1 : x < 1
      · have HNR := hide (unhide HNo (unhide HBad (by omega)))
        go_wp2
        go_ret2
        rw [unhide HM]
        exact encPost_no (unhide HNR) hB0
      by_cases h2 : 64 < x
      · have HNR := hide (unhide HNo (unhide HBad (by omega)))
        go_wp2
        go_ret2
        rw [unhide HM]
        exact encPost_no (unhide HNR) hB0
      · have HN2 := hide (unhide HNx (by omega))
        go_wp2
        go_roundw
        case rel => exact ⟨k + 1, by omega, by go_num, HN2, trivial⟩
        case measure => simp [intOf]; omega
    · have hall : ∀ x ∈ l, 1 ≤ x ∧ x ≤ 64 := fun x hx => HF.out x (by rw [List.take_of_length_le (by rw [unhide HN]; omega)]; exact hx)
      have HW1 := hide (unhide HWr hall _ hB0)
      have HFn := hide (unhide HFin hall)
      clear hall HF HFin HWr HNo
      go_wp2_with fail
      refine (unhide HW1).mono ?_
      rintro e w1 ⟨rfl, hb1⟩
      have hB1 := hB0.trans (hb1.mono hB0.size)
      have hms1 := ms_below (unhide HBox) hb1
      clear P0 P1 P2 P3 P4 P5 P6 P7 P8
      go_wp2_with fail
      refine (unhide HD w1).mono ?_
      rintro e w3 ⟨v3, rfl, hrow3, hb3⟩
      have hB3 := hB1.trans (hb3.mono hB1.size)
      obtain ⟨a3, c3, rfl⟩ := row_slice hrow3
      have hms3 := ms_below hms1 hb3
      have hlt3 := hms3.lt
      rcases unhide HDq with ⟨m1, l1, rfl⟩ | ⟨nn, rfl⟩
      · by_cases hsm : m1 = m ∧ l1 = l
        · have HSM := hide hsm
          clear hsm
          obtain ⟨k1, p1, x1, t1, c1, pl1, n1, mo1⟩ := m1
          have hrow4 := hrow3.alloc (.cells (Msg.cells ⟨k1, p1, x1, t1, c1, pl1, n1, mo1⟩ (.slice a3 l1.length c3)) 24)
          have hB4 := hB3.alloc hB3.size (.cells (Msg.cells ⟨k1, p1, x1, t1, c1, pl1, n1, mo1⟩ (.slice a3 l1.length c3)) 24)
          have HS := hide (unhide HSame ⟨k1, p1, x1, t1, c1, pl1, n1, mo1⟩ l1 _ _ c3 hB4 (Lies.of_row hrow4) (unhide HL1))
          clear hrow4 hrow3
          obtain ⟨P0, P1, P2, P3, P4, P5, P6, P7, P8⟩ := hms3.nine
          unfold msgOf fldOf emp
          unfold Msg.cells at *
          dsimp only at *
          go_wp2_with fail
          refine (unhide HS).mono ?_
          rintro e w5 ⟨r, rfl, hr, hb5⟩
          have HRr := hide hr
          clear hr
          obtain rfl : r = true := (unhide HRr).2 (unhide HSM)
          go_wp2
          go_ret2
          rw [unhide HM]
          exact (unhide HFn _ (hB4.trans (hb5.mono hB4.size))).1 (by rw [(unhide HSM).1, (unhide HSM).2])
        · have HSM := hide hsm
          clear hsm
          obtain ⟨k1, p1, x1, t1, c1, pl1, n1, mo1⟩ := m1
          have hrow4 := hrow3.alloc (.cells (Msg.cells ⟨k1, p1, x1, t1, c1, pl1, n1, mo1⟩ (.slice a3 l1.length c3)) 24)
          have hB4 := hB3.alloc hB3.size (.cells (Msg.cells ⟨k1, p1, x1, t1, c1, pl1, n1, mo1⟩ (.slice a3 l1.length c3)) 24)
          have HS := hide (unhide HSame ⟨k1, p1, x1, t1, c1, pl1, n1, mo1⟩ l1 _ _ c3 hB4 (Lies.of_row hrow4) (unhide HL1))
          clear hrow4 hrow3
          obtain ⟨P0, P1, P2, P3, P4, P5, P6, P7, P8⟩ := hms3.nine
          unfold msgOf fldOf emp
          unfold Msg.cells at *
          dsimp only at *
          go_wp2_with fail
          refine (unhide HS).mono ?_
          rintro e w5 ⟨r, rfl, hr, hb5⟩
          have HRr := hide hr
          clear hr
          obtain rfl : r = false := by cases r with | false => rfl | true => exact absurd ((unhide HRr).1 rfl) (unhide HSM)
          go_wp2
          go_ret2
          rw [unhide HM]
          exact (unhide HFn _ (hB4.trans (hb5.mono hB4.size))).2 (fun e => unhide HSM (by simp only [Prod.mk.injEq, Option.some.injEq] at e; exact e.1))
      · have hne2 : ((why nn).toList == ([] : List UInt8)) = false := by rw [Lib.toList_data]; rfl
        have hrow4 := hrow3.alloc (.cells (Msg.cells (emptyMsg emp) (.slice a3 0 c3)) 24)
        have hB4 := hB3.alloc hB3.size (.cells (Msg.cells (emptyMsg emp) (.slice a3 0 c3)) 24)
        have HS := hide (unhide HSame (emptyMsg emp) [] _ _ c3 hB4 (Lies.of_row hrow4) (Nat.zero_le _))
        clear hrow4 hrow3
        obtain ⟨P0, P1, P2, P3, P4, P5, P6, P7, P8⟩ := hms3.nine
        unfold msgOf fldOf
        unfold Msg.cells emptyMsg emp at *
        dsimp only at *
        go_wp2_with fail
        refine (unhide HS).mono ?_
        rintro e w5 ⟨r, rfl, hr, hb5⟩
        clear hr
        go_wp2
        go_ret2
        rw [unhide HM]
        exact (unhide HFn _ (hB4.trans (hb5.mono hB4.size))).2 (by simp)

set_option maxRecDepth 100000 in
set_option maxHeartbeats 4000000 in
/-- Behind the tests: the fields one by one, the writing, the reading back. -/
theorem rencode_main0 (kd p : ByteArray) (A T M : Nat) (c pl nm : ByteArray) (hs : Small ⟨kd, p, A, T, c, pl, nm, M⟩) (l : List Int) (n : Nat) (hn : l.length = n) (h40 : nm.size ≤ 40) (h64 : n ≤ 64) (hk4 : kd.size = 4) (w : World) (a0 : Option Addr) (c0 : Nat) (hR : Lies w a0 l)
    (hkB : (digL kd.data.toList && (decide (4 ≤ (kd.size : Int)) && decide ((kd.size : Int) ≤ 4))) = true) (hpe : p.size = 0) :
    Calls Tryd.prog 12 #[.agg (Msg.cells ⟨kd, p, A, T, c, pl, nm, M⟩ (.slice a0 n c0))] w (EncPost ⟨kd, p, A, T, c, pl, nm, M⟩ l w) := by
  obtain ⟨m, hm⟩ : ∃ m : Msg, (⟨kd, p, A, T, c, pl, nm, M⟩ : Msg) = m := ⟨_, rfl⟩
  obtain ⟨f, hf⟩ : ∃ f : ByteArray, (⟨(wF m (fsOf l)).toArray⟩ : ByteArray) = f := ⟨_, rfl⟩
  have hps := hs.pan
  have hcs := hs.code
  have hpls := hs.place
  have hA := hs.a1
  have hTt := hs.t1
  have hM := hs.m1
  rw [hm] at hs
  dsimp only at hps hcs hpls hA hTt hM
  have hB0 : Below w.heap.size w (w.alloc (.cells (Msg.cells ⟨kd, p, A, T, c, pl, nm, M⟩ (.slice a0 n c0)) 24)) := (Below.refl _ w).alloc (Nat.le_refl _) _
  have hbox : Ms (w.alloc (.cells (Msg.cells ⟨kd, p, A, T, c, pl, nm, M⟩ (.slice a0 n c0)) 24)) w.heap.size ⟨kd, p, A, T, c, pl, nm, M⟩ (.slice a0 n c0) := heap_alloc_new w _
  have hp0 : (p.toList == ([] : List UInt8)) = true := by rw [Lib.toList_data, List.eq_nil_of_length_eq_zero ((Lib.size_eq p).symm.trans hpe)]; rfl
  have HK := hide (fun (W : World) => isDig_at kd 4 4 (by omega) true hkB W)
  clear hkB hpe
  have HWr : Hid ((∀ x ∈ l, 1 ≤ x ∧ x ≤ 64) → ∀ W, Below w.heap.size w W → Calls Tryd.prog 30 #[.agg (Msg.cells ⟨kd, p, A, T, c, pl, nm, M⟩ (.slice a0 n c0))] W fun e w' => e = .returned (.string f) ∧ Below W.heap.size W w') := fun hall W hb => by
    rw [← hf, ← hm]
    exact rwritten_any kd p A T M c pl nm (by omega) (by omega) (by omega) (by omega) hps hcs hpls (by omega) (fsOf l) (fsOf_le l hall) n (by rw [← hn]; simp [fsOf]) h64 W a0 c0 (by rw [fsOf_back l hall]; exact hR.below hb)
  have hfs : f.size ≤ 9223372036854775807 := by
    rw [← hf, Lib.size_eq]
    exact Nat.le_trans (wF_le hs (by rw [← hm]; show kd.size ≤ 1000; omega) (fsOf l) (by rw [show (fsOf l).length = l.length by simp [fsOf], hn]; exact h64)) (by omega)
  have HD : Hid (∀ W, Calls Tryd.prog 7 #[.string f] W (DecPost (dec f) W)) := fun W => rdecode_any f W hfs
  have HSame : Hid (∀ (m1 : Msg) (l1 : List Int) (W : World) (a1 : Option Addr) (d1 : Nat), Below w.heap.size w W → Lies W a1 l1 → l1.length ≤ 1000000000 → Calls Tryd.prog 8 #[.agg (m1.cells (.slice a1 l1.length d1)), .agg (Msg.cells ⟨kd, p, A, T, c, pl, nm, M⟩ (.slice a0 n c0))] W (SamePost m1 m l1 l W)) :=
    fun m1 l1 W a1 d1 hb h1 hs1 => by
      obtain ⟨k1, p1, x1, t1, c1, pl1, n1, mo1⟩ := m1
      rw [← hm, ← hn]
      exact rsame_any k1 p1 x1 t1 c1 pl1 n1 mo1 kd p A T c pl nm M l1 l W a1 a0 d1 c0 h1 (hR.below hb) hs1 (by omega)
  have HFin : Hid ((∀ x ∈ l, 1 ≤ x ∧ x ≤ 64) → ∀ w', Below w.heap.size w w' → (dec f = (some (m, l), emp) → EncPost m l w (.returned (.tuple #[.string f, .int .i64 0])) w') ∧ (¬ dec f = (some (m, l), emp) → EncPost m l w (.returned (.tuple #[.string ⟨#[]⟩, .int .i64 4])) w')) := fun hall w' hb => by
    obtain ⟨h1, h2⟩ := okE_iff (m := m) (fsOf_back l hall)
    rw [hf] at h1
    exact ⟨fun h => ⟨f, 0, rfl, .inl ⟨h1.2 h, by rw [← hf, h2 (h1.2 h)], rfl⟩, hb⟩, fun h => ⟨emp, 4, rfl, .inr ⟨fun g => h (h1.1 g), rfl, rfl⟩, hb⟩⟩
  have HNo : Hid (¬ (∀ x ∈ l, 1 ≤ x ∧ x ≤ 64) → ¬ Ready m l) := fun h r => h r.each
  have HR0 := hide (hR.below hB0)
  have HN := hide hn
  have HM := hide hm
  have HL1 : Hid ((fldOf (dec f).1).length ≤ 1000000000) := Nat.le_trans (fld_small f) (by omega)
  have hd := dec_two f
  obtain ⟨q, hq⟩ : ∃ q, dec f = q := ⟨_, rfl⟩
  rw [hq] at HD HFin hd HL1
  have HDq := hide hd
  obtain ⟨W0, hW0⟩ : ∃ W, w.alloc (.cells (Msg.cells ⟨kd, p, A, T, c, pl, nm, M⟩ (.slice a0 n c0)) 24) = W := ⟨_, rfl⟩
  rw [hW0] at HR0 hbox hB0
  have HW0 := hide hW0
  have HBox := hide hbox
  obtain ⟨P0, P1, P2, P3, P4, P5, P6, P7, P8⟩ := hbox.nine
  have hA0 : ¬ (A : Int) < 0 := by omega
  have hT0 : ¬ (T : Int) < 0 := by omega
  have hM0 : ¬ (M : Int) < 0 := by omega
  have h40i : ¬ (40 : Int) < (nm.size : Int) := by omega
  have h64i : ¬ (64 : Int) < (n : Int) := by omega
  clear hs hn hm hf hfs hq hd hR hW0 hbox hps hcs hpls hA hTt hM hk4
  unfold Msg.cells at HW0
  unfold Msg.cells
  dsimp only at *
  go_enter Tryd.func12, Tryd.ntmps12
  go_wp2_with (go_at_call 29; refine (unhide HK _).mono ?_; rintro e w1 ⟨rfl, rfl⟩; clear HK)
  go_loopw [6] (fun i wr => ∃ k : Nat, k ≤ n ∧ i = .int .i64 k ∧ Hid (∀ x ∈ l.take k, 1 ≤ x ∧ x ≤ 64) ∧ wr = W0) (fun i _ => n - (intOf i).toNat)
  case atStart => exact ⟨0, Nat.zero_le _, rfl, fun x hx => (by simp at hx), unhide HW0⟩
  case round =>
    obtain ⟨k, hk, rfl, HF, rfl⟩ := hrel
    by_cases hlt : k < n
    · have hlk : k < l.length := by rw [unhide HN]; exact hlt
      obtain ⟨ad, rfl, e1⟩ := unhide HR0 k l[k] (List.getElem?_eq_getElem hlk)
      have hbad : ¬ (1 ≤ l[k] ∧ l[k] ≤ 64) → ¬ (∀ x ∈ l, 1 ≤ x ∧ x ≤ 64) := fun h g => h (g _ (List.getElem_mem hlk))
      have hnx : (1 ≤ l[k] ∧ l[k] ≤ 64) → ∀ x ∈ l.take (k + 1), 1 ≤ x ∧ x ≤ 64 := fun h x hx => by
        rw [List.take_succ_eq_append_getElem hlk] at hx
        rcases List.mem_append.1 hx with h1 | h1
        · exact HF.out x h1
        · rw [List.mem_singleton.1 h1]; exact h
      generalize l[k] = x at e1 hbad hnx
      have HBad := hide hbad
      have HNx := hide hnx
      clear hbad hnx HF hlk
      by_cases h1 : x < 1
      · have HNR := hide (unhide HNo (unhide HBad (by omega)))
        go_wp2
        go_ret2
        rw [unhide HM]
        exact encPost_no (unhide HNR) hB0
      by_cases h2 : 64 < x
      · have HNR := hide (unhide HNo (unhide HBad (by omega)))
        go_wp2
        go_ret2
        rw [unhide HM]
        exact encPost_no (unhide HNR) hB0
      · have HN2 := hide (unhide HNx (by omega))
        go_wp2
        go_roundw
        case rel => exact ⟨k + 1, by omega, by go_num, HN2, trivial⟩
        case measure => simp [intOf]; omega
    · have hall : ∀ x ∈ l, 1 ≤ x ∧ x ≤ 64 := fun x hx => HF.out x (by rw [List.take_of_length_le (by rw [unhide HN]; omega)]; exact hx)
      have HW1 := hide (unhide HWr hall _ hB0)
      have HFn := hide (unhide HFin hall)
      clear hall HF HFin HWr HNo
      go_wp2_with fail
      refine (unhide HW1).mono ?_
      rintro e w1 ⟨rfl, hb1⟩
      have hB1 := hB0.trans (hb1.mono hB0.size)
      have hms1 := ms_below (unhide HBox) hb1
      clear P0 P1 P2 P3 P4 P5 P6 P7 P8
      go_wp2_with fail
      refine (unhide HD w1).mono ?_
      rintro e w3 ⟨v3, rfl, hrow3, hb3⟩
      have hB3 := hB1.trans (hb3.mono hB1.size)
      obtain ⟨a3, c3, rfl⟩ := row_slice hrow3
      have hms3 := ms_below hms1 hb3
      have hlt3 := hms3.lt
      rcases unhide HDq with ⟨m1, l1, rfl⟩ | ⟨nn, rfl⟩
      · by_cases hsm : m1 = m ∧ l1 = l
        · have HSM := hide hsm
          clear hsm
          obtain ⟨k1, p1, x1, t1, c1, pl1, n1, mo1⟩ := m1
          have hrow4 := hrow3.alloc (.cells (Msg.cells ⟨k1, p1, x1, t1, c1, pl1, n1, mo1⟩ (.slice a3 l1.length c3)) 24)
          have hB4 := hB3.alloc hB3.size (.cells (Msg.cells ⟨k1, p1, x1, t1, c1, pl1, n1, mo1⟩ (.slice a3 l1.length c3)) 24)
          have HS := hide (unhide HSame ⟨k1, p1, x1, t1, c1, pl1, n1, mo1⟩ l1 _ _ c3 hB4 (Lies.of_row hrow4) (unhide HL1))
          clear hrow4 hrow3
          obtain ⟨P0, P1, P2, P3, P4, P5, P6, P7, P8⟩ := hms3.nine
          unfold msgOf fldOf emp
          unfold Msg.cells at *
          dsimp only at *
          go_wp2_with fail
          refine (unhide HS).mono ?_
          rintro e w5 ⟨r, rfl, hr, hb5⟩
          have HRr := hide hr
          clear hr
          obtain rfl : r = true := (unhide HRr).2 (unhide HSM)
          go_wp2
          go_ret2
          rw [unhide HM]
          exact (unhide HFn _ (hB4.trans (hb5.mono hB4.size))).1 (by rw [(unhide HSM).1, (unhide HSM).2])
        · have HSM := hide hsm
          clear hsm
          obtain ⟨k1, p1, x1, t1, c1, pl1, n1, mo1⟩ := m1
          have hrow4 := hrow3.alloc (.cells (Msg.cells ⟨k1, p1, x1, t1, c1, pl1, n1, mo1⟩ (.slice a3 l1.length c3)) 24)
          have hB4 := hB3.alloc hB3.size (.cells (Msg.cells ⟨k1, p1, x1, t1, c1, pl1, n1, mo1⟩ (.slice a3 l1.length c3)) 24)
          have HS := hide (unhide HSame ⟨k1, p1, x1, t1, c1, pl1, n1, mo1⟩ l1 _ _ c3 hB4 (Lies.of_row hrow4) (unhide HL1))
          clear hrow4 hrow3
          obtain ⟨P0, P1, P2, P3, P4, P5, P6, P7, P8⟩ := hms3.nine
          unfold msgOf fldOf emp
          unfold Msg.cells at *
          dsimp only at *
          go_wp2_with fail
          refine (unhide HS).mono ?_
          rintro e w5 ⟨r, rfl, hr, hb5⟩
          have HRr := hide hr
          clear hr
          obtain rfl : r = false := by cases r with | false => rfl | true => exact absurd ((unhide HRr).1 rfl) (unhide HSM)
          go_wp2
          go_ret2
          rw [unhide HM]
          exact (unhide HFn _ (hB4.trans (hb5.mono hB4.size))).2 (fun e => unhide HSM (by simp only [Prod.mk.injEq, Option.some.injEq] at e; exact e.1))
      · have hne2 : ((why nn).toList == ([] : List UInt8)) = false := by rw [Lib.toList_data]; rfl
        have hrow4 := hrow3.alloc (.cells (Msg.cells (emptyMsg emp) (.slice a3 0 c3)) 24)
        have hB4 := hB3.alloc hB3.size (.cells (Msg.cells (emptyMsg emp) (.slice a3 0 c3)) 24)
        have HS := hide (unhide HSame (emptyMsg emp) [] _ _ c3 hB4 (Lies.of_row hrow4) (Nat.zero_le _))
        clear hrow4 hrow3
        obtain ⟨P0, P1, P2, P3, P4, P5, P6, P7, P8⟩ := hms3.nine
        unfold msgOf fldOf
        unfold Msg.cells emptyMsg emp at *
        dsimp only at *
        go_wp2_with fail
        refine (unhide HS).mono ?_
        rintro e w5 ⟨r, rfl, hr, hb5⟩
        clear hr
        go_wp2
        go_ret2
        rw [unhide HM]
        exact (unhide HFn _ (hB4.trans (hb5.mono hB4.size))).2 (by simp)

/-- The reference's Encode answers what iso's does. -/
theorem rencode_any (m : Msg) (hs : Small m) (hkd : m.kind.size ≤ 9223372036854775807) (l : List Int) (n : Nat) (hn : l.length = n) (hl : n ≤ 1000000000) (w : World) (a0 : Option Addr) (c0 : Nat) (hR : Lies w a0 l) :
    Calls Tryd.prog 12 #[.agg (m.cells (.slice a0 n c0))] w (EncPost m l w) := by
  obtain ⟨kd, p, a, t, c, pl, nm, mo⟩ := m
  refine rencode_front kd p a t c pl nm mo hs hkd l n hn hl w a0 c0 fun ha ht hm h40 h64 hk4 hkB hp => ?_
  obtain ⟨A, rfl⟩ : ∃ A : Nat, a = (A : Int) := ⟨a.toNat, by omega⟩
  obtain ⟨T, rfl⟩ : ∃ T : Nat, t = (T : Int) := ⟨t.toNat, by omega⟩
  obtain ⟨M, rfl⟩ : ∃ M : Nat, mo = (M : Int) := ⟨mo.toNat, by omega⟩
  rcases hp with hp | ⟨hp, hpB⟩
  · exact rencode_main0 kd p A T M c pl nm hs l n hn h40 h64 hk4 w a0 c0 hR hkB hp
  · exact rencode_main kd p A T M c pl nm hs l n hn h40 h64 hk4 w a0 c0 hR hkB hp hpB
end Go.Proofs.YtkkaieijbpkleaaDoor
