import Derived.Test.YtkkaieijbpkleaaDoorU
namespace Go.Proofs.YtkkaieijbpkleaaDoor
open Go.RowKit Go.Shelf

def keepR (b : Bool) (x : Int) : Bool := decide (x ≠ 43) || !b
def restR (b : Bool) (l : List Int) : List Int := l.filter (keepR b)
theorem restR_snoc (b : Bool) (l : List Int) (x : Int) : restR b (l ++ [x]) = if keepR b x then restR b l ++ [x] else restR b l := by
  unfold restR
  rw [List.filter_append]
  cases h : keepR b x <;> simp [h]
theorem restR_length (b : Bool) (l : List Int) : (restR b l).length ≤ l.length := List.length_filter_le _ _

set_option maxRecDepth 100000 in
set_option maxHeartbeats 2000000 in
theorem rallowed_any (k : ByteArray) (l : List Int) (w : World) {base n : Nat} {v : Value} (hv : w.ownsRow base 3 1 v n (l.map (Value.int .i64))) (hn : n ≤ 1000) :
    Calls Tryd.prog 25 #[.string k, v] w fun e w' => e = .returned (.bool (decide (restR (mayK k) l = fr k))) ∧ Below w.heap.size w w' := by
  obtain ⟨i0, hi, hz0, hz1, hz2⟩ := info_parts info3
  have hl : l.length = n := by have := hv.1; simpa using this
  have HL := hide hl
  clear hl
  obtain ⟨a0, c0, rfl⟩ := row_slice hv
  have hf := fun w => rfields_any k w
  have hm := fun w => rmay_any k w
  have hfl : (fr k).length ≤ 5 := by
    unfold fr
    have h1 := (lays_small k).2
    generalize lays k = ls at h1 ⊢
    cases ls with
    | nil => exact Nat.zero_le _
    | cons x _ => exact h1 x (by simp)
  generalize fr k = want at hf hfl ⊢
  generalize mayK k = mb at hm ⊢
  generalize decide (lays k = []) = nl at hf
  have HF := hide hf
  have HM := hide hm
  clear hf hm
  obtain ⟨R, hR⟩ : ∃ R, decide (restR mb l = want) = R := ⟨_, rfl⟩
  rw [hR]
  have HR := hide hR
  clear hR
  go_enter Tryd.func25, Tryd.ntmps25
  go_wp2_with (go_at_call 23; refine (unhide HF _).mono ?_; rintro e w1 ⟨v1, rfl, _, hrow1, hB1⟩)
  obtain ⟨a1, c1, rfl⟩ := row_slice hrow1
  have hv1 := row_below hv hB1
  have HV1 := hide hv1
  have HR1 := hide hrow1
  clear hv hv1 hrow1
  have hb1 := hB1.size
  go_loopw [6, 7] (fun v i wr => ∃ (j : Nat) (lr : List Int), j ≤ n ∧ i = .int .i64 j ∧ Hid (restR mb (l.take j) = lr) ∧ lr.length ≤ j ∧ wr.ownsRow w1.heap.size 3 1 v lr.length (lr.map (Value.int .i64)) ∧ Below w1.heap.size w1 wr) (fun _ i _ => n - (intOf i).toNat)
  case atStart => exact ⟨0, [], Nat.zero_le _, rfl, rfl, Nat.le_refl _, World.ownsRow_nil _ _ _ _, Below.refl _ _⟩
  case round =>
    obtain ⟨j, lr, hj, rfl, HJ, hjl, hrow, hB⟩ := hrel
    by_cases hlt : j < n
    · have hlk : j < l.length := by rw [unhide HL]; exact hlt
      rcases row_form (row_below (unhide HV1) hB) with ⟨h0, _⟩ | ⟨_, g1, d1, he1, _, hcells1⟩
      · omega
      obtain ⟨rfl, rfl⟩ : a0 = some ⟨g1, 0, none⟩ ∧ c0 = d1 := by simpa using he1
      have hck := hcells1 j (.int .i64 l[j]) (by rw [List.getElem?_map, List.getElem?_eq_getElem hlk]; rfl)
      have hnx : restR mb (l.take (j + 1)) = if keepR mb l[j] then lr ++ [l[j]] else lr := by
        rw [List.take_succ_eq_append_getElem hlk, restR_snoc, HJ.out]
      generalize l[j] = x at hck hnx
      have hbb := hB.size
      clear hcells1 he1 HJ
      by_cases hx : x = 43
      · subst hx
        cases mb with
        | true =>
          rw [if_neg (by decide)] at hnx
          have HN := hide hnx
          clear hnx
          go_wp2_with (go_at_call 36; refine (unhide HM _).mono ?_; rintro e w2 ⟨rfl, rfl⟩)
          go_roundw
          case rel => exact ⟨j + 1, lr, by omega, by go_num, HN, by omega, hrow, hB⟩
          case measure => simp [intOf]; omega
        | false =>
          rw [if_pos (by decide)] at hnx
          have HN := hide hnx
          clear hnx
          go_wp2_with (first | (go_at_call 36; refine (unhide HM _).mono ?_; rintro e w2 ⟨rfl, rfl⟩) | (at_builtin; refine wpList_append_own _ rfl _ _ 22 rfl w1.heap.size 3 i0 _ 1 8 Tryd.underlying22 hi hz0 hz1 hz2 rfl (by decide) _ lr.length _ rfl (hrow.alloc _) ⟨_, 0, none⟩ 1 1 [.int .i64 43] rfl rfl (cell_one_new _ _ _) (by simp [Value.oneCell']) (by unfold maxLen; omega) (by omega) (by simp; omega) ?_; intro v' w2 hown' hgrow _))
          have hB2 : Below w1.heap.size w1 w2 := hB.alloc hB.size _ |>.grown hgrow (by simp; omega) (fun r e => (hrow.lt r e).1)
          go_roundw
          case rel => exact ⟨j + 1, lr ++ [43], by omega, by go_num, HN, by simp; omega, by simpa using hown', hB2⟩
          case measure => simp [intOf]; omega
      · have hxb : (x == 43) = false := by simpa using hx
        rw [if_pos (by simp [keepR, hx])] at hnx
        have HN := hide hnx
        clear hnx
        go_wp2_with (first | (go_at_call 36; refine (unhide HM _).mono ?_; rintro e w2 ⟨rfl, rfl⟩) | (at_builtin; refine wpList_append_own _ rfl _ _ 22 rfl w1.heap.size 3 i0 _ 1 8 Tryd.underlying22 hi hz0 hz1 hz2 rfl (by decide) _ lr.length _ rfl (hrow.alloc _) ⟨_, 0, none⟩ 1 1 [.int .i64 x] rfl rfl (cell_one_new _ _ _) (by simp [Value.oneCell']) (by unfold maxLen; omega) (by omega) (by simp; omega) ?_; intro v' w2 hown' hgrow _))
        have hB2 : Below w1.heap.size w1 w2 := hB.alloc hB.size _ |>.grown hgrow (by simp; omega) (fun r e => (hrow.lt r e).1)
        go_roundw
        case rel => exact ⟨j + 1, lr ++ [x], by omega, by go_num, HN, by simp; omega, by simpa using hown', hB2⟩
        case measure => simp [intOf]; omega
    · have hall : restR mb l = lr := by rw [← HJ.out, List.take_of_length_le (by rw [unhide HL]; omega)]
      have hR := unhide HR
      rw [hall] at hR
      have HRR := hide hR
      clear hall HJ hR HR
      have h2 := row_below (unhide HR1) hB
      have hBw : Below w.heap.size w wr := hB1.trans (hB.mono hB1.size)
      obtain ⟨a2, c2, rfl⟩ := row_slice hrow
      generalize hnl : lr.length = n2 at hrow hjl
      by_cases hne : n2 = want.length
      · subst hne
        have HN2 := hide hnl
        clear hnl
        go_wp2
        go_loopw [9] (fun i wx => ∃ p m : Nat, p ≤ want.length ∧ i = .int .i64 p ∧ Hid (lr.take p = want.take p) ∧ wx = wr.drewN m) (fun i _ => want.length - (intOf i).toNat)
        case atStart => exact ⟨0, 0, Nat.zero_le _, rfl, rfl, rfl⟩
        case round =>
          obtain ⟨p, m, hp, rfl, HP, rfl⟩ := hrel
          by_cases hpl : p < want.length
          · have hk1 : p < lr.length := by rw [unhide HN2]; exact hpl
            rcases row_form hrow with ⟨h0, _⟩ | ⟨_, g1, d1, he1, _, hcells1⟩
            · omega
            rcases row_form h2 with ⟨h0, _⟩ | ⟨_, g2, d2, he2, _, hcells2⟩
            · omega
            obtain ⟨rfl, rfl⟩ : a2 = some ⟨g1, 0, none⟩ ∧ c2 = d1 := by simpa using he1
            obtain ⟨rfl, rfl⟩ : a1 = some ⟨g2, 0, none⟩ ∧ c1 = d2 := by simpa using he2
            have e1 := hcells1 p (.int .i64 lr[p]) (by rw [List.getElem?_map, List.getElem?_eq_getElem hk1]; rfl)
            have e2 := hcells2 p (.int .i64 want[p]) (by rw [List.getElem?_map, List.getElem?_eq_getElem hpl]; rfl)
            by_cases heq : lr[p] = want[p]
            · have hnx : lr.take (p + 1) = want.take (p + 1) := by rw [List.take_succ_eq_append_getElem hk1, List.take_succ_eq_append_getElem hpl, HP.out, heq]
              have HX := hide hnx
              rw [heq] at e1
              generalize want[p] = x at e1 e2
              clear hcells1 hcells2 he1 he2 hnx heq HP hrow h2 HR1 HV1
              go_wp2
              go_quiet (fail)
              go_wp2
              go_roundw
              case rel => exact ⟨p + 1, m + nq, by omega, by go_num, HX, by simp⟩
              case measure => simp [intOf]; omega
            · have hno : decide (lr = want) = false := decide_eq_false (fun e => heq (by simp [e]))
              have HN := hide hno
              have hb : (lr[p] == want[p]) = false := by simpa using heq
              generalize lr[p] = x at e1 hb heq
              generalize want[p] = y at e2 hb heq
              clear hcells1 hcells2 he1 he2 hno HP hrow h2 HR1 HV1
              go_wp2
              go_quiet (fail)
              go_wp2
              go_ret
              exact ⟨ret_bool ((unhide HN).symm.trans (unhide HRR)), by simpa using below_drawn hBw⟩
          · have hall : decide (lr = want) = true := decide_eq_true (by
              have := HP.out
              rwa [List.take_of_length_le (by rw [unhide HN2]; omega), List.take_of_length_le (by omega)] at this)
            have HN := hide hall
            clear hall HP hrow h2 HR1 HV1
            go_wp2
            go_ret
            exact ⟨ret_bool ((unhide HN).symm.trans (unhide HRR)), below_drawn hBw⟩
      · have hno : decide (lr = want) = false := decide_eq_false (fun e => hne (by rw [← hnl, e]))
        have HN := hide hno
        have hb : ((n2 : Int) == (want.length : Int)) = false := by simp; omega
        clear hno h2 hrow hnl
        go_wp2
        go_ret
        exact ⟨ret_bool ((unhide HN).symm.trans (unhide HRR)), hBw⟩

/-- A list that rises. -/
def Rise (l : List Int) : Prop := l.Pairwise (· < ·)
theorem flds_rise (s : ByteArray) (k : Nat) : Rise (flds s k) := by
  unfold Rise flds
  rw [List.pairwise_map]
  refine (List.Pairwise.filter _ (List.pairwise_lt_range)).imp ?_
  intro a b h
  omega

theorem rest_43 (l : List Int) (hr : Rise l) : (restR true l = [2, 4, 11, 41]) ↔ (l = [2, 4, 11, 41] ∨ l = [2, 4, 11, 41, 43]) := by
  constructor
  · intro h
    by_cases hm : (43 : Int) ∈ l
    · obtain ⟨l1, l2, rfl⟩ := List.append_of_mem hm
      have h2 : ∀ x ∈ l2, (43 : Int) < x := by
        have := (List.pairwise_append.1 hr).2.1
        exact fun x hx => (List.pairwise_cons.1 this).1 x hx
      have h1 : ∀ x ∈ l1, x < (43 : Int) := fun x hx => (List.pairwise_append.1 hr).2.2 x hx 43 (by simp)
      have e1 : restR true l1 = l1 := List.filter_eq_self.2 fun x hx => by have := h1 x hx; simp [keepR]; omega
      have e2 : restR true l2 = l2 := List.filter_eq_self.2 fun x hx => by have := h2 x hx; simp [keepR]; omega
      have e3 : restR true (l1 ++ 43 :: l2) = l1 ++ l2 := by
        unfold restR at e1 e2 ⊢
        rw [List.filter_append, List.filter_cons_of_neg (by decide), e1, e2]
      rw [e3] at h
      have hl2 : l2 = [] := by
        cases l2 with
        | nil => rfl
        | cons x t =>
          have hx := h2 x (by simp)
          have : x ∈ ([2, 4, 11, 41] : List Int) := by rw [← h]; simp
          simp at this; omega
      subst hl2
      rw [List.append_nil] at h
      subst h
      exact .inr rfl
    · have e : restR true l = l := List.filter_eq_self.2 fun x hx => by
        have : x ≠ 43 := fun e => hm (e ▸ hx)
        simp [keepR, this]
      rw [e] at h
      exact .inl h
  · rintro (rfl | rfl) <;> decide

theorem rest_all (l : List Int) : restR false l = l := List.filter_eq_self.2 fun x _ => by simp [keepR]
theorem allowed_eq (k : ByteArray) (l : List Int) (hr : Rise l) (hk : lays k ≠ []) : decide (restR (mayK k) l = fr k) = decide (l ∈ lays k) := by
  rw [decide_eq_decide]
  by_cases hm : k = kd 48 49 48 48 ∨ k = kd 48 52 48 48 ∨ k = kd 48 52 50 48
  · have e1 : mayK k = true := decide_eq_true hm
    have e2 : lays k = [[2, 4, 11, 41], [2, 4, 11, 41, 43]] := by unfold lays; rw [if_pos hm]
    have e3 : fr k = [2, 4, 11, 41] := by unfold fr; rw [e2]; rfl
    rw [e1, e2, e3, rest_43 l hr]
    simp
  · have e1 : mayK k = false := decide_eq_false hm
    have e2 : ∃ x, lays k = [x] := by
      unfold lays at hk ⊢
      rw [if_neg hm] at hk ⊢
      repeat' split
      all_goals first | exact ⟨_, rfl⟩ | skip
      simp_all
    obtain ⟨x, hx⟩ := e2
    have e3 : fr k = x := by unfold fr; rw [hx]; rfl
    rw [e1, e3, hx, rest_all]
    simp
end Go.Proofs.YtkkaieijbpkleaaDoor
