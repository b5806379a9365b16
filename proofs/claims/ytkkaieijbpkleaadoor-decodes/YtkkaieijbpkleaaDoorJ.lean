import Derived.Test.YtkkaieijbpkleaaDoorI
namespace Go.Proofs.YtkkaieijbpkleaaDoor
open Go.RowKit Go.Shelf

theorem lays_small (k : ByteArray) : (lays k).length ≤ 2 ∧ ∀ l ∈ lays k, l.length ≤ 5 := by
  unfold lays
  repeat' split
  all_goals decide

set_option maxRecDepth 100000 in
set_option maxHeartbeats 1000000 in
theorem allowed_any (k : ByteArray) (l : List Int) (w : World) {base n : Nat} {v : Value} (hv : w.ownsRow base 3 1 v n (l.map (Value.int .i64))) (hn : n ≤ 1000000000) :
    Calls Tryd.prog 20 #[.string k, v] w fun e w' => e = .returned (.bool (decide (l ∈ lays k))) ∧ Below w.heap.size w w' := by
  have hcall := fun w => layouts_any k w
  obtain ⟨hs1, hs2⟩ := lays_small k
  generalize lays k = ls at hcall hs1 hs2 ⊢
  have HC := hide hcall
  have HS := hide hs2
  clear hcall hs2
  go_enter Tryd.func20, Tryd.ntmps20
  go_wp2_with fail
  refine (unhide HC _).mono ?_
  rintro e w1 ⟨v1, rfl, ⟨vs, hrow1, hin⟩, hB1⟩
  obtain ⟨a1, c1, rfl⟩ := row_slice hrow1
  have hvl : vs.length = ls.length := by have := hrow1.1; omega
  have HV := hide hvl
  have HI := hide hin
  clear hvl hin
  go_wp2
  go_loopw [10] (fun i wr => ∃ j m : Nat, j ≤ ls.length ∧ i = .int .i64 j ∧ Hid (l ∉ ls.take j) ∧ wr = w1.drewN m) (fun i _ => ls.length - (intOf i).toNat)
  case atStart => exact ⟨0, 0, Nat.zero_le _, rfl, by simp [Hid], rfl⟩
  case round =>
    obtain ⟨j, m, hj, rfl, HF, rfl⟩ := hrel
    by_cases hlt : j < ls.length
    · rcases row_form hrow1 with ⟨h0, _⟩ | ⟨_, g1, d1, he1, _, hcells1⟩
      · omega
      obtain ⟨rfl, rfl⟩ : a1 = some ⟨g1, 0, none⟩ ∧ c1 = d1 := by simpa using he1
      have hjv : j < vs.length := by rw [unhide HV]; exact hlt
      have hcj := hcells1 j vs[j] (List.getElem?_eq_getElem hjv)
      have hrj := unhide HI j vs[j] ls[j] (List.getElem?_eq_getElem hjv) (List.getElem?_eq_getElem hlt)
      have hsj := unhide HS ls[j] (List.getElem_mem hlt)
      obtain ⟨a2, c2, he2⟩ := row_slice hrj
      rw [he2] at hcj hrj
      have htk : ls.take (j + 1) = ls.take j ++ [ls[j]] := List.take_succ_eq_append_getElem hlt
      have hmem : ls[j] ∈ ls := List.getElem_mem hlt
      generalize ls[j] = lj at hrj hsj htk hmem hcj
      have heq := equal_any lj l (w1.drewN m) (row_drawn hrj) (row_drawn (row_below hv hB1)) (by omega) hn
      have HE := hide heq
      have HT := hide htk
      clear hcells1 he1 he2 heq htk
      by_cases h : lj = l
      · have hyes : decide (l ∈ ls) = true := decide_eq_true (h ▸ hmem)
        have HY := hide hyes
        have HD := hide (decide_eq_true h)
        clear hyes hmem h
        go_wp2_with (go_at_call 34; refine (unhide HE).mono ?_; rintro e w2 ⟨rfl, m2, rfl⟩; rw [unhide HD])
        go_ret
        exact ⟨ret_bool (unhide HY).symm, below_drawn hB1⟩
      · have HN : Hid (l ∉ ls.take (j + 1)) := by
          show l ∉ ls.take (j + 1)
          rw [unhide HT]
          simp only [List.mem_append, List.mem_cons, List.not_mem_nil, or_false, not_or]
          exact ⟨HF.out, fun e => h e.symm⟩
        have HD := hide (decide_eq_false h)
        clear hmem h
        go_wp2_with (go_at_call 34; refine (unhide HE).mono ?_; rintro e w2 ⟨rfl, m2, rfl⟩; rw [unhide HD])
        go_roundw
        case rel => exact ⟨j + 1, m + m2, by omega, by go_num, HN, by simp⟩
        case measure => simp [intOf]; omega
    · have hno : decide (l ∈ ls) = false := decide_eq_false (by
        have := HF.out
        rwa [List.take_of_length_le (by omega)] at this)
      have HN := hide hno
      clear hno HF
      go_wp2
      go_ret
      exact ⟨ret_bool (unhide HN).symm, below_drawn hB1⟩
end Go.Proofs.YtkkaieijbpkleaaDoor
