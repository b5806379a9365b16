import Derived.Test.YtkkaieijbpkleaaDoorB
import Derived.Lib.OthersKept
import Derived.Deep.LoopGhost
namespace Go.Proofs.YtkkaieijbpkleaaDoor
open Go.RowKit

theorem takeP_rest (s : ByteArray) (b : Bool) (n : Nat) : (takeP s b n).2.1.size ≤ s.size := by
  unfold takeP
  split
  · exact Nat.le_refl _
  · show (s.extract n s.size).size ≤ s.size
    rw [ByteArray.size_extract]; omega

theorem digits_any (w : World) (rb : Nat) (s : ByteArray) (b : Bool) (n : Int) (h : Rd w rb s b) (h0 : 0 ≤ n) (h1 : n ≤ 500) (hs : s.size ≤ 9223372036854775807) :
    Calls Tryd.prog 56 #[.pointer (some ⟨rb, 0, none⟩), .int .i64 n] w fun e w' => e = .returned (.string (digitsP s b n.toNat).1) ∧ Rd w' rb (digitsP s b n.toNat).2.1 (digitsP s b n.toNat).2.2 ∧ w.grownBy w' (some rb) := by
  have hts : (takeP s b n.toNat).1.size ≤ 1000 := by have := takeP_size s b n.toNat; omega
  have hcall := fun w (h : Rd w rb s b) => take_any w rb s b n h h0 (by omega) hs
  unfold digitsP
  generalize takeP s b n.toNat = q at hts hcall ⊢
  obtain ⟨t, s', b'⟩ := q
  dsimp only at hts hcall ⊢
  have HC := hide hcall
  have HS := hide hts
  clear hcall hts
  go_enter Tryd.func56, Tryd.ntmps56
  go_wp2_with (first | (go_at_call 59; refine (unhide HC _ h).mono ?_; rintro e w1 ⟨rfl, hr1, hg1⟩) | (go_at_call 17; refine (unpack_any _ _ (unhide HS)).mono ?_; rintro e w2 ⟨rfl, hb2⟩) | (go_at_call 58; refine (must_any _ _ _ _ _ (hr1.kept (below_grown' hb2) (by simp))).mono ?_; rintro e w3 ⟨rfl, hr3, hg3⟩))
  go_ret
  exact ⟨rfl, hr3, grown_trans (grown_trans hg1 (below_grown hb2 _)) hg3⟩

theorem vl_small (l : List UInt8) (h : isDig l) (hl : l.length ≤ 12) : 0 ≤ vlL l ∧ vlL l < 1000000000000 := by
  have h1 := vlL_bound l h
  refine ⟨h1.1, Int.lt_of_lt_of_le h1.2 ?_⟩
  have h2 : 10 ^ l.length ≤ 10 ^ 12 := Nat.pow_le_pow_right (by omega) hl
  have h3 : ((10 ^ l.length : Nat) : Int) ≤ ((10 ^ 12 : Nat) : Int) := Int.ofNat_le.2 h2
  rw [Int.natCast_pow] at h3
  exact h3

set_option maxRecDepth 100000 in
set_option maxHeartbeats 1000000 in
theorem number_any (w : World) (rb : Nat) (s : ByteArray) (b : Bool) (n : Int) (h : Rd w rb s b) (h0 : 0 ≤ n) (h1 : n ≤ 6) (hs : s.size ≤ 9223372036854775807) :
    Calls Tryd.prog 50 #[.pointer (some ⟨rb, 0, none⟩), .int .i64 n] w fun e w' => e = .returned (.int .i64 (numberP s b n.toNat).1) ∧ Rd w' rb (numberP s b n.toNat).2.1 (numberP s b n.toNat).2.2 ∧ w.grownBy w' (some rb) := by
  have hD : isDig (digitsP s b n.toNat).1.data.toList := dg_isDig _
  have hL : (digitsP s b n.toNat).1.size ≤ 12 := by
    have e1 := dg_size (takeP s b n.toNat).1
    have e2 := takeP_size s b n.toNat
    show (dg (takeP s b n.toNat).1).size ≤ 12
    omega
  have hcall := fun w (h : Rd w rb s b) => digits_any w rb s b n h h0 (by omega) hs
  unfold numberP vl
  generalize digitsP s b n.toNat = q at hD hL hcall ⊢
  obtain ⟨d, s', b'⟩ := q
  dsimp only at hD hL hcall ⊢
  have HC := hide hcall
  have HD := hide hD
  clear hcall hD
  go_enter Tryd.func50, Tryd.ntmps50
  go_wp2_with (go_at_call 56; refine (unhide HC _ h).mono ?_; rintro e w1 ⟨rfl, hr1, hg1⟩)
  go_loopg [5] d.size (fun gk num wx => ∃ pos : Nat, wx.heap[w1.heap.size]? = some (.stringIter d pos) ∧ Below w1.heap.size w1 wx ∧ pos ≤ d.size ∧ num = .int .i64 (vlL (d.data.toList.take pos)) ∧ d.size ≤ pos + gk)
  case atStart => exact ⟨0, World.iter_heap w1 d 0, (Below.refl _ w1).alloc (Nat.le_refl _) _, Nat.zero_le _, rfl, by omega⟩
  case round =>
    obtain ⟨p, hit, hB, hp, rfl, hgk⟩ := hrel
    by_cases hlt : p < d.size
    · obtain ⟨g', rfl⟩ : ∃ g', gk = g' + 1 := ⟨gk - 1, by omega⟩
      have hdc : 48 ≤ d[p].toNat ∧ d[p].toNat ≤ 57 := unhide HD d[p] (List.getElem_mem (by rw [← Lib.size_eq]; exact hlt))
      have hnx : ∀ ty, (Instr.next (.pointer (some ⟨w1.heap.size, 0, none⟩)) true ty).run Tryd.prog wr = _ := fun ty => Lib.run_next_ascii_at wr w1.heap.size d p ty hit hlt (by omega)
      have hit2 := Lib.iterAt_heap wr w1.heap.size d p (p + 1) hit
      have hB2 := Lib.below_iterAt hB (k := w1.heap.size) (Nat.le_refl _) d (p + 1)
      obtain ⟨hv1, hv2⟩ := vl_small (d.data.toList.take p) (fun c hc => unhide HD c (List.mem_of_mem_take hc)) (by rw [List.length_take]; omega)
      have hts : d.data.toList.take (p + 1) = d.data.toList.take p ++ [d[p]] := by
        rw [List.take_succ_eq_append_getElem (by rw [← Lib.size_eq]; exact hlt)]; rfl
      have hvs : vlL (d.data.toList.take (p + 1)) = 10 * vlL (d.data.toList.take p) + ((d[p].toNat : Int) - 48) := by rw [hts, vlL_snoc]
      have HV := hide hvs
      obtain ⟨hd1, hd2⟩ := hdc
      clear hvs hts
      obtain ⟨W, hWd⟩ : ∃ W, wr.iterAt w1.heap.size d (p + 1) = W := ⟨_, rfl⟩
      rw [hWd] at hnx hit2 hB2
      go_wp2
      go_roundg g'
      case measure => omega
      case rel => exact ⟨p + 1, hit2, hB2, by omega, by rw [unhide HV], by omega⟩
    · have hnx : ∀ ty, (Instr.next (.pointer (some ⟨w1.heap.size, 0, none⟩)) true ty).run Tryd.prog wr = _ := fun ty => Lib.run_next_end_at wr w1.heap.size d p ty hit hlt
      have hall : d.data.toList.take p = d.data.toList := List.take_of_length_le (by rw [← Lib.size_eq]; omega)
      rw [hall]
      clear hall
      go_wp2
      go_ret
      exact ⟨rfl, hr1.kept (below_grown' hB) (by simp), grown_trans hg1 (below_grown hB _)⟩
end Go.Proofs.YtkkaieijbpkleaaDoor
