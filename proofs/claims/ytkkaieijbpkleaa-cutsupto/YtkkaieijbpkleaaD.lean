import Derived.Test.YtkkaieijbpkleaaC
import Derived.RangeFuncNested
import Derived.RangeFuncBound
import Derived.RangeFuncCalls
import Derived.RangeFuncLeaves
import Derived.RangeFuncBox
import Derived.Shelf.Abstract
import Derived.Shelf.RegionOpen
import Derived.WalkKit
import Derived.OwnWalkIn
import Derived.TacticsInMore
import Derived.LoopNIn
import Derived.LoopIn
import Derived.Maps.AppendAt
namespace Go.Proofs.Ytkkaieijbpkleaa
open Go.RowKit Go.Shelf
attribute [local go_sem] Oper.semAt_some

/-- How long a text in a slot is: for the loop's measure. -/
def lenOf : Value → Nat
  | .string s => s.size
  | _ => 0

theorem hide {p : Prop} (h : p) : Hid p := h
theorem unhide {p : Prop} (h : Hid p) : p := h
theorem grownBy_drewN (w : World) (n : Nat) : w.grownBy (w.drewN n) none := ⟨rfl, rfl, rfl, Nat.le_refl _, fun _ _ _ => rfl⟩

set_option maxRecDepth 100000 in
set_option maxHeartbeats 1000000 in
theorem iter_in (n : Nat) (hn : 2 ≤ n) (l Bn : Nat) (t : ByteArray) (J Jx : List Pr → World → Prop) (W0 : World)
    (hJ : AbidesFrom W0.heap.size J)
    (hY : ∀ pre x W, J pre W → pre.length < cnt t → YieldAt Fence.wide (n - 1) Try.prog l #[.string x.1.1, .string x.1.2] W fun e W' =>
      (e = .returned (.bool true) ∧ J (pre ++ [x]) W' ∧ KeepsWalks W W') ∨ (e = .returned (.bool false) ∧ Jx (pre ++ [x]) W'))
    (W : World) (hBn : W.cell? ⟨Bn, 0, none⟩ = some (.string t)) (h0 : J [] W) :
    CallsIn Fence.wide n Try.prog 13 #[.func (.yield l) #[] #[], .pointer (some ⟨Bn, 0, none⟩)] W fun e W' => (∃ v, e = .returned v) ∧
      ((∃ ys, ys = pairs t (cnt t) ∧ J ys W') ∨ (∃ pre, True ∧ Jx pre W')) := by
  refine callsIn_of_wp Try.func13 rfl trivial ?_ rfl
  simp only [Try.ntmps13, List.size_toArray, List.length_cons, List.length_nil, Nat.reduceAdd, Nat.reduceSub, Array.replicate_succ, Array.replicate_zero, List.push_toArray, List.append_toArray, List.nil_append, List.cons_append]
  have hfw : ∀ k, Fence.wide.fn k := fun _ => trivial
  have h1n : 1 ≤ n := by omega
  gi_wp2
  gi_loopw [3] (fun p wr => ∃ k : Nat, k ≤ cnt t ∧ p = .string (tl t (pos t k)) ∧ J (pairs t k) wr) (fun p _ => lenOf p)
  case atStart => exact ⟨0, Nat.zero_le _, by rw [show pos t 0 = 0 from rfl, tl_zero], h0⟩
  case round =>
    obtain ⟨k, hk, rfl, hJk⟩ := hrel
    have hp := pos_le t k hk
    have hcl := cnt_lt t k hk
    by_cases hlt : k < cnt t
    · have hw : whl (tl t (pos t k)) = true := by rw [hcl]; simpa using hlt
      have hws := of_decide_eq_true hw
      obtain ⟨s1, s2, s3, s4⟩ := hws
      clear hcl
      gi_wp2_with (gi_at_call 14; refine (callsIn_wide.2 (whole_any _ _)).mono ?_; rintro e w' ⟨rfl, n1, rfl⟩; rw [hw])
      refine (callsIn_wide.2 (size_any _ _ s1)).mono ?_
      rintro e w' ⟨rfl, n2, rfl⟩
      rw [World.drewN_drewN]
      have hJ2 : J (pairs t k) (wr.drewN (n1 + n2)) := hJ _ _ _ none hJk (grownBy_drewN wr _) (fun r e => by cases e)
      have hxs : ((tl t (pos t k)).extract 2 (2 + sz (tl t (pos t k))), (tl t (pos t k)).extract (2 + sz (tl t (pos t k))) (tl t (pos t k)).size).1.size ≤ 1048576 := by
        show ((tl t (pos t k)).extract 2 (2 + sz (tl t (pos t k)))).size ≤ 1048576
        rw [ByteArray.size_extract]; omega
      obtain ⟨fn, tmps, assign, body, hy, hR⟩ := hY (pairs t k) ⟨((tl t (pos t k)).extract 2 (2 + sz (tl t (pos t k))), (tl t (pos t k)).extract (2 + sz (tl t (pos t k))) (tl t (pos t k)).size), hxs⟩ _ hJ2 (by rw [pairs_length]; exact hlt)
      have hxe : (⟨((tl t (pos t k)).extract 2 (2 + sz (tl t (pos t k))), (tl t (pos t k)).extract (2 + sz (tl t (pos t k))) (tl t (pos t k)).size), hxs⟩ : Pr) = ⟨(fr t (pos t k), tl t (pos t (k + 1))), fr_size t (pos t k)⟩ := by
        apply Subtype.ext
        dsimp only
        rw [tl_tail, tl_extract, pos_succ]; unfold fr
        rw [show pos t k + (2 + sz (tl t (pos t k))) = pos t k + 2 + sz (tl t (pos t k)) by omega]
      have HX := hide hxe
      clear hxe
      dsimp only at hy
      gi_wp2
      refine hR.mono ?_
      rintro e W3 (⟨rfl, hJ3, hk3⟩ | ⟨rfl, hJx3⟩)
      · gi_wp2
        rw [unhide HX, ← pairs_succ] at hJ3
        go_roundw
        case rel => exact ⟨k + 1, by omega, by rw [tl_tail, pos_succ, show pos t k + (2 + sz (tl t (pos t k))) = pos t k + 2 + sz (tl t (pos t k)) by omega], hJ3⟩
        case measure =>
          show ((tl t (pos t k)).extract (2 + sz (tl t (pos t k))) (tl t (pos t k)).size).size < (tl t (pos t k)).size
          rw [tl_tail, tl_size, tl_size]; rw [tl_size] at s1; omega
      · gi_wp2
        refine bodyPost_ret (results_none rfl _ _ _) rfl ?_
        exact ⟨⟨_, rfl⟩, .inr ⟨_, trivial, hJx3⟩⟩
    · have hw : whl (tl t (pos t k)) = false := by rw [hcl]; simpa using hlt
      clear hcl
      gi_wp2_with (gi_at_call 14; refine (callsIn_wide.2 (whole_any _ _)).mono ?_; rintro e w' ⟨rfl, n1, rfl⟩; rw [hw])
      go_end0
      have hJ2 : J (pairs t k) (wr.drewN n1) := hJ _ _ _ none hJk (grownBy_drewN wr _) (fun r e => by cases e)
      exact ⟨⟨_, rfl⟩, .inl ⟨_, by rw [show k = cnt t by omega], hJ2⟩⟩

theorem iter_stops (n : Nat) (hn : 2 ≤ n) (Bn : Nat) (t : ByteArray) (w : World) (hB : Bn < w.heap.size) (hc : w.cell? ⟨Bn, 0, none⟩ = some (.string t)) :
    SeqStopsK Fence.wide n Try.prog 13 #[.pointer (some ⟨Bn, 0, none⟩)] (fun x : Pr => #[Value.string x.1.1, Value.string x.1.2]) KeepsWalks (fun ys => ys = pairs t (cnt t)) (fun _ => True) (cnt t) w := fun l J Jx W hW hJ _ hY h0 =>
  iter_in n hn l Bn t J Jx W hJ hY W ((hW.cell (p := ⟨Bn, 0, none⟩) hB).trans hc) h0
end Go.Proofs.Ytkkaieijbpkleaa
