import Derived.Test.YtkkaieijbpkleaaDoorD
import Derived.Test.YtkkaieijbpkleaaDoorN
import Derived.Test.YtkkaieijbpkleaaDoorShelf
namespace Go.Proofs.YtkkaieijbpkleaaDoor
open Go.RowKit Go.Shelf

/-- The library's two tables lie as its text lays them. -/
def Tabs (w : World) : Prop := Lib.Utf8Tabs 0 1 w
theorem tabs_below {w w' : World} (h : Tabs w) (hb : Below w.heap.size w w') : Tabs w' := Utf8Tabs_below h hb

theorem control_any (x : Nat) (hx : x ≤ 1114111) (w : World) : Calls Tryd.prog 62 #[.int .i32 x] w fun e w' => e = .returned (.bool (ctlR x)) ∧ w = w' := by
  have hxi : (x : Int) ≤ 1114111 := by omega
  go_enter Tryd.func62, Tryd.ntmps62
  go_wp2
  all_goals go_ret
  all_goals refine ⟨ret_bool ?_, rfl⟩
  · unfold ctlR; rw [Bool.eq_iff_iff]; simp only [Bool.or_eq_true, decide_eq_true_eq, beq_iff_eq]; omega
  · unfold ctlR; simp; omega

theorem tabs_grown {w w' : World} {rb : Nat} {s : ByteArray} {b : Bool} (h : Tabs w) (hr : Rd w rb s b) (hg : w.grownBy w' (some rb)) : Tabs w' := by
  have lt : ∀ {a : Addr} {v : Value}, w.cell? a = some v → a.block < w.heap.size := fun {a v} hc => World.block_lt_of_cell? w a hc
  have h0 := hr.cell0
  have ne0 : (0 : Nat) ≠ rb := fun e => by
    rw [← e, h.1 0 (by omega)] at h0; cases h0
  have ne1 : (1 : Nat) ≠ rb := fun e => by
    have := (h.2 0 (by omega)).1
    rw [← e, show (0 : Nat) = 2 * 0 from rfl, this] at h0; cases h0
  refine ⟨fun c hc => hg.cell (h.1 c hc) (by simpa using ne0), fun i hi => ⟨hg.cell (h.2 i hi).1 (by simpa using ne1), hg.cell (h.2 i hi).2 (by simpa using ne1)⟩⟩

theorem valid_any (s : ByteArray) (w : World) (hs : s.size ≤ 9223372036854775807) (hT : Tabs w) :
    Calls Tryd.prog 60 #[.string s] w fun e w' => e = .returned (.bool (Lib.validD s.data.toList)) ∧ Below w.heap.size w w' :=
  Any.utf8_ValidString Tryd.laysValid s w hs hT

def anyCtl (l : List UInt8) : Bool := l.any ctl
theorem contains_any (s : ByteArray) (w : World) (hv : Lib.validD s.data.toList = true) :
    Calls Tryd.prog 61 #[.string s, .func (.func 62) #[] #[]] w fun e w' => e = .returned (.bool (anyCtl s.data.toList)) ∧ Below w.heap.size w w' := by
  have h := Tryd.strings_ContainsFunc_runes 62 #[] (enters_of Tryd.func62 (by kernel_rfl) rfl) ctlR s w (fun W x hx _ => (control_any x hx W).mono (by rintro e w' ⟨rfl, rfl⟩; exact ⟨rfl, 0, rfl⟩))
  have he := idx_valid s s.size 0 (by omega) (by simpa using hv)
  rw [List.drop_zero] at he
  unfold anyCtl
  rw [← he]
  exact h

theorem nameL_valid (l : List UInt8) (h : Lib.validD l = true) : nameL l = !(anyCtl l) := by
  unfold anyCtl
  rw [nameL_eq, h, Bool.true_and, List.not_any_eq_all_not]
theorem nameL_not (l : List UInt8) (h : Lib.validD l = false) : nameL l = false := by rw [nameL_eq, h, Bool.false_and]

set_option maxHeartbeats 400000 in
theorem name_any (w : World) (rb : Nat) (s : ByteArray) (b : Bool) (h : Rd w rb s b) (hT : Tabs w) (hs : s.size ≤ 9223372036854775807) :
    Calls Tryd.prog 52 #[.pointer (some ⟨rb, 0, none⟩)] w fun e w' => e = .returned (.string (nameP s b).1) ∧ Rd w' rb (nameP s b).2.1 (nameP s b).2.2 ∧ w.grownBy w' (some rb) := by
  have hcall := fun w (h : Rd w rb s b) => count_any w rb s b 0 40 h hs
  have hb := countP_bound s b 0 40 (by omega)
  have hr := countP_rest s b 0 40
  unfold nameP
  generalize countP s b 0 40 = q at hcall hb hr ⊢
  obtain ⟨n, s1, b1⟩ := q
  dsimp only at hcall hb hr ⊢
  have htake := fun w (h : Rd w rb s1 b1) => take_any w rb s1 b1 n h hb.1 (by omega) (by omega)
  have hts := takeP_size s1 b1 n.toNat
  generalize takeP s1 b1 n.toNat = q2 at htake hts ⊢
  obtain ⟨t, s2, b2⟩ := q2
  dsimp only at htake hts ⊢
  have hts' : t.size ≤ 9223372036854775807 := by omega
  have HC := hide hcall
  have HT := hide htake
  clear hcall htake hb hr hts
  cases hv : Lib.validD t.data.toList with
  | true =>
    have hn := nameL_valid _ hv
    have HV := hide hv
    have HN := hide hn
    clear hv hn
    go_enter Tryd.func52, Tryd.ntmps52
    go_wp2_with (first | (go_at_call 55; refine (unhide HC _ h).mono ?_; rintro e w1 ⟨rfl, hr1, hg1⟩) | (go_at_call 59; refine (unhide HT _ hr1).mono ?_; rintro e w2 ⟨rfl, hr2, hg2⟩; have hT2 := tabs_grown (tabs_grown hT h hg1) hr1 hg2) | (go_at_call 60; refine (valid_any _ _ hts' hT2).mono ?_; rintro e w3 ⟨rfl, hb3⟩; rw [unhide HV]) | (go_at_call 61; refine (contains_any _ _ (unhide HV)).mono ?_; rintro e w4 ⟨rfl, hb4⟩; have hr4 := (hr2.kept (below_grown' hb3) (by simp)).kept (below_grown' hb4) (by simp)) | (go_at_call 58; refine (must_any _ _ _ _ _ hr4).mono ?_; rintro e w5 ⟨rfl, hr5, hg5⟩))
    go_ret
    rw [unhide HN]
    exact ⟨rfl, hr5, grown_trans (grown_trans (grown_trans (grown_trans hg1 hg2) (below_grown hb3 _)) (below_grown hb4 _)) hg5⟩
  | false =>
    have hn := nameL_not _ hv
    have HV := hide hv
    have HN := hide hn
    clear hv hn
    go_enter Tryd.func52, Tryd.ntmps52
    go_wp2_with (first | (go_at_call 55; refine (unhide HC _ h).mono ?_; rintro e w1 ⟨rfl, hr1, hg1⟩) | (go_at_call 59; refine (unhide HT _ hr1).mono ?_; rintro e w2 ⟨rfl, hr2, hg2⟩; have hT2 := tabs_grown (tabs_grown hT h hg1) hr1 hg2) | (go_at_call 60; refine (valid_any _ _ hts' hT2).mono ?_; rintro e w3 ⟨rfl, hb3⟩; rw [unhide HV]; have hr4 := hr2.kept (below_grown' hb3) (by simp)) | (go_at_call 58; refine (must_any _ _ _ _ _ hr4).mono ?_; rintro e w5 ⟨rfl, hr5, hg5⟩))
    go_ret
    rw [unhide HN]
    exact ⟨rfl, hr5, grown_trans (grown_trans (grown_trans hg1 hg2) (below_grown hb3 _)) hg5⟩
end Go.Proofs.YtkkaieijbpkleaaDoor
