import Derived.Test.YtkkaieijbpkleaaDoorBD
import Derived.Test.YtkkaieijbpkleaaDoorShelf2
import Derived.Lib.ItoaLen
import Derived.Lib.LaidTab
namespace Go.Proofs.YtkkaieijbpkleaaDoor
open Go.RowKit Go.Shelf

/-- The library's table of powers lies as its text lays it. -/
def T10 (w : World) : Prop := Lib.TabIs Tryd.prog w "internal/strconv.uint64pow10" .u64 Lib.pow10Tab
theorem t10_below {w w' : World} (h : T10 w) (hb : Below w.heap.size w w') : T10 w' := by
  unfold T10 Lib.TabIs World.var? at *
  obtain ⟨g, hg, h2⟩ := Option.bind_eq_some_iff.1 h
  rw [hg]
  show (match w'.heap[g]? with
    | some (.cells cs _ _) => some cs
    | _ => Option.none) = _
  have hlt : g < w.heap.size := by
    rcases Nat.lt_or_ge g w.heap.size with h | h
    · exact h
    · rw [Array.getElem?_eq_none h] at h2; cases h2
  rw [hb.block g hlt]
  exact h2
theorem below_grow (w : World) (k : Nat) (os : Array Obj) : Below w.heap.size w (Go.Sort.grow (w.drewN k) os) := by
  refine ⟨rfl, rfl, rfl, ?_, fun i hi => ?_⟩
  · show w.heap.size ≤ (w.heap ++ os).size
    rw [Array.size_append]; omega
  · show (w.heap ++ os)[i]? = w.heap[i]?
    rw [Array.getElem?_append_left hi]
theorem itoa_any (n : Int) (h0 : -9223372036854775808 ≤ n) (h1 : n ≤ 9223372036854775807) (w : World) (hT : T10 w) : Calls Tryd.prog 63 #[.int .i64 n] w fun e w' => e = .returned (.string ⟨(Lib.itoa n).toArray⟩) ∧ Below w.heap.size w w' :=
  (Tryd.strconv_Itoa n h0 h1 w hT).mono (by rintro e w' ⟨rfl, k, os, rfl⟩; exact ⟨rfl, below_grow w k os⟩)
theorem repeatL_one (c : Nat) : Lib.repeatL [48] c = List.replicate c 48 := by
  induction c with
  | zero => rfl
  | succ c ih => rw [Lib.repeatL, ih]; rfl
theorem repeat_any (c : Nat) (hc : c ≤ 1000) (w : World) : Calls Tryd.prog 64 #[.string ⟨#[48]⟩, .int .i64 c] w fun e w' => e = .returned (.string ⟨(List.replicate c 48).toArray⟩) ∧ Below w.heap.size w w' := by
  have := Tryd.strings_Repeat ⟨#[48]⟩ c w (by omega) (by show 1 * c ≤ _; omega)
  rw [show (⟨#[48]⟩ : ByteArray).data.toList = [48] from rfl, repeatL_one] at this
  exact this

set_option maxHeartbeats 1000000 in
theorem appendNumber_any (x : Int) (h0 : -9223372036854775808 ≤ x) (h1 : x ≤ 9223372036854775807) (k : Nat) (hk : k ≤ 6) (bl : List UInt8) (w : World) {base n : Nat} {v : Value} (hv : w.ownsRow base 5 1 v n (Lib.byteCells bl)) (hbase : base ≤ w.heap.size) (hn : n ≤ 10000000) (hT : T10 w) :
    Calls Tryd.prog 54 #[v, .int .i64 x, .int .i64 k] w fun e w' => ∃ v', e = .returned v' ∧ w'.ownsRow base 5 1 v' (n + (numI x k).length) (Lib.byteCells (bl ++ numI x k)) ∧ Below base w w' ∧ Fr w w' := by
  have hlen := Lib.itoa_length_le x h0 h1
  have hi := fun w hT => itoa_any x h0 h1 w hT
  obtain ⟨z, hz⟩ : ∃ z, (⟨(Lib.itoa x).toArray⟩ : ByteArray) = z := ⟨_, rfl⟩
  have hzl : z.data.toList = Lib.itoa x := by rw [← hz]
  have hzs : z.size = (Lib.itoa x).length := by rw [Lib.size_eq, hzl]
  rw [hz] at hi
  obtain ⟨c, hc⟩ : ∃ c, c = 2 * k - (Lib.itoa x).length := ⟨_, rfl⟩
  have hcz : c = 2 * k - z.size := by rw [hc, hzs]
  have hr := fun w => repeat_any c (by omega) w
  obtain ⟨q, hq⟩ : ∃ q, (⟨(List.replicate c 48).toArray⟩ : ByteArray) = q := ⟨_, rfl⟩
  rw [hq] at hr
  have hql : q.data.toList = List.replicate c 48 := by rw [← hq]
  have hqs : q.size = c := by rw [Lib.size_eq, hql, List.length_replicate]
  obtain ⟨d, hd⟩ : ∃ d, q ++ z = d := ⟨_, rfl⟩
  have hdl : d.data.toList = List.replicate c 48 ++ Lib.itoa x := by rw [← hd, ByteArray.toList_data_append, hql, hzl]
  have hds : d.size ≤ 1000 := by rw [Lib.size_eq, hdl, List.length_append, List.length_replicate]; omega
  have had := fun w base n v (hv : World.ownsRow w base 5 1 v n (Lib.byteCells bl)) hb hn => appendDigits_any d bl w hv hb hn (by omega)
  have hnum : numI x k = pkI (evenL d.data.toList) := by unfold numI; rw [hdl, hc]
  have hnl : (numI x k).length = (evenL d.data.toList).length / 2 := by rw [hnum, pkI_length]
  rw [hnl, hnum]
  generalize (evenL d.data.toList).length / 2 = dl at had
  generalize pkI (evenL d.data.toList) = dp at had
  have hcI : max 0 (2 * (k : Int) - (z.size : Int)) = (c : Int) := by omega
  have HI := hide hi
  have HR := hide hr
  have HA := hide had
  have hzb : z.size ≤ 21 := by omega
  clear hi hr had hnum hnl hdl hz hzl hzs hc hcz hq hql hlen hds
  go_enter Tryd.func54, Tryd.ntmps54
  go_wp2_with (first | (go_at_call 63; refine (unhide HI _ hT).mono ?_; rintro e w1 ⟨rfl, hb1⟩) | (go_at_call 64; refine (unhide HR _).mono ?_; rintro e w2 ⟨rfl, hb2⟩; have hrow2 := row_below (row_below hv hb1) hb2; have hsz2 : base ≤ w2.heap.size := Nat.le_trans hbase (Nat.le_trans hb1.size hb2.size)) | (go_at_call 44; refine (unhide HA _ _ _ _ hrow2 hsz2 hn).mono ?_; rintro e w3 ⟨v3, rfl, hrow3, hb3, hf3⟩))
  go_ret
  exact ⟨v3, rfl, hrow3, ((hb1.trans (hb2.mono hb1.size)).mono hbase).trans hb3, (Fr.of_below (hb1.trans (hb2.mono hb1.size))).trans hf3⟩
end Go.Proofs.YtkkaieijbpkleaaDoor
