import Derived.Test.YtkkaieijbpkleaaDoorBF
import Derived.Lib.AppendStr
namespace Go.Proofs.YtkkaieijbpkleaaDoor
open Go.RowKit Go.Shelf

/-- What a call of appendField leaves. -/
def FwPost (m : Msg) (k : Int) (bl : List UInt8) (base n : Nat) (w : World) (e : Ending) (w' : World) : Prop :=
  ∃ v', e = .returned v' ∧ w'.ownsRow base 5 1 v' (n + (fI m k).length) (Lib.byteCells (bl ++ fI m k)) ∧ Below base w w' ∧ Fr w w'
/-- Small enough to be written. -/
structure Small (m : Msg) : Prop where
  pan : m.pan.size ≤ 1048576
  code : m.code.size ≤ 1048576
  place : m.place.size ≤ 1048576
  name : m.name.size ≤ 1048576
  a0 : -9223372036854775808 ≤ m.amount
  a1 : m.amount ≤ 9223372036854775807
  t0 : -9223372036854775808 ≤ m.trace
  t1 : m.trace ≤ 9223372036854775807
  m0 : -9223372036854775808 ≤ m.more
  m1 : m.more ≤ 9223372036854775807

theorem numI_le (x : Int) (h0 : -9223372036854775808 ≤ x) (h1 : x ≤ 9223372036854775807) (k : Nat) : (numI x k).length ≤ k + 11 := by
  have h := Lib.itoa_length_le x h0 h1
  unfold numI
  rw [pkI_length]
  have h2 : (evenL (List.replicate (2 * k - (Lib.itoa x).length) 48 ++ Lib.itoa x)).length ≤ 2 * k + 22 := by
    unfold evenL
    split <;> simp <;> omega
  omega

theorem box_below (w : World) (m : Msg) (mv : Value) {base : Nat} (hb : base ≤ w.heap.size) : Below base w (w.alloc (.cells (m.cells mv) 24)) := (Below.refl _ w).alloc hb _

set_option maxHeartbeats 1000000 in
theorem fw4 (m : Msg) (hs : Small m) (a0 : Option Addr) (n0 c0 : Nat) (bl : List UInt8) (w : World) {base n : Nat} {v : Value} (hv : w.ownsRow base 5 1 v n (Lib.byteCells bl)) (hbase : base ≤ w.heap.size) (hn : n ≤ 8000000) (hT : T10 w) :
    Calls Tryd.prog 45 #[v, .agg (m.cells (.slice a0 n0 c0)), .int .i64 4] w (FwPost m 4 bl base n w) := by
  have hb0 := box_below w m (.slice a0 n0 c0) (Nat.le_refl _)
  have hc := appendNumber_any m.amount hs.a0 hs.a1 6 (by omega) bl (w.alloc (.cells (m.cells (.slice a0 n0 c0)) 24)) (hv.alloc _) (Nat.le_trans hbase hb0.size) (by omega) (t10_below hT hb0)
  have hf : fI m 4 = numI m.amount 6 := rfl
  unfold FwPost
  rw [hf]
  generalize numI m.amount 6 = z at hc ⊢
  have HC := hide hc
  clear hc hf
  unfold Msg.cells
  go_enter Tryd.func45, Tryd.ntmps45
  go_wp2_with (go_at_call 54; refine (unhide HC).mono ?_; rintro e w1 ⟨v1, rfl, hrow1, hb1, hf1⟩)
  go_ret
  exact ⟨v1, rfl, hrow1, (hb0.mono hbase).trans hb1, (Fr.of_below hb0).trans hf1⟩

set_option maxHeartbeats 1000000 in
theorem fw11 (m : Msg) (hs : Small m) (a0 : Option Addr) (n0 c0 : Nat) (bl : List UInt8) (w : World) {base n : Nat} {v : Value} (hv : w.ownsRow base 5 1 v n (Lib.byteCells bl)) (hbase : base ≤ w.heap.size) (hn : n ≤ 8000000) (hT : T10 w) :
    Calls Tryd.prog 45 #[v, .agg (m.cells (.slice a0 n0 c0)), .int .i64 11] w (FwPost m 11 bl base n w) := by
  have hb0 := box_below w m (.slice a0 n0 c0) (Nat.le_refl _)
  have hc := appendNumber_any m.trace hs.t0 hs.t1 3 (by omega) bl (w.alloc (.cells (m.cells (.slice a0 n0 c0)) 24)) (hv.alloc _) (Nat.le_trans hbase hb0.size) (by omega) (t10_below hT hb0)
  have hf : fI m 11 = numI m.trace 3 := rfl
  unfold FwPost
  rw [hf]
  generalize numI m.trace 3 = z at hc ⊢
  have HC := hide hc
  clear hc hf
  unfold Msg.cells
  go_enter Tryd.func45, Tryd.ntmps45
  go_wp2_with (go_at_call 54; refine (unhide HC).mono ?_; rintro e w1 ⟨v1, rfl, hrow1, hb1, hf1⟩)
  go_ret
  exact ⟨v1, rfl, hrow1, (hb0.mono hbase).trans hb1, (Fr.of_below hb0).trans hf1⟩

set_option maxHeartbeats 1000000 in
theorem fw54 (m : Msg) (hs : Small m) (a0 : Option Addr) (n0 c0 : Nat) (bl : List UInt8) (w : World) {base n : Nat} {v : Value} (hv : w.ownsRow base 5 1 v n (Lib.byteCells bl)) (hbase : base ≤ w.heap.size) (hn : n ≤ 8000000) (hT : T10 w) :
    Calls Tryd.prog 45 #[v, .agg (m.cells (.slice a0 n0 c0)), .int .i64 54] w (FwPost m 54 bl base n w) := by
  have hb0 := box_below w m (.slice a0 n0 c0) (Nat.le_refl _)
  have hc := appendNumber_any m.more hs.m0 hs.m1 6 (by omega) bl (w.alloc (.cells (m.cells (.slice a0 n0 c0)) 24)) (hv.alloc _) (Nat.le_trans hbase hb0.size) (by omega) (t10_below hT hb0)
  have hf : fI m 54 = numI m.more 6 := rfl
  unfold FwPost
  rw [hf]
  generalize numI m.more 6 = z at hc ⊢
  have HC := hide hc
  clear hc hf
  unfold Msg.cells
  go_enter Tryd.func45, Tryd.ntmps45
  go_wp2_with (go_at_call 54; refine (unhide HC).mono ?_; rintro e w1 ⟨v1, rfl, hrow1, hb1, hf1⟩)
  go_ret
  exact ⟨v1, rfl, hrow1, (hb0.mono hbase).trans hb1, (Fr.of_below hb0).trans hf1⟩

set_option maxHeartbeats 1000000 in
theorem fw39 (m : Msg) (hs : Small m) (a0 : Option Addr) (n0 c0 : Nat) (bl : List UInt8) (w : World) {base n : Nat} {v : Value} (hv : w.ownsRow base 5 1 v n (Lib.byteCells bl)) (hbase : base ≤ w.heap.size) (hn : n ≤ 8000000) :
    Calls Tryd.prog 45 #[v, .agg (m.cells (.slice a0 n0 c0)), .int .i64 39] w (FwPost m 39 bl base n w) := by
  obtain ⟨i0, hi, hz0, hz1, hz2⟩ := info_parts info5
  have hb0 := box_below w m (.slice a0 n0 c0) (Nat.le_refl _)
  have hrow0 := hv.alloc (.cells (m.cells (.slice a0 n0 c0)) 24)
  have hsz := hs.code
  have hsz0 := Nat.le_trans hbase hb0.size
  unfold Msg.cells
  go_enter Tryd.func45, Tryd.ntmps45
  go_wp2_with (at_builtin; refine Lib.wpList_append_own_string _ rfl _ _ 55 9 rfl base 5 i0 Tryd.underlying55 Tryd.underlying9 hi hz0 hz1 hz2 _ n _ rfl hrow0 m.code rfl (by unfold maxLen; omega) (by omega) hsz0 ?_; intro v' w2 hown' hgrow _)
  go_ret
  have hlen : (fI m 39).length = m.code.size := (Lib.size_eq _).symm
  refine ⟨v', rfl, ?_, ?_, ?_⟩
  · rw [hlen, show fI m 39 = m.code.data.toList from rfl, Lib.byteCells_append]
    exact hown'
  · exact (hb0.mono hbase).grown hgrow hsz0 (fun r e => (hrow0.lt r e).1)
  · exact (Fr.of_below hb0).trans (Fr.of_grown hrow0 hgrow)

set_option maxHeartbeats 1000000 in
theorem fw41 (m : Msg) (hs : Small m) (a0 : Option Addr) (n0 c0 : Nat) (bl : List UInt8) (w : World) {base n : Nat} {v : Value} (hv : w.ownsRow base 5 1 v n (Lib.byteCells bl)) (hbase : base ≤ w.heap.size) (hn : n ≤ 8000000) :
    Calls Tryd.prog 45 #[v, .agg (m.cells (.slice a0 n0 c0)), .int .i64 41] w (FwPost m 41 bl base n w) := by
  obtain ⟨i0, hi, hz0, hz1, hz2⟩ := info_parts info5
  have hb0 := box_below w m (.slice a0 n0 c0) (Nat.le_refl _)
  have hrow0 := hv.alloc (.cells (m.cells (.slice a0 n0 c0)) 24)
  have hsz := hs.place
  have hsz0 := Nat.le_trans hbase hb0.size
  unfold Msg.cells
  go_enter Tryd.func45, Tryd.ntmps45
  go_wp2_with (at_builtin; refine Lib.wpList_append_own_string _ rfl _ _ 55 9 rfl base 5 i0 Tryd.underlying55 Tryd.underlying9 hi hz0 hz1 hz2 _ n _ rfl hrow0 m.place rfl (by unfold maxLen; omega) (by omega) hsz0 ?_; intro v' w2 hown' hgrow _)
  go_ret
  have hlen : (fI m 41).length = m.place.size := (Lib.size_eq _).symm
  refine ⟨v', rfl, ?_, ?_, ?_⟩
  · rw [hlen, show fI m 41 = m.place.data.toList from rfl, Lib.byteCells_append]
    exact hown'
  · exact (hb0.mono hbase).grown hgrow hsz0 (fun r e => (hrow0.lt r e).1)
  · exact (Fr.of_below hb0).trans (Fr.of_grown hrow0 hgrow)


theorem fw2_end {m : Msg} {bl : List UInt8} {base n : Nat} {w w2 : World} {v2 : Value} (hrow : w2.ownsRow base 5 1 v2 (n + (numI (m.pan.size : Int) 1).length + (evenL m.pan.data.toList).length / 2) (Lib.byteCells (bl ++ numI (m.pan.size : Int) 1 ++ pkI (evenL m.pan.data.toList)))) (hb : Below base w w2) (hf : Fr w w2) : FwPost m 2 bl base n w (.returned v2) w2 := by
  refine ⟨v2, rfl, ?_, hb, hf⟩
  have e : fI m 2 = numI (m.pan.size : Int) 1 ++ pkI (evenL m.pan.data.toList) := rfl
  rw [e, List.length_append, pkI_length, ← Nat.add_assoc, ← List.append_assoc]
  exact hrow

set_option maxHeartbeats 1000000 in
theorem fw2 (m : Msg) (hs : Small m) (a0 : Option Addr) (n0 c0 : Nat) (bl : List UInt8) (w : World) {base n : Nat} {v : Value} (hv : w.ownsRow base 5 1 v n (Lib.byteCells bl)) (hbase : base ≤ w.heap.size) (hn : n ≤ 8000000) (hT : T10 w) :
    Calls Tryd.prog 45 #[v, .agg (m.cells (.slice a0 n0 c0)), .int .i64 2] w (FwPost m 2 bl base n w) := by
  have hb0 := box_below w m (.slice a0 n0 c0) (Nat.le_refl _)
  have hsz := hs.pan
  have hM0 : Ms (w.alloc (.cells (m.cells (.slice a0 n0 c0)) 24)) w.heap.size m (.slice a0 n0 c0) := heap_alloc_new w _
  have hnl := numI_le (m.pan.size : Int) (by omega) (by omega) 1
  unfold Msg.cells
  go_enter Tryd.func45, Tryd.ntmps45
  go_wp2
  go_region_with (first | (go_at_call 54; refine (appendNumber_any (m.pan.size : Int) (by omega) (by omega) 1 (by omega) bl _ (row_drawn (hv.alloc _) (n := 1)) (Nat.le_trans hbase hb0.size) (by omega) (t10_below hT (below_drawn hb0 (n := 1)))).mono ?_; rintro e w1 ⟨v1, rfl, hrow1, hb1, hf1⟩; have hM1 := Fr.ms hM0 hf1; obtain ⟨p0, p1, p2, p3, p4, p5, p6, p7, p8⟩ := hM1.nine) | (go_at_call 44; refine (appendDigits_any m.pan _ _ hrow1 (Nat.le_trans (Nat.le_trans hbase hb0.size) hb1.size) (by omega) (by omega)).mono ?_; rintro e w2 ⟨v2, rfl, hrow2, hb2, hf2⟩))
  all_goals
    go_wp2
    go_ret
    exact fw2_end hrow2 (((below_drawn hb0 (n := 1)).mono hbase).trans (hb1.trans hb2)) ((Fr.of_below (below_drawn hb0 (n := 1))).trans (hf1.trans hf2))

/-- append of a text's bytes to an own row, as one step of a region that draws. -/
theorem step_append_text {P : Program} {ops : Array Oper} {o : Oper} {a : Act} {w : World} {K : Act → World → Prop} {Q : Exit → Act → World → Prop} {E : Prop}
    (hg : o.guard = none) (sl x : Operand) (t u : TypeId) (hop : o.op = Op.call { callee := Callee.builtin Builtin.append, args := #[sl, x], argTypes := #[t, u] })
    (base : Nat) (e : TypeId) (i : TypeInfo) (h1 : P.underlying t = some (.slice e)) (hu : P.underlying u = some .string) (h2 : P.info? e = some i) (h3 : i.zero = some (.int .u8 0)) (h4 : i.size = 1) (h5 : i.bytes = 1)
    (v : Value) (n : Nat) (xs : List Value) (hs : a.eval sl = v) (hown : w.ownsRow base e 1 v n xs) (s : ByteArray) (hx : a.eval x = .string s)
    (b1 : n + s.size ≤ maxLen) (b2 : n + s.size ≤ 140737488355328) (hbase : base ≤ w.heap.size)
    (hK : ∀ v' w', w'.ownsRow base e 1 v' (n + s.size) (xs ++ Lib.strCells s) → w.grownBy w' v.ownBlock → K (a.put o.dst v') w') :
    if Region.wanted o (yielded ops a.tmps) = true then Oper.wp P o a w K Q else E := by
  have hw : Region.wanted o (yielded ops a.tmps) = true := by simp [Region.wanted, hg]
  rw [if_pos hw]
  obtain ⟨v', w', hrun, r1, r2, _⟩ := Lib.run_append_own_string (P := P) w base t u o.type e i h1 hu h2 h3 h4 h5 v n xs hown s b1 b2 hbase
  unfold Oper.wp
  simp [execOp, hop, resolve, invoke, builtin, hs, hx, hrun, Result.andThen]
  exact hK v' w' r1 r2

theorem step_call3 {P : Program} {ops : Array Oper} {o : Oper} {a : Act} {w : World} {K : Act → World → Prop} {Q : Exit → Act → World → Prop} {E : Prop}
    (hg : o.guard = none) (f : FuncId) (x1 x2 x3 : Operand) (ts : Array TypeId) (hop : o.op = Op.call { callee := Callee.value (Operand.func f), args := #[x1, x2, x3], argTypes := ts })
    (v1 v2 v3 : Value) (e1 : a.eval x1 = v1) (e2 : a.eval x2 = v2) (e3 : a.eval x3 = v3) (hent : ∀ args w, (callFunc f args).run P w = .ok (.enter f args) w)
    (hC : Calls P f #[v1, v2, v3] w fun e w' => ∃ v, e = .returned v ∧ K (a.put o.dst v) w') :
    if Region.wanted o (yielded ops a.tmps) = true then Oper.wp P o a w K Q else E := by
  have hw : Region.wanted o (yielded ops a.tmps) = true := by simp [Region.wanted, hg]
  rw [if_pos hw]
  unfold Oper.wp
  have ef : a.eval (Operand.func f) = .func (.func f) #[] #[] := rfl
  simp [execOp, hop, resolve, invoke, e1, e2, e3, hent, ef, Deferred.ofValue, Oper.upon]
  exact hC.mono (by rintro e w' ⟨v, rfl, h⟩; exact h)

theorem fw43_end {m : Msg} {bl : List UInt8} {base n : Nat} {w w1 w2 : World} {v1 v2 : Value} (hrow1 : w1.ownsRow base 5 1 v1 (n + (numI (m.name.size : Int) 1).length) (Lib.byteCells (bl ++ numI (m.name.size : Int) 1))) (hbs : base ≤ w1.heap.size) (hb1 : Below base w w1) (hf1 : Fr w w1)
    (hrow2 : w2.ownsRow base 5 1 v2 (n + (numI (m.name.size : Int) 1).length + m.name.size) (Lib.byteCells (bl ++ numI (m.name.size : Int) 1) ++ Lib.strCells m.name)) (hg2 : w1.grownBy w2 v1.ownBlock) : FwPost m 43 bl base n w (.returned v2) w2 := by
  refine ⟨v2, rfl, ?_, hb1.grown hg2 hbs (fun r e => (hrow1.lt r e).1), hf1.trans (Fr.of_grown hrow1 hg2)⟩
  have e : fI m 43 = numI (m.name.size : Int) 1 ++ m.name.data.toList := rfl
  rw [e, List.length_append, ← Lib.size_eq, ← Nat.add_assoc, ← List.append_assoc, Lib.byteCells_append (bl ++ numI (m.name.size : Int) 1)]
  exact hrow2

set_option maxRecDepth 100000 in
set_option maxHeartbeats 1000000 in
theorem fw43 (m : Msg) (hs : Small m) (a0 : Option Addr) (n0 c0 : Nat) (bl : List UInt8) (w : World) {base n : Nat} {v : Value} (hv : w.ownsRow base 5 1 v n (Lib.byteCells bl)) (hbase : base ≤ w.heap.size) (hn : n ≤ 8000000) (hT : T10 w) :
    Calls Tryd.prog 45 #[v, .agg (m.cells (.slice a0 n0 c0)), .int .i64 43] w (FwPost m 43 bl base n w) := by
  obtain ⟨i0, hi, hz0, hz1, hz2⟩ := info_parts info5
  have hb0 := box_below w m (.slice a0 n0 c0) (Nat.le_refl _)
  have hsz := hs.name
  have hM0 : Ms (w.alloc (.cells (m.cells (.slice a0 n0 c0)) 24)) w.heap.size m (.slice a0 n0 c0) := heap_alloc_new w _
  have hnl := numI_le (m.name.size : Int) (by omega) (by omega) 1
  unfold Msg.cells
  go_enter Tryd.func45, Tryd.ntmps45
  go_wp2
  go_region_law (first | (refine step_call3 rfl 54 (.tmp 44) (.tmp 47) (.const (.int .i64 1)) #[55, 3, 3] rfl _ _ _ rfl rfl rfl (enters_of Tryd.func54 (by kernel_rfl) rfl) ?_; refine (appendNumber_any (m.name.size : Int) (by omega) (by omega) 1 (by omega) bl _ (row_drawn (hv.alloc _) (n := 1)) (Nat.le_trans hbase hb0.size) (by omega) (t10_below hT (below_drawn hb0 (n := 1)))).mono ?_; rintro e w1 ⟨v1, rfl, hrow1, hb1, hf1⟩; have hM1 := Fr.ms hM0 hf1; obtain ⟨p0, p1, p2, p3, p4, p5, p6, p7, p8⟩ := hM1.nine; have hbs1 : base ≤ w1.heap.size := Nat.le_trans (Nat.le_trans hbase hb0.size) hb1.size; refine ⟨v1, rfl, ?_⟩) | (refine step_append_text rfl (.tmp 48) (.tmp 50) 55 9 rfl base 5 i0 Tryd.underlying55 Tryd.underlying9 hi hz0 hz1 hz2 _ _ _ rfl hrow1 m.name rfl (by unfold maxLen; omega) (by omega) hbs1 ?_; intro v2 w2 hrow2 hg2))
  all_goals
    go_wp2
    go_ret
    exact fw43_end hrow1 hbs1 (((below_drawn hb0 (n := 1)).mono hbase).trans hb1) ((Fr.of_below (below_drawn hb0 (n := 1))).trans hf1) hrow2 hg2

theorem appendField_any (m : Msg) (hs : Small m) (k : Int) (hk : k ∈ known) (mv : Value) {mw : World} {mb mk : Nat} {mx : List Value} (hmv : mw.ownsRow mb 3 1 mv mk mx) (bl : List UInt8) (w : World) {base n : Nat} {v : Value} (hv : w.ownsRow base 5 1 v n (Lib.byteCells bl)) (hbase : base ≤ w.heap.size) (hn : n ≤ 8000000) (hT : T10 w) :
    Calls Tryd.prog 45 #[v, .agg (m.cells mv), .int .i64 k] w (FwPost m k bl base n w) := by
  obtain ⟨a0, c0, rfl⟩ := row_slice hmv
  simp only [known, List.mem_cons, List.not_mem_nil, or_false] at hk
  rcases hk with rfl | rfl | rfl | rfl | rfl | rfl | rfl
  · exact fw2 m hs a0 mk c0 bl w hv hbase hn hT
  · exact fw4 m hs a0 mk c0 bl w hv hbase hn hT
  · exact fw11 m hs a0 mk c0 bl w hv hbase hn hT
  · exact fw39 m hs a0 mk c0 bl w hv hbase hn
  · exact fw41 m hs a0 mk c0 bl w hv hbase hn
  · exact fw43 m hs a0 mk c0 bl w hv hbase hn hT
  · exact fw54 m hs a0 mk c0 bl w hv hbase hn hT
end Go.Proofs.YtkkaieijbpkleaaDoor
