import Derived.Test.YtkkaieijbpkleaaDoorAG
import Derived.Test.YtkkaieijbpkleaaDoorBV
import Derived.Carry
import Derived.ChangeSlices
namespace Go.Proofs.YtkkaieijbpkleaaDoor
open Go.ChangeShapes Go.WideShapes Go.ChangeAt Go.RowKit Go.Lib

theorem laidOut : laidOutB Tryd.prog = true := by kernel_rfl
theorem g10 : Tryd.prog.globalNamed "internal/strconv.uint64pow10" = some 2 := by kernel_rfl
theorem g10Type : (Tryd.prog.globals[2]?).map (·.type) = some 121 := by kernel_rfl
theorem pow10_eq : Rows.laid_internal_strconv_uint64pow10 (H := Unit) = Lib.tabData .u64 Lib.pow10Tab := by kernel_rfl

/-- What the row's list gives: the tables. -/
theorem tabs_of5 {W : World} (h : laidMetH Tryd.prog Rows.encodesUptoRow.laid W) : Tabs W ∧ T10 W := by
  have h3 : VarReads Tryd.prog W "unicode/utf8.first" Lib.firstData := by
    rw [← first_eq]; exact Lib.laidMet.reads h (.tail _ (.tail _ (.tail _ (.tail _ (.head _)))))
  have h4 : VarReads Tryd.prog W "unicode/utf8.acceptRanges" Lib.acceptData := by
    rw [← accept_eq]; exact Lib.laidMet.reads h (.tail _ (.tail _ (.tail _ (.head _))))
  refine ⟨utf8Tabs_of_readsT (U8Types.of196 Tryd.laysValid) ⟨by kernel_rfl, by kernel_rfl, by kernel_rfl, by kernel_rfl, by kernel_rfl, by kernel_rfl, by kernel_rfl⟩ h3 h4, ?_⟩
  obtain ⟨g', t', cs, fuel, p, hg', ht', hvar, hd⟩ := Lib.laidMet.reads h (n := "internal/strconv.uint64pow10") (d := Rows.laid_internal_strconv_uint64pow10) (.tail _ (.tail _ (.head _)))
  obtain rfl := Option.some.inj (g10.symm.trans hg')
  obtain rfl := Option.some.inj (g10Type.symm.trans ht')
  rw [pow10_eq] at hd
  unfold T10 Lib.TabIs
  rw [hvar, ← Lib.cells_of_tab (n := 20) (e := 103) Tryd.underlying121 Tryd.underlying103 (by kernel_rfl) (by kernel_rfl) hd]

theorem array9 {cs : Array Value} (h : cs.size = 9) : ∃ c0 c1 c2 c3 c4 c5 c6 c7 c8, cs = #[c0, c1, c2, c3, c4, c5, c6, c7, c8] := by
  obtain ⟨l⟩ := cs
  match l, h with
  | [c0, c1, c2, c3, c4, c5, c6, c7, c8], _ => exact ⟨c0, c1, c2, c3, c4, c5, c6, c7, c8, rfl⟩
theorem cells24 : Tryd.prog.cellsOf 24 = 9 := by kernel_rfl
theorem cells9 : Tryd.prog.cellsOf 9 = 1 := by kernel_rfl
theorem cells22 : Tryd.prog.cellsOf 22 = 1 := by kernel_rfl
theorem cells3 : Tryd.prog.cellsOf 3 = 1 := by kernel_rfl
theorem wf_bounds {n : Int} (h : (Lit.int .i64 n).wf = true) : -9223372036854775808 ≤ n ∧ n ≤ 9223372036854775807 := by
  simp only [Lit.wf, Bool.and_eq_true, decide_eq_true_eq] at h
  exact h

/-- What a message handed in is like. -/
structure Opened (H : Type) (W : World) (v : Value) (d : DataW H) where
  m : Msg
  l : List Int
  n : Nat
  a0 : Option Addr
  c0 : Nat
  val : v = .agg (m.cells (.slice a0 n c0))
  len : l.length = n
  lies : Lies W a0 l
  nil : a0.isNone = true → n = 0 ∧ c0 = 0
  small : Rows.uptoBulk d ≤ 1048576 → Small m ∧ n ≤ 1048576 ∧ m.kind.size ≤ 1048576

theorem str_len (s : ByteArray) : s.data.toList.length = s.size := by rw [Array.length_toList]; rfl
theorem lits_len {H : Type} (zs : List Int) : zs.length ≤ Rows.uptoBulkAll (H := H) (Go.ChangeShapes.lits .i64 zs) := by
  induction zs with
  | nil => exact Nat.zero_le _
  | cons z zs ih =>
    show zs.length + 1 ≤ Rows.uptoBulkAll (H := H) (.lit (.int .i64 z) :: Go.ChangeShapes.lits .i64 zs)
    simp only [Rows.uptoBulkAll, Rows.uptoBulk]
    omega

set_option maxRecDepth 100000 in
theorem open_msg {H : Type} {enc : TypeId × Value → H} {W : World} {base : Nat} {v : Value} {d : DataW H} {p : List MemPlace} (hv : Value.okWide Tryd.prog W .any base 24 v) (h : DataW.Trod enc Tryd.prog W 0 (fun _ => true) true 24 v d p) : Nonempty (Opened H W v d) := by
  obtain ⟨cs, rfl, hsz⟩ := okWide_struct Tryd.underlying24 hv
  obtain ⟨c0, c1, c2, c3, c4, c5, c6, c7, c8, rfl⟩ := array9 (hsz.trans cells24)
  obtain ⟨fuel, hf⟩ := h
  obtain ⟨xs, n, _, hx, _, hlen, hfld⟩ := DataW.trod_struct Tryd.underlying24 hf
  match xs, hlen with
  | [y0, y1, y2, y3, y4, y5, y6, y7, y8], _ =>
    have f0 := hfld 0 _ rfl
    have f1 := hfld 1 _ rfl
    have f2 := hfld 2 _ rfl
    have f3 := hfld 3 _ rfl
    have f4 := hfld 4 _ rfl
    have f5 := hfld 5 _ rfl
    have f6 := hfld 6 _ rfl
    have f7 := hfld 7 _ rfl
    have f8 := hfld 8 _ rfl
    simp only [Value.cells] at f0 f1 f2 f3 f4 f5 f6 f7 f8
    obtain ⟨s0, e0, rfl, _⟩ := DataW.trod_string Tryd.underlying9 f0
    obtain ⟨s2, e2, rfl, _⟩ := DataW.trod_string Tryd.underlying9 f2
    obtain ⟨s5, e5, rfl, _⟩ := DataW.trod_string Tryd.underlying9 f5
    obtain ⟨s6, e6, rfl, _⟩ := DataW.trod_string Tryd.underlying9 f6
    obtain ⟨s7, e7, rfl, _⟩ := DataW.trod_string Tryd.underlying9 f7
    obtain ⟨z3, e3, rfl, w3⟩ := DataW.trod_int Tryd.underlying3 f3
    obtain ⟨z4, e4, rfl, w4⟩ := DataW.trod_int Tryd.underlying3 f4
    obtain ⟨z8, e8, rfl, w8⟩ := DataW.trod_int Tryd.underlying3 f8
    have b3 := wf_bounds w3
    have b4 := wf_bounds w4
    have b8 := wf_bounds w8
    simp [cells9, cells3] at e0 e2 e3 e4 e5 e6 e7 e8
    subst e0 e2 e3 e4 e5 e6 e7 e8
    simp only [List.map_cons, List.map_nil, Prod.mk.injEq] at hx
    obtain ⟨rfl, _⟩ := hx
    rcases Go.ChangeShapes.open_ints Tryd.underlying22 Tryd.underlying3 cells3 f1 with ⟨e1, rfl⟩ | ⟨ad, len, cap, zs, e1, _, hle, _, hzl, rfl, hcell, _⟩
    · simp [cells22] at e1
      subst e1
      refine ⟨⟨⟨s0, s2, z3, z4, s5, s6, s7, z8⟩, [], 0, none, 0, rfl, rfl, fun j x hj => by simp at hj, fun _ => ⟨rfl, rfl⟩, fun hb => ?_⟩⟩
      simp only [Rows.uptoBulk, Rows.uptoBulkAll, str_len] at hb
      exact ⟨⟨by show s2.size ≤ _; omega, by show s5.size ≤ _; omega, by show s6.size ≤ _; omega, by show s7.size ≤ _; omega, b3.1, b3.2, b4.1, b4.2, b8.1, b8.2⟩, by omega, by show s0.size ≤ _; omega⟩
    · simp [cells22] at e1
      subst e1
      rw [if_pos rfl] at hzl
      refine ⟨⟨⟨s0, s2, z3, z4, s5, s6, s7, z8⟩, zs.take len, len, some ad, cap, rfl, by rw [List.length_take]; omega, fun j x hj => ⟨ad, rfl, ?_⟩, fun h => by simp at h, fun hb => ?_⟩⟩
      · have hj2 : zs[j]? = some x := by
          rw [List.getElem?_take] at hj
          split at hj
          · exact hj
          · cases hj
        have := hcell j (List.getElem?_eq_some_iff.1 hj2).1
        rw [this, List.getD_eq_getElem?_getD, hj2]
        rfl
      · have hl := lits_len (H := H) (zs.take len)
        rw [List.length_take] at hl
        simp only [Rows.uptoBulk, Rows.uptoBulkAll, str_len] at hb
        exact ⟨⟨by show s2.size ≤ _; omega, by show s5.size ≤ _; omega, by show s6.size ≤ _; omega, by show s7.size ≤ _; omega, b3.1, b3.2, b4.1, b4.2, b8.1, b8.2⟩, by omega, by show s0.size ≤ _; omega⟩

set_option maxRecDepth 100000 in
theorem contractE (H : Type) (enc : TypeId × Value → H) (W : World) (base : Nat) (args : Array Value) (ds gs : List (DataW H)) (before : List MemPlace)
    (hval : ∀ (j : Nat) t v, Tryd.f4.params[j]? = some t → args[j]? = some v → Value.okWide Tryd.prog W .any base t v)
    (hW : DataW.Whole enc Tryd.prog Tryd.f4.params.toList Rows.encodesSpec.vars false W args.toList ds gs before) (hL : laidMetH Tryd.prog Rows.encodesUptoRow.laid W) (hk : Rows.uptoSmall H (ds ++ gs) = true) :
    Calls Tryd.prog 4 args W fun e W' => ∃ v, e = .returned v ∧ Rows.encodesSpec.post enc Tryd.prog Tryd.f4 false true false false W args v W' := by
  obtain ⟨hT, hT10⟩ := tabs_of5 hL
  clear hL
  have hW' := hW
  have hlt := hW.lt
  obtain ⟨p, q, hA0, hV, rfl, hfz, hnd⟩ := hW
  have hA : DataW.TrodAll enc Tryd.prog W 0 (fun _ => true) true Tryd.f4.params.toList args.toList ds p := hA0
  rw [Tryd.params4] at hA hval
  obtain ⟨v0, vs0, d0, ds0, p0, q0, hargs, rfl, rfl, h0, r0⟩ := trodAll_cons hA
  obtain ⟨rfl, rfl, rfl⟩ := trodAll_nil r0
  obtain rfl : args = #[v0] := by
    apply Array.ext'
    exact hargs
  obtain ⟨rfl, rfl⟩ := trodVars_none hV
  obtain ⟨O⟩ := open_msg (hval 0 24 v0 rfl rfl) h0
  clear hA0
  simp only [List.append_nil] at hW' hk hlt
  have hb : Rows.uptoBulk d0 ≤ 1048576 := by
    have h : Rows.uptoBulkAll [d0] ≤ 1048576 := of_decide_eq_true hk
    simp only [Rows.uptoBulkAll] at h
    omega
  obtain ⟨hs, hn, hkd⟩ := O.small hb
  have hw := encodes_any O.m hs (by omega) O.l O.n O.len hn W hT hT10 O.a0 O.c0 O.lies O.nil
  rw [← O.val] at hw
  refine hw.mono fun e W' ⟨he, hB⟩ => ?_
  subst he
  exact ⟨_, rfl, _, _, _, [], p0 ++ [], [], hW', trodAll_cons_mk (shut_bool Tryd.underlying4 _) trodAll_mk0, trodAll_cons_mk (Below.trod laidOut (by kernel_rfl) (of_decide_eq_true (by kernel_rfl)) h0 hB hlt) trodAll_mk0, rfl, hB.frame _, fun h => by cases h⟩

/-- A table's cells, out of its data. -/
def cellsD (d : DataW Unit) : Array Value := match d with
  | .agg l => (l.map fun x => match x with | .lit (.int k n) => Value.int k n | _ => undef).toArray
  | _ => #[]
/-- A world for the witness: the settled one, the five tables holding what their initialisers lay. -/
noncomputable def laidWorld5 (os : Os) : World :=
  let w0 := laidWorld os
  let put (h : Array Obj) (g : Nat) (cs : Array Value) : Array Obj := h.modify g fun
    | .cells _ t frozen => .cells cs t frozen
    | o => o
  let h1 := put w0.heap 2 (cellsD Rows.laid_internal_strconv_uint64pow10)
  let h2 := put h1 4 (cellsD Rows.laid_math_bits_deBruijn32tab)
  let h3 := put h2 5 (cellsD Rows.laid_math_bits_deBruijn64tab)
  { w0 with heap := h3 }
theorem laid_met5 (os : Os) (args : Array Value) : laidMet Tryd.prog Rows.encodesUptoRow.laid ((laidWorld5 os).forCall (fun _ _ => 0) ⟨#[], args, []⟩).memory :=
  (LaidIn.of_run (l := Rows.encodesUptoRow.laid) [4, 5, 2, 1, 0] 8 (by kernel_rfl) (by kernel_rfl) (by kernel_rfl) (by kernel_rfl)).met
def noMsg : Value := .agg (Msg.cells (emptyMsg emp) (.slice none 0 0))
def noData {H : Type} : DataW H := .agg [.lit (.string []), .nil, .lit (.string []), .lit (.int .i64 0), .lit (.int .i64 0), .lit (.string []), .lit (.string []), .lit (.string []), .lit (.int .i64 0)]
theorem readsE (os : Os) {H : Type} (enc : TypeId × Value → H) : ∃ places, DataW.whole enc Tryd.prog ((laidWorld5 os).forCall (fun _ _ => 0) ⟨#[], #[noMsg], []⟩).memory Tryd.f4.params.toList Rows.encodesSpec.vars false #[noMsg].toList 8 = some ([noData], [], places) :=
  ⟨[], by kernel_rfl⟩

set_option maxRecDepth 100000 in
set_option maxHeartbeats 2000000 in
theorem liftedE (os : Os) (started : os.Started) (H : Type) (enc : TypeId × Value → H) (F : Stop.Interp) :
    ReturnsInHanded {} Tryd.checked os 4 .any ((Rows.OpenSpec.upto Rows.encodesSpec).preRow enc Tryd.prog Tryd.f4 Rows.encodesUptoRow.domain false Rows.encodesUptoRow.laid) (((Rows.OpenSpec.upto Rows.encodesSpec).at F).post enc Tryd.prog Tryd.f4 false true false false) := by
  obtain ⟨places, hx⟩ := readsE os enc
  refine returnsInHanded_of_row (C := Tryd.checked) (s := Rows.OpenSpec.upto Rows.encodesSpec) own started (by kernel_rfl) Tryd.func4
    (witness_row_at (enc := enc) (C := Tryd.checked) false (laidWorld5 os) #[noMsg] rfl (by kernel_rfl) (by kernel_rfl) (by kernel_rfl)
      (OpenSpec.preRow_of_cond 8 hx (by kernel_rfl) (fun k hk => by cases hk; kernel_rfl) (by kernel_rfl) (laid_met5 os _))) ?_
  intro W base args ds gs before hval hW _ hk _ hL _ _
  exact contractE H enc W base args ds gs before hval hW hL (hk _ rfl)

theorem saidE : Rows.EncodesUptoSaid :=
  OpenClaim.holds_of_cond 4 Tryd.f4 rfl rfl rfl rfl rfl rfl rfl ⟨rfl, rfl, rfl, rfl, rfl⟩ rfl rfl rfl rfl rfl (by kernel_rfl) Tryd.func4 (by kernel_rfl)
    (of_decide_eq_true (by kernel_rfl)) (by unfold Func.isWrapper; first | (rw [if_pos (by decide +kernel)]; kernel_rfl) | (rw [if_neg (by decide +kernel)]; exact ⟨rfl, rfl⟩))
    (fun os started H enc _ F => by rw [OpenClaim.pre_eq_preRow]; exact liftedE os started H enc F)

theorem no_standE (f : FuncId) (fn : Func) (hf : Tryd.pinned.checked.prog.funcNamed "swipe/swipelaw.Encodes" = some f) (hfn : Tryd.pinned.checked.prog.funcs[f]? = some fn) :
    false = Tryd.pinned.checked.prog.looks [] ∧ ∀ (j : Nat) t, fn.params[j]? = some t → Tryd.pinned.checked.prog.wantsStandIn t = false := by
  obtain rfl : f = 4 := Option.some.inj ((show Tryd.prog.funcNamed "swipe/swipelaw.Encodes" = some 4 by kernel_rfl).symm.trans hf) |>.symm
  obtain rfl : fn = Tryd.f4 := (Option.some.inj (Tryd.func4.symm.trans hfn)).symm
  refine ⟨by kernel_rfl, fun j t ht => ?_⟩
  rw [Tryd.params4] at ht
  obtain rfl : t = 24 := by simpa using Array.mem_of_getElem? ht
  exact (show Tryd.prog.wantsStandIn 24 = false by kernel_rfl)

theorem encodes_card : Rows.EncodesUptoCardSaid :=
  Claim7.holds_tied_plain_at .later [] _ _ _ _ saidE (fun _ h => by cases h) (by kernel_rfl) (fun _ h => by cases h) encodesUpto_row_tie rfl ⟨rfl, rfl⟩ (by kernel_rfl) rfl no_standE (by kernel_rfl)
end Go.Proofs.YtkkaieijbpkleaaDoor
