import Derived.Test.YtkkaieijbpkleaaD
namespace Go.Proofs.Ytkkaieijbpkleaa
open Go.RowKit Go.Shelf
attribute [local go_sem] Oper.semAt_some

theorem below_grown {w w' : World} (h : Below w.heap.size w w') : w.grownBy w' none := ⟨h.os, h.tape, h.output, h.size, fun k hk _ => h.block k hk⟩
theorem below_others {w w' : World} (h : Below w.heap.size w w') : KeepsOthers w w' :=
  ⟨h.size, fun k _ hk _ => (h.block k (Array.getElem?_eq_some_iff.1 hk).1).trans hk⟩

theorem row_mono {w : World} {base base' : Nat} {e : TypeId} {size : Nat} {v : Value} {n : Nat} {xs : List Value} (h : w.ownsRow base e size v n xs) (hb : base' ≤ base) : w.ownsRow base' e size v n xs :=
  ⟨h.1, h.2.imp id fun ⟨g, cap, cur, h1, h2, h3⟩ => ⟨g, cap, cur, h1, Nat.le_trans hb h2, h3⟩⟩

/-- Behind the copy of a frame: what the round leans on lies as it lay. -/
theorem behind_clone {W w1 : World} {B k : Nat} {v u : Value} {xs : List Value} (hb : Below W.drew.heap.size W.drew w1) (hv : Boxed W B 22 v) (hR : Boxed W (B + 1) 9 u) (hrow : W.ownsRow (B + 3) 9 1 v k xs) :
    Below W.heap.size W w1 ∧ Boxed w1 B 22 v ∧ Boxed w1 (B + 1) 9 u ∧ w1.ownsRow (B + 3) 9 1 v k xs := by
  have hb' : Below W.heap.size W w1 := ⟨hb.os, hb.tape, hb.output, hb.size, hb.block⟩
  exact ⟨hb', hv.kept (below_grown hb') (by simp), hR.kept (below_grown hb') (by simp), hrow.kept (below_grown hb') (by cases v.ownBlock <;> simp)⟩

/-- The end of a round: the list is longer by a frame, the rest is what is behind it. -/
theorem round_end {w W w1 w2 : World} {k g' cap' : Nat} {v u : Value} {xs ys : List Value} {o : Obj} {r : ByteArray}
    (hB : Below w.heap.size w W) (hrB : w.heap.size + 3 ≤ W.heap.size) (hbW : Below W.heap.size W w1) (hv1 : Boxed w1 w.heap.size 22 v) (hR1 : Boxed w1 (w.heap.size + 1) 9 u) (hrow1 : w1.ownsRow (w.heap.size + 3) 9 1 v k xs)
    (hown' : w2.ownsRow (w.heap.size + 3) 9 1 (.slice (some ⟨g', 0, none⟩) (k + 1) cap') (k + 1) ys) (hgrow : (w1.alloc o).grownBy w2 v.ownBlock) :
    Boxed w2 w.heap.size 22 v ∧
      (w2.setCell ⟨w.heap.size, 0, none⟩ (.slice (some ⟨g', 0, none⟩) (k + 1) cap')).cell? ⟨w.heap.size + 1, 0, none⟩ = some u ∧
      (w2.setCell ⟨w.heap.size, 0, none⟩ (.slice (some ⟨g', 0, none⟩) (k + 1) cap')).frozen? ⟨w.heap.size + 1, 0, none⟩ = false ∧ 
      (KeepsOthers W ((w2.setCell ⟨w.heap.size, 0, none⟩ (.slice (some ⟨g', 0, none⟩) (k + 1) cap')).setCell ⟨w.heap.size + 1, 0, none⟩ (.string r)) ∧ 
       KeepsWalks W ((w2.setCell ⟨w.heap.size, 0, none⟩ (.slice (some ⟨g', 0, none⟩) (k + 1) cap')).setCell ⟨w.heap.size + 1, 0, none⟩ (.string r)) ∧
       (∃ v, Boxed ((w2.setCell ⟨w.heap.size, 0, none⟩ (.slice (some ⟨g', 0, none⟩) (k + 1) cap')).setCell ⟨w.heap.size + 1, 0, none⟩ (.string r)) w.heap.size 22 v ∧ ((w2.setCell ⟨w.heap.size, 0, none⟩ (.slice (some ⟨g', 0, none⟩) (k + 1) cap')).setCell ⟨w.heap.size + 1, 0, none⟩ (.string r)).ownsRow (w.heap.size + 3) 9 1 v (k + 1) ys ∧ True) ∧
       Boxed ((w2.setCell ⟨w.heap.size, 0, none⟩ (.slice (some ⟨g', 0, none⟩) (k + 1) cap')).setCell ⟨w.heap.size + 1, 0, none⟩ (.string r)) (w.heap.size + 1) 9 (.string r) ∧ 
       Below w.heap.size w ((w2.setCell ⟨w.heap.size, 0, none⟩ (.slice (some ⟨g', 0, none⟩) (k + 1) cap')).setCell ⟨w.heap.size + 1, 0, none⟩ (.string r)) ∧
       w.heap.size + 3 ≤ ((w2.setCell ⟨w.heap.size, 0, none⟩ (.slice (some ⟨g', 0, none⟩) (k + 1) cap')).setCell ⟨w.heap.size + 1, 0, none⟩ (.string r)).heap.size) := by
  have hlow : ∀ j, v.ownBlock = some j → w.heap.size + 3 ≤ j := fun j ej => (hrow1.lt j ej).1
  have hwW := hB.size
  have hWw := hbW.size
  obtain ⟨hv2, hv3, hr3, hk3, hb3⟩ := hv1.appended (by decide) (row_mono hrow1 (Nat.le_add_right _ 3)) (by omega) (Nat.le_refl _) (row_mono hown' (Nat.le_add_right _ 3)) hgrow
  have hR2 : Boxed w2 (w.heap.size + 1) 9 u := (hR1.alloc o).kept hgrow (fun e => by have := hlow _ e.symm; omega)
  have hR3 : Boxed (w2.setCell ⟨w.heap.size, 0, none⟩ (.slice (some ⟨g', 0, none⟩) (k + 1) cap')) (w.heap.size + 1) 9 u := hR2.other (by omega) _
  have hrow3 : (w2.setCell ⟨w.heap.size, 0, none⟩ (.slice (some ⟨g', 0, none⟩) (k + 1) cap')).ownsRow (w.heap.size + 3) 9 1 (.slice (some ⟨g', 0, none⟩) (k + 1) cap') (k + 1) ys :=
    hown'.kept (grownBy_setCell' w2 _ _) (.inr (hv2.not_row (by decide) hown').symm)
  have hg' : w.heap.size + 3 ≤ g' := (hown'.lt g' rfl).1
  have hrow4 := hrow3.kept (grownBy_setCell' _ (w.heap.size + 1) (.string r)) (.inr (by simp [Value.ownBlock]; omega))
  have hk4 := ((below_others hbW).trans hk3).trans (KeepsOthers.setCell _ ⟨w.heap.size + 1, 0, none⟩ (.string r))
  exact ⟨hv2, hR3.cell, hR3.frozen, hk4, hk4.walks, ⟨_, hv3.other (by omega) _, hrow4, trivial⟩, hR3.set _, ((hB.trans (hbW.mono hwW)).trans hb3).setCell (by simp) _, Nat.le_trans hrB hk4.size⟩

/-- append to an own row, as one step of a region that draws, inside a fence. -/
theorem step_append_in {F : Fence} {n : Nat} {P : Program} {ops : Array Oper} {o : Oper} {a : Act} {w : World} {K : Act → World → Prop} {Q : Exit → Act → World → Prop} {E : Prop}
    (hg : o.guard = none) (s x : Operand) (t : TypeId) (hop : o.op = Op.call { callee := Callee.builtin Builtin.append, args := #[s, x], argTypes := #[t, t] })
    (base : Nat) (e : TypeId) (i : TypeInfo) (z : Value) (size bytes : Nat) (h1 : P.underlying t = some (.slice e)) (h2 : P.info? e = some i) (h3 : i.zero = some z) (h4 : i.size = size) (h5 : i.bytes = bytes) (h6 : z.cells.size = size) (h7 : 0 < size)
    (v : Value) (k : Nat) (xs : List Value) (hs : a.eval s = v) (hown : w.ownsRow base e size v k xs) (ad : Addr) (m c : Nat) (news : List Value) (hx : a.eval x = .slice (some ad) m c) (hn : news.length = m * size)
    (hc : ∀ j u, news[j]? = some u → w.cell? (ad.add j) = some u) (h1c : ∀ u ∈ news, u.oneCell' = true) (b1 : k + m ≤ maxLen) (b2 : (k + m) * bytes ≤ 140737488355328) (b3 : base ≤ w.heap.size)
    (hK : ∀ v' w', w'.ownsRow base e size v' (k + m) (xs ++ news) → w.grownBy w' v.ownBlock → K (a.put o.dst v') w') :
    if Region.wanted o (yielded ops a.tmps) = true then Oper.wpIn F n P o a w K Q else E := by
  have hw : Region.wanted o (yielded ops a.tmps) = true := by simp [Region.wanted, hg]
  rw [if_pos hw]
  obtain ⟨v', w', hrun, r1, r2, _⟩ := run_append_own (P := P) w base t o.type e i z size bytes h1 h2 h3 h4 h5 h6 h7 v k xs hown ad m c news hn hc h1c b1 b2 b3
  unfold Oper.wpIn
  refine ⟨?_, ?_⟩
  · simp [Oper.about, hop, resolve, Target.leads, Sem.run_pure]
  · rw [Oper.semAt_plain F _ _ (by rw [hop]; intro c hc'; cases hc')]
    simp [execOp, hop, resolve, invoke, builtin, hs, hx, hrun, Result.andThen]
    exact hK v' w' r1 r2

/-- Behind the last round: the list's row, and that nothing that was there has turned. -/
theorem cut_end {t : ByteArray} {w W w1 : World} {D n2 : Nat} {v : Value} (hB : Below w.heap.size w W) (hbW : Below W.heap.size W w1) (hD : w.heap.size ≤ D)
    (hK : (w1.drewN n2).heap[D]? = some (.deferred (some []))) (hrow : w1.ownsRow (w.heap.size + 3) 9 1 v (pairs t (cnt t)).length (List.map (fun x : Pr => Value.string x.1.1) (pairs t (cnt t)))) :
    ((w1.drewN n2).putObj D (.deferred none)).ownsRow w.heap.size 9 1 v (cnt t) ((frs t (cnt t)).map Value.string) ∧ Below w.heap.size w ((w1.drewN n2).putObj D (.deferred none)) := by
  rw [frs_pairs, pairs_length] at hrow
  have hrow2 : (w1.drewN n2).ownsRow w.heap.size 9 1 v (cnt t) ((frs t (cnt t)).map Value.string) := row_mono (hrow.kept (grownBy_drewN w1 n2) (by cases v.ownBlock <;> simp)) (Nat.le_add_right _ 3)
  refine ⟨ownsRow_putObj hrow2 _ hK rfl, ?_⟩
  have h1 : Below w.heap.size w (w1.drewN n2) := by
    have := hB.trans (hbW.mono hB.size)
    exact ⟨this.os, this.tape, this.output, this.size, this.block⟩
  exact h1.trans (belowK_b (w := w) (Nat.le_refl _) (w1.drewN n2) D _ _ hD hK rfl rfl)

set_option maxRecDepth 100000 in
set_option maxHeartbeats 2000000 in
theorem cut_any (t : ByteArray) (w : World) (ht : t.size ≤ 1048576) :
    Calls Try.prog 4 #[.string t] w fun e w' => ∃ v, e = .returned (.tuple #[v, .string (tl t (pos t (cnt t))), .bool (brk (tl t (pos t (cnt t))))]) ∧
      w'.ownsRow w.heap.size 9 1 v (cnt t) ((frs t (cnt t)).map Value.string) ∧ Below w.heap.size w w' := by
  refine (callsIn_wide (n := 6)).1 ?_
  obtain ⟨i0, hi, hz0, hz1, hz2⟩ := info_parts info9
  have hfw : ∀ k, Fence.wide.fn k := fun _ => trivial
  refine callsIn_of_wp_marks Try.func4 rfl trivial ?_ rfl
  simp only [Try.ntmps4, List.size_toArray, List.length_cons, List.length_nil, Nat.reduceAdd, Nat.reduceSub, Array.replicate_succ, Array.replicate_zero, List.push_toArray, List.append_toArray, List.nil_append, List.cons_append]
  gi_wp2_with (gi_at_call 9; refine (callsIn_wide.2 (frames_any _ _)).mono ?_; rintro e w' ⟨rfl, rfl⟩)
  have bO := Boxed.new w 22 (.slice none 0 0)
  have bR := Boxed.new (w.alloc (.cells #[.slice none 0 0] 22)) 9 (.string t)
  have bN := Boxed.new ((w.alloc (.cells #[.slice none 0 0] 22)).alloc (.cells #[.string t] 9)) 9 (.string t)
  simp only [World.size_alloc] at bR bN
  have hB0 : Below w.heap.size w (((w.alloc (.cells #[.slice none 0 0] 22)).alloc (.cells #[.string t] 9)).alloc (.cells #[.string t] 9)) := (((Below.refl _ w).alloc (Nat.le_refl _) _).alloc (by simp) _).alloc (by simp; omega) _
  have hmx : Try.prog.follows .mixedOrders = true := by kernel_rfl
  refine wpIn_rangeFunc_ownG rfl (by omega) (gf := 13) (lb := #[.pointer (some ⟨w.heap.size + 1 + 1, 0, none⟩)]) rfl trivial (enters_of Try.func13 (by kernel_rfl) rfl)
    (iter_stops 5 (by omega) (w.heap.size + 1 + 1) t _ (by simp) bN.cell) walksK_t walksK_b (Below.refl _ _) (fun _ => rfl)
    (fun pre W => (∃ v, Boxed W w.heap.size 22 v ∧ W.ownsRow (w.heap.size + 3) 9 1 v pre.length (pre.map fun x : Pr => Value.string x.1.1) ∧ True) ∧ (Boxed W (w.heap.size + 1) 9 (.string (lastOf t pre)) ∧ Below w.heap.size w W ∧ w.heap.size + 3 ≤ W.heap.size))
    (fun _ _ _ => False)
    (OwnFrom.and (Own.from (holdsRow_own (w.heap.size + 3) w.heap.size 22 9 1 (fun pre : List Pr => pre.length) (fun pre => pre.map fun x : Pr => Value.string x.1.1) (fun _ _ => True)) _) (OwnFrom.and (Own.from (boxed_own (w.heap.size + 1) 9 (fun pre : List Pr => Value.string (lastOf t pre))) _) (OwnFrom.and (ownFrom_below (Nat.le_refl _) (by simp; omega)) (fun _ _ _ _ hs hg _ => Nat.le_trans hs hg.size))))
    (fun _ _ _ _ _ hs _ _ => hs)
    ⟨⟨_, (bO.alloc _).alloc _, World.ownsRow_nil _ _ _ _, trivial⟩, bR.alloc _, hB0, by simp⟩
    (fun x : Pr => { tmps := #[.string t, undef, .slice none 0 0, .string ⟨#[]⟩, .bool false, .pointer (some ⟨w.heap.size, 0, none⟩), .pointer (some ⟨w.heap.size + 1, 0, none⟩), .string x.1.1, .string x.1.2, .string t, .string t, .func (.func 13) #[] #[.pointer (some ⟨w.heap.size + 1 + 1, 0, none⟩)], .string x.1.1, .string x.1.2, undef, undef, undef, undef, undef, undef, undef, undef, undef, undef, undef], defers := [] }) ?assign ?body ?done ?stop
  case assign =>
    intro l x W K hK
    gi_wp2
    exact hK
  case body =>
    rintro l pre x W ⟨⟨v, hv, hrow, _⟩, hR, hB, hrB⟩ hlt
    have hc := hv.cell
    have hcn := cnt_le t
    gi_wp2
    refine wpIn_region_any hmx ?_
    change wpAnyIn _ _ _ _ _ _ _ _ _ (World.drew _)
    refine wpAnyIn_ready (rs := [0, 1]) (by kernel_rfl) (by simp) ?_
    refine AllReadyIn.cons rfl (fun K hK => ?_) (AllReadyIn.cons rfl (fun K hK => ?_) AllReadyIn.nil)
    · go_simp
      refine hK _ _ ?_
      clear hK K
      refine wpAnyIn_ready (rs := [1]) (by kernel_rfl) (by simp) ?_
      refine AllReadyIn.cons rfl (fun K hK => ?_) AllReadyIn.nil
      go_simp
      refine hK _ _ ?_
      clear hK K
      refine wpAnyIn_ready (rs := [2]) (by kernel_rfl) (by simp) ?_
      refine AllReadyIn.cons rfl (fun K hK => ?_) AllReadyIn.nil
      go_simp
      refine (CallsIn.inRound l (callsIn_wide.2 (clone_any _ _ x.2))).mono ?_
      rintro e w1 ⟨rfl, hb1⟩
      obtain ⟨hbW, hv1, hR1, hrow1⟩ := behind_clone hb1 hv hR hrow
      have hc1 := hv1.cell
      have hc1a := (hv1.alloc (.cells #[.string x.1.1] 9)).cell
      refine hK _ _ ?_
      clear hK K
      refine wpAnyIn_ready (rs := [3]) (by kernel_rfl) (by simp) ?_
      refine AllReadyIn.cons rfl (fun K hK => ?_) AllReadyIn.nil
      go_simp
      refine hK _ _ ?_
      clear hK K
      refine wpAnyIn_ready (rs := [4]) (by kernel_rfl) (by simp) ?_
      refine AllReadyIn.cons rfl (fun K hK => ?_) AllReadyIn.nil
      refine step_append_in rfl (.tmp 14) (.tmp 17) 22 rfl (w.heap.size + 3) 9 i0 _ 1 16 Try.underlying22 hi hz0 hz1 hz2 rfl (by decide) v pre.length _ rfl (hrow1.alloc _) ⟨w1.heap.size, 0, none⟩ 1 1 [.string x.1.1] rfl rfl (cell_one_new _ _ _) (by simp [Value.oneCell']) (by unfold maxLen; omega) (by omega) (by have := hbW.size; simp; omega) ?_
      intro v' w2 hown' hgrow
      obtain ⟨g', cap', rfl⟩ := ownsRow_succ hown'
      obtain ⟨hv2, hW7⟩ := round_end (r := x.1.2) hB hrB hbW hv1 hR1 hrow1 hown' hgrow
      have hc2 := hv2.cell
      have hf2 := hv2.frozen
      refine hK _ _ ?_
      clear hK K
      refine wpAnyIn_ready (rs := [5]) (by kernel_rfl) (by simp) ?_
      refine AllReadyIn.cons rfl (fun K hK => ?_) AllReadyIn.nil
      go_simp
      refine hK _ _ ?_
      clear hK K
      refine wpAnyIn_done (by kernel_rfl) ?_ _
      obtain ⟨hc6, hf6, hend⟩ := hW7
      gi_wp2
      obtain ⟨q1, q2, ⟨v3, q3, q4, _⟩, q5, q6, q7⟩ := hend
      exact ⟨q1.from _, q2, ⟨v3, q3, by simpa using q4, trivial⟩, by rw [lastOf_snoc]; exact q5, q6, q7⟩
    · go_simp
      refine hK _ _ ?_
      clear hK K
      refine wpAnyIn_ready (rs := [0, 2]) (by kernel_rfl) (by simp) ?_
      refine AllReadyIn.cons rfl (fun K hK => ?_) (AllReadyIn.cons rfl (fun K hK => ?_) AllReadyIn.nil)
      · go_simp
        refine hK _ _ ?_
        clear hK K
        refine wpAnyIn_ready (rs := [2]) (by kernel_rfl) (by simp) ?_
        refine AllReadyIn.cons rfl (fun K hK => ?_) AllReadyIn.nil
        go_simp
        refine (CallsIn.inRound l (callsIn_wide.2 (clone_any _ _ x.2))).mono ?_
        rintro e w1 ⟨rfl, hb1⟩
        obtain ⟨hbW, hv1, hR1, hrow1⟩ := behind_clone hb1 hv hR hrow
        have hc1 := hv1.cell
        have hc1a := (hv1.alloc (.cells #[.string x.1.1] 9)).cell
        refine hK _ _ ?_
        clear hK K
        refine wpAnyIn_ready (rs := [3]) (by kernel_rfl) (by simp) ?_
        refine AllReadyIn.cons rfl (fun K hK => ?_) AllReadyIn.nil
        go_simp
        refine hK _ _ ?_
        clear hK K
        refine wpAnyIn_ready (rs := [4]) (by kernel_rfl) (by simp) ?_
        refine AllReadyIn.cons rfl (fun K hK => ?_) AllReadyIn.nil
        refine step_append_in rfl (.tmp 14) (.tmp 17) 22 rfl (w.heap.size + 3) 9 i0 _ 1 16 Try.underlying22 hi hz0 hz1 hz2 rfl (by decide) v pre.length _ rfl (hrow1.alloc _) ⟨w1.heap.size, 0, none⟩ 1 1 [.string x.1.1] rfl rfl (cell_one_new _ _ _) (by simp [Value.oneCell']) (by unfold maxLen; omega) (by omega) (by have := hbW.size; simp; omega) ?_
        intro v' w2 hown' hgrow
        obtain ⟨g', cap', rfl⟩ := ownsRow_succ hown'
        obtain ⟨hv2, hW7⟩ := round_end (r := x.1.2) hB hrB hbW hv1 hR1 hrow1 hown' hgrow
        have hc2 := hv2.cell
        have hf2 := hv2.frozen
        refine hK _ _ ?_
        clear hK K
        refine wpAnyIn_ready (rs := [5]) (by kernel_rfl) (by simp) ?_
        refine AllReadyIn.cons rfl (fun K hK => ?_) AllReadyIn.nil
        go_simp
        refine hK _ _ ?_
        clear hK K
        refine wpAnyIn_done (by kernel_rfl) ?_ _
        obtain ⟨hc6, hf6, hend⟩ := hW7
        gi_wp2
        obtain ⟨q1, q2, ⟨v3, q3, q4, _⟩, q5, q6, q7⟩ := hend
        exact ⟨q1.from _, q2, ⟨v3, q3, by simpa using q4, trivial⟩, by rw [lastOf_snoc]; exact q5, q6, q7⟩
      · go_simp
        refine (CallsIn.inRound l (callsIn_wide.2 (clone_any _ _ x.2))).mono ?_
        rintro e w1 ⟨rfl, hb1⟩
        obtain ⟨hbW, hv1, hR1, hrow1⟩ := behind_clone hb1 hv hR hrow
        have hc1 := hv1.cell
        have hc1a := (hv1.alloc (.cells #[.string x.1.1] 9)).cell
        refine hK _ _ ?_
        clear hK K
        refine wpAnyIn_ready (rs := [0, 3]) (by kernel_rfl) (by simp) ?_
        refine AllReadyIn.cons rfl (fun K hK => ?_) (AllReadyIn.cons rfl (fun K hK => ?_) AllReadyIn.nil)
        · go_simp
          refine hK _ _ ?_
          clear hK K
          refine wpAnyIn_ready (rs := [3]) (by kernel_rfl) (by simp) ?_
          refine AllReadyIn.cons rfl (fun K hK => ?_) AllReadyIn.nil
          go_simp
          refine hK _ _ ?_
          clear hK K
          refine wpAnyIn_ready (rs := [4]) (by kernel_rfl) (by simp) ?_
          refine AllReadyIn.cons rfl (fun K hK => ?_) AllReadyIn.nil
          refine step_append_in rfl (.tmp 14) (.tmp 17) 22 rfl (w.heap.size + 3) 9 i0 _ 1 16 Try.underlying22 hi hz0 hz1 hz2 rfl (by decide) v pre.length _ rfl (hrow1.alloc _) ⟨w1.heap.size, 0, none⟩ 1 1 [.string x.1.1] rfl rfl (cell_one_new _ _ _) (by simp [Value.oneCell']) (by unfold maxLen; omega) (by omega) (by have := hbW.size; simp; omega) ?_
          intro v' w2 hown' hgrow
          obtain ⟨g', cap', rfl⟩ := ownsRow_succ hown'
          obtain ⟨hv2, hW7⟩ := round_end (r := x.1.2) hB hrB hbW hv1 hR1 hrow1 hown' hgrow
          have hc2 := hv2.cell
          have hf2 := hv2.frozen
          refine hK _ _ ?_
          clear hK K
          refine wpAnyIn_ready (rs := [5]) (by kernel_rfl) (by simp) ?_
          refine AllReadyIn.cons rfl (fun K hK => ?_) AllReadyIn.nil
          go_simp
          refine hK _ _ ?_
          clear hK K
          refine wpAnyIn_done (by kernel_rfl) ?_ _
          obtain ⟨hc6, hf6, hend⟩ := hW7
          gi_wp2
          obtain ⟨q1, q2, ⟨v3, q3, q4, _⟩, q5, q6, q7⟩ := hend
          exact ⟨q1.from _, q2, ⟨v3, q3, by simpa using q4, trivial⟩, by rw [lastOf_snoc]; exact q5, q6, q7⟩
        · go_simp
          refine hK _ _ ?_
          clear hK K
          refine wpAnyIn_ready (rs := [0]) (by kernel_rfl) (by simp) ?_
          refine AllReadyIn.cons rfl (fun K hK => ?_) AllReadyIn.nil
          go_simp
          refine hK _ _ ?_
          clear hK K
          refine wpAnyIn_ready (rs := [4]) (by kernel_rfl) (by simp) ?_
          refine AllReadyIn.cons rfl (fun K hK => ?_) AllReadyIn.nil
          refine step_append_in rfl (.tmp 14) (.tmp 17) 22 rfl (w.heap.size + 3) 9 i0 _ 1 16 Try.underlying22 hi hz0 hz1 hz2 rfl (by decide) v pre.length _ rfl (hrow1.alloc _) ⟨w1.heap.size, 0, none⟩ 1 1 [.string x.1.1] rfl rfl (cell_one_new _ _ _) (by simp [Value.oneCell']) (by unfold maxLen; omega) (by omega) (by have := hbW.size; simp; omega) ?_
          intro v' w2 hown' hgrow
          obtain ⟨g', cap', rfl⟩ := ownsRow_succ hown'
          obtain ⟨hv2, hW7⟩ := round_end (r := x.1.2) hB hrB hbW hv1 hR1 hrow1 hown' hgrow
          have hc2 := hv2.cell
          have hf2 := hv2.frozen
          refine hK _ _ ?_
          clear hK K
          refine wpAnyIn_ready (rs := [5]) (by kernel_rfl) (by simp) ?_
          refine AllReadyIn.cons rfl (fun K hK => ?_) AllReadyIn.nil
          go_simp
          refine hK _ _ ?_
          clear hK K
          refine wpAnyIn_done (by kernel_rfl) ?_ _
          obtain ⟨hc6, hf6, hend⟩ := hW7
          gi_wp2
          obtain ⟨q1, q2, ⟨v3, q3, q4, _⟩, q5, q6, q7⟩ := hend
          exact ⟨q1.from _, q2, ⟨v3, q3, by simpa using q4, trivial⟩, by rw [lastOf_snoc]; exact q5, q6, q7⟩
  case done =>
    rintro D ys W hD rfl ⟨⟨v, hv, hrow, _⟩, hR, hB, hrB⟩ hK
    rw [lastOf_pairs] at hR
    have hc := hv.cell
    have hcR := hR.cell
    have hsz : (tl t (pos t (cnt t))).size ≤ 1048576 := by rw [tl_size]; omega
    gi_wp2
    refine wpIn_region_any hmx ?_
    change wpAnyIn _ _ _ _ _ _ _ _ _ (World.drew _)
    -- region 8
    refine wpAnyIn_ready (rs := [0, 1, 3]) (by kernel_rfl) (by simp) ?_
    refine AllReadyIn.cons rfl (fun K hK => ?_) (AllReadyIn.cons rfl (fun K hK => ?_) (AllReadyIn.cons rfl (fun K hK => ?_) AllReadyIn.nil))
    · go_simp
      refine hK _ _ ?_
      clear hK K
      refine wpAnyIn_ready (rs := [1, 3]) (by kernel_rfl) (by simp) ?_
      refine AllReadyIn.cons rfl (fun K hK => ?_) (AllReadyIn.cons rfl (fun K hK => ?_) AllReadyIn.nil)
      · go_simp
        refine hK _ _ ?_
        clear hK K
        refine wpAnyIn_ready (rs := [2, 3]) (by kernel_rfl) (by simp) ?_
        refine AllReadyIn.cons rfl (fun K hK => ?_) (AllReadyIn.cons rfl (fun K hK => ?_) AllReadyIn.nil)
        · go_simp
          refine (callsIn_wide.2 (clone_any _ _ hsz)).mono ?_
          rintro e w1 ⟨rfl, hb1⟩
          obtain ⟨hbW, hv1, hR1, hrow1⟩ := behind_clone hb1 hv hR hrow
          have hc1 := hv1.cell
          have hcR1 := hR1.cell
          refine hK _ _ ?_
          clear hK K
          refine wpAnyIn_ready (rs := [3]) (by kernel_rfl) (by simp) ?_
          refine AllReadyIn.cons rfl (fun K hK => ?_) AllReadyIn.nil
          go_simp
          refine hK _ _ ?_
          clear hK K
          refine wpAnyIn_ready (rs := [4]) (by kernel_rfl) (by simp) ?_
          refine AllReadyIn.cons rfl (fun K hK => ?_) AllReadyIn.nil
          go_simp
          refine (callsIn_wide.2 (broken_any _ _)).mono ?_
          rintro e w2 ⟨rfl, n2, rfl⟩
          refine hK _ _ ?_
          clear hK K
          refine wpAnyIn_ready (rs := [5]) (by kernel_rfl) (by simp) ?_
          refine AllReadyIn.cons rfl (fun K hK => ?_) AllReadyIn.nil
          go_simp
          refine hK _ _ ?_
          clear hK K
          refine wpAnyIn_ready (rs := [6]) (by kernel_rfl) (by simp) ?_
          refine AllReadyIn.cons rfl (fun K hK => ?_) AllReadyIn.nil
          go_simp
          refine hK _ _ ?_
          clear hK K
          refine wpAnyIn_ready (rs := [7]) (by kernel_rfl) (by simp) ?_
          refine AllReadyIn.cons rfl (fun K hK => ?_) AllReadyIn.nil
          go_simp
          refine hK _ _ ?_
          clear hK K
          refine wpAnyIn_done (by kernel_rfl) ?_ _
          gi_wp2
          have hK1 : (w1.drewN n2).heap[D]? = some (.deferred (some [])) := (hbW.block D (Array.getElem?_eq_some_iff.1 hK).1).trans hK
          refine ⟨by simp, .inl ⟨_, _, rfl, run_takeDeferred hK1, ?_⟩⟩
          exact ⟨.tuple #[v, .string (tl t (pos t (cnt t))), .bool (brk (tl t (pos t (cnt t))))], by simp [results, Try.results4, go_sem], v, rfl, cut_end hB hbW (by simp at hD; omega) hK1 hrow1⟩
        · go_simp
          refine hK _ _ ?_
          clear hK K
          refine wpAnyIn_ready (rs := [2]) (by kernel_rfl) (by simp) ?_
          refine AllReadyIn.cons rfl (fun K hK => ?_) AllReadyIn.nil
          go_simp
          refine (callsIn_wide.2 (clone_any _ _ hsz)).mono ?_
          rintro e w1 ⟨rfl, hb1⟩
          obtain ⟨hbW, hv1, hR1, hrow1⟩ := behind_clone hb1 hv hR hrow
          have hc1 := hv1.cell
          have hcR1 := hR1.cell
          refine hK _ _ ?_
          clear hK K
          refine wpAnyIn_ready (rs := [4]) (by kernel_rfl) (by simp) ?_
          refine AllReadyIn.cons rfl (fun K hK => ?_) AllReadyIn.nil
          go_simp
          refine (callsIn_wide.2 (broken_any _ _)).mono ?_
          rintro e w2 ⟨rfl, n2, rfl⟩
          refine hK _ _ ?_
          clear hK K
          refine wpAnyIn_ready (rs := [5]) (by kernel_rfl) (by simp) ?_
          refine AllReadyIn.cons rfl (fun K hK => ?_) AllReadyIn.nil
          go_simp
          refine hK _ _ ?_
          clear hK K
          refine wpAnyIn_ready (rs := [6]) (by kernel_rfl) (by simp) ?_
          refine AllReadyIn.cons rfl (fun K hK => ?_) AllReadyIn.nil
          go_simp
          refine hK _ _ ?_
          clear hK K
          refine wpAnyIn_ready (rs := [7]) (by kernel_rfl) (by simp) ?_
          refine AllReadyIn.cons rfl (fun K hK => ?_) AllReadyIn.nil
          go_simp
          refine hK _ _ ?_
          clear hK K
          refine wpAnyIn_done (by kernel_rfl) ?_ _
          gi_wp2
          have hK1 : (w1.drewN n2).heap[D]? = some (.deferred (some [])) := (hbW.block D (Array.getElem?_eq_some_iff.1 hK).1).trans hK
          refine ⟨by simp, .inl ⟨_, _, rfl, run_takeDeferred hK1, ?_⟩⟩
          exact ⟨.tuple #[v, .string (tl t (pos t (cnt t))), .bool (brk (tl t (pos t (cnt t))))], by simp [results, Try.results4, go_sem], v, rfl, cut_end hB hbW (by simp at hD; omega) hK1 hrow1⟩
      · go_simp
        refine hK _ _ ?_
        clear hK K
        refine wpAnyIn_ready (rs := [1]) (by kernel_rfl) (by simp) ?_
        refine AllReadyIn.cons rfl (fun K hK => ?_) AllReadyIn.nil
        go_simp
        refine hK _ _ ?_
        clear hK K
        refine wpAnyIn_ready (rs := [2]) (by kernel_rfl) (by simp) ?_
        refine AllReadyIn.cons rfl (fun K hK => ?_) AllReadyIn.nil
        go_simp
        refine (callsIn_wide.2 (clone_any _ _ hsz)).mono ?_
        rintro e w1 ⟨rfl, hb1⟩
        obtain ⟨hbW, hv1, hR1, hrow1⟩ := behind_clone hb1 hv hR hrow
        have hc1 := hv1.cell
        have hcR1 := hR1.cell
        refine hK _ _ ?_
        clear hK K
        refine wpAnyIn_ready (rs := [4]) (by kernel_rfl) (by simp) ?_
        refine AllReadyIn.cons rfl (fun K hK => ?_) AllReadyIn.nil
        go_simp
        refine (callsIn_wide.2 (broken_any _ _)).mono ?_
        rintro e w2 ⟨rfl, n2, rfl⟩
        refine hK _ _ ?_
        clear hK K
        refine wpAnyIn_ready (rs := [5]) (by kernel_rfl) (by simp) ?_
        refine AllReadyIn.cons rfl (fun K hK => ?_) AllReadyIn.nil
        go_simp
        refine hK _ _ ?_
        clear hK K
        refine wpAnyIn_ready (rs := [6]) (by kernel_rfl) (by simp) ?_
        refine AllReadyIn.cons rfl (fun K hK => ?_) AllReadyIn.nil
        go_simp
        refine hK _ _ ?_
        clear hK K
        refine wpAnyIn_ready (rs := [7]) (by kernel_rfl) (by simp) ?_
        refine AllReadyIn.cons rfl (fun K hK => ?_) AllReadyIn.nil
        go_simp
        refine hK _ _ ?_
        clear hK K
        refine wpAnyIn_done (by kernel_rfl) ?_ _
        gi_wp2
        have hK1 : (w1.drewN n2).heap[D]? = some (.deferred (some [])) := (hbW.block D (Array.getElem?_eq_some_iff.1 hK).1).trans hK
        refine ⟨by simp, .inl ⟨_, _, rfl, run_takeDeferred hK1, ?_⟩⟩
        exact ⟨.tuple #[v, .string (tl t (pos t (cnt t))), .bool (brk (tl t (pos t (cnt t))))], by simp [results, Try.results4, go_sem], v, rfl, cut_end hB hbW (by simp at hD; omega) hK1 hrow1⟩
    · go_simp
      refine hK _ _ ?_
      clear hK K
      refine wpAnyIn_ready (rs := [0, 2, 3]) (by kernel_rfl) (by simp) ?_
      refine AllReadyIn.cons rfl (fun K hK => ?_) (AllReadyIn.cons rfl (fun K hK => ?_) (AllReadyIn.cons rfl (fun K hK => ?_) AllReadyIn.nil))
      · go_simp
        refine hK _ _ ?_
        clear hK K
        refine wpAnyIn_ready (rs := [2, 3]) (by kernel_rfl) (by simp) ?_
        refine AllReadyIn.cons rfl (fun K hK => ?_) (AllReadyIn.cons rfl (fun K hK => ?_) AllReadyIn.nil)
        · go_simp
          refine (callsIn_wide.2 (clone_any _ _ hsz)).mono ?_
          rintro e w1 ⟨rfl, hb1⟩
          obtain ⟨hbW, hv1, hR1, hrow1⟩ := behind_clone hb1 hv hR hrow
          have hc1 := hv1.cell
          have hcR1 := hR1.cell
          refine hK _ _ ?_
          clear hK K
          refine wpAnyIn_ready (rs := [3]) (by kernel_rfl) (by simp) ?_
          refine AllReadyIn.cons rfl (fun K hK => ?_) AllReadyIn.nil
          go_simp
          refine hK _ _ ?_
          clear hK K
          refine wpAnyIn_ready (rs := [4]) (by kernel_rfl) (by simp) ?_
          refine AllReadyIn.cons rfl (fun K hK => ?_) AllReadyIn.nil
          go_simp
          refine (callsIn_wide.2 (broken_any _ _)).mono ?_
          rintro e w2 ⟨rfl, n2, rfl⟩
          refine hK _ _ ?_
          clear hK K
          refine wpAnyIn_ready (rs := [5]) (by kernel_rfl) (by simp) ?_
          refine AllReadyIn.cons rfl (fun K hK => ?_) AllReadyIn.nil
          go_simp
          refine hK _ _ ?_
          clear hK K
          refine wpAnyIn_ready (rs := [6]) (by kernel_rfl) (by simp) ?_
          refine AllReadyIn.cons rfl (fun K hK => ?_) AllReadyIn.nil
          go_simp
          refine hK _ _ ?_
          clear hK K
          refine wpAnyIn_ready (rs := [7]) (by kernel_rfl) (by simp) ?_
          refine AllReadyIn.cons rfl (fun K hK => ?_) AllReadyIn.nil
          go_simp
          refine hK _ _ ?_
          clear hK K
          refine wpAnyIn_done (by kernel_rfl) ?_ _
          gi_wp2
          have hK1 : (w1.drewN n2).heap[D]? = some (.deferred (some [])) := (hbW.block D (Array.getElem?_eq_some_iff.1 hK).1).trans hK
          refine ⟨by simp, .inl ⟨_, _, rfl, run_takeDeferred hK1, ?_⟩⟩
          exact ⟨.tuple #[v, .string (tl t (pos t (cnt t))), .bool (brk (tl t (pos t (cnt t))))], by simp [results, Try.results4, go_sem], v, rfl, cut_end hB hbW (by simp at hD; omega) hK1 hrow1⟩
        · go_simp
          refine hK _ _ ?_
          clear hK K
          refine wpAnyIn_ready (rs := [2]) (by kernel_rfl) (by simp) ?_
          refine AllReadyIn.cons rfl (fun K hK => ?_) AllReadyIn.nil
          go_simp
          refine (callsIn_wide.2 (clone_any _ _ hsz)).mono ?_
          rintro e w1 ⟨rfl, hb1⟩
          obtain ⟨hbW, hv1, hR1, hrow1⟩ := behind_clone hb1 hv hR hrow
          have hc1 := hv1.cell
          have hcR1 := hR1.cell
          refine hK _ _ ?_
          clear hK K
          refine wpAnyIn_ready (rs := [4]) (by kernel_rfl) (by simp) ?_
          refine AllReadyIn.cons rfl (fun K hK => ?_) AllReadyIn.nil
          go_simp
          refine (callsIn_wide.2 (broken_any _ _)).mono ?_
          rintro e w2 ⟨rfl, n2, rfl⟩
          refine hK _ _ ?_
          clear hK K
          refine wpAnyIn_ready (rs := [5]) (by kernel_rfl) (by simp) ?_
          refine AllReadyIn.cons rfl (fun K hK => ?_) AllReadyIn.nil
          go_simp
          refine hK _ _ ?_
          clear hK K
          refine wpAnyIn_ready (rs := [6]) (by kernel_rfl) (by simp) ?_
          refine AllReadyIn.cons rfl (fun K hK => ?_) AllReadyIn.nil
          go_simp
          refine hK _ _ ?_
          clear hK K
          refine wpAnyIn_ready (rs := [7]) (by kernel_rfl) (by simp) ?_
          refine AllReadyIn.cons rfl (fun K hK => ?_) AllReadyIn.nil
          go_simp
          refine hK _ _ ?_
          clear hK K
          refine wpAnyIn_done (by kernel_rfl) ?_ _
          gi_wp2
          have hK1 : (w1.drewN n2).heap[D]? = some (.deferred (some [])) := (hbW.block D (Array.getElem?_eq_some_iff.1 hK).1).trans hK
          refine ⟨by simp, .inl ⟨_, _, rfl, run_takeDeferred hK1, ?_⟩⟩
          exact ⟨.tuple #[v, .string (tl t (pos t (cnt t))), .bool (brk (tl t (pos t (cnt t))))], by simp [results, Try.results4, go_sem], v, rfl, cut_end hB hbW (by simp at hD; omega) hK1 hrow1⟩
      · go_simp
        refine (callsIn_wide.2 (clone_any _ _ hsz)).mono ?_
        rintro e w1 ⟨rfl, hb1⟩
        obtain ⟨hbW, hv1, hR1, hrow1⟩ := behind_clone hb1 hv hR hrow
        have hc1 := hv1.cell
        have hcR1 := hR1.cell
        refine hK _ _ ?_
        clear hK K
        refine wpAnyIn_ready (rs := [0, 3]) (by kernel_rfl) (by simp) ?_
        refine AllReadyIn.cons rfl (fun K hK => ?_) (AllReadyIn.cons rfl (fun K hK => ?_) AllReadyIn.nil)
        · go_simp
          refine hK _ _ ?_
          clear hK K
          refine wpAnyIn_ready (rs := [3]) (by kernel_rfl) (by simp) ?_
          refine AllReadyIn.cons rfl (fun K hK => ?_) AllReadyIn.nil
          go_simp
          refine hK _ _ ?_
          clear hK K
          refine wpAnyIn_ready (rs := [4]) (by kernel_rfl) (by simp) ?_
          refine AllReadyIn.cons rfl (fun K hK => ?_) AllReadyIn.nil
          go_simp
          refine (callsIn_wide.2 (broken_any _ _)).mono ?_
          rintro e w2 ⟨rfl, n2, rfl⟩
          refine hK _ _ ?_
          clear hK K
          refine wpAnyIn_ready (rs := [5]) (by kernel_rfl) (by simp) ?_
          refine AllReadyIn.cons rfl (fun K hK => ?_) AllReadyIn.nil
          go_simp
          refine hK _ _ ?_
          clear hK K
          refine wpAnyIn_ready (rs := [6]) (by kernel_rfl) (by simp) ?_
          refine AllReadyIn.cons rfl (fun K hK => ?_) AllReadyIn.nil
          go_simp
          refine hK _ _ ?_
          clear hK K
          refine wpAnyIn_ready (rs := [7]) (by kernel_rfl) (by simp) ?_
          refine AllReadyIn.cons rfl (fun K hK => ?_) AllReadyIn.nil
          go_simp
          refine hK _ _ ?_
          clear hK K
          refine wpAnyIn_done (by kernel_rfl) ?_ _
          gi_wp2
          have hK1 : (w1.drewN n2).heap[D]? = some (.deferred (some [])) := (hbW.block D (Array.getElem?_eq_some_iff.1 hK).1).trans hK
          refine ⟨by simp, .inl ⟨_, _, rfl, run_takeDeferred hK1, ?_⟩⟩
          exact ⟨.tuple #[v, .string (tl t (pos t (cnt t))), .bool (brk (tl t (pos t (cnt t))))], by simp [results, Try.results4, go_sem], v, rfl, cut_end hB hbW (by simp at hD; omega) hK1 hrow1⟩
        · go_simp
          refine hK _ _ ?_
          clear hK K
          refine wpAnyIn_ready (rs := [0, 4]) (by kernel_rfl) (by simp) ?_
          refine AllReadyIn.cons rfl (fun K hK => ?_) (AllReadyIn.cons rfl (fun K hK => ?_) AllReadyIn.nil)
          · go_simp
            refine hK _ _ ?_
            clear hK K
            refine wpAnyIn_ready (rs := [4]) (by kernel_rfl) (by simp) ?_
            refine AllReadyIn.cons rfl (fun K hK => ?_) AllReadyIn.nil
            go_simp
            refine (callsIn_wide.2 (broken_any _ _)).mono ?_
            rintro e w2 ⟨rfl, n2, rfl⟩
            refine hK _ _ ?_
            clear hK K
            refine wpAnyIn_ready (rs := [5]) (by kernel_rfl) (by simp) ?_
            refine AllReadyIn.cons rfl (fun K hK => ?_) AllReadyIn.nil
            go_simp
            refine hK _ _ ?_
            clear hK K
            refine wpAnyIn_ready (rs := [6]) (by kernel_rfl) (by simp) ?_
            refine AllReadyIn.cons rfl (fun K hK => ?_) AllReadyIn.nil
            go_simp
            refine hK _ _ ?_
            clear hK K
            refine wpAnyIn_ready (rs := [7]) (by kernel_rfl) (by simp) ?_
            refine AllReadyIn.cons rfl (fun K hK => ?_) AllReadyIn.nil
            go_simp
            refine hK _ _ ?_
            clear hK K
            refine wpAnyIn_done (by kernel_rfl) ?_ _
            gi_wp2
            have hK1 : (w1.drewN n2).heap[D]? = some (.deferred (some [])) := (hbW.block D (Array.getElem?_eq_some_iff.1 hK).1).trans hK
            refine ⟨by simp, .inl ⟨_, _, rfl, run_takeDeferred hK1, ?_⟩⟩
            exact ⟨.tuple #[v, .string (tl t (pos t (cnt t))), .bool (brk (tl t (pos t (cnt t))))], by simp [results, Try.results4, go_sem], v, rfl, cut_end hB hbW (by simp at hD; omega) hK1 hrow1⟩
          · go_simp
            refine (callsIn_wide.2 (broken_any _ _)).mono ?_
            rintro e w2 ⟨rfl, n2, rfl⟩
            refine hK _ _ ?_
            clear hK K
            refine wpAnyIn_ready (rs := [0]) (by kernel_rfl) (by simp) ?_
            refine AllReadyIn.cons rfl (fun K hK => ?_) AllReadyIn.nil
            go_simp
            refine hK _ _ ?_
            clear hK K
            refine wpAnyIn_ready (rs := [5]) (by kernel_rfl) (by simp) ?_
            refine AllReadyIn.cons rfl (fun K hK => ?_) AllReadyIn.nil
            go_simp
            refine hK _ _ ?_
            clear hK K
            refine wpAnyIn_ready (rs := [6]) (by kernel_rfl) (by simp) ?_
            refine AllReadyIn.cons rfl (fun K hK => ?_) AllReadyIn.nil
            go_simp
            refine hK _ _ ?_
            clear hK K
            refine wpAnyIn_ready (rs := [7]) (by kernel_rfl) (by simp) ?_
            refine AllReadyIn.cons rfl (fun K hK => ?_) AllReadyIn.nil
            go_simp
            refine hK _ _ ?_
            clear hK K
            refine wpAnyIn_done (by kernel_rfl) ?_ _
            gi_wp2
            have hK1 : (w1.drewN n2).heap[D]? = some (.deferred (some [])) := (hbW.block D (Array.getElem?_eq_some_iff.1 hK).1).trans hK
            refine ⟨by simp, .inl ⟨_, _, rfl, run_takeDeferred hK1, ?_⟩⟩
            exact ⟨.tuple #[v, .string (tl t (pos t (cnt t))), .bool (brk (tl t (pos t (cnt t))))], by simp [results, Try.results4, go_sem], v, rfl, cut_end hB hbW (by simp at hD; omega) hK1 hrow1⟩
      · go_simp
        refine hK _ _ ?_
        clear hK K
        refine wpAnyIn_ready (rs := [0, 2]) (by kernel_rfl) (by simp) ?_
        refine AllReadyIn.cons rfl (fun K hK => ?_) (AllReadyIn.cons rfl (fun K hK => ?_) AllReadyIn.nil)
        · go_simp
          refine hK _ _ ?_
          clear hK K
          refine wpAnyIn_ready (rs := [2]) (by kernel_rfl) (by simp) ?_
          refine AllReadyIn.cons rfl (fun K hK => ?_) AllReadyIn.nil
          go_simp
          refine (callsIn_wide.2 (clone_any _ _ hsz)).mono ?_
          rintro e w1 ⟨rfl, hb1⟩
          obtain ⟨hbW, hv1, hR1, hrow1⟩ := behind_clone hb1 hv hR hrow
          have hc1 := hv1.cell
          have hcR1 := hR1.cell
          refine hK _ _ ?_
          clear hK K
          refine wpAnyIn_ready (rs := [4]) (by kernel_rfl) (by simp) ?_
          refine AllReadyIn.cons rfl (fun K hK => ?_) AllReadyIn.nil
          go_simp
          refine (callsIn_wide.2 (broken_any _ _)).mono ?_
          rintro e w2 ⟨rfl, n2, rfl⟩
          refine hK _ _ ?_
          clear hK K
          refine wpAnyIn_ready (rs := [5]) (by kernel_rfl) (by simp) ?_
          refine AllReadyIn.cons rfl (fun K hK => ?_) AllReadyIn.nil
          go_simp
          refine hK _ _ ?_
          clear hK K
          refine wpAnyIn_ready (rs := [6]) (by kernel_rfl) (by simp) ?_
          refine AllReadyIn.cons rfl (fun K hK => ?_) AllReadyIn.nil
          go_simp
          refine hK _ _ ?_
          clear hK K
          refine wpAnyIn_ready (rs := [7]) (by kernel_rfl) (by simp) ?_
          refine AllReadyIn.cons rfl (fun K hK => ?_) AllReadyIn.nil
          go_simp
          refine hK _ _ ?_
          clear hK K
          refine wpAnyIn_done (by kernel_rfl) ?_ _
          gi_wp2
          have hK1 : (w1.drewN n2).heap[D]? = some (.deferred (some [])) := (hbW.block D (Array.getElem?_eq_some_iff.1 hK).1).trans hK
          refine ⟨by simp, .inl ⟨_, _, rfl, run_takeDeferred hK1, ?_⟩⟩
          exact ⟨.tuple #[v, .string (tl t (pos t (cnt t))), .bool (brk (tl t (pos t (cnt t))))], by simp [results, Try.results4, go_sem], v, rfl, cut_end hB hbW (by simp at hD; omega) hK1 hrow1⟩
        · go_simp
          refine (callsIn_wide.2 (clone_any _ _ hsz)).mono ?_
          rintro e w1 ⟨rfl, hb1⟩
          obtain ⟨hbW, hv1, hR1, hrow1⟩ := behind_clone hb1 hv hR hrow
          have hc1 := hv1.cell
          have hcR1 := hR1.cell
          refine hK _ _ ?_
          clear hK K
          refine wpAnyIn_ready (rs := [0, 4]) (by kernel_rfl) (by simp) ?_
          refine AllReadyIn.cons rfl (fun K hK => ?_) (AllReadyIn.cons rfl (fun K hK => ?_) AllReadyIn.nil)
          · go_simp
            refine hK _ _ ?_
            clear hK K
            refine wpAnyIn_ready (rs := [4]) (by kernel_rfl) (by simp) ?_
            refine AllReadyIn.cons rfl (fun K hK => ?_) AllReadyIn.nil
            go_simp
            refine (callsIn_wide.2 (broken_any _ _)).mono ?_
            rintro e w2 ⟨rfl, n2, rfl⟩
            refine hK _ _ ?_
            clear hK K
            refine wpAnyIn_ready (rs := [5]) (by kernel_rfl) (by simp) ?_
            refine AllReadyIn.cons rfl (fun K hK => ?_) AllReadyIn.nil
            go_simp
            refine hK _ _ ?_
            clear hK K
            refine wpAnyIn_ready (rs := [6]) (by kernel_rfl) (by simp) ?_
            refine AllReadyIn.cons rfl (fun K hK => ?_) AllReadyIn.nil
            go_simp
            refine hK _ _ ?_
            clear hK K
            refine wpAnyIn_ready (rs := [7]) (by kernel_rfl) (by simp) ?_
            refine AllReadyIn.cons rfl (fun K hK => ?_) AllReadyIn.nil
            go_simp
            refine hK _ _ ?_
            clear hK K
            refine wpAnyIn_done (by kernel_rfl) ?_ _
            gi_wp2
            have hK1 : (w1.drewN n2).heap[D]? = some (.deferred (some [])) := (hbW.block D (Array.getElem?_eq_some_iff.1 hK).1).trans hK
            refine ⟨by simp, .inl ⟨_, _, rfl, run_takeDeferred hK1, ?_⟩⟩
            exact ⟨.tuple #[v, .string (tl t (pos t (cnt t))), .bool (brk (tl t (pos t (cnt t))))], by simp [results, Try.results4, go_sem], v, rfl, cut_end hB hbW (by simp at hD; omega) hK1 hrow1⟩
          · go_simp
            refine (callsIn_wide.2 (broken_any _ _)).mono ?_
            rintro e w2 ⟨rfl, n2, rfl⟩
            refine hK _ _ ?_
            clear hK K
            refine wpAnyIn_ready (rs := [0]) (by kernel_rfl) (by simp) ?_
            refine AllReadyIn.cons rfl (fun K hK => ?_) AllReadyIn.nil
            go_simp
            refine hK _ _ ?_
            clear hK K
            refine wpAnyIn_ready (rs := [5]) (by kernel_rfl) (by simp) ?_
            refine AllReadyIn.cons rfl (fun K hK => ?_) AllReadyIn.nil
            go_simp
            refine hK _ _ ?_
            clear hK K
            refine wpAnyIn_ready (rs := [6]) (by kernel_rfl) (by simp) ?_
            refine AllReadyIn.cons rfl (fun K hK => ?_) AllReadyIn.nil
            go_simp
            refine hK _ _ ?_
            clear hK K
            refine wpAnyIn_ready (rs := [7]) (by kernel_rfl) (by simp) ?_
            refine AllReadyIn.cons rfl (fun K hK => ?_) AllReadyIn.nil
            go_simp
            refine hK _ _ ?_
            clear hK K
            refine wpAnyIn_done (by kernel_rfl) ?_ _
            gi_wp2
            have hK1 : (w1.drewN n2).heap[D]? = some (.deferred (some [])) := (hbW.block D (Array.getElem?_eq_some_iff.1 hK).1).trans hK
            refine ⟨by simp, .inl ⟨_, _, rfl, run_takeDeferred hK1, ?_⟩⟩
            exact ⟨.tuple #[v, .string (tl t (pos t (cnt t))), .bool (brk (tl t (pos t (cnt t))))], by simp [results, Try.results4, go_sem], v, rfl, cut_end hB hbW (by simp at hD; omega) hK1 hrow1⟩
    · go_simp
      refine hK _ _ ?_
      clear hK K
      refine wpAnyIn_ready (rs := [0, 1]) (by kernel_rfl) (by simp) ?_
      refine AllReadyIn.cons rfl (fun K hK => ?_) (AllReadyIn.cons rfl (fun K hK => ?_) AllReadyIn.nil)
      · go_simp
        refine hK _ _ ?_
        clear hK K
        refine wpAnyIn_ready (rs := [1]) (by kernel_rfl) (by simp) ?_
        refine AllReadyIn.cons rfl (fun K hK => ?_) AllReadyIn.nil
        go_simp
        refine hK _ _ ?_
        clear hK K
        refine wpAnyIn_ready (rs := [2]) (by kernel_rfl) (by simp) ?_
        refine AllReadyIn.cons rfl (fun K hK => ?_) AllReadyIn.nil
        go_simp
        refine (callsIn_wide.2 (clone_any _ _ hsz)).mono ?_
        rintro e w1 ⟨rfl, hb1⟩
        obtain ⟨hbW, hv1, hR1, hrow1⟩ := behind_clone hb1 hv hR hrow
        have hc1 := hv1.cell
        have hcR1 := hR1.cell
        refine hK _ _ ?_
        clear hK K
        refine wpAnyIn_ready (rs := [4]) (by kernel_rfl) (by simp) ?_
        refine AllReadyIn.cons rfl (fun K hK => ?_) AllReadyIn.nil
        go_simp
        refine (callsIn_wide.2 (broken_any _ _)).mono ?_
        rintro e w2 ⟨rfl, n2, rfl⟩
        refine hK _ _ ?_
        clear hK K
        refine wpAnyIn_ready (rs := [5]) (by kernel_rfl) (by simp) ?_
        refine AllReadyIn.cons rfl (fun K hK => ?_) AllReadyIn.nil
        go_simp
        refine hK _ _ ?_
        clear hK K
        refine wpAnyIn_ready (rs := [6]) (by kernel_rfl) (by simp) ?_
        refine AllReadyIn.cons rfl (fun K hK => ?_) AllReadyIn.nil
        go_simp
        refine hK _ _ ?_
        clear hK K
        refine wpAnyIn_ready (rs := [7]) (by kernel_rfl) (by simp) ?_
        refine AllReadyIn.cons rfl (fun K hK => ?_) AllReadyIn.nil
        go_simp
        refine hK _ _ ?_
        clear hK K
        refine wpAnyIn_done (by kernel_rfl) ?_ _
        gi_wp2
        have hK1 : (w1.drewN n2).heap[D]? = some (.deferred (some [])) := (hbW.block D (Array.getElem?_eq_some_iff.1 hK).1).trans hK
        refine ⟨by simp, .inl ⟨_, _, rfl, run_takeDeferred hK1, ?_⟩⟩
        exact ⟨.tuple #[v, .string (tl t (pos t (cnt t))), .bool (brk (tl t (pos t (cnt t))))], by simp [results, Try.results4, go_sem], v, rfl, cut_end hB hbW (by simp at hD; omega) hK1 hrow1⟩
      · go_simp
        refine hK _ _ ?_
        clear hK K
        refine wpAnyIn_ready (rs := [0, 2]) (by kernel_rfl) (by simp) ?_
        refine AllReadyIn.cons rfl (fun K hK => ?_) (AllReadyIn.cons rfl (fun K hK => ?_) AllReadyIn.nil)
        · go_simp
          refine hK _ _ ?_
          clear hK K
          refine wpAnyIn_ready (rs := [2]) (by kernel_rfl) (by simp) ?_
          refine AllReadyIn.cons rfl (fun K hK => ?_) AllReadyIn.nil
          go_simp
          refine (callsIn_wide.2 (clone_any _ _ hsz)).mono ?_
          rintro e w1 ⟨rfl, hb1⟩
          obtain ⟨hbW, hv1, hR1, hrow1⟩ := behind_clone hb1 hv hR hrow
          have hc1 := hv1.cell
          have hcR1 := hR1.cell
          refine hK _ _ ?_
          clear hK K
          refine wpAnyIn_ready (rs := [4]) (by kernel_rfl) (by simp) ?_
          refine AllReadyIn.cons rfl (fun K hK => ?_) AllReadyIn.nil
          go_simp
          refine (callsIn_wide.2 (broken_any _ _)).mono ?_
          rintro e w2 ⟨rfl, n2, rfl⟩
          refine hK _ _ ?_
          clear hK K
          refine wpAnyIn_ready (rs := [5]) (by kernel_rfl) (by simp) ?_
          refine AllReadyIn.cons rfl (fun K hK => ?_) AllReadyIn.nil
          go_simp
          refine hK _ _ ?_
          clear hK K
          refine wpAnyIn_ready (rs := [6]) (by kernel_rfl) (by simp) ?_
          refine AllReadyIn.cons rfl (fun K hK => ?_) AllReadyIn.nil
          go_simp
          refine hK _ _ ?_
          clear hK K
          refine wpAnyIn_ready (rs := [7]) (by kernel_rfl) (by simp) ?_
          refine AllReadyIn.cons rfl (fun K hK => ?_) AllReadyIn.nil
          go_simp
          refine hK _ _ ?_
          clear hK K
          refine wpAnyIn_done (by kernel_rfl) ?_ _
          gi_wp2
          have hK1 : (w1.drewN n2).heap[D]? = some (.deferred (some [])) := (hbW.block D (Array.getElem?_eq_some_iff.1 hK).1).trans hK
          refine ⟨by simp, .inl ⟨_, _, rfl, run_takeDeferred hK1, ?_⟩⟩
          exact ⟨.tuple #[v, .string (tl t (pos t (cnt t))), .bool (brk (tl t (pos t (cnt t))))], by simp [results, Try.results4, go_sem], v, rfl, cut_end hB hbW (by simp at hD; omega) hK1 hrow1⟩
        · go_simp
          refine (callsIn_wide.2 (clone_any _ _ hsz)).mono ?_
          rintro e w1 ⟨rfl, hb1⟩
          obtain ⟨hbW, hv1, hR1, hrow1⟩ := behind_clone hb1 hv hR hrow
          have hc1 := hv1.cell
          have hcR1 := hR1.cell
          refine hK _ _ ?_
          clear hK K
          refine wpAnyIn_ready (rs := [0, 4]) (by kernel_rfl) (by simp) ?_
          refine AllReadyIn.cons rfl (fun K hK => ?_) (AllReadyIn.cons rfl (fun K hK => ?_) AllReadyIn.nil)
          · go_simp
            refine hK _ _ ?_
            clear hK K
            refine wpAnyIn_ready (rs := [4]) (by kernel_rfl) (by simp) ?_
            refine AllReadyIn.cons rfl (fun K hK => ?_) AllReadyIn.nil
            go_simp
            refine (callsIn_wide.2 (broken_any _ _)).mono ?_
            rintro e w2 ⟨rfl, n2, rfl⟩
            refine hK _ _ ?_
            clear hK K
            refine wpAnyIn_ready (rs := [5]) (by kernel_rfl) (by simp) ?_
            refine AllReadyIn.cons rfl (fun K hK => ?_) AllReadyIn.nil
            go_simp
            refine hK _ _ ?_
            clear hK K
            refine wpAnyIn_ready (rs := [6]) (by kernel_rfl) (by simp) ?_
            refine AllReadyIn.cons rfl (fun K hK => ?_) AllReadyIn.nil
            go_simp
            refine hK _ _ ?_
            clear hK K
            refine wpAnyIn_ready (rs := [7]) (by kernel_rfl) (by simp) ?_
            refine AllReadyIn.cons rfl (fun K hK => ?_) AllReadyIn.nil
            go_simp
            refine hK _ _ ?_
            clear hK K
            refine wpAnyIn_done (by kernel_rfl) ?_ _
            gi_wp2
            have hK1 : (w1.drewN n2).heap[D]? = some (.deferred (some [])) := (hbW.block D (Array.getElem?_eq_some_iff.1 hK).1).trans hK
            refine ⟨by simp, .inl ⟨_, _, rfl, run_takeDeferred hK1, ?_⟩⟩
            exact ⟨.tuple #[v, .string (tl t (pos t (cnt t))), .bool (brk (tl t (pos t (cnt t))))], by simp [results, Try.results4, go_sem], v, rfl, cut_end hB hbW (by simp at hD; omega) hK1 hrow1⟩
          · go_simp
            refine (callsIn_wide.2 (broken_any _ _)).mono ?_
            rintro e w2 ⟨rfl, n2, rfl⟩
            refine hK _ _ ?_
            clear hK K
            refine wpAnyIn_ready (rs := [0]) (by kernel_rfl) (by simp) ?_
            refine AllReadyIn.cons rfl (fun K hK => ?_) AllReadyIn.nil
            go_simp
            refine hK _ _ ?_
            clear hK K
            refine wpAnyIn_ready (rs := [5]) (by kernel_rfl) (by simp) ?_
            refine AllReadyIn.cons rfl (fun K hK => ?_) AllReadyIn.nil
            go_simp
            refine hK _ _ ?_
            clear hK K
            refine wpAnyIn_ready (rs := [6]) (by kernel_rfl) (by simp) ?_
            refine AllReadyIn.cons rfl (fun K hK => ?_) AllReadyIn.nil
            go_simp
            refine hK _ _ ?_
            clear hK K
            refine wpAnyIn_ready (rs := [7]) (by kernel_rfl) (by simp) ?_
            refine AllReadyIn.cons rfl (fun K hK => ?_) AllReadyIn.nil
            go_simp
            refine hK _ _ ?_
            clear hK K
            refine wpAnyIn_done (by kernel_rfl) ?_ _
            gi_wp2
            have hK1 : (w1.drewN n2).heap[D]? = some (.deferred (some [])) := (hbW.block D (Array.getElem?_eq_some_iff.1 hK).1).trans hK
            refine ⟨by simp, .inl ⟨_, _, rfl, run_takeDeferred hK1, ?_⟩⟩
            exact ⟨.tuple #[v, .string (tl t (pos t (cnt t))), .bool (brk (tl t (pos t (cnt t))))], by simp [results, Try.results4, go_sem], v, rfl, cut_end hB hbW (by simp at hD; omega) hK1 hrow1⟩
  case stop =>
    rintro D c pre W _ _ h _
    exact h.elim
end Go.Proofs.Ytkkaieijbpkleaa
