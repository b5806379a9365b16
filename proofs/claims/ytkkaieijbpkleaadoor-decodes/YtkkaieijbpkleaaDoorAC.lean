import Derived.Test.YtkkaieijbpkleaaDoorAB
namespace Go.Proofs.YtkkaieijbpkleaaDoor
open Go.RowKit

/-- append to an own row: in place, or into a new block and nothing that was there has turned. -/
theorem run_append_either {P : Program} (w : World) (base : Nat) (t ty e : TypeId) (i : TypeInfo) (z : Value) (bytes : Nat) (ht : P.underlying t = some (.slice e)) (hi : P.info? e = some i) (hz : i.zero = some z)
    (hsize : i.size = 1) (hby : i.bytes = bytes) (hzs : z.cells.size = 1) (v : Value) (n : Nat) (xs : List Value) (hown : w.ownsRow base e 1 v n xs)
    (a : Addr) (c : Nat) (u : Value) (hnews : ∀ j x, [u][j]? = some x → w.cell? (a.add j) = some x) (h1 : ∀ x ∈ [u], x.oneCell' = true)
    (h63 : n + 1 ≤ maxLen) (hbytes : (n + 1) * bytes ≤ 140737488355328) (hbase : base ≤ w.heap.size) :
    ∃ v' w', (Builtin.append_ #[t, t] ty #[v, .slice (some a) 1 c]).run P w = .ok v' w' ∧ w'.ownsRow base e 1 v' (n + 1) (xs ++ [u]) ∧
      (w.grownBy w' none ∨ (v'.ownBlock = v.ownBlock ∧ w.grownBy w' v.ownBlock)) := by
  obtain ⟨v', w', hr, h2, h3, _⟩ := run_append_own (P := P) w base t ty e i z 1 bytes ht hi hz hsize hby hzs (by decide) v n xs hown a 1 c [u] rfl hnews h1 h63 hbytes hbase
  refine ⟨v', w', hr, h2, ?_⟩
  have hnl : [u].length = 1 * i.size := by rw [hsize]; rfl
  have new : ∀ o : Obj, w.grownBy (w.drew.alloc o) none := fun o => ⟨rfl, rfl, rfl, by simp, fun k hk _ => Below.heap_alloc w.drew _ k hk⟩
  have hsm : n + 1 ≤ 9223372036854775807 := by simp only [maxLen] at h63; omega
  rcases hown.2 with ⟨rfl, rfl⟩ | ⟨g, cap, cur, rfl, hbg, hg, hnc, hcm, hcs, htake⟩
  · have hr2 := run_append_nil (P := P) w t ty e i z ht hi hz a 1 c [u] hnl hnews (by decide) (by omega) (by rw [hby]; omega)
    rw [hr] at hr2
    obtain ⟨_, rfl⟩ := (by simpa using hr2 : _ ∧ _)
    exact .inl (new _)
  · by_cases hroom : n + 1 ≤ cap
    · have hr2 := run_append_room (P := P) w t ty e i ht hi g n cap cur hg a 1 c [u] hnl hnews h1 hroom (by rw [hsize, hcs]; simp; omega)
      rw [hr] at hr2
      obtain ⟨rfl, _⟩ := (by simpa using hr2 : _ ∧ _)
      exact .inr ⟨rfl, h3⟩
    · have hr2 := run_append_grow (P := P) w t ty e i z ht hi hz ⟨g, 0, none⟩ n cap xs (by rw [hsize]; exact hown.1) (hown.cells (g := g) rfl) a 1 c [u] hnl hnews (by omega) (by omega) (by rw [hby]; exact growslice_fits (by omega) hbytes)
      rw [hr] at hr2
      obtain ⟨_, rfl⟩ := (by simpa using hr2 : _ ∧ _)
      exact .inl (new _)

theorem wpList_append_either {P : Program} (w : World) {ops : Array Oper} {rest : List Oper} {o : Oper} {a : Act} {Q : Exit → Act → World → Prop} (hgd : o.guard = none) (s x : Operand) (t : TypeId)
    (ho : o.op = .call { callee := .builtin .append, args := #[s, x], argTypes := #[t, t] })
    (base : Nat) (e : TypeId) (i : TypeInfo) (z : Value) (bytes : Nat) (ht : P.underlying t = some (.slice e)) (hi : P.info? e = some i) (hz : i.zero = some z)
    (hsize : i.size = 1) (hby : i.bytes = bytes) (hzs : z.cells.size = 1) (v : Value) (n : Nat) (xs : List Value) (hs : a.eval s = v) (hown : w.ownsRow base e 1 v n xs)
    (ad : Addr) (c : Nat) (u : Value) (hx : a.eval x = .slice (some ad) 1 c) (hnews : ∀ j y, [u][j]? = some y → w.cell? (ad.add j) = some y) (h1 : ∀ y ∈ [u], y.oneCell' = true)
    (h63 : n + 1 ≤ maxLen) (hbytes : (n + 1) * bytes ≤ 140737488355328) (hbase : base ≤ w.heap.size)
    (h : ∀ v' w', w'.ownsRow base e 1 v' (n + 1) (xs ++ [u]) → (w.grownBy w' none ∨ (v'.ownBlock = v.ownBlock ∧ w.grownBy w' v.ownBlock)) → wpList P ops Q rest (a.put o.dst v') w') : wpList P ops Q (o :: rest) a w :=
  wpList_plain hgd fun _ hK => by
    obtain ⟨v', w', hr, h2, h3⟩ := run_append_either (P := P) w base t o.type e i z bytes ht hi hz hsize hby hzs v n xs hown ad c u hnews h1 h63 hbytes hbase
    unfold Oper.wp execOp
    simp only [ho, resolve, invoke, builtin, Sem.run_bind, Sem.run_pure, Result.andThen_ok, List.map_toArray, List.map_cons, List.map_nil, hs, hx, hr]
    exact hK _ _ (h v' w' h2 h3)

/-- A list whose elements all are the mark, in blocks from a number on. -/
def Mk (base : Nat) (w : World) (mark : Int) (u : Value) (m : Nat) : Prop :=
  (m = 0 ∧ ∃ a c, u = .slice a 0 c) ∨ (0 < m ∧ ∃ g c cur, u = .slice (some ⟨g, 0, none⟩) m c ∧ base ≤ g ∧ w.heap[g]? = some (.cells cur 3 (0, 0)) ∧ cur.toList.take m = List.replicate m (.int .i64 mark))

theorem Mk.of_row {base : Nat} {w : World} {mark : Int} {u : Value} {m : Nat} (h : w.ownsRow base 3 1 u m (List.replicate m (.int .i64 mark))) : Mk base w mark u m := by
  rcases h.2 with ⟨rfl, rfl⟩ | ⟨g, cap, cur, rfl, hb, hg, hn, hm, hs, ht⟩
  · exact .inl ⟨rfl, _, _, rfl⟩
  · by_cases h0 : m = 0
    · subst h0; exact .inl ⟨rfl, _, _, rfl⟩
    · exact .inr ⟨by omega, g, cap, cur, rfl, hb, hg, by simpa using ht⟩

/-- It stays so where its block stays. -/
theorem Mk.kept {base : Nat} {w w' : World} {mark : Int} {u : Value} {m : Nat} (h : Mk base w mark u m) (hb : ∀ g cur, base ≤ g → w.heap[g]? = some (.cells cur 3 (0, 0)) → w'.heap[g]? = some (.cells cur 3 (0, 0))) : Mk base w' mark u m := by
  rcases h with h | ⟨h0, g, c, cur, rfl, hg, hc, ht⟩
  · exact .inl h
  · exact .inr ⟨h0, g, c, cur, rfl, hg, hb g cur hg hc, ht⟩

theorem Mk.grown {base : Nat} {w w' : World} {row : Option Nat} {mark : Int} {u : Value} {m : Nat} (h : Mk base w mark u m) (hg : w.grownBy w' row) (hr : ∀ r, row = some r → ∃ cur e, w.heap[r]? = some (.cells cur e (0, 0)) ∧ e ≠ 3) : Mk base w' mark u m :=
  h.kept fun g cur _ hc => (hg.block g (Array.getElem?_eq_some_iff.1 hc).1 (fun e => by
    obtain ⟨cur', e', h1, h2⟩ := hr g e.symm
    rw [hc] at h1
    simp only [Option.some.injEq, Obj.cells.injEq] at h1
    exact h2 h1.2.1.symm)).trans hc

/-- Behind an append of the mark to an own row of marks that is as long at least. -/
theorem Mk.appended {base : Nat} {w w' : World} {mark : Int} {u v v' : Value} {m k : Nat} (h : Mk base w mark u m) (hmk : m ≤ k)
    (hown' : w'.ownsRow base 3 1 v' k (List.replicate k (.int .i64 mark))) (hg : w.grownBy w' none ∨ (v'.ownBlock = v.ownBlock ∧ w.grownBy w' v.ownBlock)) : Mk base w' mark u m := by
  rcases hg with hg | ⟨he, hg⟩
  · exact h.grown hg (fun r e => by cases e)
  · rcases h with h | ⟨h0, g, c, cur, rfl, hb, hc, ht⟩
    · exact .inl h
    · by_cases hgv : v.ownBlock = some g
      · rcases hown'.2 with ⟨rfl, rfl⟩ | ⟨g', cap', cur', rfl, hb', hg', hn', hm', hs', ht'⟩
        · omega
        · rw [hgv] at he
          obtain rfl : g' = g := by simpa [Value.ownBlock] using he
          refine .inr ⟨h0, g', c, cur', rfl, hb, hg', ?_⟩
          have e1 : (cur'.toList.take (k * 1)).take m = (List.replicate k (Value.int .i64 mark)).take m := by rw [ht']
          rw [List.take_take, List.take_replicate, Nat.min_eq_left (by omega), Nat.min_eq_left hmk] at e1
          exact e1
      · exact .inr ⟨h0, g, c, cur, rfl, hb, (hg.block g (Array.getElem?_eq_some_iff.1 hc).1 (fun e => hgv e.symm)).trans hc, ht⟩

theorem row_ne {w : World} {B B' e e' n n' : Nat} {v v' : Value} {xs xs' : List Value} (h : w.ownsRow B e 1 v n xs) (h' : w.ownsRow B' e' 1 v' n' xs') (hne : e ≠ e') : v.ownBlock = none ∨ v.ownBlock ≠ v'.ownBlock := by
  rcases h.2 with ⟨rfl, _⟩ | ⟨g, cap, cur, rfl, _, hg, _⟩
  · exact .inl rfl
  · rcases h'.2 with ⟨rfl, _⟩ | ⟨g', cap', cur', rfl, _, hg', _⟩
    · exact .inr (by simp [Value.ownBlock])
    · refine .inr fun e1 => ?_
      obtain rfl : g = g' := by simpa [Value.ownBlock] using e1
      rw [hg] at hg'
      simp only [Option.some.injEq, Obj.cells.injEq] at hg'
      exact hne hg'.2.1

theorem row_block {w : World} {B e n : Nat} {v : Value} {xs : List Value} (h : w.ownsRow B e 1 v n xs) : ∀ r, v.ownBlock = some r → ∃ cur e', w.heap[r]? = some (.cells cur e' (0, 0)) ∧ e' = e := by
  intro r hr
  rcases h.2 with ⟨rfl, _⟩ | ⟨g, cap, cur, rfl, _, hg, _⟩
  · simp [Value.ownBlock] at hr
  · obtain rfl : g = r := by simpa [Value.ownBlock] using hr
    exact ⟨cur, e, hg, rfl⟩

/-- The first so many elements written over with the mark. -/
def inked (mark : Int) (xs : List Value) (k : Nat) : List Value := List.replicate k (.int .i64 mark) ++ xs.drop k
theorem inked_zero (mark : Int) (xs : List Value) : inked mark xs 0 = xs := by simp [inked]
theorem inked_succ (mark : Int) (xs : List Value) (k : Nat) (h : k < xs.length) : (inked mark xs k).set k (.int .i64 mark) = inked mark xs (k + 1) := by
  unfold inked
  rw [List.set_append_right _ _ (by simp), List.length_replicate, Nat.sub_self, List.drop_eq_getElem_cons h, List.set_cons_zero, List.replicate_succ']
  simp
theorem inked_all (mark : Int) (xs : List Value) : inked mark xs xs.length = List.replicate xs.length (.int .i64 mark) := by simp [inked]
theorem inked_get (mark : Int) (xs : List Value) (k : Nat) (h : k < xs.length) : (inked mark xs k)[k]? = some xs[k] := by
  unfold inked
  rw [List.getElem?_append_right (by simp), List.length_replicate, Nat.sub_self, List.getElem?_drop, Nat.add_zero, List.getElem?_eq_getElem h]

theorem own_mid {wr w1 : World} {base j m : Nat} {out gv : Value} {vs ys : List Value} {o1 : Obj}
    (hO : wr.ownsRow base 22 1 out j vs) (hG : wr.ownsRow base 3 1 gv m ys) (g1 : (wr.alloc o1).grownBy w1 out.ownBlock) : w1.ownsRow base 3 1 gv m ys :=
  (hG.alloc o1).kept g1 (row_ne (hG.alloc o1) (hO.alloc o1) (by decide))

theorem own_round {w wr w1 w2 : World} {base j n : Nat} {mark : Int} {out gv v1 v2 : Value} {vs : List Value} {o1 o2 : Obj} (hbase : base ≤ w.heap.size)
    (hO : wr.ownsRow base 22 1 out j vs) (hG : wr.ownsRow base 3 1 gv (n + j) (List.replicate (n + j) (.int .i64 mark))) (hM : ∀ i u, vs[i]? = some u → Mk base wr mark u (n + i)) (hB : Below base w wr)
    (h1 : w1.ownsRow base 22 1 v1 (j + 1) (vs ++ [gv])) (g1 : (wr.alloc o1).grownBy w1 out.ownBlock)
    (h2 : w2.ownsRow base 3 1 v2 (n + j + 1) (List.replicate (n + j) (.int .i64 mark) ++ [.int .i64 mark])) (g2 : (w1.alloc o2).grownBy w2 none ∨ (v2.ownBlock = gv.ownBlock ∧ (w1.alloc o2).grownBy w2 gv.ownBlock)) :
    w2.ownsRow base 22 1 v1 (j + 1) (vs ++ [gv]) ∧ w2.ownsRow base 3 1 v2 (n + (j + 1)) (List.replicate (n + (j + 1)) (.int .i64 mark)) ∧ (∀ i u, (vs ++ [gv])[i]? = some u → Mk base w2 mark u (n + i)) ∧ Below base w w2 := by
  have hG1 := own_mid hO hG g1
  have h2' : w2.ownsRow base 3 1 v2 (n + j + 1) (List.replicate (n + j + 1) (.int .i64 mark)) := by rw [List.replicate_succ']; exact h2
  have hjl : vs.length = j := by have := hO.1; omega
  have hle := hB.size
  have hle1 := g1.size
  have hsz : wr.heap.size ≤ w1.heap.size := by have h := g1.size; simp at h; omega
  have hB1 : Below base w w1 := (hB.alloc (by omega) o1).grown g1 (by simp; omega) (fun r e => (hO.lt r e).1)
  refine ⟨?_, h2', ?_, ?_⟩
  · rcases g2 with g2 | ⟨_, g2⟩
    · exact (h1.alloc o2).kept g2 (by cases v1.ownBlock <;> simp)
    · exact (h1.alloc o2).kept g2 (row_ne (h1.alloc o2) (hG1.alloc o2) (by decide))
  · have step : ∀ u m, m ≤ n + j → Mk base w1 mark u m → Mk base w2 mark u m := fun u m hm h =>
      (h.grown (World.grownBy_alloc w1 o2 none) (fun r e => by cases e)).appended (v := gv) (by omega) h2' g2
    intro i u hu
    by_cases hi : i < vs.length
    · rw [List.getElem?_append_left hi] at hu
      refine step u _ (by omega) (((hM i u hu).grown (World.grownBy_alloc wr o1 none) (fun r e => by cases e)).grown g1 (fun r e => ?_))
      obtain ⟨cur, e', hc, he⟩ := row_block (hO.alloc o1) r e
      exact ⟨cur, e', hc, by rw [he]; decide⟩
    · rw [List.getElem?_append_right (by omega)] at hu
      have hi2 : i = j := by
        by_cases h0 : i - vs.length = 0
        · omega
        · rw [List.getElem?_eq_none (by simp; omega)] at hu; cases hu
      subst hi2
      rw [show i - vs.length = 0 by omega] at hu
      obtain rfl : gv = u := by simpa using hu
      exact step gv _ (Nat.le_refl _) (Mk.of_row hG1)
  · rcases g2 with g2 | ⟨_, g2⟩
    · exact (hB1.alloc (by omega) o2).grown g2 (by simp; omega) (fun r e => by cases e)
    · exact (hB1.alloc (by omega) o2).grown g2 (by simp; omega) (fun r e => (hG1.lt r e).1)

set_option maxRecDepth 100000 in
set_option maxHeartbeats 2000000 in
theorem own_any (mark : Int) (w : World) {base n : Nat} {v : Value} {xs : List Value} (hv : w.ownsRow base 3 1 v n xs) (hn : n ≤ 1048576) (hbase : base ≤ w.heap.size) :
    Calls Tryd.prog 9 #[v, .int .i64 mark] w fun e w' => ∃ out vs, e = .returned out ∧ w'.ownsRow base 22 1 out 4 vs ∧ (∀ i u, vs[i]? = some u → Mk base w' mark u (n + i)) ∧ Below base w w' := by
  obtain ⟨i0, hi, hz0, hz1, hz2⟩ := info_parts info3
  obtain ⟨j0, hj, hy0, hy1, hy2⟩ := info_parts info22
  have hxl : xs.length = n := by have := hv.1; omega
  have HX := hide hxl
  clear hxl
  obtain ⟨a1, c1, rfl⟩ := row_slice hv
  go_enter Tryd.func9, Tryd.ntmps9
  go_wp2
  go_loopw [5] (fun i wr => ∃ k : Nat, k ≤ n ∧ i = .int .i64 k ∧ wr.ownsRow base 3 1 (.slice a1 n c1) n (inked mark xs k) ∧ Below base w wr) (fun i _ => n - (intOf i).toNat)
  case atStart => exact ⟨0, Nat.zero_le _, rfl, by rw [inked_zero]; exact hv, Below.refl _ _⟩
  case round =>
    obtain ⟨k, hk, rfl, hrow, hB⟩ := hrel
    by_cases hlt : k < n
    · rcases row_form hrow with ⟨h0, _⟩ | ⟨_, g1, c2, he, hg1, _⟩
      · omega
      · obtain ⟨rfl, rfl⟩ : a1 = some ⟨g1, 0, none⟩ ∧ c1 = c2 := by simpa using he
        have hcl := hrow.cellAt k (by omega)
        rw [inked_get mark xs k (by rw [unhide HX]; exact hlt)] at hcl
        have hfz := hrow.frozenAt k
        obtain ⟨hrow2, hgr⟩ := hrow.stored k (.int .i64 mark)
        rw [inked_succ mark xs k (by rw [unhide HX]; exact hlt)] at hrow2
        go_wp2
        go_roundw
        case rel => exact ⟨k + 1, by omega, by go_num, hrow2, hB.grown hgr (by have := hB.size; omega) (fun r e => by cases e; exact hg1)⟩
        case measure => simp [intOf]; omega
    · have hrowN : wr.ownsRow base 3 1 (.slice a1 n c1) n (List.replicate n (.int .i64 mark)) := by
        rw [show k = xs.length by rw [unhide HX]; omega, inked_all, unhide HX] at hrow; exact hrow
      clear hrow
      go_wp2
      go_loopw [6, 7, 8] (fun out gv i wr => ∃ (j : Nat) (vs : List Value), j ≤ 4 ∧ i = .int .i64 j ∧ wr.ownsRow base 22 1 out j vs ∧ wr.ownsRow base 3 1 gv (n + j) (List.replicate (n + j) (.int .i64 mark)) ∧ (∀ i u, vs[i]? = some u → Mk base wr mark u (n + i)) ∧ Below base w wr) (fun _ _ i _ => 4 - (intOf i).toNat)
      case atStart => exact ⟨0, [], by omega, rfl, World.ownsRow_nil _ _ _ _, hrowN, fun i u h => by simp at h, hB⟩
      case round =>
        obtain ⟨j, vs, hj4, rfl, hO, hG, hM, hB2⟩ := hrel
        clear hrowN hB hv
        obtain ⟨ga, gc, rfl⟩ := row_slice hG
        have h63 : n + j + 1 ≤ maxLen := by unfold maxLen; omega
        have h64 : (n + j + 1) * 8 ≤ 140737488355328 := by omega
        have hbw := hB2.size
        by_cases hlt4 : j < 4
        · have H63 := hide h63
          have H64 := hide h64
          clear h63 h64
          go_wp2_with (first | (at_builtin; refine wpList_append_own _ rfl _ _ 28 rfl base 22 j0 _ 1 24 Tryd.underlying28 hj hy0 hy1 hy2 rfl (by decide) _ j vs rfl (hO.alloc _) ⟨_, 0, none⟩ 1 1 [.slice ga (n + j) gc] rfl rfl (cell_one_new _ _ _) (by simp [Value.oneCell']) (by unfold maxLen; omega) (by omega) (by simp; omega) ?_; intro v1 w1 h1 g1 _; have hG1 := own_mid hO hG g1; have hs1 := g1.size; rw [World.size_alloc] at hs1; have HG := hide hG; have HO := hide hO; clear hG hO) | (at_builtin; refine wpList_append_either _ rfl _ _ 22 rfl base 3 i0 _ 8 Tryd.underlying22 hi hz0 hz1 hz2 rfl _ (n + j) _ rfl (hG1.alloc _) ⟨_, 0, none⟩ 1 (.int .i64 mark) rfl (cell_one_new _ _ _) (by simp [Value.oneCell']) (unhide H63) (unhide H64) (by simp; omega) ?_; intro v2 w2 h2 g2))
          obtain ⟨r1, r2, r3, r4⟩ := own_round hbase (unhide HO) (unhide HG) hM hB2 h1 g1 h2 g2
          go_roundw
          case rel => exact ⟨j + 1, _, by omega, by go_num, r1, r2, r3, r4⟩
          case measure => simp [intOf]; omega
        · obtain rfl : j = 4 := by omega
          go_wp2
          go_ret
          exact ⟨_, vs, rfl, hO, hM, hB2⟩
end Go.Proofs.YtkkaieijbpkleaaDoor
