import Derived.Test.YtkkaieijbpkleaaDoorBC
import Derived.Deep.RegionLaw
namespace Go.Proofs.YtkkaieijbpkleaaDoor
open Go.RowKit Go.Shelf

/-- append to an own row, as one step of a region that draws. -/
theorem step_append_own {P : Program} {ops : Array Oper} {o : Oper} {a : Act} {w : World} {K : Act → World → Prop} {Q : Exit → Act → World → Prop} {E : Prop}
    (hg : o.guard = none) (s x : Operand) (t : TypeId) (hop : o.op = Op.call { callee := Callee.builtin Builtin.append, args := #[s, x], argTypes := #[t, t] })
    (base : Nat) (e : TypeId) (i : TypeInfo) (z : Value) (bytes : Nat) (h1 : P.underlying t = some (.slice e)) (h2 : P.info? e = some i) (h3 : i.zero = some z) (h4 : i.size = 1) (h5 : i.bytes = bytes) (h6 : z.cells.size = 1)
    (v : Value) (n : Nat) (xs : List Value) (hs : a.eval s = v) (hown : w.ownsRow base e 1 v n xs)
    (ad : Addr) (m c : Nat) (news : List Value) (hx : a.eval x = .slice (some ad) m c) (hn : news.length = m * 1) (hc : ∀ j u, news[j]? = some u → w.cell? (ad.add j) = some u) (h1c : ∀ u ∈ news, u.oneCell' = true)
    (b1 : n + m ≤ maxLen) (b2 : (n + m) * bytes ≤ 140737488355328) (hbase : base ≤ w.heap.size)
    (hK : ∀ v' w', w'.ownsRow base e 1 v' (n + m) (xs ++ news) → w.grownBy w' v.ownBlock → K (a.put o.dst v') w') :
    if Region.wanted o (yielded ops a.tmps) = true then Oper.wp P o a w K Q else E := by
  have hw : Region.wanted o (yielded ops a.tmps) = true := by simp [Region.wanted, hg]
  rw [if_pos hw]
  obtain ⟨v', w', hrun, r1, r2, _⟩ := run_append_own (P := P) w base t o.type e i z 1 bytes h1 h2 h3 h4 h5 h6 (by decide) v n xs hown ad m c news hn hc h1c b1 b2 hbase
  unfold Oper.wp
  simp [execOp, hop, resolve, invoke, builtin, hs, hx, hrun, Result.andThen]
  exact hK v' w' r1 r2

/-- All but the rows of bytes lies as it lay. -/
def Fr (w w' : World) : Prop := w.heap.size ≤ w'.heap.size ∧ ∀ i, i < w.heap.size → (∀ cur fz, w.heap[i]? ≠ some (.cells cur 5 fz)) → w'.heap[i]? = w.heap[i]?
theorem Fr.refl (w : World) : Fr w w := ⟨Nat.le_refl _, fun _ _ _ => rfl⟩
theorem Fr.trans {a b c : World} (h1 : Fr a b) (h2 : Fr b c) : Fr a c :=
  ⟨Nat.le_trans h1.1 h2.1, fun i hi hn => (h2.2 i (Nat.lt_of_lt_of_le hi h1.1) (fun cur fz => by rw [h1.2 i hi hn]; exact hn cur fz)).trans (h1.2 i hi hn)⟩
theorem Fr.of_below {w w' : World} (h : Below w.heap.size w w') : Fr w w' := ⟨h.size, fun i hi _ => h.block i hi⟩
theorem Fr.of_grown {w w' : World} {B n : Nat} {v : Value} {xs : List Value} (h : w.ownsRow B 5 1 v n xs) (hg : w.grownBy w' v.ownBlock) : Fr w w' :=
  ⟨hg.size, fun i hi hn => hg.block i hi (fun e => by
    rcases h.2 with ⟨rfl, _⟩ | ⟨g, cap, cur, rfl, _, hg2, _⟩
    · simp [Value.ownBlock] at e
    · obtain rfl : i = g := by simpa [Value.ownBlock] using e
      exact hn _ _ hg2)⟩
theorem Fr.ms {w w' : World} {mb : Nat} {m : Msg} {v : Value} (h : Ms w mb m v) (hf : Fr w w') : Ms w' mb m v :=
  (hf.2 mb h.lt (fun cur fz e => by rw [show w.heap[mb]? = _ from h] at e; simp at e)).trans h
theorem Fr.row {w w' : World} {B n : Nat} {v : Value} {xs : List Value} (h : w.ownsRow B 3 1 v n xs) (hf : Fr w w') : w'.ownsRow B 3 1 v n xs := by
  refine ⟨h.1, h.2.imp id ?_⟩
  rintro ⟨g, cap, cur, e1, e2, e3, e4⟩
  have hlt : g < w.heap.size := (Array.getElem?_eq_some_iff.1 e3).1
  exact ⟨g, cap, cur, e1, e2, (hf.2 g hlt (fun cur2 fz e => by rw [e3] at e; simp at e)).trans e3, e4⟩

theorem pkI_snoc : ∀ (l : List UInt8) (a b : UInt8), l.length % 2 = 0 → pkI (l ++ [a, b]) = pkI l ++ [byI a b]
  | [], _, _, _ => rfl
  | [_], _, _, h => by simp at h
  | x :: y :: l, a, b, h => by
    have := pkI_snoc l a b (by simp at h; omega)
    simp [pkI, this]
theorem pkR_snoc : ∀ (l : List UInt8) (a b : UInt8), l.length % 2 = 0 → pkR (l ++ [a, b]) = pkR l ++ [byR a b]
  | [], _, _, _ => rfl
  | [_], _, _, h => by simp at h
  | x :: y :: l, a, b, h => by
    have := pkR_snoc l a b (by simp at h; omega)
    simp [pkR, this]
theorem pkI_length : ∀ l : List UInt8, (pkI l).length = l.length / 2
  | [] => rfl
  | [_] => by simp [pkI]
  | x :: y :: l => by simp [pkI, pkI_length l]; omega
theorem pkR_length : ∀ l : List UInt8, (pkR l).length = l.length / 2
  | [] => rfl
  | [_] => by simp [pkR]
  | x :: y :: l => by simp [pkR, pkR_length l]; omega

theorem byI_int (a b : UInt8) : bits .or .u8 (IntKind.u8.wrap (IntKind.u8.wrap ((a.toNat : Int) - 48) * 16)) (IntKind.u8.wrap ((b.toNat : Int) - 48)) = ((byI a b).toNat : Int) := by
  have ha := a.toNat_lt
  have hb := b.toNat_lt
  rw [IntKind.wrap_u8', IntKind.wrap_u8', IntKind.wrap_u8']
  have e1 : ((a.toNat : Int) - 48) % 256 * 16 % 256 = (((a.toNat + 208) % 256 * 16 % 256 : Nat) : Int) := by omega
  have e2 : ((b.toNat : Int) - 48) % 256 = (((b.toNat + 208) % 256 : Nat) : Int) := by omega
  rw [e1, e2, u8_or_nat _ _ (by omega) (by omega)]
  unfold byI
  rw [UInt8.toNat_ofNat']
  have hx : ((a.toNat + 208) % 256 * 16 % 256) ||| ((b.toNat + 208) % 256) < 2 ^ 8 := Nat.or_lt_two_pow (by omega) (by omega)
  omega

theorem take_two (s : ByteArray) (j : Nat) (h : j + 1 < s.size) : s.data.toList.take (j + 2) = s.data.toList.take j ++ [s[j], s[j + 1]] := by
  rw [take_next s (j + 1) h, take_next s j (by omega), List.append_assoc]
  rfl

theorem ad_round {w wr w2 : World} {base n k j j1 : Nat} {v v' : Value} {bl : List UInt8} {d : ByteArray} {x y : Nat} {o : Obj} (hbase : base ≤ w.heap.size) (hkj : 2 * k = j) (hj1 : j + 1 = j1) (hj2 : j1 < d.size) (hlt : j < d.size) (hx : d[j].toNat = x) (hy : d[j1].toNat = y)
    (hrow : wr.ownsRow base 5 1 v (n + k) (Lib.byteCells (bl ++ pkI (d.data.toList.take j)))) (hB : Below base w wr) (hFr : Fr w wr)
    (hown' : w2.ownsRow base 5 1 v' (n + k + 1) (Lib.byteCells (bl ++ pkI (d.data.toList.take j)) ++ [Value.int .u8 (bits .or .u8 (IntKind.u8.wrap (IntKind.u8.wrap ((x : Int) - 48) * 16)) (IntKind.u8.wrap ((y : Int) - 48)))]))
    (hgrow : (wr.alloc o).drew.grownBy w2 v.ownBlock) : w2.ownsRow base 5 1 v' (n + (k + 1)) (Lib.byteCells (bl ++ pkI (d.data.toList.take (j + 2)))) ∧ Below base w w2 ∧ Fr w w2 := by
  subst hj1
  subst hx
  subst hy
  have hbw := hB.size
  rw [byI_int] at hown'
  refine ⟨?_, ?_, ?_⟩
  · rw [take_two d j hj2, pkI_snoc _ _ _ (by rw [List.length_take, ← Lib.size_eq]; omega), ← List.append_assoc, Lib.byteCells_append]
    exact hown'
  · have hA : Below base w ((wr.alloc o).drew) := (hB.alloc (by omega) o).drew
    exact hA.grown hgrow (by simp; omega) (fun r e => (hrow.lt r e).1)
  · have h1 : Below wr.heap.size wr (wr.alloc o).drew := ((Below.refl _ wr).alloc (Nat.le_refl _) o).drew
    exact hFr.trans ((Fr.of_below h1).trans (Fr.of_grown (row_below hrow h1) hgrow))

set_option maxRecDepth 100000 in
set_option maxHeartbeats 1000000 in
theorem appendDigits_even (d : ByteArray) (bl : List UInt8) (w : World) {base n : Nat} {v : Value} (hv : w.ownsRow base 5 1 v n (Lib.byteCells bl)) (hbase : base ≤ w.heap.size) (hn : n ≤ 10000000) (hd0 : d.size ≤ 2000000) (hev : d.size % 2 = 0) :
    Calls Tryd.prog 44 #[v, .string d] w fun e w' => ∃ v', e = .returned v' ∧ w'.ownsRow base 5 1 v' (n + (evenL d.data.toList).length / 2) (Lib.byteCells (bl ++ pkI (evenL d.data.toList))) ∧ Below base w w' ∧ Fr w w' := by
  obtain ⟨i0, hi, hz0, hz1, hz2⟩ := info_parts info5
  have hevi : (d.size : Int) % 2 = 0 := by omega
  have hd : d.size ≤ 2000001 := by omega
  obtain ⟨L, hL⟩ : ∃ L, d.size = 2 * L := ⟨d.size / 2, by omega⟩
  have HL := hide hL
  have hL2 : L ≤ 1000001 := by omega
  clear hL hev
  go_enter Tryd.func44, Tryd.ntmps44
  go_wp2
  clear hevi
  go_loopw [0, 5] (fun b i wr => ∃ k j : Nat, 2 * k = j ∧ k ≤ L ∧ i = .int .i64 j ∧ wr.ownsRow base 5 1 b (n + k) (Lib.byteCells (bl ++ pkI (d.data.toList.take j))) ∧ Below base w wr ∧ Fr w wr) (fun _ i _ => d.size - (intOf i).toNat)
  case atStart => exact ⟨0, 0, rfl, Nat.zero_le _, rfl, by simpa [pkI] using hv, Below.refl _ _, Fr.refl _⟩
  case round =>
    obtain ⟨k, j, hkj, hk, rfl, hrow, hB, hFr⟩ := hrel
    by_cases hlt : j < d.size
    · obtain ⟨j1, hj1⟩ : ∃ j1, j + 1 = j1 := ⟨_, rfl⟩
      have hj2 : j1 < d.size := by have := unhide HL; omega
      have hw1 : IntKind.i64.wrap ((j : Int) + 1) = (j1 : Int) := by rw [IntKind.wrap_i64]; omega; all_goals omega
      have hbw := hB.size
      have hkl : k + 1 ≤ L := by have := unhide HL; omega
      obtain ⟨x, hx⟩ : ∃ x, d[j].toNat = x := ⟨_, rfl⟩
      obtain ⟨y, hy⟩ : ∃ y, d[j1].toNat = y := ⟨_, rfl⟩
      have hx2 : x < 256 := by rw [← hx]; exact UInt8.toNat_lt _
      have hy2 : y < 256 := by rw [← hy]; exact UInt8.toNat_lt _
      have HJ1 := hide hj1
      clear hj1
      go_wp2
      go_region_law (refine step_append_own rfl (.tmp 18) (.tmp 30) 55 rfl base 5 i0 _ 1 Tryd.underlying55 hi hz0 hz1 hz2 rfl _ (n + k) _ rfl ((row_drawn hrow).alloc _) ⟨_, 0, none⟩ 1 1 [_] rfl rfl (cell_one_new _ _ _) (by simp [Value.oneCell']) (by unfold maxLen; omega) (by omega) (by simp; omega) ?_; intro v' w2 hown' hgrow)
      all_goals
        obtain ⟨r1, r2, r3⟩ := ad_round hbase hkj (unhide HJ1) hj2 hlt hx hy hrow hB hFr hown' hgrow
        go_wp2
        go_roundw
        case rel => exact ⟨k + 1, j + 2, by omega, hkl, by go_num, r1, r2, r3⟩
        case measure => simp [intOf]; omega
    · have hall : d.data.toList.take j = d.data.toList := take_all _ _ hlt
      rw [hall] at hrow
      have hkk : k = d.size / 2 := by have := unhide HL; omega
      subst hkk
      clear hall
      go_wp2
      go_ret
      have he : evenL d.data.toList = d.data.toList := by unfold evenL; rw [if_neg (by rw [← Lib.size_eq]; have := unhide HL; omega)]
      rw [he, ← Lib.size_eq]
      exact ⟨_, rfl, hrow, hB, hFr⟩
set_option maxRecDepth 100000 in
set_option maxHeartbeats 1000000 in
theorem appendDigits_odd (d : ByteArray) (bl : List UInt8) (w : World) {base n : Nat} {v : Value} (hv : w.ownsRow base 5 1 v n (Lib.byteCells bl)) (hbase : base ≤ w.heap.size) (hn : n ≤ 10000000) (hd0 : d.size ≤ 2000000) (hev : d.size % 2 = 1) :
    Calls Tryd.prog 44 #[v, .string d] w fun e w' => ∃ v', e = .returned v' ∧ w'.ownsRow base 5 1 v' (n + (evenL d.data.toList).length / 2) (Lib.byteCells (bl ++ pkI (evenL d.data.toList))) ∧ Below base w w' ∧ Fr w w' := by
  obtain ⟨i0, hi, hz0, hz1, hz2⟩ := info_parts info5
  have hevi : (d.size : Int) % 2 = 1 := by omega
  obtain ⟨D, hD⟩ : ∃ D, (⟨#[48]⟩ : ByteArray) ++ d = D := ⟨_, rfl⟩
  have hDl : D.data.toList = 48 :: d.data.toList := by rw [← hD, ByteArray.toList_data_append]; rfl
  have hDs : D.size = d.size + 1 := by rw [Lib.size_eq, hDl, Lib.size_eq]; rfl
  have hd : D.size ≤ 2000001 := by omega
  have hev2 : evenL d.data.toList = D.data.toList := by unfold evenL; rw [if_pos (by rw [← Lib.size_eq]; exact hev), hDl]
  have HE := hide hev2
  have hDe : D.size % 2 = 0 := by omega
  have HDl := hide hDl
  clear hev2 hDl hDs
  obtain ⟨L, hL⟩ : ∃ L, D.size = 2 * L := ⟨D.size / 2, by omega⟩
  have HL := hide hL
  have hL2 : L ≤ 1000001 := by omega
  clear hL hev
  go_enter Tryd.func44, Tryd.ntmps44
  go_wp2
  clear hevi
  go_loopw [0, 5] (fun b i wr => ∃ k j : Nat, 2 * k = j ∧ k ≤ L ∧ i = .int .i64 j ∧ wr.ownsRow base 5 1 b (n + k) (Lib.byteCells (bl ++ pkI (D.data.toList.take j))) ∧ Below base w wr ∧ Fr w wr) (fun _ i _ => D.size - (intOf i).toNat)
  case atStart => exact ⟨0, 0, rfl, Nat.zero_le _, rfl, by simpa [pkI] using hv, Below.refl _ _, Fr.refl _⟩
  case round =>
    obtain ⟨k, j, hkj, hk, rfl, hrow, hB, hFr⟩ := hrel
    by_cases hlt : j < D.size
    · obtain ⟨j1, hj1⟩ : ∃ j1, j + 1 = j1 := ⟨_, rfl⟩
      have hj2 : j1 < D.size := by have := unhide HL; omega
      have hw1 : IntKind.i64.wrap ((j : Int) + 1) = (j1 : Int) := by rw [IntKind.wrap_i64]; omega; all_goals omega
      have hbw := hB.size
      have hkl : k + 1 ≤ L := by have := unhide HL; omega
      obtain ⟨x, hx⟩ : ∃ x, D[j].toNat = x := ⟨_, rfl⟩
      obtain ⟨y, hy⟩ : ∃ y, D[j1].toNat = y := ⟨_, rfl⟩
      have hx2 : x < 256 := by rw [← hx]; exact UInt8.toNat_lt _
      have hy2 : y < 256 := by rw [← hy]; exact UInt8.toNat_lt _
      have HJ1 := hide hj1
      clear hj1
      go_wp2
      go_region_law (refine step_append_own rfl (.tmp 18) (.tmp 30) 55 rfl base 5 i0 _ 1 Tryd.underlying55 hi hz0 hz1 hz2 rfl _ (n + k) _ rfl ((row_drawn hrow).alloc _) ⟨_, 0, none⟩ 1 1 [_] rfl rfl (cell_one_new _ _ _) (by simp [Value.oneCell']) (by unfold maxLen; omega) (by omega) (by simp; omega) ?_; intro v' w2 hown' hgrow)
      all_goals
        obtain ⟨r1, r2, r3⟩ := ad_round hbase hkj (unhide HJ1) hj2 hlt hx hy hrow hB hFr hown' hgrow
        go_wp2
        go_roundw
        case rel => exact ⟨k + 1, j + 2, by omega, hkl, by go_num, r1, r2, r3⟩
        case measure => simp [intOf]; omega
    · have hall : D.data.toList.take j = D.data.toList := take_all _ _ hlt
      rw [hall] at hrow
      have hkk : k = D.size / 2 := by have := unhide HL; omega
      subst hkk
      clear hall
      go_wp2
      go_ret
      rw [unhide HE, ← Lib.size_eq]
      exact ⟨_, rfl, hrow, hB, hFr⟩
theorem appendDigits_any (d : ByteArray) (bl : List UInt8) (w : World) {base n : Nat} {v : Value} (hv : w.ownsRow base 5 1 v n (Lib.byteCells bl)) (hbase : base ≤ w.heap.size) (hn : n ≤ 10000000) (hd : d.size ≤ 2000000) :
    Calls Tryd.prog 44 #[v, .string d] w fun e w' => ∃ v', e = .returned v' ∧ w'.ownsRow base 5 1 v' (n + (evenL d.data.toList).length / 2) (Lib.byteCells (bl ++ pkI (evenL d.data.toList))) ∧ Below base w w' ∧ Fr w w' := by
  by_cases h : d.size % 2 = 0
  · exact appendDigits_even d bl w hv hbase hn hd h
  · exact appendDigits_odd d bl w hv hbase hn hd (by omega)
end Go.Proofs.YtkkaieijbpkleaaDoor
