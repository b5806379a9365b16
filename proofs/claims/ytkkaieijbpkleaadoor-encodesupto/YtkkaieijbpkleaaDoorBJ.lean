import Derived.Test.YtkkaieijbpkleaaDoorBG
namespace Go.Proofs.YtkkaieijbpkleaaDoor
open Go.RowKit Go.Shelf

theorem fI_le (m : Msg) (hs : Small m) (k : Int) : (fI m k).length ≤ 1048600 := by
  have n1 := numI_le (m.pan.size : Int) (by omega) (by have := hs.pan; omega) 1
  have n2 := numI_le m.amount hs.a0 hs.a1 6
  have n3 := numI_le m.trace hs.t0 hs.t1 3
  have n4 := numI_le (m.name.size : Int) (by omega) (by have := hs.name; omega) 1
  have n5 := numI_le m.more hs.m0 hs.m1 6
  have s1 := hs.pan
  have s2 := hs.code
  have s3 := hs.place
  have s4 := hs.name
  have e1 : (pkI (evenL m.pan.data.toList)).length ≤ 1048577 := by
    rw [pkI_length]
    unfold evenL
    split
    · rw [List.length_cons, ← Lib.size_eq]; omega
    · rw [← Lib.size_eq]; omega
  unfold fI
  repeat' split
  all_goals (try simp only [List.length_append, List.length_nil, ← Lib.size_eq])
  all_goals omega

/-- What is written, up to so many fields. -/
def wUpto (m : Msg) (fs : List Nat) (l : List Int) : List UInt8 := pkI (evenL m.kind.data.toList) ++ mapF fs ++ l.flatMap (fI m)

theorem wUpto_snoc (m : Msg) (fs : List Nat) (l : List Int) (x : Int) : wUpto m fs (l ++ [x]) = wUpto m fs l ++ fI m x := by
  unfold wUpto
  rw [List.flatMap_append]
  simp

theorem Ar.news {w : World} {b : Nat} {bs : List UInt8} (h : Ar w b bs) : ∀ j u, (Lib.byteCells bs)[j]? = some u → w.cell? (Addr.add ⟨b, 0, none⟩ j) = some u := by
  intro j u hu
  have hj : j < bs.length := by
    have := (List.getElem?_eq_some_iff.1 hu).1
    rwa [Lib.byteCells_length] at this
  rw [Addr.add_lit, Nat.zero_add, h.cell j hj, ← hu]
  simp [Lib.byteCells, List.getElem?_eq_getElem hj, List.getD_eq_getElem?_getD]
theorem bytes_one (bs : List UInt8) : ∀ u ∈ Lib.byteCells bs, u.oneCell' = true := by
  intro u hu
  obtain ⟨c, _, rfl⟩ := List.mem_map.1 hu
  rfl
/-- Where the kind has been written: the map's block and the message are as they were. -/
theorem wr_mid {w w1 w2 : World} {m : Msg} {v : Value} {bs : List UInt8} (hM1 : Ms w1 w.heap.size m v) (hb2 : Below (w1.alloc (.cells (Lib.byteCells bs).toArray 70)).heap.size (w1.alloc (.cells (Lib.byteCells bs).toArray 70)) w2) : Ar w2 w1.heap.size bs ∧ Ms w2 w.heap.size m v := by
  have hAr1 : Ar (w1.alloc (.cells (Lib.byteCells bs).toArray 70)) w1.heap.size bs := heap_alloc_new w1 _
  have hM1' : Ms (w1.alloc (.cells (Lib.byteCells bs).toArray 70)) w.heap.size m v := hM1.kept (World.grownBy_alloc _ _ none) (by simp)
  exact ⟨(hb2.block _ hAr1.lt).trans hAr1, (hb2.block _ hM1'.lt).trans hM1'⟩

set_option maxRecDepth 100000 in
set_option maxHeartbeats 2000000 in
theorem write_any (m : Msg) (hs : Small m) (hkd : m.kind.size ≤ 1000) (fs : List Nat) (hfs : ∀ f ∈ fs, f ≤ 63) (hl5 : fs.length ≤ 5) (hkn : ∀ f ∈ fs, ((f : Int) + 1) ∈ known) (w : World) (hT : T10 w) {b0 n : Nat} {v : Value} (hv : w.ownsRow b0 3 1 v n ((fs.map fun (f : Nat) => (f : Int) + 1).map (Value.int .i64))) :
    Calls Tryd.prog 27 #[.agg (m.cells v)] w fun e w' => e = .returned (.string ⟨(wUpto m fs (fs.map fun (f : Nat) => (f : Int) + 1)).toArray⟩) ∧ Below w.heap.size w w' := by
  obtain ⟨i0, hi, hz0, hz1, hz2⟩ := info_parts info5
  have hl : fs.length = n := by have := hv.1; simpa using this
  obtain ⟨RES, hRES⟩ : ∃ r, (⟨(wUpto m fs (fs.map fun (f : Nat) => (f : Int) + 1)).toArray⟩ : ByteArray) = r := ⟨_, rfl⟩
  rw [hRES]
  have HRES := hide hRES
  clear hRES
  obtain ⟨a1, c1, rfl⟩ := row_slice hv
  have hb0 := box_below w m (.slice a1 n c1) (Nat.le_refl _)
  have hM0 : Ms (w.alloc (.cells (m.cells (.slice a1 n c1)) 24)) w.heap.size m (.slice a1 n c1) := heap_alloc_new w _
  have hmap := mapOf_any fs hfs (w.alloc (.cells (m.cells (.slice a1 n c1)) 24)) (hv.alloc _) (by omega)
  obtain ⟨x0, x1, x2, x3, x4, x5, x6, x7, hx⟩ := list8 (mapF_length fs)
  rw [hx] at hmap
  have hev : (evenL m.kind.data.toList).length / 2 ≤ 1000 := by
    unfold evenL
    split
    · rw [List.length_cons, ← Lib.size_eq]; omega
    · rw [← Lib.size_eq]; omega
  have HEV := hide hev
  have HMAP := hide hmap
  have HX := hide hx
  have HK := hide hkn
  clear hmap hx hfs hkn hev
  unfold Msg.cells
  go_enter Tryd.func27, Tryd.ntmps27
  go_wp2_with (first | (go_at_call 43; refine (unhide HMAP).mono ?_; rintro e w1 ⟨rfl, hb1⟩; have hM1 := hM0.kept (below_grown' hb1) (by simp); have hlt1 := hM1.lt; obtain ⟨p0, p1, p2, p3, p4, p5, p6, p7, p8⟩ := hM1.nine; unfold Lib.byteCells; simp only [List.map_cons, List.map_nil]) | (go_at_call 44; refine (appendDigits_any m.kind [] _ (World.ownsRow_nil _ _ 5 1) (Nat.le_refl _) (by omega) (by omega)).mono ?_; rintro e w2 ⟨v2, rfl, hrow2, hb2, hf2⟩; obtain ⟨hAr2, hM2⟩ := wr_mid (bs := [x0, x1, x2, x3, x4, x5, x6, x7]) hM1 hb2; have hsz2 := hb2.size; have hel : (evenL m.kind.data.toList).length / 2 ≤ 1000 := unhide HEV; obtain ⟨p0, p1, p2, p3, p4, p5, p6, p7, p8⟩ := hM2.nine) | (at_builtin; refine wpList_append_own _ rfl _ _ 55 rfl _ 5 i0 _ 1 1 Tryd.underlying55 hi hz0 hz1 hz2 rfl (by decide) _ _ _ rfl hrow2 ⟨w1.heap.size, 0, none⟩ 8 8 (Lib.byteCells [x0, x1, x2, x3, x4, x5, x6, x7]) rfl rfl hAr2.news (bytes_one _) (by unfold maxLen; omega) (by omega) hsz2 ?_; intro v3 w3 hrow3 hg3 _; have hM3 := Fr.ms hM2 (Fr.of_grown hrow2 hg3); obtain ⟨p0, p1, p2, p3, p4, p5, p6, p7, p8⟩ := hM3.nine))
  have hbA : Below w.heap.size w (w1.alloc (.cells (Lib.byteCells [x0, x1, x2, x3, x4, x5, x6, x7]).toArray 70)) := by
    have h := hb0.trans (hb1.mono hb0.size)
    exact h.alloc h.size _
  have hbB : Below w.heap.size w w2 := hbA.trans (hb2.mono hbA.size)
  have hbC : Below w.heap.size w w3 := hbB.grown hg3 hbB.size (fun r e => Nat.le_trans hbA.size (hrow2.lt r e).1)
  have hbase3 : w.heap.size ≤ (w1.alloc (.cells (Lib.byteCells [x0, x1, x2, x3, x4, x5, x6, x7]).toArray 70)).heap.size := hbA.size
  have hbase4 : (w1.alloc (.cells (Lib.byteCells [x0, x1, x2, x3, x4, x5, x6, x7]).toArray 70)).heap.size ≤ w3.heap.size := Nat.le_trans hsz2 hg3.size
  have hrow4 : w3.ownsRow (w1.alloc (.cells (Lib.byteCells [x0, x1, x2, x3, x4, x5, x6, x7]).toArray 70)).heap.size 5 1 v3 (0 + (evenL m.kind.data.toList).length / 2 + 8) (Lib.byteCells (wUpto m fs [])) := by
    have e : wUpto m fs [] = [] ++ pkI (evenL m.kind.data.toList) ++ [x0, x1, x2, x3, x4, x5, x6, x7] := by
      unfold wUpto
      rw [unhide HX]
      simp
    rw [e, Lib.byteCells_append]
    exact hrow3
  have hn3 : 0 + (evenL m.kind.data.toList).length / 2 + 8 ≤ 1100 := by omega
  generalize 0 + (evenL m.kind.data.toList).length / 2 + 8 = n3 at hrow4 hn3
  generalize (w1.alloc (.cells (Lib.byteCells [x0, x1, x2, x3, x4, x5, x6, x7]).toArray 70)).heap.size = bb at hbase3 hbase4 hrow4
  have HROW4 := hide hrow4
  clear p0 p1 p2 p3 p4 p5 p6 p7 p8 hrow3 hrow2 hb2 hf2 hg3 hAr2 hM2 hM1 hbA hbB hb1 hsz2 hrow4
  obtain ⟨l, hll⟩ : ∃ l, (fs.map fun (f : Nat) => (f : Int) + 1) = l := ⟨_, rfl⟩
  rw [hll] at hv
  have hln : l.length = n := by rw [← hll, List.length_map]; exact hl
  have hkl : ∀ x ∈ l, x ∈ known := by
    intro x hx
    rw [← hll] at hx
    obtain ⟨f, hf, rfl⟩ := List.mem_map.1 hx
    exact unhide HK f hf
  have HLL := hide hll
  have HLN := hide hln
  have HKL := hide hkl
  have hn5 : n ≤ 5 := by omega
  clear hll hln hkl HK hl
  go_loopw [4, 19] (fun b i wr => ∃ k n' : Nat, k ≤ n ∧ i = .int .i64 k ∧ Hid (wr.ownsRow bb 5 1 b n' (Lib.byteCells (wUpto m fs (l.take k)))) ∧ n' ≤ 1100 + k * 1048600 ∧ Ms wr w.heap.size m (.slice a1 n c1) ∧ Below w.heap.size w wr ∧ bb ≤ wr.heap.size) (fun _ i _ => n - (intOf i).toNat)
  case atStart => exact ⟨0, n3, Nat.zero_le _, rfl, HROW4, by omega, hM3, hbC, hbase4⟩
  case round =>
    obtain ⟨k, n', hk, rfl, HR, hn', hM, hB, hbb⟩ := hrel
    by_cases hlt : k < n
    · have hlk : k < l.length := by rw [unhide HLN]; exact hlt
      rcases row_form (row_below hv hB) with ⟨h0, _⟩ | ⟨_, g1, d1, he1, _, hcells1⟩
      · omega
      obtain ⟨rfl, rfl⟩ : a1 = some ⟨g1, 0, none⟩ ∧ c1 = d1 := by simpa using he1
      have hck := hcells1 k (.int .i64 l[k]) (by rw [List.getElem?_map, List.getElem?_eq_getElem hlk]; rfl)
      have hcall := appendField_any m hs l[k] (unhide HKL l[k] (List.getElem_mem hlk)) (.slice (some ⟨g1, 0, none⟩) n c1) hv (wUpto m fs (l.take k)) wr HR.out hbb (by omega) (t10_below hT hB)
      have hnx : wUpto m fs (l.take (k + 1)) = wUpto m fs (l.take k) ++ fI m l[k] := by rw [List.take_succ_eq_append_getElem hlk, wUpto_snoc]
      have hfl := fI_le m hs l[k]
      generalize l[k] = x at hck hcall hnx hfl
      have HC := hide hcall
      have HNX := hide hnx
      obtain ⟨p0, p1, p2, p3, p4, p5, p6, p7, p8⟩ := hM.nine
      clear hcells1 he1 hcall hnx HR
      unfold Msg.cells at HC
      go_wp2_with (go_at_call 45; refine (unhide HC).mono ?_; rintro e w5 ⟨v5, rfl, hrow5, hb5, hf5⟩)
      have HR5 : Hid (w5.ownsRow bb 5 1 v5 (n' + (fI m x).length) (Lib.byteCells (wUpto m fs (l.take (k + 1))))) := by
        show w5.ownsRow _ _ _ _ _ _
        rw [unhide HNX]; exact hrow5
      go_roundw
      case rel => exact ⟨k + 1, n' + (fI m x).length, by omega, by go_num, HR5, by omega, Fr.ms hM hf5, hB.trans (hb5.mono hbase3), Nat.le_trans hbb hf5.1⟩
      case measure => simp [intOf]; omega
    · have hall : l.take k = l := List.take_of_length_le (by rw [unhide HLN]; omega)
      have hrow := HR.out
      rw [hall] at hrow
      have hcv := conv_row hrow
      clear hall hrow HR
      have hr2 : (⟨(wUpto m fs l).toArray⟩ : ByteArray) = RES := by rw [← unhide HLL]; exact unhide HRES
      rw [hr2] at hcv
      clear hr2
      go_wp2
      go_ret
      exact ⟨rfl, hB⟩
end Go.Proofs.YtkkaieijbpkleaaDoor
