import Derived.Test.YtkkaieijbpkleaaDoorBQ
import Derived.Laws.CopyOwn
namespace Go.Proofs.YtkkaieijbpkleaaDoor
open Go.RowKit Go.Shelf

/-- Block g is a row of these numbers. -/
def Iz (w : World) (g : Nat) (zs : List Int) : Prop := w.heap[g]? = some (.cells (zs.map (Value.int .i64)).toArray 3 (0, 0))
theorem Iz.lt {w : World} {g : Nat} {zs : List Int} (h : Iz w g zs) : g < w.heap.size := (Array.getElem?_eq_some_iff.1 h).1
theorem Iz.cell {w : World} {g : Nat} {zs : List Int} (h : Iz w g zs) {j : Nat} {x : Int} (hj : zs[j]? = some x) : w.cell? ⟨g, j, none⟩ = some (.int .i64 x) := by
  simp only [World.cell?, show w.heap[g]? = _ from h]
  simp [hj]
theorem Iz.frozen {w : World} {g : Nat} {zs : List Int} (h : Iz w g zs) (j : Nat) : w.frozen? ⟨g, j, none⟩ = false := by simp [World.frozen?, show w.heap[g]? = _ from h]
theorem Iz.set {w : World} {g : Nat} {zs : List Int} (h : Iz w g zs) (j : Nat) (x : Int) : Iz (w.setCell ⟨g, j, none⟩ (.int .i64 x)) g (zs.set j x) := by
  obtain ⟨hlt, hk⟩ := Array.getElem?_eq_some_iff.1 h
  show (w.heap.modify g _)[g]? = _
  rw [Array.getElem?_eq_getElem (by rw [Array.size_modify]; exact hlt), Array.getElem_modify_self, hk]
  show some (Obj.cells ((zs.map (Value.int .i64)).toArray.setIfInBounds j _) 3 (0, 0)) = _
  congr 2
  apply Array.toList_inj.1
  simp [List.map_set]
theorem Iz.below {w w' : World} {g : Nat} {zs : List Int} (h : Iz w g zs) (hb : Below w.heap.size w w') : Iz w' g zs := (hb.block g h.lt).trans h
theorem Iz.row {w : World} {g n c : Nat} {l zs : List Int} (h : Iz w g zs) (hl : zs.length = c) (hn : n ≤ c) (hc : c ≤ maxLen) (ht : zs.take n = l) (B : Nat) (hB : B ≤ g) : w.ownsRow B 3 1 (.slice (some ⟨g, 0, none⟩) n c) n (l.map (Value.int .i64)) := by
  refine ⟨by rw [List.length_map, ← ht, List.length_take]; omega, .inr ⟨g, c, (zs.map (Value.int .i64)).toArray, rfl, hB, h, hn, hc, by simp [hl], ?_⟩⟩
  rw [List.toList_toArray, Nat.mul_one, ← List.map_take, ht]
/-- The list, so many marks behind it, and zeros. -/
def mk77 (l : List Int) (k : Nat) : List Int := l ++ (List.replicate k 77 ++ List.replicate (8 - k) 0)
theorem mk77_len (l : List Int) (k : Nat) (hk : k ≤ 8) : (mk77 l k).length = l.length + 8 := by simp [mk77]; omega
theorem mk77_set (l : List Int) (k : Nat) (hk : k < 8) : (mk77 l k).set (l.length + k) 77 = mk77 l (k + 1) := by
  have h : ∀ k : Fin 8, (List.replicate k.val (77 : Int) ++ List.replicate (8 - k.val) 0).set k.val 77 = List.replicate (k.val + 1) 77 ++ List.replicate (8 - (k.val + 1)) 0 := by decide
  unfold mk77
  rw [List.set_append_right _ _ (by omega), show l.length + k - l.length = k by omega, h ⟨k, hk⟩]
theorem mk77_at (l : List Int) (k j : Nat) (hj : j < 8) (hk : k ≤ 8) : ∃ x, (mk77 l k)[l.length + j]? = some x := ⟨_, List.getElem?_eq_getElem (by rw [mk77_len l k hk]; omega)⟩
theorem mk77_end (l : List Int) (j : Nat) (hj : j < 8) : (mk77 l 8)[l.length + j]? = some 77 := by
  have h : ∀ j : Fin 8, (List.replicate 8 (77 : Int) ++ List.replicate (8 - 8) 0)[j.val]? = some 77 := by decide
  unfold mk77
  rw [List.getElem?_append_right (by omega), show l.length + j - l.length = j by omega]
  exact h ⟨j, hj⟩
theorem mk77_front (l : List Int) (k j : Nat) (hj : j < l.length) : (mk77 l k)[j]? = some l[j] := by
  unfold mk77
  rw [List.getElem?_append_left hj, List.getElem?_eq_getElem hj]
theorem mk77_take (l : List Int) (k : Nat) : (mk77 l k).take l.length = l := by unfold mk77; simp
theorem Ms.set1 {w : World} {b : Nat} {m : Msg} {v : Value} (h : Ms w b m v) (v' : Value) : Ms (w.setCell ⟨b, 1, none⟩ v') b m v' := by
  obtain ⟨hlt, hk⟩ := Array.getElem?_eq_some_iff.1 h
  show (w.heap.modify b _)[b]? = _
  rw [Array.getElem?_eq_getElem (by rw [Array.size_modify]; exact hlt), Array.getElem_modify_self, hk]
  rfl
theorem encPost_same {m : Msg} {l : List Int} {w w' u u' : World} {e e' : Ending} (h : EncPost m l w e w') (h' : EncPost m l u e' u') : e = e' := by
  obtain ⟨s, x, rfl, hc, _⟩ := h
  obtain ⟨s', x', rfl, hc', _⟩ := h'
  rcases hc with ⟨a1, rfl, rfl⟩ | ⟨a1, rfl, rfl⟩ <;> rcases hc' with ⟨a2, rfl, rfl⟩ | ⟨a2, rfl, rfl⟩
  · rfl
  · exact absurd a1 a2
  · exact absurd a2 a1
  · rfl

set_option maxRecDepth 100000 in
set_option maxHeartbeats 4000000 in
theorem encodes_any (m : Msg) (hs : Small m) (hkd : m.kind.size ≤ 9223372036854775807) (l : List Int) (n : Nat) (hn : l.length = n) (hl : n ≤ 1048576) (w : World) (hT : Tabs w) (hT10 : T10 w) (a0 : Option Addr) (c0 : Nat) (hR : Lies w a0 l) (hnil : a0.isNone = true → n = 0 ∧ c0 = 0) :
    Calls Tryd.prog 4 #[.agg (m.cells (.slice a0 n c0))] w fun e w' => e = .returned (.bool true) ∧ Below w.heap.size w w' := by
  obtain ⟨i0, hi, hz0, hz1, hz2⟩ := info_parts info3
  have hinfo : (Tryd.prog.info? 3).map (·.size) = some 1 := by rw [hi]; simp [hz1]
  obtain ⟨M, hM⟩ : ∃ M, M = (madeCells (Value.int .i64 0).cells (((n : Int) + 8).toNat * i0.size)).toList := ⟨_, rfl⟩
  have hMl : M.length = n + 8 := by rw [hM, Array.length_toList, size_madeCells, hz1]; omega
  have hM0 : M.drop n = (List.replicate 8 (0 : Int)).map (Value.int .i64) := by
    have h1 : M = List.replicate (n + 8) (Value.int .i64 0) := by
      rw [List.eq_replicate_iff]
      refine ⟨hMl, fun v hv => ?_⟩
      rw [hM] at hv
      unfold madeCells at hv
      rw [Array.toList_map] at hv
      obtain ⟨i, _, rfl⟩ := List.mem_map.1 hv
      show (#[Value.int .i64 0] : Array Value)[i % 1]! = _
      rw [Nat.mod_one]
      rfl
    rw [h1, List.drop_replicate, show n + 8 - n = 8 by omega]
    rfl
  have hmk : ∀ W : World, (Instr.makeSlice 22 (.int .i64 ((n : Int) + 8)) (.int .i64 ((n : Int) + 8))).run Tryd.prog W =
      .ok (.slice (some ⟨W.heap.size, 0, none⟩) (n + 8) (n + 8)) (W.alloc (.cells M.toArray 3)) := fun W => by
    have h := run_make (P := Tryd.prog) W 22 3 i0 (.int .i64 0) Tryd.underlying22 hi hz0 .i64 .i64 ((n : Int) + 8) ((n : Int) + 8) (by omega) (by omega) (by rw [hz2]; omega) (by omega)
    rw [show (madeCells (Value.int .i64 0).cells (((n : Int) + 8).toNat * i0.size)) = M.toArray by rw [hM], show ((n : Int) + 8).toNat = n + 8 by omega] at h
    exact h
  clear hM
  obtain ⟨W0, hW0⟩ : ∃ W, w.alloc (.cells (m.cells (.slice a0 n c0)) 24) = W := ⟨_, rfl⟩
  have hB0 : Below w.heap.size w W0 := by rw [← hW0]; exact (Below.refl _ w).alloc (Nat.le_refl _) _
  have hbox : Ms W0 w.heap.size m (.slice a0 n c0) := by rw [← hW0]; exact heap_alloc_new w _
  have hsz0 : W0.heap.size = w.heap.size + 1 := by rw [← hW0]; simp
  obtain ⟨CS, hCS⟩ : ∃ CS, CS = l.map (Value.int .i64) := ⟨_, rfl⟩
  have hCSl : CS.length = n := by rw [hCS, List.length_map, hn]
  have hpos : 0 < CS.length → (some ⟨w.heap.size + 1, 0, none⟩ : Option Addr) = some ⟨w.heap.size + 1, 0, none⟩ ∧ ∃ ad, a0 = some ad ∧ ∀ j v, CS[j]? = some v → (W0.alloc (.cells M.toArray 3)).cell? (ad.add j) = some v := fun h0 => by
    refine ⟨rfl, ?_⟩
    obtain ⟨ad, e, _⟩ := hR 0 (l[0]'(by omega)) (List.getElem?_eq_getElem _)
    refine ⟨ad, e, fun j v hj => ?_⟩
    rw [hCS, List.getElem?_map] at hj
    cases hlj : l[j]? with
    | none => rw [hlj] at hj; simp at hj
    | some x =>
      rw [hlj] at hj
      obtain rfl : Value.int .i64 x = v := by simpa using hj
      obtain ⟨ad2, e2, hc⟩ := hR j x hlj
      obtain rfl : ad = ad2 := by rw [e] at e2; exact Option.some.inj e2
      exact cell_below (cell_below hc hB0) ((Below.refl _ W0).alloc (Nat.le_refl _) _)
  have hone : ∀ v ∈ CS, v.oneCell' = true := fun v hv => by
    rw [hCS] at hv
    obtain ⟨x, _, rfl⟩ := List.mem_map.1 hv
    rfl
  have hsp : splice M 0 CS = (mk77 l 0).map (Value.int .i64) := by
    unfold splice mk77
    rw [List.take_zero, List.nil_append, Nat.zero_add, hCSl, hM0, hCS]
    simp
  obtain ⟨W1, hW1⟩ : ∃ W, W0.alloc (.cells M.toArray 3) = W := ⟨_, rfl⟩
  have hB1 : Below (w.heap.size + 1) W0 W1 := by rw [← hW1]; exact (Below.refl _ _).alloc (by omega) _
  have hG1 : W1.heap[w.heap.size + 1]? = some (.cells M.toArray 3 (0, 0)) := by rw [← hW1, ← hsz0]; exact heap_alloc_new W0 _
  have hcopy : ∃ W2, (Builtin.copy_ #[22, 22] 3 #[.slice (some ⟨w.heap.size + 1, 0, none⟩) (n + 8) (n + 8), .slice a0 n c0]).run Tryd.prog W1 = .ok (goInt n) W2 ∧ Iz W2 (w.heap.size + 1) (mk77 l 0) ∧ Below (w.heap.size + 1) W0 W2 := by
    by_cases h0 : CS.length = 0
    · have hn0 : n = 0 := by omega
      have h := run_copy_none (P := Tryd.prog) W1 22 22 3 3 (some ⟨w.heap.size + 1, 0, none⟩) a0 (n + 8) (n + 8) n c0 Tryd.underlying22 hinfo (by rw [hn0]; exact Nat.zero_min _)
      refine ⟨W1, by rw [hn0] at h ⊢; exact h, ?_, hB1⟩
      unfold Iz
      rw [← hsp, hG1, List.eq_nil_of_length_eq_zero h0]
      simp [splice]
    · obtain ⟨_, ad, rfl, hsrc⟩ := hpos (by omega)
      rw [hW1] at hsrc
      have h := run_copy_row (P := Tryd.prog) W1 22 22 3 3 (w.heap.size + 1) 0 (n + 8) (n + 8) ad n c0 M.toArray 3 CS Tryd.underlying22 hinfo hG1 (by rw [hCSl]; exact (Nat.min_eq_left (by omega)).symm) hsrc (by simp; omega) hone
      rw [hCSl] at h
      refine ⟨_, h, ?_, below_setRow hB1 (Nat.le_refl _) _⟩
      unfold Iz
      rw [setRow_heap W1 (w.heap.size + 1) _ _ 3 _ hG1, ← hsp]
      simp [splice, hCSl]
  obtain ⟨W2, hcp, hI2, hB2⟩ := hcopy
  rw [← hW1, ← hW0] at hcp
  have HI2 := hide hI2
  have HW0 := hide hW0
  have HR0 := hide (hR.below hB0)
  clear hpos hone hsp hCSl hMl hCS hM0 hW0 hW1 hG1 hB1 hI2 W1
  unfold Msg.cells at HW0 hcp
  unfold Msg.cells
  go_enter Tryd.func4, Tryd.ntmps4
  go_wp2
  go_loopw [5] (fun i wr => ∃ k : Nat, k ≤ 8 ∧ i = .int .i64 k ∧ Hid (Iz wr (w.heap.size + 1) (mk77 l k)) ∧ Below (w.heap.size + 1) W0 wr) (fun i _ => 8 - (intOf i).toNat)
  case atStart => exact ⟨0, Nat.zero_le _, rfl, HI2, hB2⟩
  case round =>
    obtain ⟨k, hk, rfl, HI, hBk⟩ := hrel
    by_cases hlt : k < 8
    · obtain ⟨x, hx⟩ := mk77_at l k k hlt (by omega)
      have hset := (unhide HI).set (l.length + k) 77
      rw [mk77_set l k hlt, hn] at hset
      rw [hn] at hx
      obtain ⟨j, hj⟩ : ∃ j, n + k = j := ⟨_, rfl⟩
      have hji : (n : Int) + (k : Int) = (j : Int) := by omega
      have hj8 : (j : Int) < (n : Int) + 8 := by omega
      rw [hj] at hx hset
      have hc := (unhide HI).cell hx
      have hf := (unhide HI).frozen j
      have hglt := (unhide HI).lt
      have HS := hide hset
      clear hset hx hj
      go_wp2
      go_roundw
      case rel => exact ⟨k + 1, by omega, by go_num, HS, hBk.trans ((Below.refl _ _).setCell (p := ⟨w.heap.size + 1, j, none⟩) (Nat.le_refl _) _)⟩
      case measure => simp [intOf]; omega
    · obtain rfl : k = 8 := by omega
      have hms : Ms wr w.heap.size m (.slice a0 n c0) := (hBk.block _ (by omega)).trans hbox
      have hB3 : Below w.heap.size w wr := hB0.trans (hBk.mono (by omega))
      obtain ⟨P0, P1, P2, P3, P4, P5, P6, P7, P8⟩ := hms.nine
      have hltm := hms.lt
      clear hcp hmk
      have HR1 := hide hR
      clear hR HR0
      cases a0 with
      | none =>
        obtain ⟨hn0, hc0⟩ := hnil rfl
        subst hn0 hc0
        have hcmp : ∀ W : World, (binOp .eql 22 (.slice none 0 0) (.slice none 0 0)).run Tryd.prog W = .ok (.bool true) W := fun W => Lib.run_eql_slice_nil_nil W 0 0 Tryd.underlying22
        have hbx : Below wr.heap.size wr (wr.alloc (.cells (m.cells (.slice none 0 0)) 24)) := (Below.refl _ wr).alloc (Nat.le_refl _) _
        have hI4 := (unhide HI).below hbx
        have hms4 := ms_below hms hbx
        have hB4 := hB3.trans (hbx.mono hB3.size)
        have hv4 : (wr.alloc (.cells (m.cells (.slice none 0 0)) 24)).ownsRow 0 3 1 (.slice none 0 0) 0 (l.map (Value.int .i64)) := by rw [List.eq_nil_of_length_eq_zero hn]; exact World.ownsRow_nil _ _ _ _
        have HE := hide (encode_any m hs l _ (tabs_below hT hB4) (t10_below hT10 hB4) hv4 (by omega))
        have HI4 := hide hI4
        have HL := hide hn
        clear hv4 hI4 HI hbx hnil
        unfold Msg.cells at HE hms4 hB4 HI4
        go_wp2_with fail
        refine (unhide HE).mono ?_
        intro e w5 hE
        have hE2 := hE
        obtain ⟨s, x, rfl, _, hb5⟩ := hE2
        have HE5 := hide hE
        have hB5 := hB4.trans (hb5.mono hB4.size)
        have hms5 := ms_below hms4 hb5
        have HI5 := hide ((unhide HI4).below hb5)
        have HEr := hide (rencode_any m hs hkd l 0 (unhide HL) (by omega) w5 none 0 ((unhide HR1).below hB5))
        clear hE hms4 HE HI4 P0 P1 P2 P3 P4 P5 P6 P7 P8
        obtain ⟨P0, P1, P2, P3, P4, P5, P6, P7, P8⟩ := hms5.nine
        unfold Msg.cells at HEr
        go_wp2_with fail
        refine (unhide HEr).mono ?_
        intro e w6 hE6
        obtain rfl := encPost_same (unhide HE5) hE6
        obtain ⟨_, _, _, _, hb6⟩ := hE6
        have hB6 := hB5.trans (hb6.mono hB5.size)
        have hms6 := ms_below hms5 hb6
        have HI6 := hide ((unhide HI5).below hb6)
        clear HE5 HI5 HEr P0 P1 P2 P3 P4 P5 P6 P7 P8
        obtain ⟨P0, P1, P2, P3, P4, P5, P6, P7, P8⟩ := hms6.nine
        have HR6 := hide ((unhide HR1).below hB6)
        clear HR1 hms5 hb5 hb6 hB5 hB4 hms hltm
        go_wp2
        go_loopw [11] (fun i wx => ∃ k d : Nat, k ≤ 0 ∧ i = .int .i64 k ∧ wx = w6.drewN d) (fun i _ => 0 - (intOf i).toNat)
        case atStart => exact ⟨0, 0, Nat.zero_le _, rfl, rfl⟩
        case round =>
          obtain ⟨k, d, hk2, rfl, rfl⟩ := hrel
          by_cases hlt2 : k < 0
          · omega
          · obtain rfl : k = 0 := by omega
            go_wp2
            go_loopw [12] (fun i wx => ∃ j : Nat, j ≤ 8 ∧ i = .int .i64 j ∧ wx = w6.drewN d) (fun i _ => 8 - (intOf i).toNat)
            case atStart => exact ⟨0, Nat.zero_le _, rfl, rfl⟩
            case round =>
              obtain ⟨j, hj, rfl, rfl⟩ := hrel
              by_cases hlt3 : j < 8
              · have hx := mk77_end l j hlt3
                rw [unhide HL] at hx
                obtain ⟨y, hy⟩ : ∃ y, 0 + j = y := ⟨_, rfl⟩
                rw [hy] at hx
                have hyi : (j : Int) = (y : Int) := by omega
                have hy8 : (y : Int) < 8 := by omega
                have hc := (unhide HI6).cell hx
                clear hx hy
                go_wp2
                go_roundw
                case rel => exact ⟨j + 1, by omega, by go_num, trivial⟩
                case measure => simp [intOf]; omega
              · go_wp2
                go_ret
                exact ⟨by simp, below_drawn hB6⟩
      | some ad =>
        have hcmp : ∀ W : World, (binOp .eql 22 (.slice (some ad) n c0) (.slice none 0 0)).run Tryd.prog W = .ok (.bool false) W := fun W => Lib.run_eql_slice_nil W 22 3 (some ad) n c0 0 0 Tryd.underlying22
        have hbx : Below wr.heap.size wr (wr.alloc (.cells (m.cells (.slice (some ⟨w.heap.size + 1, 0, none⟩) n (n + 8))) 24)) := (Below.refl _ wr).alloc (Nat.le_refl _) _
        have hI4 := (unhide HI).below hbx
        have hms4 := ms_below hms hbx
        have hB4 := hB3.trans (hbx.mono hB3.size)
        have hv4 : (wr.alloc (.cells (m.cells (.slice (some ⟨w.heap.size + 1, 0, none⟩) n (n + 8))) 24)).ownsRow 0 3 1 (.slice (some ⟨w.heap.size + 1, 0, none⟩) n (n + 8)) n (l.map (Value.int .i64)) := Iz.row (hI4) (by rw [mk77_len l 8 (by omega), hn]) (by omega) (by unfold maxLen; omega) (by rw [← hn]; exact mk77_take l 8) 0 (Nat.zero_le _)
        have HE := hide (encode_any m hs l _ (tabs_below hT hB4) (t10_below hT10 hB4) hv4 (by omega))
        have HI4 := hide hI4
        have HL := hide hn
        clear hv4 hI4 HI hbx hnil
        unfold Msg.cells at HE hms4 hB4 HI4
        go_wp2_with fail
        refine (unhide HE).mono ?_
        intro e w5 hE
        have hE2 := hE
        obtain ⟨s, x, rfl, _, hb5⟩ := hE2
        have HE5 := hide hE
        have hB5 := hB4.trans (hb5.mono hB4.size)
        have hms5 := ms_below hms4 hb5
        have HI5 := hide ((unhide HI4).below hb5)
        have HEr := hide (rencode_any m hs hkd l n (unhide HL) (by omega) w5 (some ad) c0 ((unhide HR1).below hB5))
        clear hE hms4 HE HI4 P0 P1 P2 P3 P4 P5 P6 P7 P8
        obtain ⟨P0, P1, P2, P3, P4, P5, P6, P7, P8⟩ := hms5.nine
        unfold Msg.cells at HEr
        go_wp2_with fail
        refine (unhide HEr).mono ?_
        intro e w6 hE6
        obtain rfl := encPost_same (unhide HE5) hE6
        obtain ⟨_, _, _, _, hb6⟩ := hE6
        have hB6 := hB5.trans (hb6.mono hB5.size)
        have hms6 := ms_below hms5 hb6
        have HI6 := hide ((unhide HI5).below hb6)
        clear HE5 HI5 HEr P0 P1 P2 P3 P4 P5 P6 P7 P8
        obtain ⟨P0, P1, P2, P3, P4, P5, P6, P7, P8⟩ := hms6.nine
        have HR6 := hide ((unhide HR1).below hB6)
        clear HR1 hms5 hb5 hb6 hB5 hB4 hms hltm
        go_wp2
        go_loopw [11] (fun i wx => ∃ k d : Nat, k ≤ n ∧ i = .int .i64 k ∧ wx = w6.drewN d) (fun i _ => n - (intOf i).toNat)
        case atStart => exact ⟨0, 0, Nat.zero_le _, rfl, rfl⟩
        case round =>
          obtain ⟨k, d, hk2, rfl, rfl⟩ := hrel
          by_cases hlt2 : k < n
          · have hlk : k < l.length := by rw [unhide HL]; exact hlt2
            have e1 := (unhide HI6).cell (mk77_front l 8 k hlk)
            obtain ⟨ad2, had, e2⟩ := unhide HR6 k l[k] (List.getElem?_eq_getElem hlk)
            obtain rfl : ad = ad2 := Option.some.inj had
            generalize l[k] = y at e1 e2
            have hk8 : (k : Int) < (n : Int) + 8 := by omega
            clear hlk had
            go_wp2
            go_quiet (fail)
            go_wp2
            go_roundw
            case rel => exact ⟨k + 1, d + nq, by omega, by go_num, by simp⟩
            case measure => simp [intOf]; omega
          · have hkn : ¬ k < n := hlt2
            clear hkn
            go_wp2
            go_loopw [12] (fun i wx => ∃ j : Nat, j ≤ 8 ∧ i = .int .i64 j ∧ wx = w6.drewN d) (fun i _ => 8 - (intOf i).toNat)
            case atStart => exact ⟨0, Nat.zero_le _, rfl, rfl⟩
            case round =>
              obtain ⟨j, hj, rfl, rfl⟩ := hrel
              by_cases hlt3 : j < 8
              · have hx := mk77_end l j hlt3
                rw [unhide HL] at hx
                obtain ⟨y, hy⟩ : ∃ y, n + j = y := ⟨_, rfl⟩
                rw [hy] at hx
                have hyi : (n : Int) + (j : Int) = (y : Int) := by omega
                have hy8 : (y : Int) < (n : Int) + 8 := by omega
                have hc := (unhide HI6).cell hx
                clear hx hy
                go_wp2
                go_roundw
                case rel => exact ⟨j + 1, by omega, by go_num, trivial⟩
                case measure => simp [intOf]; omega
              · go_wp2
                go_ret
                exact ⟨by simp, below_drawn hB6⟩
end Go.Proofs.YtkkaieijbpkleaaDoor
