import Derived.Test.YtkkaieijbpkleaaDoorBP
import Derived.Test.YtkkaieijbpkleaaDoorBN
import Derived.Test.YtkkaieijbpkleaaDoorBM
namespace Go.Proofs.YtkkaieijbpkleaaDoor
open Go.RowKit Go.Shelf

/-- Block b is a row of these bytes. -/
def By (w : World) (b : Nat) (bs : List UInt8) : Prop := w.heap[b]? = some (.cells (Lib.byteCells bs).toArray 5 (0, 0))
theorem By.lt {w : World} {b : Nat} {bs : List UInt8} (h : By w b bs) : b < w.heap.size := (Array.getElem?_eq_some_iff.1 h).1
theorem By.cell {w : World} {b : Nat} {bs : List UInt8} (h : By w b bs) (j : Nat) (hj : j < bs.length) : w.cell? ⟨b, j, none⟩ = some (.int .u8 ((bs.getD j 0).toNat : Int)) := by
  simp only [World.cell?, show w.heap[b]? = _ from h]
  simp [Lib.byteCells, List.getElem?_eq_getElem hj, List.getD_eq_getElem?_getD]
theorem By.frozen {w : World} {b : Nat} {bs : List UInt8} (h : By w b bs) (j : Nat) : w.frozen? ⟨b, j, none⟩ = false := by simp [World.frozen?, show w.heap[b]? = _ from h]
theorem By.set {w : World} {b : Nat} {bs : List UInt8} (h : By w b bs) (j : Nat) (c : UInt8) : By (w.setCell ⟨b, j, none⟩ (.int .u8 (c.toNat : Int))) b (bs.set j c) := by
  obtain ⟨hlt, hk⟩ := Array.getElem?_eq_some_iff.1 h
  show (w.heap.modify b _)[b]? = _
  rw [Array.getElem?_eq_getElem (by rw [Array.size_modify]; exact hlt), Array.getElem_modify_self, hk]
  show some (Obj.cells ((Lib.byteCells bs).toArray.setIfInBounds j _) 5 (0, 0)) = _
  congr 2
  apply Array.toList_inj.1
  simp [Lib.byteCells, List.map_set]
theorem By.below {w w' : World} {b : Nat} {bs : List UInt8} (h : By w b bs) (hb : Below w.heap.size w w') : By w' b bs := (hb.block b h.lt).trans h
theorem By.row {w : World} {b : Nat} {bs : List UInt8} (h : By w b bs) (h8 : bs.length = 8) (B : Nat) (hB : B ≤ b) : w.ownsRow B 5 1 (.slice (some ⟨b, 0, none⟩) 8 8) 8 (Lib.byteCells bs) := by
  refine ⟨by simp [Lib.byteCells, h8], .inr ⟨b, 8, (Lib.byteCells bs).toArray, rfl, hB, h, ?_⟩⟩
  refine ⟨by omega, by unfold maxLen; omega, by simp [Lib.byteCells, h8], ?_⟩
  rw [List.toList_toArray, List.take_of_length_le (by simp [Lib.byteCells, h8])]

/-- What the reference writes. -/
def wF (m : Msg) (fs : List Nat) : List UInt8 := pkR m.kind.data.toList ++ mapF fs ++ (fs.map fun (f : Nat) => (f : Int) + 1).flatMap (fR m)
theorem half_bit : ∀ r : Fin 8, 128 / 2 ^ r.val = 2 ^ (7 - r.val) := by decide

/-- How a round of the writing ends. -/
structure Wr (m : Msg) (fs : List Nat) (w : World) (v : Value) (k : Nat) (body : ByteArray) (wr : World) : Prop where
  out : body.data.toList = ((fs.take k).map fun (f : Nat) => (f : Int) + 1).flatMap (fR m)
  size : body.size ≤ k * 1048600
  by_ : By wr (w.heap.size + 1) (mapF (fs.take k))
  ms : Ms wr w.heap.size m v
  below : Below w.heap.size w wr

theorem rdec_at (u : Nat) (hu : u ≤ 9223372036854775807) (many : Nat) (hm : many ≤ 100) (w : World) : Calls Tryd.prog 47 #[.int .i64 u, .int .i64 many] w fun e w' => ∃ D : ByteArray, e = .returned (.string D) ∧ Hid (D.data.toList = decR many u) ∧ D.size = many ∧ Below w.heap.size w w' := by
  refine (rdecimal_any u hu many hm w).mono ?_
  rintro e w' ⟨rfl, hb⟩
  exact ⟨_, rfl, rfl, by rw [Lib.size_eq]; exact decR_length _ _, hb⟩
theorem rpk_at (s : ByteArray) (hs : s.size ≤ 9000000000000000000) (w : World) : Calls Tryd.prog 46 #[.string s] w fun e w' => ∃ X : ByteArray, e = .returned (.string X) ∧ Hid (X.data.toList = pkR s.data.toList) ∧ X.size ≤ s.size ∧ Below w.heap.size w w' := by
  refine (rpacked_any s hs w).mono ?_
  rintro e w' ⟨rfl, hb⟩
  refine ⟨_, rfl, rfl, ?_, hb⟩
  rw [Lib.size_eq, Lib.size_eq]
  show (pkR s.data.toList).length ≤ _
  rw [pkR_length]
  omega
theorem rdec2 (u : Nat) (hu : u ≤ 9223372036854775807) (w : World) : Calls Tryd.prog 47 #[.int .i64 u, .int .i64 2] w fun e w' => ∃ D : ByteArray, e = .returned (.string D) ∧ Hid (D.data.toList = decR 2 u) ∧ D.size = 2 ∧ Below w.heap.size w w' := rdec_at u hu 2 (by omega) w
theorem rdec6 (u : Nat) (hu : u ≤ 9223372036854775807) (w : World) : Calls Tryd.prog 47 #[.int .i64 u, .int .i64 6] w fun e w' => ∃ D : ByteArray, e = .returned (.string D) ∧ Hid (D.data.toList = decR 6 u) ∧ D.size = 6 ∧ Below w.heap.size w w' := rdec_at u hu 6 (by omega) w
theorem rdec12 (u : Nat) (hu : u ≤ 9223372036854775807) (w : World) : Calls Tryd.prog 47 #[.int .i64 u, .int .i64 12] w fun e w' => ∃ D : ByteArray, e = .returned (.string D) ∧ Hid (D.data.toList = decR 12 u) ∧ D.size = 12 ∧ Below w.heap.size w w' := rdec_at u hu 12 (by omega) w
theorem ne_bool {x y : Int} (h : ¬ x = y) : (x == y) = false := beq_eq_false_iff_ne.2 h
theorem eq_bool {x y : Int} (h : x = y) : (x == y) = true := by rw [h]; exact beq_self_eq_true y
theorem ms_drew {w w' : World} {n mb : Nat} {m : Msg} {v : Value} (h : Ms w mb m v) (hb : Below (w.drewN n).heap.size (w.drewN n) w') : Ms w' mb m v := ms_below (w := w.drewN n) h hb
theorem By.drew {w w' : World} {n b : Nat} {bs : List UInt8} (h : By w b bs) (hb : Below (w.drewN n).heap.size (w.drewN n) w') : By w' b bs := By.below (w := w.drewN n) h hb
theorem below2 {w W w1 w2 : World} (h : Below w.heap.size w W) (h1 : Below W.heap.size W w1) (h2 : Below w1.heap.size w1 w2) : Below w.heap.size w w2 :=
  have k := h.trans (h1.mono h.size)
  k.trans (h2.mono k.size)
theorem below3 {w W w1 w2 w3 : World} (h : Below w.heap.size w W) (h1 : Below W.heap.size W w1) (h2 : Below w1.heap.size w1 w2) (h3 : Below w2.heap.size w2 w3) : Below w.heap.size w w3 :=
  have k := below2 h h1 h2
  k.trans (h3.mono k.size)
/-- A round's end. -/
theorem Wr.next {m : Msg} {fs : List Nat} {w : World} {v : Value} {k : Nat} {body body' : ByteArray} {wr' : World} {X : List UInt8} {bs : List UInt8} (hout : body.data.toList = ((fs.take k).map fun (f : Nat) => (f : Int) + 1).flatMap (fR m)) (hsz : body.size ≤ k * 1048600)
    (hnx : ((fs.take (k + 1)).map fun (f : Nat) => (f : Int) + 1).flatMap (fR m) = ((fs.take k).map fun (f : Nat) => (f : Int) + 1).flatMap (fR m) ++ X) (hX : X.length ≤ 1048600) (hb : body'.data.toList = body.data.toList ++ X) (hm : mapF (fs.take (k + 1)) = bs)
    (hby : By wr' (w.heap.size + 1) bs) (hms : Ms wr' w.heap.size m v) (hB : Below w.heap.size w wr') : Wr m fs w v (k + 1) body' wr' :=
  ⟨by rw [hnx, hb, hout], by rw [Lib.size_eq, hb, List.length_append, ← Lib.size_eq]; omega, by rw [hm]; exact hby, hms, hB⟩

set_option maxRecDepth 100000 in
set_option maxHeartbeats 4000000 in
theorem rwritten_any (kd p : ByteArray) (A T M : Nat) (c pl nm : ByteArray) (hA : A ≤ 9223372036854775807) (hT : T ≤ 9223372036854775807) (hM : M ≤ 9223372036854775807) (hkd : kd.size ≤ 1000) (hp : p.size ≤ 1048576) (hc : c.size ≤ 1048576) (hpl : pl.size ≤ 1048576) (hnm : nm.size ≤ 1048576)
    (fs : List Nat) (hfs : ∀ f ∈ fs, f ≤ 63) (n : Nat) (hn : fs.length = n) (hn64 : n ≤ 64) (w : World) (a0 : Option Addr) (c0 : Nat) (hR : Lies w a0 (fs.map fun (f : Nat) => (f : Int) + 1)) :
    Calls Tryd.prog 30 #[.agg (Msg.cells ⟨kd, p, A, T, c, pl, nm, M⟩ (.slice a0 n c0))] w fun e w' => e = .returned (.string ⟨(wF ⟨kd, p, A, T, c, pl, nm, M⟩ fs).toArray⟩) ∧ Below w.heap.size w w' := by
  obtain ⟨RES, hRES⟩ : ∃ r, (⟨(wF ⟨kd, p, A, T, c, pl, nm, M⟩ fs).toArray⟩ : ByteArray) = r := ⟨_, rfl⟩
  rw [hRES]
  have HRES := hide hRES
  clear hRES
  have HL := hide hn
  have HF := hide hfs
  have HR := hide hR
  clear hn hfs hR
  obtain ⟨m, hm⟩ : ∃ m : Msg, (⟨kd, p, A, T, c, pl, nm, M⟩ : Msg) = m := ⟨_, rfl⟩
  have HM := hide hm
  clear hm
  have hmk : ∀ W : World, (Instr.makeSlice 55 (.int .i64 8) (.int .i64 8)).run Tryd.prog W = .ok (.slice (some ⟨W.heap.size, 0, none⟩) 8 8) (W.alloc (.cells (Lib.byteCells [0, 0, 0, 0, 0, 0, 0, 0]).toArray 5)) := fun W => by kernel_rfl
  go_enter Tryd.func30, Tryd.ntmps30
  go_wp2
  go_loopw [4, 5] (fun o i wr => ∃ (k : Nat) (body : ByteArray), k ≤ n ∧ i = .int .i64 k ∧ o = .string body ∧ Hid (Wr m fs w (.slice a0 n c0) k body wr)) (fun _ i _ => n - (intOf i).toNat)
  case atStart =>
    refine ⟨0, ⟨#[]⟩, Nat.zero_le _, rfl, rfl, ⟨rfl, Nat.zero_le _, ?_, ?_, ((Below.refl _ w).alloc (Nat.le_refl _) _).alloc (by simp) _⟩⟩
    · have := heap_alloc_new (w.alloc (.cells (Msg.cells ⟨kd, p, A, T, c, pl, nm, M⟩ (.slice a0 n c0)) 24)) (.cells (Lib.byteCells [0, 0, 0, 0, 0, 0, 0, 0]).toArray 5)
      rw [show (w.alloc (.cells (Msg.cells ⟨kd, p, A, T, c, pl, nm, M⟩ (.slice a0 n c0)) 24)).heap.size = w.heap.size + 1 by simp] at this
      exact this
    · rw [← unhide HM]
      exact Ms.kept (w := w.alloc (.cells (Msg.cells ⟨kd, p, A, T, c, pl, nm, M⟩ (.slice a0 n c0)) 24)) (heap_alloc_new w _) (World.grownBy_alloc _ _ none) (by simp)
  case round =>
    obtain ⟨k, body, hk, rfl, rfl, HW⟩ := hrel
    obtain ⟨hout, hsz, hby, hms, hB⟩ := unhide HW
    clear HW
    have hk64 : k ≤ 64 := by omega
    have hsz2 : body.size ≤ 67110400 := Nat.le_trans hsz (Nat.mul_le_mul_right 1048600 hk64)
    have HO := hide hout
    have HSZ := hide hsz
    clear hout hsz
    rw [← unhide HM] at hms
    by_cases hlt : k < n
    · have hlk : k < fs.length := by rw [unhide HL]; exact hlt
      obtain ⟨ad, rfl, e1⟩ := (unhide HR).below hB k ((fs[k] : Int) + 1) (by rw [List.getElem?_map, List.getElem?_eq_getElem hlk]; rfl)
      have hf63 := unhide HF fs[k] (List.getElem_mem hlk)
      have hmp : mapF (fs.take (k + 1)) = orF (mapF (fs.take k)) fs[k] := by rw [List.take_succ_eq_append_getElem hlk, mapF_snoc]
      have hnx : ((fs.take (k + 1)).map fun (f : Nat) => (f : Int) + 1).flatMap (fR m) = ((fs.take k).map fun (f : Nat) => (f : Int) + 1).flatMap (fR m) ++ fR m ((fs[k] : Int) + 1) := by
        rw [List.take_succ_eq_append_getElem hlk, List.map_append, List.flatMap_append]; simp
      generalize fs[k] = f at e1 hf63 hmp hnx
      have HNX := hide hnx
      obtain ⟨q, hq⟩ : ∃ q, q = f / 8 := ⟨_, rfl⟩
      obtain ⟨r, hr⟩ : ∃ r, r = f % 8 := ⟨_, rfl⟩
      have hqi : (f : Int) / 8 = (q : Int) := by omega
      have hri : (f : Int) % 8 = (r : Int) := by omega
      have hr7 : r ≤ 7 := by omega
      have hq7 : q ≤ 7 := by omega
      have hlen := mapF_length (fs.take k)
      generalize mapF (fs.take k) = bs at hby hmp hlen
      have HMP := hide hmp
      have HQ := hide hq
      have HRr := hide hr
      have HLen := hide hlen
      have HBY := hide hby
      have HMS := hide hms
      clear hmp hq hr hlen hnx hby
      obtain ⟨P0, P1, P2, P3, P4, P5, P6, P7, P8⟩ := hms.nine
      clear hms
      go_wp2
      go_loopw [7, 8] (fun b i wx => ∃ c z : Nat, c ≤ r ∧ i = .int .i64 c ∧ b = .int .i64 z ∧ Hid (128 / 2 ^ c = z) ∧ z ≤ 128 ∧ wx = wr) (fun _ i _ => r - (intOf i).toNat)
      case atStart => exact ⟨0, 128, Nat.zero_le _, rfl, rfl, by simp [Hid], by omega, rfl⟩
      case round =>
        obtain ⟨y, z, hy, rfl, rfl, HZ, hz, rfl⟩ := hrel
        by_cases hcl : y < r
        · have hnx2 : 128 / 2 ^ (y + 1) = z / 2 := by rw [Nat.pow_succ, ← Nat.div_div_eq_div_mul, HZ.out]
          have HN := hide hnx2
          have hzi : (z : Int) / 2 = ((z / 2 : Nat) : Int) := by omega
          have hz2' : z / 2 ≤ 128 := by omega
          generalize z / 2 = z2 at HN hzi hz2'
          clear hnx2 HZ
          go_wp2
          go_roundw
          case rel => exact ⟨y + 1, z2, by omega, by go_num, rfl, HN, hz2', trivial⟩
          case measure => simp [intOf]; omega
        · obtain rfl : y = r := by omega
          have hmk : z = 2 ^ (7 - f % 8) := by
            rw [← HZ.out, ← unhide HRr]
            exact half_bit ⟨y, by omega⟩
          have hby := unhide HBY
          have hca := hby.cell q (by rw [unhide HLen]; omega)
          have hfr := hby.frozen q
          have hor := or_byte bs f
          rw [← unhide HQ, ← hmk] at hor
          have hset := hby.set q (UInt8.ofNat ((bs.getD q 0).toNat ||| z))
          have hmp2 : mapF (fs.take (k + 1)) = bs.set q (UInt8.ofNat ((bs.getD q 0).toNat ||| z)) := by rw [unhide HMP, orF, ← unhide HQ, ← hmk]
          generalize UInt8.ofNat ((bs.getD q 0).toNat ||| z) = cc at hor hset hmp2
          generalize (bs.getD q 0).toNat = ca at hca hor
          have hms2 := (unhide HMS).kept (grown_set wr (w.heap.size + 1) q (.int .u8 (cc.toNat : Int))) (by simp)
          have hB2 := hB.trans ((Below.refl w.heap.size wr).setCell (p := ⟨w.heap.size + 1, q, none⟩) (Nat.le_succ _) (.int .u8 (cc.toNat : Int)))
          have HMP2 := hide hmp2
          have HSET := hide hset
          have hAlt := hby.lt
          clear hmp2 hset hmk HZ hby HBY HMP HMS hB hcl
          clear P0 P1 P2 P3 P4 P5 P6 P7 P8
          by_cases h2 : (f : Int) + 1 = 2
          · have b2 := eq_bool h2
            have hfx : fR m ((f : Int) + 1) = numR p.size 1 ++ pkR (evenL p.data.toList) := by rw [h2, ← unhide HM]; rfl
            have HFX := hide hfx
            clear hfx h2
            by_cases hpar : p.size % 2 = 1
            · have hpi : (p.size : Int) % 2 = 1 := by omega
              obtain ⟨D0, hD0⟩ : ∃ D0 : ByteArray, (⟨#[48]⟩ : ByteArray) ++ p = D0 := ⟨_, rfl⟩
              have hev : D0.data.toList = evenL p.data.toList := by rw [← hD0, ByteArray.toList_data_append]; unfold evenL; rw [if_pos (by rw [← Lib.size_eq]; exact hpar)]; rfl
              have hD0s : D0.size ≤ 1048577 := by rw [← hD0, ByteArray.size_append, Nat.add_comm]; exact Nat.succ_le_succ hp
              have HEV := hide hev
              clear hev hpar
              obtain ⟨P0, P1, P2, P3, P4, P5, P6, P7, P8⟩ := hms2.nine
              go_wp2_with fail
              refine (rdec2 p.size (by omega) _).mono ?_
              rintro e w1 ⟨D, rfl, HD, hDs, hb1⟩
              have hms3 := ms_below hms2 hb1
              clear P0 P1 P2 P3 P4 P5 P6 P7 P8
              obtain ⟨P0, P1, P2, P3, P4, P5, P6, P7, P8⟩ := hms3.nine
              go_wp2_with fail
              refine (rpk_at D (by omega) _).mono ?_
              rintro e w2 ⟨X, rfl, HX, hXs, hb2⟩
              have hms4 := ms_below hms3 hb2
              clear P0 P1 P2 P3 P4 P5 P6 P7 P8
              obtain ⟨P0, P1, P2, P3, P4, P5, P6, P7, P8⟩ := hms4.nine
              go_wp2_with fail
              refine (rpk_at D0 (by omega) _).mono ?_
              rintro e w3 ⟨Y, rfl, HY, hYs, hb3⟩
              have hms5 := ms_below hms4 hb3
              clear P0 P1 P2 P3 P4 P5 P6 P7 P8
              obtain ⟨P0, P1, P2, P3, P4, P5, P6, P7, P8⟩ := hms5.nine
              have hsXY : (body ++ X).size ≤ 70000000 := by rw [ByteArray.size_append]; omega
              clear hpi
              go_wp2
              go_roundw
              case rel => exact ⟨k + 1, body ++ X ++ Y, by omega, by go_num, rfl, hide (Wr.next (X := numR p.size 1 ++ pkR (evenL p.data.toList)) (unhide HO) (unhide HSZ) (by rw [unhide HNX, unhide HFX]) (by rw [← unhide HEV, ← unhide HY, List.length_append, ← Lib.size_eq]; unfold numR; rw [pkR_length, decR_length]; omega) (by rw [ByteArray.toList_data_append, ByteArray.toList_data_append, unhide HX, unhide HD, unhide HY, unhide HEV, List.append_assoc]; rfl) (unhide HMP2) ((((unhide HSET).below hb1).below hb2).below hb3) (by rw [← unhide HM]; exact hms5) (below3 hB2 hb1 hb2 hb3))⟩
              case measure => simp [intOf]; omega
            · have hpi : (p.size : Int) % 2 = 0 := by omega
              have hev : p.data.toList = evenL p.data.toList := by unfold evenL; rw [if_neg (by rw [← Lib.size_eq]; exact hpar)]
              have HEV := hide hev
              clear hev hpar
              obtain ⟨P0, P1, P2, P3, P4, P5, P6, P7, P8⟩ := hms2.nine
              go_wp2_with fail
              refine (rdec2 p.size (by omega) _).mono ?_
              rintro e w1 ⟨D, rfl, HD, hDs, hb1⟩
              have hms3 := ms_below hms2 hb1
              clear P0 P1 P2 P3 P4 P5 P6 P7 P8
              obtain ⟨P0, P1, P2, P3, P4, P5, P6, P7, P8⟩ := hms3.nine
              go_wp2_with fail
              refine (rpk_at D (by omega) _).mono ?_
              rintro e w2 ⟨X, rfl, HX, hXs, hb2⟩
              have hms4 := ms_below hms3 hb2
              clear P0 P1 P2 P3 P4 P5 P6 P7 P8
              obtain ⟨P0, P1, P2, P3, P4, P5, P6, P7, P8⟩ := hms4.nine
              go_wp2_with fail
              refine (rpk_at p (by omega) _).mono ?_
              rintro e w3 ⟨Y, rfl, HY, hYs, hb3⟩
              have hms5 := ms_below hms4 hb3
              clear P0 P1 P2 P3 P4 P5 P6 P7 P8
              obtain ⟨P0, P1, P2, P3, P4, P5, P6, P7, P8⟩ := hms5.nine
              have hsXY : (body ++ X).size ≤ 70000000 := by rw [ByteArray.size_append]; omega
              clear hpi
              go_wp2
              go_roundw
              case rel => exact ⟨k + 1, body ++ X ++ Y, by omega, by go_num, rfl, hide (Wr.next (X := numR p.size 1 ++ pkR (evenL p.data.toList)) (unhide HO) (unhide HSZ) (by rw [unhide HNX, unhide HFX]) (by rw [← unhide HEV, ← unhide HY, List.length_append, ← Lib.size_eq]; unfold numR; rw [pkR_length, decR_length]; omega) (by rw [ByteArray.toList_data_append, ByteArray.toList_data_append, unhide HX, unhide HD, unhide HY, ← unhide HEV, List.append_assoc]; rfl) (unhide HMP2) ((((unhide HSET).below hb1).below hb2).below hb3) (by rw [← unhide HM]; exact hms5) (below3 hB2 hb1 hb2 hb3))⟩
              case measure => simp [intOf]; omega
          by_cases h4 : (f : Int) + 1 = 4
          · have b2 := ne_bool (show ¬ (f : Int) + 1 = 2 by omega)
            have b4 := eq_bool h4
            have hfx : fR m ((f : Int) + 1) = numR A 6 := by rw [h4, ← unhide HM]; rfl
            have HFX := hide hfx
            clear hfx h4
            obtain ⟨P0, P1, P2, P3, P4, P5, P6, P7, P8⟩ := hms2.nine
            go_wp2_with fail
            refine (rdec12 A hA _).mono ?_
            rintro e w1 ⟨D, rfl, HD, hDs, hb1⟩
            have hms3 := ms_below hms2 hb1
            clear P0 P1 P2 P3 P4 P5 P6 P7 P8
            obtain ⟨P0, P1, P2, P3, P4, P5, P6, P7, P8⟩ := hms3.nine
            go_wp2_with fail
            refine (rpk_at D (by omega) _).mono ?_
            rintro e w2 ⟨X, rfl, HX, hXs, hb2⟩
            have hms4 := ms_below hms3 hb2
            clear P0 P1 P2 P3 P4 P5 P6 P7 P8
            obtain ⟨P0, P1, P2, P3, P4, P5, P6, P7, P8⟩ := hms4.nine
            go_wp2
            go_roundw
            case rel => exact ⟨k + 1, body ++ X, by omega, by go_num, rfl, hide (Wr.next (X := numR A 6) (unhide HO) (unhide HSZ) (by rw [unhide HNX, unhide HFX]) (by unfold numR; rw [pkR_length, decR_length]; omega) (by rw [ByteArray.toList_data_append, unhide HX, unhide HD]; rfl) (unhide HMP2) (((unhide HSET).below hb1).below hb2) (by rw [← unhide HM]; exact hms4) ((hB2.trans (hb1.mono hB2.size)).trans (hb2.mono (hB2.trans (hb1.mono hB2.size)).size)))⟩
            case measure => simp [intOf]; omega
          by_cases h11 : (f : Int) + 1 = 11
          · have b2 := ne_bool (show ¬ (f : Int) + 1 = 2 by omega)
            have b4 := ne_bool (show ¬ (f : Int) + 1 = 4 by omega)
            have b11 := eq_bool h11
            have hfx : fR m ((f : Int) + 1) = numR T 3 := by rw [h11, ← unhide HM]; rfl
            have HFX := hide hfx
            clear hfx h11
            obtain ⟨P0, P1, P2, P3, P4, P5, P6, P7, P8⟩ := hms2.nine
            go_wp2_with fail
            refine (rdec6 T hT _).mono ?_
            rintro e w1 ⟨D, rfl, HD, hDs, hb1⟩
            have hms3 := ms_below hms2 hb1
            clear P0 P1 P2 P3 P4 P5 P6 P7 P8
            obtain ⟨P0, P1, P2, P3, P4, P5, P6, P7, P8⟩ := hms3.nine
            go_wp2_with fail
            refine (rpk_at D (by omega) _).mono ?_
            rintro e w2 ⟨X, rfl, HX, hXs, hb2⟩
            have hms4 := ms_below hms3 hb2
            clear P0 P1 P2 P3 P4 P5 P6 P7 P8
            obtain ⟨P0, P1, P2, P3, P4, P5, P6, P7, P8⟩ := hms4.nine
            go_wp2
            go_roundw
            case rel => exact ⟨k + 1, body ++ X, by omega, by go_num, rfl, hide (Wr.next (X := numR T 3) (unhide HO) (unhide HSZ) (by rw [unhide HNX, unhide HFX]) (by unfold numR; rw [pkR_length, decR_length]; omega) (by rw [ByteArray.toList_data_append, unhide HX, unhide HD]; rfl) (unhide HMP2) (((unhide HSET).below hb1).below hb2) (by rw [← unhide HM]; exact hms4) ((hB2.trans (hb1.mono hB2.size)).trans (hb2.mono (hB2.trans (hb1.mono hB2.size)).size)))⟩
            case measure => simp [intOf]; omega
          by_cases h39 : (f : Int) + 1 = 39
          · have b2 := ne_bool (show ¬ (f : Int) + 1 = 2 by omega)
            have b4 := ne_bool (show ¬ (f : Int) + 1 = 4 by omega)
            have b11 := ne_bool (show ¬ (f : Int) + 1 = 11 by omega)
            have b39 := eq_bool h39
            have hfx : fR m ((f : Int) + 1) = c.data.toList := by rw [h39, ← unhide HM]; rfl
            have HFX := hide hfx
            clear hfx h39
            obtain ⟨P0, P1, P2, P3, P4, P5, P6, P7, P8⟩ := hms2.nine
            go_wp2
            go_roundw
            case rel => exact ⟨k + 1, body ++ c, by omega, by go_num, rfl, hide (Wr.next (X := c.data.toList) (unhide HO) (unhide HSZ) (by rw [unhide HNX, unhide HFX]) (by rw [← Lib.size_eq]; omega) (by rw [ByteArray.toList_data_append]) (unhide HMP2) (unhide HSET) (by rw [← unhide HM]; exact hms2) hB2)⟩
            case measure => simp [intOf]; omega
          by_cases h41 : (f : Int) + 1 = 41
          · have b2 := ne_bool (show ¬ (f : Int) + 1 = 2 by omega)
            have b4 := ne_bool (show ¬ (f : Int) + 1 = 4 by omega)
            have b11 := ne_bool (show ¬ (f : Int) + 1 = 11 by omega)
            have b39 := ne_bool (show ¬ (f : Int) + 1 = 39 by omega)
            have b41 := eq_bool h41
            have hfx : fR m ((f : Int) + 1) = pl.data.toList := by rw [h41, ← unhide HM]; rfl
            have HFX := hide hfx
            clear hfx h41
            obtain ⟨P0, P1, P2, P3, P4, P5, P6, P7, P8⟩ := hms2.nine
            go_wp2
            go_roundw
            case rel => exact ⟨k + 1, body ++ pl, by omega, by go_num, rfl, hide (Wr.next (X := pl.data.toList) (unhide HO) (unhide HSZ) (by rw [unhide HNX, unhide HFX]) (by rw [← Lib.size_eq]; omega) (by rw [ByteArray.toList_data_append]) (unhide HMP2) (unhide HSET) (by rw [← unhide HM]; exact hms2) hB2)⟩
            case measure => simp [intOf]; omega
          by_cases h43 : (f : Int) + 1 = 43
          · have b2 := ne_bool (show ¬ (f : Int) + 1 = 2 by omega)
            have b4 := ne_bool (show ¬ (f : Int) + 1 = 4 by omega)
            have b11 := ne_bool (show ¬ (f : Int) + 1 = 11 by omega)
            have b39 := ne_bool (show ¬ (f : Int) + 1 = 39 by omega)
            have b41 := ne_bool (show ¬ (f : Int) + 1 = 41 by omega)
            have b43 := eq_bool h43
            have hfx : fR m ((f : Int) + 1) = numR nm.size 1 ++ nm.data.toList := by rw [h43, ← unhide HM]; rfl
            have HFX := hide hfx
            clear hfx h43
            obtain ⟨P0, P1, P2, P3, P4, P5, P6, P7, P8⟩ := hms2.nine
            go_wp2_with fail
            go_region_with (first | (go_at_call 47; refine (rdec2 nm.size (by omega) _).mono ?_; rintro e w1 ⟨D, rfl, HD, hDs, hb1⟩; have hms3 := ms_drew (n := 1) hms2 hb1; obtain ⟨P0, P1, P2, P3, P4, P5, P6, P7, P8⟩ := hms3.nine) | (go_at_call 46; refine (rpk_at D (by omega) _).mono ?_; rintro e w2 ⟨X, rfl, HX, hXs, hb2⟩; have hms4 := ms_below hms3 hb2; have hsXY : (body ++ X).size ≤ 70000000 := (by rw [ByteArray.size_append]; omega); obtain ⟨P0, P1, P2, P3, P4, P5, P6, P7, P8⟩ := hms4.nine))
            all_goals
              go_wp2
              go_roundw
              case rel => exact ⟨k + 1, body ++ X ++ nm, by omega, by go_num, rfl, hide (Wr.next (X := numR nm.size 1 ++ nm.data.toList) (unhide HO) (unhide HSZ) (by rw [unhide HNX, unhide HFX]) (by rw [List.length_append, ← Lib.size_eq]; unfold numR; rw [pkR_length, decR_length]; omega) (by rw [ByteArray.toList_data_append, ByteArray.toList_data_append, unhide HX, unhide HD, List.append_assoc]; rfl) (unhide HMP2) ((By.drew (n := 1) (unhide HSET) hb1).below hb2) (by rw [← unhide HM]; exact hms4) (below2 (below_drawn (n := 1) hB2) hb1 hb2))⟩
              case measure => simp [intOf]; omega
          by_cases h54 : (f : Int) + 1 = 54
          · have b2 := ne_bool (show ¬ (f : Int) + 1 = 2 by omega)
            have b4 := ne_bool (show ¬ (f : Int) + 1 = 4 by omega)
            have b11 := ne_bool (show ¬ (f : Int) + 1 = 11 by omega)
            have b39 := ne_bool (show ¬ (f : Int) + 1 = 39 by omega)
            have b41 := ne_bool (show ¬ (f : Int) + 1 = 41 by omega)
            have b43 := ne_bool (show ¬ (f : Int) + 1 = 43 by omega)
            have b54 := eq_bool h54
            have hfx : fR m ((f : Int) + 1) = numR M 6 := by rw [h54, ← unhide HM]; rfl
            have HFX := hide hfx
            clear hfx h54
            obtain ⟨P0, P1, P2, P3, P4, P5, P6, P7, P8⟩ := hms2.nine
            go_wp2_with fail
            refine (rdec12 M hM _).mono ?_
            rintro e w1 ⟨D, rfl, HD, hDs, hb1⟩
            have hms3 := ms_below hms2 hb1
            clear P0 P1 P2 P3 P4 P5 P6 P7 P8
            obtain ⟨P0, P1, P2, P3, P4, P5, P6, P7, P8⟩ := hms3.nine
            go_wp2_with fail
            refine (rpk_at D (by omega) _).mono ?_
            rintro e w2 ⟨X, rfl, HX, hXs, hb2⟩
            have hms4 := ms_below hms3 hb2
            clear P0 P1 P2 P3 P4 P5 P6 P7 P8
            obtain ⟨P0, P1, P2, P3, P4, P5, P6, P7, P8⟩ := hms4.nine
            go_wp2
            go_roundw
            case rel => exact ⟨k + 1, body ++ X, by omega, by go_num, rfl, hide (Wr.next (X := numR M 6) (unhide HO) (unhide HSZ) (by rw [unhide HNX, unhide HFX]) (by unfold numR; rw [pkR_length, decR_length]; omega) (by rw [ByteArray.toList_data_append, unhide HX, unhide HD]; rfl) (unhide HMP2) (((unhide HSET).below hb1).below hb2) (by rw [← unhide HM]; exact hms4) ((hB2.trans (hb1.mono hB2.size)).trans (hb2.mono (hB2.trans (hb1.mono hB2.size)).size)))⟩
            case measure => simp [intOf]; omega
          have b2 := ne_bool h2
          have b4 := ne_bool h4
          have b11 := ne_bool h11
          have b39 := ne_bool h39
          have b41 := ne_bool h41
          have b43 := ne_bool h43
          have b54 := ne_bool h54
          have hfx : fR m ((f : Int) + 1) = [] := by unfold fR; rw [if_neg h2, if_neg h4, if_neg h11, if_neg h39, if_neg h41, if_neg h43, if_neg h54]
          have HFX := hide hfx
          clear hfx h2 h4 h11 h39 h41 h43 h54
          obtain ⟨P0, P1, P2, P3, P4, P5, P6, P7, P8⟩ := hms2.nine
          go_wp2
          go_roundw
          case rel => exact ⟨k + 1, body, by omega, by go_num, rfl, hide (Wr.next (X := []) (unhide HO) (unhide HSZ) (by rw [unhide HNX, unhide HFX]) (Nat.zero_le _) (by rw [List.append_nil]) (unhide HMP2) (unhide HSET) (by rw [← unhide HM]; exact hms2) hB2)⟩
          case measure => simp [intOf]; omega
    · have hall : fs.take k = fs := List.take_of_length_le (by rw [unhide HL]; omega)
      rw [hall] at hby
      have hcv0 := fun (W : World) (h : By W (w.heap.size + 1) (mapF fs)) => conv_row (l := mapF fs) (B := 0) (n := 8) (h.row (mapF_length fs) 0 (Nat.zero_le _))
      have hfin : ∀ K : ByteArray, K.data.toList = pkR kd.data.toList → K ++ ⟨(mapF fs).toArray⟩ ++ body = RES := fun K hK => by
        rw [← unhide HRES]
        apply ext_list
        rw [ByteArray.toList_data_append, ByteArray.toList_data_append, hK, unhide HO, hall]
        unfold wF
        rw [unhide HM]
        have : m.kind = kd := by rw [← unhide HM]
        rw [this]
      have h8 : (⟨(mapF fs).toArray⟩ : ByteArray).size = 8 := by rw [Lib.size_eq]; exact mapF_length fs
      generalize (⟨(mapF fs).toArray⟩ : ByteArray) = S at hcv0 hfin h8
      have hcv1 := hcv0 wr.drew hby
      have HCV := hide hcv0
      have HFin := hide hfin
      clear hcv0 hfin hall
      obtain ⟨P0, P1, P2, P3, P4, P5, P6, P7, P8⟩ := hms.nine
      go_wp2
      go_region_with (go_at_call 46; refine (rpk_at kd (by omega) _).mono ?_; rintro e w1 ⟨K, rfl, HK, hKs, hb1⟩; have hcv2 := unhide HCV w1 (By.below (w := World.drew _) hby hb1); have hsK : (K ++ S).size ≤ 2000 := (by rw [ByteArray.size_append]; omega))
      all_goals
        go_wp2
        go_ret
        exact ⟨by rw [unhide HFin K (unhide HK)]; rfl, (below_drawn (n := 1) hB).trans (hb1.mono (below_drawn (n := 1) hB).size)⟩
end Go.Proofs.YtkkaieijbpkleaaDoor
