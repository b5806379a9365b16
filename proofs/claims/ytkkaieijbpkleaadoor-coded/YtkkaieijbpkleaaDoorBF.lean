import Derived.Test.YtkkaieijbpkleaaDoorBE
namespace Go.Proofs.YtkkaieijbpkleaaDoor
open Go.RowKit Go.Shelf

/-- One bit more in a map: of the field f + 1. -/
def orF (bs : List UInt8) (f : Nat) : List UInt8 := bs.set (f / 8) (UInt8.ofNat ((bs.getD (f / 8) 0).toNat ||| 2 ^ (7 - f % 8)))
def mapF (fs : List Nat) : List UInt8 := fs.foldl orF (List.replicate 8 0)
theorem orF_length (bs : List UInt8) (f : Nat) : (orF bs f).length = bs.length := by simp [orF]
theorem foldF_length (fs : List Nat) : ∀ bs : List UInt8, (fs.foldl orF bs).length = bs.length := by
  induction fs with
  | nil => exact fun _ => rfl
  | cons f fs ih => exact fun bs => (ih _).trans (orF_length bs f)
theorem mapF_length (fs : List Nat) : (mapF fs).length = 8 := (foldF_length fs _).trans (by simp)
theorem mapF_snoc (fs : List Nat) (f : Nat) : mapF (fs ++ [f]) = orF (mapF fs) f := by simp [mapF]

/-- Block b is an array of these bytes. -/
def Ar (w : World) (b : Nat) (bs : List UInt8) : Prop := w.heap[b]? = some (.cells (Lib.byteCells bs).toArray 70 (0, 0))
theorem Ar.lt {w : World} {b : Nat} {bs : List UInt8} (h : Ar w b bs) : b < w.heap.size := (Array.getElem?_eq_some_iff.1 h).1
theorem Ar.cell {w : World} {b : Nat} {bs : List UInt8} (h : Ar w b bs) (j : Nat) (hj : j < bs.length) : w.cell? ⟨b, j, none⟩ = some (.int .u8 ((bs.getD j 0).toNat : Int)) := by
  simp only [World.cell?, show w.heap[b]? = _ from h]
  simp [Lib.byteCells, List.getElem?_eq_getElem hj, List.getD_eq_getElem?_getD]
theorem Ar.frozen {w : World} {b : Nat} {bs : List UInt8} (h : Ar w b bs) (j : Nat) : w.frozen? ⟨b, j, none⟩ = false := by simp [World.frozen?, show w.heap[b]? = _ from h]
theorem Ar.set {w : World} {b : Nat} {bs : List UInt8} (h : Ar w b bs) (j : Nat) (c : UInt8) : Ar (w.setCell ⟨b, j, none⟩ (.int .u8 (c.toNat : Int))) b (bs.set j c) := by
  obtain ⟨hlt, hk⟩ := Array.getElem?_eq_some_iff.1 h
  show (w.heap.modify b _)[b]? = _
  rw [Array.getElem?_eq_getElem (by rw [Array.size_modify]; exact hlt), Array.getElem_modify_self, hk]
  show some (Obj.cells ((Lib.byteCells bs).toArray.setIfInBounds j _) 70 (0, 0)) = _
  congr 2
  apply Array.toList_inj.1
  simp [Lib.byteCells, List.map_set]
theorem Ar.kept {w w' : World} {row : Option Nat} {b : Nat} {bs : List UInt8} (h : Ar w b bs) (hg : w.grownBy w' row) (hne : some b ≠ row) : Ar w' b bs := (hg.block b h.lt hne).trans h

theorem or_byte (bs : List UInt8) (f : Nat) : bits .or .u8 ((bs.getD (f / 8) 0).toNat : Int) ((2 ^ (7 - f % 8) : Nat) : Int) = ((UInt8.ofNat ((bs.getD (f / 8) 0).toNat ||| 2 ^ (7 - f % 8))).toNat : Int) := by
  have h1 := (bs.getD (f / 8) 0).toNat_lt
  have h2 : 2 ^ (7 - f % 8) ≤ 2 ^ 7 := Nat.pow_le_pow_right (by omega) (by omega)
  rw [u8_or_nat _ _ h1 (by omega), UInt8.toNat_ofNat']
  have hx : (bs.getD (f / 8) 0).toNat ||| 2 ^ (7 - f % 8) < 2 ^ 8 := Nat.or_lt_two_pow h1 (by omega)
  omega

def eightSet (w : World) (b : Nat) (x0 x1 x2 x3 x4 x5 x6 x7 : UInt8) : World := (((((((w.setCell ⟨b, 0, none⟩ (.int .u8 (x0.toNat : Int))).setCell ⟨b, 1, none⟩ (.int .u8 (x1.toNat : Int))).setCell ⟨b, 2, none⟩ (.int .u8 (x2.toNat : Int))).setCell ⟨b, 3, none⟩ (.int .u8 (x3.toNat : Int))).setCell ⟨b, 4, none⟩ (.int .u8 (x4.toNat : Int))).setCell ⟨b, 5, none⟩ (.int .u8 (x5.toNat : Int))).setCell ⟨b, 6, none⟩ (.int .u8 (x6.toNat : Int))).setCell ⟨b, 7, none⟩ (.int .u8 (x7.toNat : Int))
theorem eight_set {w : World} {b : Nat} {y0 y1 y2 y3 y4 y5 y6 y7 : UInt8} (h : Ar w b [y0, y1, y2, y3, y4, y5, y6, y7]) (x0 x1 x2 x3 x4 x5 x6 x7 : UInt8) : Ar (eightSet w b x0 x1 x2 x3 x4 x5 x6 x7) b [x0, x1, x2, x3, x4, x5, x6, x7] :=
  (((((((h.set 0 x0).set 1 x1).set 2 x2).set 3 x3).set 4 x4).set 5 x5).set 6 x6).set 7 x7
theorem eightSet_below (w : World) (b : Nat) (x0 x1 x2 x3 x4 x5 x6 x7 : UInt8) {B : Nat} (hB : B ≤ b) : Below B w (eightSet w b x0 x1 x2 x3 x4 x5 x6 x7) :=
  ((((((((Below.refl B w).setCell (p := ⟨b, 0, none⟩) hB _).setCell (p := ⟨b, 1, none⟩) hB _).setCell (p := ⟨b, 2, none⟩) hB _).setCell (p := ⟨b, 3, none⟩) hB _).setCell (p := ⟨b, 4, none⟩) hB _).setCell (p := ⟨b, 5, none⟩) hB _).setCell (p := ⟨b, 6, none⟩) hB _).setCell (p := ⟨b, 7, none⟩) hB _
theorem Ar.eight {w : World} {b : Nat} {x0 x1 x2 x3 x4 x5 x6 x7 : UInt8} (h : Ar w b [x0, x1, x2, x3, x4, x5, x6, x7]) : w.cell? ⟨b, 0, none⟩ = some (.int .u8 (x0.toNat : Int)) ∧ w.cell? ⟨b, 1, none⟩ = some (.int .u8 (x1.toNat : Int)) ∧ w.cell? ⟨b, 2, none⟩ = some (.int .u8 (x2.toNat : Int)) ∧ w.cell? ⟨b, 3, none⟩ = some (.int .u8 (x3.toNat : Int)) ∧
    w.cell? ⟨b, 4, none⟩ = some (.int .u8 (x4.toNat : Int)) ∧ w.cell? ⟨b, 5, none⟩ = some (.int .u8 (x5.toNat : Int)) ∧ w.cell? ⟨b, 6, none⟩ = some (.int .u8 (x6.toNat : Int)) ∧ w.cell? ⟨b, 7, none⟩ = some (.int .u8 (x7.toNat : Int)) :=
  ⟨h.cell 0 (by simp), h.cell 1 (by simp), h.cell 2 (by simp), h.cell 3 (by simp), h.cell 4 (by simp), h.cell 5 (by simp), h.cell 6 (by simp), h.cell 7 (by simp)⟩
theorem list8 {l : List UInt8} (h : l.length = 8) : ∃ x0 x1 x2 x3 x4 x5 x6 x7, l = [x0, x1, x2, x3, x4, x5, x6, x7] := by
  match l, h with
  | [x0, x1, x2, x3, x4, x5, x6, x7], _ => exact ⟨x0, x1, x2, x3, x4, x5, x6, x7, rfl⟩
theorem ar_res {w' : World} {b : Nat} {x0 x1 x2 x3 x4 x5 x6 x7 : UInt8} (h : Ar w' b [x0, x1, x2, x3, x4, x5, x6, x7]) (tmps : Array Value) (h2 : tmps.getD 2 undef = .pointer (some ⟨b, 0, none⟩)) :
    (results Tryd.f43 tmps).run Tryd.prog w' = .ok (.agg (Lib.byteCells [x0, x1, x2, x3, x4, x5, x6, x7]).toArray) w' := by
  obtain ⟨q0, q1, q2, q3, q4, q5, q6, q7⟩ := h.eight
  rw [Array.getD_eq_getD_getElem?] at h2
  simp [results, Tryd.f43, go_sem, *]
  rfl

set_option maxRecDepth 100000 in
set_option maxHeartbeats 1000000 in
theorem mapOf_any (fs : List Nat) (hfs : ∀ f ∈ fs, f ≤ 63) (w : World) {base n : Nat} {v : Value} (hv : w.ownsRow base 3 1 v n ((fs.map fun (f : Nat) => (f : Int) + 1).map (Value.int .i64))) (hn : n ≤ 1000) :
    Calls Tryd.prog 43 #[v] w fun e w' => e = .returned (.agg (Lib.byteCells (mapF fs)).toArray) ∧ Below w.heap.size w w' := by
  have hl : fs.length = n := by have := hv.1; simpa using this
  have HL := hide hl
  have HF := hide hfs
  clear hl hfs
  obtain ⟨a1, c1, rfl⟩ := row_slice hv
  go_enter Tryd.func43, Tryd.ntmps43
  go_wp2
  go_loopw [10] (fun i wr => ∃ k : Nat, k ≤ n ∧ i = .int .i64 k ∧ Ar wr (w.heap.size + 1) (mapF (fs.take k)) ∧ Ar wr w.heap.size [0, 0, 0, 0, 0, 0, 0, 0] ∧ Below w.heap.size w wr) (fun i _ => n - (intOf i).toNat)
  case atStart =>
    refine ⟨0, Nat.zero_le _, rfl, ?_, ?_, ((Below.refl _ w).alloc (Nat.le_refl _) _).alloc (by simp) _⟩
    · have := heap_alloc_new (w.alloc (.cells (Lib.byteCells [0, 0, 0, 0, 0, 0, 0, 0]).toArray 70)) (.cells (Lib.byteCells [0, 0, 0, 0, 0, 0, 0, 0]).toArray 70)
      rw [show (w.alloc (.cells (Lib.byteCells [0, 0, 0, 0, 0, 0, 0, 0]).toArray 70)).heap.size = w.heap.size + 1 by simp] at this
      exact this
    · exact Ar.kept (w := w.alloc (.cells (Lib.byteCells [0, 0, 0, 0, 0, 0, 0, 0]).toArray 70)) (heap_alloc_new w _) (World.grownBy_alloc _ _ none) (by simp)
  case round =>
    obtain ⟨k, hk, rfl, hA, hZ, hB⟩ := hrel
    by_cases hlt : k < n
    · have hlk : k < fs.length := by rw [unhide HL]; exact hlt
      rcases row_form (row_below hv hB) with ⟨h0, _⟩ | ⟨_, g1, d1, he1, _, hcells1⟩
      · omega
      obtain ⟨rfl, rfl⟩ : a1 = some ⟨g1, 0, none⟩ ∧ c1 = d1 := by simpa using he1
      have hck := hcells1 k (.int .i64 ((fs[k] : Int) + 1)) (by rw [List.getElem?_map, List.getElem?_map, List.getElem?_eq_getElem hlk]; rfl)
      have hf63 := unhide HF fs[k] (List.getElem_mem hlk)
      have hnx : mapF (fs.take (k + 1)) = orF (mapF (fs.take k)) fs[k] := by rw [List.take_succ_eq_append_getElem hlk, mapF_snoc]
      generalize fs[k] = f at hck hf63 hnx
      have hlen := mapF_length (fs.take k)
      generalize mapF (fs.take k) = bs at hA hnx hlen
      have HX := hide hnx
      clear hnx hcells1 he1
      go_wp2_with fail
      refine (bitOf_any f hf63 _).mono ?_
      rintro e w1 ⟨a, mk, hid, rfl, n1, rfl⟩
      have ha8 : a < 8 := by have := hid.out.1; omega
      have ha8i : (a : Int) < 8 := by omega
      have hca := hA.cell a (by omega)
      have hfr := hA.frozen a
      have hor := or_byte bs f
      rw [← hid.out.1, ← hid.out.2] at hor
      have hset := hA.set a (UInt8.ofNat ((bs.getD a 0).toNat ||| mk))
      have hnx2 : mapF (fs.take (k + 1)) = bs.set a (UInt8.ofNat ((bs.getD a 0).toNat ||| mk)) := by rw [unhide HX, orF, hid.out.1, hid.out.2]
      generalize UInt8.ofNat ((bs.getD a 0).toNat ||| mk) = c at hor hset hnx2
      generalize (bs.getD a 0).toNat = ca at hca hor
      have hAlt := hA.lt
      have HX2 := hide hnx2
      clear hnx2 HX
      go_wp2
      go_roundw
      case rel => exact ⟨k + 1, by omega, by go_num, by rw [unhide HX2]; exact hset, (show Ar (wr.drewN n1) w.heap.size _ from hZ).kept (grown_set (wr.drewN n1) (w.heap.size + 1) a _) (by simp), (below_drawn hB (n := n1)).trans ((Below.refl w.heap.size (wr.drewN n1)).setCell (p := ⟨w.heap.size + 1, a, none⟩) (Nat.le_succ _) _)⟩
      case measure => simp [intOf]; omega
    · have hall : fs.take k = fs := List.take_of_length_le (by rw [unhide HL]; omega)
      rw [hall] at hA
      obtain ⟨x0, x1, x2, x3, x4, x5, x6, x7, hx⟩ := list8 (mapF_length fs)
      rw [hx] at hA
      have HX := hide hx
      clear hall hx
      obtain ⟨p0, p1, p2, p3, p4, p5, p6, p7⟩ := hA.eight
      obtain ⟨q0, q1, q2, q3, q4, q5, q6, q7⟩ := hZ.eight
      have qf := hZ.frozen
      go_wp2
      have hres := eight_set hZ x0 x1 x2 x3 x4 x5 x6 x7
      have hB9 := hB.trans (eightSet_below wr w.heap.size x0 x1 x2 x3 x4 x5 x6 x7 (Nat.le_refl _))
      clear p0 p1 p2 p3 p4 p5 p6 p7 q0 q1 q2 q3 q4 q5 q6 q7
      refine bodyPost_ret (v := .agg (Lib.byteCells [x0, x1, x2, x3, x4, x5, x6, x7]).toArray) ?_ rfl ⟨by rw [unhide HX], hB9⟩
      exact ar_res hres _ rfl
end Go.Proofs.YtkkaieijbpkleaaDoor
