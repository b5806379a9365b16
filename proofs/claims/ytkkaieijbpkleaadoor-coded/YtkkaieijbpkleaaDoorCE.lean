import Derived.Test.YtkkaieijbpkleaaDoorCD
namespace Go.Proofs.YtkkaieijbpkleaaDoor
open Go.RowKit Go.Shelf

/-- Block b is a deed. -/
def Dd (w : World) (b : Nat) (k c a t p : Nat) : Prop := w.heap[b]? = some (.cells (deedC k c a t p) 37 (0, 0))
theorem Dd.lt {w : World} {b k c a t p : Nat} (h : Dd w b k c a t p) : b < w.heap.size := (Array.getElem?_eq_some_iff.1 h).1
theorem Dd.below {w w' : World} {b k c a t p : Nat} (h : Dd w b k c a t p) (hb : Below w.heap.size w w') : Dd w' b k c a t p := (hb.block b h.lt).trans h
theorem Dd.cells {w : World} {b k c a t p : Nat} (h : Dd w b k c a t p) : w.cell? ⟨b, 1, none⟩ = some (.int .i64 c) ∧ w.cell? ⟨b, 2, none⟩ = some (.int .i64 a) ∧ w.cell? ⟨b, 3, none⟩ = some (.int .i64 t) ∧ w.cell? ⟨b, 4, none⟩ = some (.int .i64 p) := by
  refine ⟨?_, ?_, ?_, ?_⟩ <;> (simp only [World.cell?, show w.heap[b]? = _ from h]; rfl)
theorem ms_drew {w w' : World} {n mb : Nat} {m : Msg} {v : Value} (h : Ms w mb m v) (hb : Below (w.drewN n).heap.size (w.drewN n) w') : Ms w' mb m v := ms_below (w := w.drewN n) h hb
theorem Dd.drew {w w' : World} {n b k c a t p : Nat} (h : Dd w b k c a t p) (hb : Below (w.drewN n).heap.size (w.drewN n) w') : Dd w' b k c a t p := Dd.below (w := w.drewN n) h hb
theorem bel2 {w W w1 w2 : World} (h : Below w.heap.size w W) (h1 : Below W.heap.size W w1) (h2 : Below w1.heap.size w1 w2) : Below w.heap.size w w2 :=
  have k := h.trans (h1.mono h.size)
  k.trans (h2.mono k.size)
/-- What is read of a frame. -/
def Reads (B : ByteArray) (m : Msg) (l : List Int) (fn : Nat) : Prop :=
  ∀ W : World, Tabs W → Calls Tryd.prog fn #[.string B] W fun e w' => ∃ a c, e = .returned (.tuple #[.agg (m.cells (.slice a l.length c)), .string emp]) ∧ w'.ownsRow W.heap.size 3 1 (.slice a l.length c) l.length (l.map (Value.int .i64)) ∧ Below W.heap.size W w'
theorem reads_of {B : ByteArray} {m : Msg} {l : List Int} (h : dec B = (some (m, l), emp)) (hB : B.size ≤ 9223372036854775807) : Reads B m l 6 := fun W hT => by
  have := decode_any B W hT hB
  rw [h] at this
  refine this.mono ?_
  rintro e w' ⟨v, rfl, hr, hb⟩
  obtain ⟨a, c, rfl⟩ := row_slice hr
  exact ⟨a, c, rfl, hr, hb⟩


/-- A region that draws, whose operations read the same in every world of a class. -/
theorem wp_quiet_class {P : Program} {C : World → Prop} {id : Nat} {Q : Exit → Act → World → Prop} {a : Act} {w : World} {l : List Oper} (hm : P.follows .mixedOrders = true) (hB : Region.lexB .any l.toArray = true) (hC : C { w with drawn := w.drawn + 1 })
    (h : wpQuiet P l.toArray C (fun a' => ∀ w', C w' → Q .normal a' w') l a) : (Code.region id l.toArray true).wp P Q a w :=
  wp_region_quiet (C := C) hm hB hC (by simpa using h)
/-- The worlds behind w: the blocks that were there lie as they lay. -/
structure Beh (w : World) (mb db : Nat) (m : Msg) (v : Value) (k c a t p : Nat) (W : World) : Prop where
  below : Below w.heap.size w W
  ms : Ms W mb m v
  dd : Dd W db k c a t p

theorem Beh.next {w : World} {mb db : Nat} {m : Msg} {v : Value} {k c a t p : Nat} {W W' : World} (h : Beh w mb db m v k c a t p W) (hb : Below W.heap.size W W') : Beh w mb db m v k c a t p W' :=
  ⟨h.below.trans (hb.mono h.below.size), ms_below h.ms hb, h.dd.below hb⟩

set_option maxRecDepth 100000 in
set_option maxHeartbeats 4000000 in
theorem coded_any (a b c : Int) (a0 : -9223372036854775808 ≤ a) (a1 : a ≤ 9223372036854775807) (b0 : -9223372036854775808 ≤ b) (b1 : b ≤ 9223372036854775807) (c0 : -9223372036854775808 ≤ c) (c1 : c ≤ 9223372036854775807) (f : ByteArray) (hf : f.size ≤ 9223372036854775807) (w : World) (hT : Tabs w) (hT10 : T10 w) :
    Calls Tryd.prog 5 #[.int .i64 a, .int .i64 b, .int .i64 c, .string f] w fun e w' => e = .returned (.bool true) ∧ Below w.heap.size w w' := by
  have HMade := hide (made_any a b c a0 a1 b0 b1 c0 c1 w)
  clear a0 a1 b0 b1 c0 c1
  go_enter Tryd.func5, Tryd.ntmps5
  go_wp2_with fail
  refine (unhide HMade).mono ?_
  rintro e w1 ⟨k, cd, am, tr, wh, rfl, ⟨hk, hcd, ham, htr, hwh⟩, hb1⟩
  have hD2 : Dd (w1.alloc (.cells (deedC k cd am tr wh) 37)) w1.heap.size k cd am tr wh := heap_alloc_new w1 _
  have hB2 : Below w.heap.size w (w1.alloc (.cells (deedC k cd am tr wh) 37)) := hb1.alloc hb1.size _
  have HFr := hide (frame_any k cd am tr wh hk hcd ham htr hwh (w1.alloc (.cells (deedC k cd am tr wh) 37)))
  have hdec := dec_body k cd am tr wh hk hcd ham htr hwh
  have hbs : (ba (bodyL k cd am tr wh)).size = 34 := body_length k cd am tr wh hk hcd
  have hts : (ba ([0, 34] ++ bodyL k cd am tr wh)).size = 36 := by
    have := body_length k cd am tr wh hk hcd
    rw [ba_size, List.length_append, this]; rfl
  have htx : (ba ([0, 34] ++ bodyL k cd am tr wh)).extract 2 36 = ba (bodyL k cd am tr wh) := ba_back [0, 34] _ 2 36 rfl hts.symm
  generalize ba ([0, 34] ++ bodyL k cd am tr wh) = T at HFr hts htx
  generalize ba (bodyL k cd am tr wh) = B at hdec hbs htx
  generalize ([2, 4, 11, 41] : List Int) = l at hdec
  have HRead := hide (reads_of hdec (by omega))
  have HEnc := hide (fun (W : World) (hT : Tabs W) (hT10 : T10 W) (b0 : Nat) (v : Value) hv => encode_back hdec W hT hT10 (b0 := b0) (v := v) hv)
  have hpanB : (msgB k cd am tr wh).pan = ba (panL cd) := rfl
  have hplB : (msgB k cd am tr wh).place = ba (placeL wh) := rfl
  have hamB : (msgB k cd am tr wh).amount = am := rfl
  have htrB : (msgB k cd am tr wh).trace = tr := rfl
  obtain ⟨m, hm⟩ : ∃ m, msgB k cd am tr wh = m := ⟨_, rfl⟩
  rw [hm] at HRead HEnc hpanB hplB hamB htrB
  have HPan := hide (fun W : World => kpan_any cd hcd W)
  have HPl := hide (fun W : World => kplace_any wh hwh W)
  rw [← hpanB] at HPan
  rw [← hplB] at HPl
  have HAm := hide hamB
  have HTr := hide htrB
  clear hdec hm hpanB hplB HMade hk hcd ham htr hwh hamB htrB
  unfold deedC at HFr hD2 hB2
  unfold deedC
  go_wp2_with fail
  refine (unhide HFr).mono ?_
  rintro e w3 ⟨rfl, hb3⟩
  have hD3 := hD2.below hb3
  have hB3 := hB2.trans (hb3.mono hB2.size)
  go_wp2_with fail
  refine (unhide HRead w3 (tabs_below hT hB3)).mono ?_
  rintro e w4 ⟨av, cv, rfl, hrow4, hb4⟩
  have hD4 := hD3.below hb4
  have hB4 := hB3.trans (hb4.mono hB3.size)
  have hM5 : Ms (w4.alloc (.cells (m.cells (.slice av l.length cv)) 24)) w4.heap.size m (.slice av l.length cv) := heap_alloc_new w4 _
  have hb45 : Below w4.heap.size w4 (w4.alloc (.cells (m.cells (.slice av l.length cv)) 24)) := (Below.refl _ w4).alloc (Nat.le_refl _) _
  have hD5 := hD4.below hb45
  have hB5 := hB4.trans (hb45.mono hB4.size)
  have HE5 := hide (unhide HEnc _ (tabs_below hT hB5) (t10_below hT10 hB5) _ _ (row_below hrow4 hb45))
  clear hrow4
  unfold Msg.cells at HE5 hM5 hD5 hB5 hb45
  unfold Msg.cells emp
  go_wp2_with fail
  refine (unhide HE5).mono ?_
  rintro e w6 ⟨rfl, hb6⟩
  have hM6 := ms_below hM5 hb6
  have hD6 := hD5.below hb6
  have hB6 := hB5.trans (hb6.mono hB5.size)
  obtain ⟨P0, P1, P2, P3, P4, P5, P6, P7, P8⟩ := hM6.nine
  obtain ⟨D1, D2, D3, D4⟩ := hD6.cells
  rw [unhide HAm] at P3
  rw [unhide HTr] at P4
  clear hM5 hD5 hB5 hb45 hb6 HE5 hD4 hD3 hD2 hB4 hB3 hB2 HFr HRead HEnc
  go_upto_region 5 with fail
  go_cut [77] (fun x wx => x = .bool false ∧ Below w.heap.size w wx)
  case first =>
    refine wp_quiet_class (C := Beh w6 w4.heap.size w1.heap.size m (.slice av l.length cv) k cd am tr wh) (by kernel_rfl) (by kernel_rfl) ⟨below_drawn (n := 1) (Below.refl _ w6), hM6, hD6⟩ ?_
    have hAm := unhide HAm
    have hTr := unhide HTr
    clear P0 P1 P2 P3 P4 P5 P6 P7 P8 D1 D2 D3 D4
    repeat (refine wpQuiet_step (fun K hK => ?_); go_simp; first | (refine hK _ ?_; clear hK K) | (apply Exists.intro; refine ⟨fun W hW => ?_, hK _ ?_⟩; first | exact rfl | (go_at_call 15; refine (unhide HPan W).mono ?_; rintro e w'' ⟨rfl, hb⟩; exact ⟨rfl, hW.next hb⟩) | (go_at_call 16; refine (unhide HPl W).mono ?_; rintro e w'' ⟨rfl, hb⟩; exact ⟨rfl, hW.next hb⟩) | (obtain ⟨Q0, Q1, Q2, Q3, Q4, Q5, Q6, Q7, Q8⟩ := hW.ms.nine; obtain ⟨E1, E2, E3, E4⟩ := hW.dd.cells; go_simp; done) | (obtain ⟨Q0, Q1, Q2, Q3, Q4, Q5, Q6, Q7, Q8⟩ := hW.ms.nine; obtain ⟨E1, E2, E3, E4⟩ := hW.dd.cells; go_simp; exact rfl); clear hK K))
    refine wpQuiet_nil ?_
    intro w7 hC7
    go_wp2_with fail
    go_meet
    exact ⟨rfl, hB6.trans (hC7.below.mono hB6.size)⟩
  case rest =>
    obtain ⟨rfl, hBc⟩ := hcut
    have hTc := tabs_below hT hBc
    clear P0 P1 P2 P3 P4 P5 P6 P7 P8 D1 D2 D3 D4 hM6 hD6 hB6 HPan HPl HAm HTr
    rcases dec_two f with ⟨m1, l1, hq⟩ | ⟨nn, hq⟩
    · have HRd := hide (reads_of hq hf wc hTc)
      have HEn := hide (fun (W : World) (hT : Tabs W) (hT10 : T10 W) (b0 : Nat) (v : Value) hv => encode_back hq W hT hT10 (b0 := b0) (v := v) hv)
      clear hq hTc
      go_wp2_with fail
      refine (unhide HRd).mono ?_
      rintro e w7 ⟨aw, cw, rfl, hrow, hb7⟩
      have hB7 := hBc.trans (hb7.mono hBc.size)
      have hb78 : Below w7.heap.size w7 (w7.alloc (.cells (m1.cells (.slice aw l1.length cw)) 24)) := (Below.refl _ w7).alloc (Nat.le_refl _) _
      have hB8 := hB7.trans (hb78.mono hB7.size)
      have HE8 := hide (unhide HEn _ (tabs_below hT hB8) (t10_below hT10 hB8) _ _ (row_below hrow hb78))
      clear hrow hb78 HEn HRd
      unfold Msg.cells at HE8 hB8
      unfold Msg.cells emp
      go_wp2_with fail
      refine (unhide HE8).mono ?_
      rintro e w9 ⟨rfl, hb9⟩
      go_wp2
      go_ret
      exact ⟨by simp, hB8.trans (hb9.mono hB8.size)⟩
    · have hdd := decode_any f wc hTc hf
      rw [hq] at hdd
      have HDd := hide hdd
      clear hdd hq hTc
      obtain ⟨Y, hY⟩ : ∃ Y, why nn = Y := ⟨_, rfl⟩
      have hYs : Y.size = 2 := by rw [← hY]; rfl
      have hY0 : Y[0].toNat = 82 := by subst hY; rfl
      have hYn : (Y.toList == ([] : List UInt8)) = false := by rw [← hY, Lib.toList_data]; rfl
      rw [hY] at HDd
      clear hY
      go_wp2_with fail
      refine (unhide HDd).mono ?_
      rintro e w7 ⟨v7, rfl, hrow, hb7⟩
      obtain ⟨aw, cw, rfl⟩ := row_slice hrow
      have hB7 := hBc.trans (hb7.mono hBc.size)
      clear hrow HDd
      unfold msgOf fldOf Msg.cells emptyMsg emp
      dsimp only
      go_wp2
      go_ret
      exact ⟨by simp, hB7.alloc hB7.size _⟩
end Go.Proofs.YtkkaieijbpkleaaDoor
