import Derived.Test.YtkkaieijbpkleaaDoorBK
namespace Go.Proofs.YtkkaieijbpkleaaDoor
open Go.RowKit Go.Shelf

theorem lays_kind {k : ByteArray} {l : List Int} (h : l ∈ lays k) : k.size = 4 := by
  refine Classical.byContradiction fun hne => ?_
  have h0 : ∀ a b c d, ¬ k = kd a b c d := fun a b c d e => hne (by rw [e]; rfl)
  simp [lays, h0] at h
theorem lays_cases {k : ByteArray} {l : List Int} (h : l ∈ lays k) : l ∈ ([[2, 4, 11, 41], [2, 4, 11, 41, 43], [2, 4, 11, 39, 41], [11], [4, 11, 39, 54], [11, 39], [39]] : List (List Int)) := by
  unfold lays at h
  repeat' split at h
  all_goals simp at h
  all_goals first | (rcases h with rfl | rfl <;> decide) | (subst h; decide)
/-- The fields, counted from 0 on. -/
def fsOf (l : List Int) : List Nat := l.map fun x => (x - 1).toNat
structure LayOk (l : List Int) : Prop where
  back : (fsOf l).map (fun (f : Nat) => (f : Int) + 1) = l
  small : ∀ f ∈ fsOf l, f ≤ 63
  five : (fsOf l).length ≤ 5
  known : ∀ f ∈ fsOf l, ((f : Int) + 1) ∈ known
  map : mapF (fsOf l) = mapL l
theorem lay_ok {k : ByteArray} {l : List Int} (h : l ∈ lays k) : LayOk l := by
  have h1 := lays_cases h
  simp only [List.mem_cons, List.not_mem_nil, or_false] at h1
  rcases h1 with rfl | rfl | rfl | rfl | rfl | rfl | rfl <;> exact ⟨by decide, by decide, by decide, by decide, by decide +kernel⟩
theorem flat_le (m : Msg) (hs : Small m) : ∀ l : List Int, (l.flatMap (fI m)).length ≤ l.length * 1048600
  | [] => Nat.le_refl _
  | x :: l => by
    have h1 := flat_le m hs l
    have h2 := fI_le m hs x
    rw [List.flatMap_cons, List.length_append, List.length_cons]
    omega
theorem wI_le {m : Msg} (hs : Small m) {l : List Int} (h : l ∈ lays m.kind) : (wI m l).length ≤ 5243100 := by
  have h1 := flat_le m hs l
  have h2 := (lay_ok h).five
  have h3 := (pkI_length (evenL m.kind.data.toList))
  have h4 : (evenL m.kind.data.toList).length ≤ 5 := by
    have := lays_kind h
    rw [Lib.size_eq] at this
    unfold evenL
    split
    · rw [List.length_cons]; omega
    · omega
  have h5 : (mapL l).length = 8 := by rw [← (lay_ok h).map]; exact mapF_length _
  have h6 : (fsOf l).length = l.length := by simp [fsOf]
  rw [h6] at h2
  have h7 : l.length * 1048600 ≤ 5 * 1048600 := Nat.mul_le_mul_right _ h2
  unfold wI
  rw [List.length_append, List.length_append, h3, h5]
  omega

/-- May this message be written? -/
def OkE (m : Msg) (l : List Int) : Prop := dec ⟨(wI m l).toArray⟩ = (some (m, l), emp)
/-- What Encode answers. -/
def EncPost (m : Msg) (l : List Int) (w : World) (e : Ending) (w' : World) : Prop :=
  ∃ s x, e = .returned (.tuple #[.string s, .int .i64 x]) ∧ ((OkE m l ∧ s = ⟨(wI m l).toArray⟩ ∧ x = 0) ∨ (¬ OkE m l ∧ s = emp ∧ x = 4)) ∧ Below w.heap.size w w'
theorem dec_two (f : ByteArray) : (∃ m l, dec f = (some (m, l), emp)) ∨ (∃ n, dec f = (none, why n)) := by
  unfold dec
  repeat' split
  all_goals first | exact .inl ⟨_, _, rfl⟩ | exact .inr ⟨_, rfl⟩

set_option maxRecDepth 100000 in
set_option maxHeartbeats 2000000 in
theorem encode_no (k p : ByteArray) (a t : Int) (c pl nm : ByteArray) (mo : Int) (l : List Int) (w : World) {b0 n : Nat} {v : Value} (hv : w.ownsRow b0 3 1 v n (l.map (Value.int .i64))) (hn : n ≤ 1000000000) (hno : ¬ l ∈ lays k) :
    Calls Tryd.prog 11 #[.agg (Msg.cells ⟨k, p, a, t, c, pl, nm, mo⟩ v)] w (EncPost ⟨k, p, a, t, c, pl, nm, mo⟩ l w) := by
  have hno2 : ¬ OkE ⟨k, p, a, t, c, pl, nm, mo⟩ l := fun h => hno (canon h).lay
  have HN := hide hno2
  obtain ⟨a0, c0, rfl⟩ := row_slice hv
  have hm : Ms (w.alloc (.cells (Msg.cells ⟨k, p, a, t, c, pl, nm, mo⟩ (.slice a0 n c0)) 24)) w.heap.size ⟨k, p, a, t, c, pl, nm, mo⟩ (.slice a0 n c0) := heap_alloc_new w _
  have hB0 : Below w.heap.size w (w.alloc (.cells (Msg.cells ⟨k, p, a, t, c, pl, nm, mo⟩ (.slice a0 n c0)) 24)) := (Below.refl _ w).alloc (Nat.le_refl _) _
  have HA := hide (allowed_any k l _ (row_below hv hB0) hn)
  rw [decide_eq_false hno] at HA
  have HB := hide hB0
  clear hno hno2 hm hB0 hv
  unfold Msg.cells at *
  dsimp only at *
  go_enter Tryd.func11, Tryd.ntmps11
  go_wp2_with (go_at_call 20; refine (unhide HA).mono ?_; rintro e w1 ⟨rfl, hb1⟩)
  go_ret2
  exact ⟨emp, 4, rfl, .inr ⟨unhide HN, rfl, rfl⟩, (unhide HB).trans (hb1.mono (unhide HB).size)⟩

theorem wUpto_wI {m : Msg} {l : List Int} (h : l ∈ lays m.kind) : wUpto m (fsOf l) ((fsOf l).map fun (f : Nat) => (f : Int) + 1) = wI m l := by
  have hl := lay_ok h
  unfold wUpto wI
  rw [hl.back, hl.map]
theorem why_ne (n : UInt8) : ((why n).toList == emp.toList) = false := text_ne (fun e => by have := congrArg (fun b => b.data.size) e; simp [why, emp] at this)

/-- What write answers, where the list may be. -/
theorem write_at {m : Msg} (hs : Small m) {l : List Int} (h : l ∈ lays m.kind) (w : World) (hT : T10 w) {b0 n : Nat} {v : Value} (hv : w.ownsRow b0 3 1 v n (l.map (Value.int .i64))) :
    Calls Tryd.prog 27 #[.agg (m.cells v)] w fun e w' => e = .returned (.string ⟨(wI m l).toArray⟩) ∧ Below w.heap.size w w' := by
  have hl := lay_ok h
  rw [← wUpto_wI h]
  exact write_any m hs (by rw [lays_kind h]; omega) (fsOf l) hl.small hl.five hl.known w hT (by rw [hl.back]; exact hv)

set_option maxRecDepth 100000 in
set_option maxHeartbeats 4000000 in
theorem encode_in (k p : ByteArray) (a t : Int) (c pl nm : ByteArray) (mo : Int) (hs : Small ⟨k, p, a, t, c, pl, nm, mo⟩) (l : List Int) (w : World) (hT : Tabs w) (hT10 : T10 w) {b0 n : Nat} {v : Value} (hv : w.ownsRow b0 3 1 v n (l.map (Value.int .i64))) (hn : n ≤ 1000000000) (hin : l ∈ lays k) :
    Calls Tryd.prog 11 #[.agg (Msg.cells ⟨k, p, a, t, c, pl, nm, mo⟩ v)] w (EncPost ⟨k, p, a, t, c, pl, nm, mo⟩ l w) := by
  obtain ⟨m, hm⟩ : ∃ m : Msg, (⟨k, p, a, t, c, pl, nm, mo⟩ : Msg) = m := ⟨_, rfl⟩
  have hink : l ∈ lays m.kind := by rw [← hm]; exact hin
  rw [hm] at hs
  obtain ⟨a0, c0, rfl⟩ := row_slice hv
  have hbox : Ms (w.alloc (.cells (Msg.cells ⟨k, p, a, t, c, pl, nm, mo⟩ (.slice a0 n c0)) 24)) w.heap.size ⟨k, p, a, t, c, pl, nm, mo⟩ (.slice a0 n c0) := heap_alloc_new w _
  have hB0 : Below w.heap.size w (w.alloc (.cells (Msg.cells ⟨k, p, a, t, c, pl, nm, mo⟩ (.slice a0 n c0)) 24)) := (Below.refl _ w).alloc (Nat.le_refl _) _
  have HA := hide (allowed_any k l _ (row_below hv hB0) hn)
  rw [decide_eq_true hin] at HA
  have HWt : Hid (∀ W, Below w.heap.size w W → Calls Tryd.prog 27 #[.agg (Msg.cells ⟨k, p, a, t, c, pl, nm, mo⟩ (.slice a0 n c0))] W fun e w' => e = .returned (.string ⟨(wI m l).toArray⟩) ∧ Below W.heap.size W w') := fun W hb => by
    rw [hm]; exact write_at hs hink W (t10_below hT10 hb) (row_below hv hb)
  have hlen := wI_le hs hink
  obtain ⟨f, hf⟩ : ∃ f : ByteArray, (⟨(wI m l).toArray⟩ : ByteArray) = f := ⟨_, rfl⟩
  have hfs : f.size ≤ 9223372036854775807 := by rw [← hf, Lib.size_eq]; exact Nat.le_trans hlen (by omega)
  have hok : OkE m l ↔ dec f = (some (m, l), emp) := by unfold OkE; rw [hf]
  have hfin : ∀ w', Below w.heap.size w w' → (dec f = (some (m, l), emp) → EncPost m l w (.returned (.tuple #[.string f, .int .i64 0])) w') ∧ (¬ dec f = (some (m, l), emp) → EncPost m l w (.returned (.tuple #[.string emp, .int .i64 4])) w') := fun w' hb =>
    ⟨fun h => ⟨f, 0, rfl, .inl ⟨hok.2 h, hf.symm, rfl⟩, hb⟩, fun h => ⟨emp, 4, rfl, .inr ⟨fun g => h (hok.1 g), rfl, rfl⟩, hb⟩⟩
  rw [hf] at HWt
  have HD : Hid (∀ W, Below w.heap.size w W → Calls Tryd.prog 6 #[.string f] W (DecPost (dec f) W)) := fun W hb => decode_any f W (tabs_below hT hb) hfs
  have hsame : Hid (∀ (m1 : Msg) (l1 : List Int) (W : World) (b1 s1 : Nat) (v1 : Value), Below w.heap.size w W → W.ownsRow b1 3 1 v1 s1 (l1.map (Value.int .i64)) → s1 ≤ 1000000000 → Calls Tryd.prog 28 #[.agg (m1.cells v1), .agg (Msg.cells ⟨k, p, a, t, c, pl, nm, mo⟩ (.slice a0 n c0))] W (SamePost m1 m l1 l W)) :=
    fun m1 l1 W b1 s1 v1 hb h1 hs1 => by
      obtain ⟨k1, p1, x1, t1, c1, pl1, n1, mo1⟩ := m1
      rw [← hm]
      exact isame_any k1 p1 x1 t1 c1 pl1 n1 mo1 k p a t c pl nm mo l1 l W h1 (row_below hv hb) hs1 hn
  have HFin := hide hfin
  have HB := hide hB0
  have HBox := hide hbox
  rw [hm]
  clear hfin hok hf hlen hs hink hin hv hB0 hbox hfs hT hT10
  have hd := dec_two f
  have hfl := fld_small f
  obtain ⟨q, hq⟩ : ∃ q, dec f = q := ⟨_, rfl⟩
  rw [hq] at HD HFin hd hfl
  have HM := hide hm
  clear hm hq
  rcases hd with ⟨m1, l1, rfl⟩ | ⟨nn, rfl⟩
  · have HL1 : Hid (l1.length ≤ 1000000000) := Nat.le_trans hfl (by omega)
    clear hfl
    by_cases hsm : m1 = m ∧ l1 = l
    · have HSM := hide hsm
      clear hsm
      rw [← unhide HM]
      unfold Msg.cells at *
      dsimp only at *
      go_enter Tryd.func11, Tryd.ntmps11
      go_wp2_with (go_at_call 20; refine (unhide HA).mono ?_; rintro e w1 ⟨rfl, hb1⟩; have hB1 := (unhide HB).trans (hb1.mono (unhide HB).size); have hms1 := ms_below (unhide HBox) hb1; obtain ⟨P0, P1, P2, P3, P4, P5, P6, P7, P8⟩ := hms1.nine)
      refine (unhide HWt w1 hB1).mono ?_
      rintro e w2 ⟨rfl, hb2⟩
      have hB2 := hB1.trans (hb2.mono hB1.size)
      have hms2 := ms_below hms1 hb2
      clear P0 P1 P2 P3 P4 P5 P6 P7 P8
      go_wp2_with fail
      refine (unhide HD w2 hB2).mono ?_
      rintro e w3 ⟨v3, rfl, hrow3, hb3⟩
      have hB3 := hB2.trans (hb3.mono hB2.size)
      obtain ⟨a3, c3, rfl⟩ := row_slice hrow3
      obtain ⟨k1, p1, x1, t1, c1, pl1, n1, mo1⟩ := m1
      have hms3 := ms_below hms2 hb3
      have hlt := hms3.lt
      have hmy : Ms (w3.alloc (.cells (Msg.cells ⟨k1, p1, x1, t1, c1, pl1, n1, mo1⟩ (.slice a3 l1.length c3)) 24)) w3.heap.size ⟨k1, p1, x1, t1, c1, pl1, n1, mo1⟩ (.slice a3 l1.length c3) := heap_alloc_new w3 _
      have hms4 : Ms (w3.alloc (.cells (Msg.cells ⟨k1, p1, x1, t1, c1, pl1, n1, mo1⟩ (.slice a3 l1.length c3)) 24)) w.heap.size ⟨k, p, a, t, c, pl, nm, mo⟩ (.slice a0 n c0) := hms3.kept (World.grownBy_alloc _ _ none) (by simp)
      have hrow4 := hrow3.alloc (.cells (Msg.cells ⟨k1, p1, x1, t1, c1, pl1, n1, mo1⟩ (.slice a3 l1.length c3)) 24)
      have hB4 := hB3.alloc hB3.size (.cells (Msg.cells ⟨k1, p1, x1, t1, c1, pl1, n1, mo1⟩ (.slice a3 l1.length c3)) 24)
      have HS := hide (unhide hsame ⟨k1, p1, x1, t1, c1, pl1, n1, mo1⟩ l1 _ _ _ _ hB4 hrow4 (unhide HL1))
      obtain ⟨P0, P1, P2, P3, P4, P5, P6, P7, P8⟩ := hms3.nine
      clear hms4 hmy hrow4 hms3 hrow3
      unfold msgOf fldOf Msg.cells emp at *
      dsimp only at *
      go_wp2_with fail
      refine (unhide HS).mono ?_
      rintro e w5 ⟨r, rfl, hr, hb5⟩
      have HRr := hide hr
      clear hr
      obtain rfl : r = true := (unhide HRr).2 (unhide HSM)
      go_wp2
      go_ret2
      rw [unhide HM]
      exact (unhide HFin _ (hB4.trans (hb5.mono hB4.size))).1 (by rw [(unhide HSM).1, (unhide HSM).2])
    · have HSM := hide hsm
      clear hsm
      rw [← unhide HM]
      unfold Msg.cells at *
      dsimp only at *
      go_enter Tryd.func11, Tryd.ntmps11
      go_wp2_with (go_at_call 20; refine (unhide HA).mono ?_; rintro e w1 ⟨rfl, hb1⟩; have hB1 := (unhide HB).trans (hb1.mono (unhide HB).size); have hms1 := ms_below (unhide HBox) hb1; obtain ⟨P0, P1, P2, P3, P4, P5, P6, P7, P8⟩ := hms1.nine)
      refine (unhide HWt w1 hB1).mono ?_
      rintro e w2 ⟨rfl, hb2⟩
      have hB2 := hB1.trans (hb2.mono hB1.size)
      have hms2 := ms_below hms1 hb2
      clear P0 P1 P2 P3 P4 P5 P6 P7 P8
      go_wp2_with fail
      refine (unhide HD w2 hB2).mono ?_
      rintro e w3 ⟨v3, rfl, hrow3, hb3⟩
      have hB3 := hB2.trans (hb3.mono hB2.size)
      obtain ⟨a3, c3, rfl⟩ := row_slice hrow3
      obtain ⟨k1, p1, x1, t1, c1, pl1, n1, mo1⟩ := m1
      have hms3 := ms_below hms2 hb3
      have hlt := hms3.lt
      have hmy : Ms (w3.alloc (.cells (Msg.cells ⟨k1, p1, x1, t1, c1, pl1, n1, mo1⟩ (.slice a3 l1.length c3)) 24)) w3.heap.size ⟨k1, p1, x1, t1, c1, pl1, n1, mo1⟩ (.slice a3 l1.length c3) := heap_alloc_new w3 _
      have hms4 : Ms (w3.alloc (.cells (Msg.cells ⟨k1, p1, x1, t1, c1, pl1, n1, mo1⟩ (.slice a3 l1.length c3)) 24)) w.heap.size ⟨k, p, a, t, c, pl, nm, mo⟩ (.slice a0 n c0) := hms3.kept (World.grownBy_alloc _ _ none) (by simp)
      have hrow4 := hrow3.alloc (.cells (Msg.cells ⟨k1, p1, x1, t1, c1, pl1, n1, mo1⟩ (.slice a3 l1.length c3)) 24)
      have hB4 := hB3.alloc hB3.size (.cells (Msg.cells ⟨k1, p1, x1, t1, c1, pl1, n1, mo1⟩ (.slice a3 l1.length c3)) 24)
      have HS := hide (unhide hsame ⟨k1, p1, x1, t1, c1, pl1, n1, mo1⟩ l1 _ _ _ _ hB4 hrow4 (unhide HL1))
      obtain ⟨P0, P1, P2, P3, P4, P5, P6, P7, P8⟩ := hms3.nine
      clear hms4 hmy hrow4 hms3 hrow3
      unfold msgOf fldOf Msg.cells emp at *
      dsimp only at *
      go_wp2_with fail
      refine (unhide HS).mono ?_
      rintro e w5 ⟨r, rfl, hr, hb5⟩
      have HRr := hide hr
      clear hr
      obtain rfl : r = false := by cases r with | false => rfl | true => exact absurd ((unhide HRr).1 rfl) (unhide HSM)
      go_wp2
      go_ret2
      rw [unhide HM]
      exact (unhide HFin _ (hB4.trans (hb5.mono hB4.size))).2 (fun e => unhide HSM (by simp only [Prod.mk.injEq, Option.some.injEq] at e; exact e.1))
  · have hne := why_ne nn
    have hne2 : ((why nn).toList == ([] : List UInt8)) = false := by rw [Lib.toList_data]; rfl
    clear hne
    rw [← unhide HM]
    unfold Msg.cells at *
    dsimp only at *
    go_enter Tryd.func11, Tryd.ntmps11
    go_wp2_with (go_at_call 20; refine (unhide HA).mono ?_; rintro e w1 ⟨rfl, hb1⟩; have hB1 := (unhide HB).trans (hb1.mono (unhide HB).size); have hms1 := ms_below (unhide HBox) hb1; obtain ⟨P0, P1, P2, P3, P4, P5, P6, P7, P8⟩ := hms1.nine)
    refine (unhide HWt w1 hB1).mono ?_
    rintro e w2 ⟨rfl, hb2⟩
    have hB2 := hB1.trans (hb2.mono hB1.size)
    have hms2 := ms_below hms1 hb2
    clear P0 P1 P2 P3 P4 P5 P6 P7 P8
    go_wp2_with fail
    refine (unhide HD w2 hB2).mono ?_
    rintro e w3 ⟨v3, rfl, hrow3, hb3⟩
    have hB3 := hB2.trans (hb3.mono hB2.size)
    obtain ⟨a3, c3, rfl⟩ := row_slice hrow3
    unfold msgOf fldOf Msg.cells emptyMsg emp
    dsimp only
    go_wp2
    go_ret2
    rw [unhide HM]
    exact (unhide HFin _ (hB3.alloc hB3.size _)).2 (by simp)
theorem encode_any (m : Msg) (hs : Small m) (l : List Int) (w : World) (hT : Tabs w) (hT10 : T10 w) {b0 n : Nat} {v : Value} (hv : w.ownsRow b0 3 1 v n (l.map (Value.int .i64))) (hn : n ≤ 1000000000) :
    Calls Tryd.prog 11 #[.agg (m.cells v)] w (EncPost m l w) := by
  obtain ⟨kd, p, a, t, c, pl, nm, mo⟩ := m
  by_cases h : l ∈ lays kd
  · exact encode_in kd p a t c pl nm mo hs l w hT hT10 hv hn h
  · exact encode_no kd p a t c pl nm mo l w hv hn h
end Go.Proofs.YtkkaieijbpkleaaDoor
