import Derived.Test.YtkkaieijbpkleaaDoorBB
namespace Go.Proofs.YtkkaieijbpkleaaDoor
open Go.RowKit

/-- What may be written. -/
structure Good (m : Msg) : Prop where
  pan : m.pan.size = 0 ∨ (isDig m.pan.data.toList ∧ 12 ≤ m.pan.size ∧ m.pan.size ≤ 19)
  amount : 0 ≤ m.amount
  trace : 0 ≤ m.trace
  more : 0 ≤ m.more
  name : m.name.size ≤ 40
theorem good_empty (k : ByteArray) : Good (emptyMsg k) := ⟨.inl rfl, Int.le_refl _, Int.le_refl _, Int.le_refl _, Nat.zero_le _⟩

def known : List Int := [2, 4, 11, 39, 41, 43, 54]
structure Stepped (m : Msg) (s : ByteArray) (n : Int) (m1 : Msg) (s1 : ByteArray) : Prop where
  i : s.data.toList = fI m1 n ++ s1.data.toList
  r : s.data.toList = fR m1 n ++ s1.data.toList
  others : ∀ k, k ≠ n → fI m1 k = fI m k ∧ fR m1 k = fR m k
  good : Good m → Good m1
  kind : m1.kind = m.kind

theorem step_back {m m1 : Msg} {s s1 : ByteArray} {n : Int} (hn : n ∈ known) (h : stepP (m, s, false) n = (m1, s1, false)) : Stepped m s n m1 s1 := by
  simp only [known, List.mem_cons, List.not_mem_nil, or_false] at hn
  rcases hn with rfl | rfl | rfl | rfl | rfl | rfl | rfl
  · rcases hq : panP s false with ⟨p, r, b⟩
    have h' : ({ m with pan := p }, r, b) = (m1, s1, false) := by rw [← h]; show _ = ({ m with pan := (panP s false).1 }, (panP s false).2); rw [hq]
    simp only [Prod.mk.injEq] at h'
    obtain ⟨rfl, rfl, rfl⟩ := h'
    obtain ⟨e1, e2, e3, e4, e5⟩ := pan_back hq
    exact ⟨e1, e2, fun k hk => ⟨by simp only [fI, if_neg hk], by simp only [fR, if_neg hk]⟩, fun g => ⟨.inr ⟨e3, e4, e5⟩, g.amount, g.trace, g.more, g.name⟩, rfl⟩
  · rcases hq : numberP s false 6 with ⟨p, r, b⟩
    have h' : ({ m with amount := p }, r, b) = (m1, s1, false) := by rw [← h]; show _ = ({ m with amount := (numberP s false 6).1 }, (numberP s false 6).2); rw [hq]
    simp only [Prod.mk.injEq] at h'
    obtain ⟨rfl, rfl, rfl⟩ := h'
    obtain ⟨e1, e2, e3⟩ := number_back hq (by omega)
    exact ⟨e1, e2, fun k hk => ⟨by simp only [fI, if_neg hk], by simp only [fR, if_neg hk]⟩, fun g => ⟨g.pan, e3, g.trace, g.more, g.name⟩, rfl⟩
  · rcases hq : numberP s false 3 with ⟨p, r, b⟩
    have h' : ({ m with trace := p }, r, b) = (m1, s1, false) := by rw [← h]; show _ = ({ m with trace := (numberP s false 3).1 }, (numberP s false 3).2); rw [hq]
    simp only [Prod.mk.injEq] at h'
    obtain ⟨rfl, rfl, rfl⟩ := h'
    obtain ⟨e1, e2, e3⟩ := number_back hq (by omega)
    exact ⟨e1, e2, fun k hk => ⟨by simp only [fI, if_neg hk], by simp only [fR, if_neg hk]⟩, fun g => ⟨g.pan, g.amount, e3, g.more, g.name⟩, rfl⟩
  · rcases hq : plainP s false 2 with ⟨p, r, b⟩
    have h' : ({ m with code := p }, r, b) = (m1, s1, false) := by rw [← h]; show _ = ({ m with code := (plainP s false 2).1 }, (plainP s false 2).2); rw [hq]
    simp only [Prod.mk.injEq] at h'
    obtain ⟨rfl, rfl, rfl⟩ := h'
    have e1 := plain_back hq
    exact ⟨e1, e1, fun k hk => ⟨by simp only [fI, if_neg hk], by simp only [fR, if_neg hk]⟩, fun g => ⟨g.pan, g.amount, g.trace, g.more, g.name⟩, rfl⟩
  · rcases hq : plainP s false 8 with ⟨p, r, b⟩
    have h' : ({ m with place := p }, r, b) = (m1, s1, false) := by rw [← h]; show _ = ({ m with place := (plainP s false 8).1 }, (plainP s false 8).2); rw [hq]
    simp only [Prod.mk.injEq] at h'
    obtain ⟨rfl, rfl, rfl⟩ := h'
    have e1 := plain_back hq
    exact ⟨e1, e1, fun k hk => ⟨by simp only [fI, if_neg hk], by simp only [fR, if_neg hk]⟩, fun g => ⟨g.pan, g.amount, g.trace, g.more, g.name⟩, rfl⟩
  · rcases hq : nameP s false with ⟨p, r, b⟩
    have h' : ({ m with name := p }, r, b) = (m1, s1, false) := by rw [← h]; show _ = ({ m with name := (nameP s false).1 }, (nameP s false).2); rw [hq]
    simp only [Prod.mk.injEq] at h'
    obtain ⟨rfl, rfl, rfl⟩ := h'
    obtain ⟨e1, e2, e3⟩ := name_back hq
    exact ⟨e1, e2, fun k hk => ⟨by simp only [fI, if_neg hk], by simp only [fR, if_neg hk]⟩, fun g => ⟨g.pan, g.amount, g.trace, g.more, e3⟩, rfl⟩
  · rcases hq : numberP s false 6 with ⟨p, r, b⟩
    have h' : ({ m with more := p }, r, b) = (m1, s1, false) := by rw [← h]; show _ = ({ m with more := (numberP s false 6).1 }, (numberP s false 6).2); rw [hq]
    simp only [Prod.mk.injEq] at h'
    obtain ⟨rfl, rfl, rfl⟩ := h'
    obtain ⟨e1, e2, e3⟩ := number_back hq (by omega)
    exact ⟨e1, e2, fun k hk => ⟨by simp only [fI, if_neg hk], by simp only [fR, if_neg hk]⟩, fun g => ⟨g.pan, g.amount, g.trace, e3, g.name⟩, rfl⟩

theorem fold_back : ∀ (l : List Int) (m m' : Msg) (s s' : ByteArray), l.Nodup → (∀ n ∈ l, n ∈ known) → foldP (m, s, false) l = (m', s', false) →
    s.data.toList = l.flatMap (fI m') ++ s'.data.toList ∧ s.data.toList = l.flatMap (fR m') ++ s'.data.toList ∧ (∀ n, n ∉ l → fI m' n = fI m n ∧ fR m' n = fR m n) ∧ (Good m → Good m') ∧ m'.kind = m.kind
  | [], m, m', s, s', _, _, h => by
    have h' : (m, s, false) = (m', s', false) := h
    simp only [Prod.mk.injEq, and_true] at h'
    obtain ⟨rfl, rfl⟩ := h'
    exact ⟨rfl, rfl, fun _ _ => ⟨rfl, rfl⟩, id, rfl⟩
  | n :: l, m, m', s, s', hnd, hk, h => by
    rcases hq : stepP (m, s, false) n with ⟨m1, s1, b⟩
    have h2 : foldP (m1, s1, b) l = (m', s', false) := by rw [← hq]; exact h
    cases b with
    | true =>
      have := fold_wrong l (m1, s1, true) rfl
      rw [h2] at this; cases this
    | false =>
      obtain ⟨hnl, hnd2⟩ := List.nodup_cons.1 hnd
      have st := step_back (hk n (by simp)) hq
      obtain ⟨i1, i2, i3, i4, i5⟩ := fold_back l m1 m' s1 s' hnd2 (fun x hx => hk x (by simp [hx])) h2
      obtain ⟨j1, j2⟩ := i3 n hnl
      refine ⟨?_, ?_, fun k hkk => ?_, fun g => i4 (st.good g), i5.trans st.kind⟩
      · rw [st.i, i1, List.flatMap_cons, j1, List.append_assoc]
      · rw [st.r, i2, List.flatMap_cons, j2, List.append_assoc]
      · have hkn : k ≠ n := fun e => hkk (by simp [e])
        obtain ⟨a1, a2⟩ := i3 k (fun e => hkk (by simp [e]))
        obtain ⟨b1, b2⟩ := st.others k hkn
        exact ⟨a1.trans b1, a2.trans b2⟩

/-! ### The map -/
def byteN (l : List Int) (i : Nat) : Nat := ((List.range 8).map fun (b : Nat) => if (8 * (i : Int) + (b : Int) + 1) ∈ l then 2 ^ (7 - b) else 0).sum
def mapL (l : List Int) : List UInt8 := (List.range 8).map fun i => UInt8.ofNat (byteN l i)
set_option maxRecDepth 100000 in
theorem bits_all : ∀ c : Fin 256, ((List.range 8).map fun (b : Nat) => if c.val / 2 ^ (7 - b) % 2 = 1 then 2 ^ (7 - b) else 0).sum = c.val := by decide +kernel
theorem mem_flds (s : ByteArray) (k j : Nat) (h : j < k) : ((j : Int) + 1) ∈ flds s k ↔ bitAt s j = true := by
  unfold flds
  simp only [List.mem_map, List.mem_filter, List.mem_range]
  constructor
  · rintro ⟨x, ⟨_, hb⟩, hx⟩
    obtain rfl : x = j := by omega
    exact hb
  · exact fun hb => ⟨j, ⟨h, hb⟩, rfl⟩
theorem byte_back (s : ByteArray) (i : Nat) (hi : i < 8) : byteN (flds s 64) i = b8 s i := by
  have h := bits_all ⟨b8 s i, b8_lt s i⟩
  refine Eq.trans ?_ h
  unfold byteN
  congr 1
  apply List.map_congr_left
  intro b hb
  have hb8 : b < 8 := List.mem_range.1 hb
  have e : (8 * (i : Int) + (b : Int) + 1) = ((8 * i + b : Nat) : Int) + 1 := by omega
  rw [e]
  have h2 := mem_flds s 64 (8 * i + b) (by omega)
  have h3 : (bitAt s (8 * i + b) = true) ↔ b8 s i / 2 ^ (7 - b) % 2 = 1 := by
    unfold bitAt
    rw [decide_eq_true_eq, show (8 * i + b) / 8 = i by omega, show (8 * i + b) % 8 = b by omega]
  by_cases hm : b8 s i / 2 ^ (7 - b) % 2 = 1
  · rw [if_pos (h2.2 (h3.2 hm)), if_pos hm]
  · rw [if_neg (fun x => hm (h3.1 (h2.1 x))), if_neg hm]
theorem map_back (s : ByteArray) (hs : s.size = 8) : mapL (flds s 64) = s.data.toList := by
  apply List.ext_getElem
  · rw [mapL, List.length_map, List.length_range, ← Lib.size_eq, hs]
  · intro i h1 h2
    have hi : i < 8 := by simpa [mapL] using h1
    simp only [mapL, List.getElem_map, List.getElem_range]
    rw [byte_back s i hi]
    unfold b8
    rw [List.getD_eq_getElem?_getD, List.getElem?_eq_getElem h2]
    simp

def wI (m : Msg) (l : List Int) : List UInt8 := pkI (evenL m.kind.data.toList) ++ mapL l ++ l.flatMap (fI m)
def wR (m : Msg) (l : List Int) : List UInt8 := pkR m.kind.data.toList ++ mapL l ++ l.flatMap (fR m)

theorem rise_nodup {l : List Int} (h : Rise l) : l.Nodup := h.imp fun h => by omega

structure Canon (f : ByteArray) (m : Msg) (l : List Int) : Prop where
  i : wI m l = f.data.toList
  r : wR m l = f.data.toList
  good : Good m
  kd : isDig m.kind.data.toList
  k4 : m.kind.size = 4
  lay : l ∈ lays m.kind

theorem canon {f : ByteArray} {m : Msg} {l : List Int} {w : ByteArray} (h : dec f = (some (m, l), w)) : Canon f m l := by
  unfold dec at h
  split at h
  · simp at h
  rename_i h10
  split at h
  · simp at h
  rename_i hok
  split at h
  · simp at h
  rename_i hnil
  split at h
  · simp at h
  rename_i hin
  have hin2 : flds (f.extract 2 10) 64 ∈ lays (dg (f.extract 0 2)) := by
    rcases Classical.em (flds (f.extract 2 10) 64 ∈ lays (dg (f.extract 0 2))) with h | h
    · exact h
    · exact absurd h hin
  split at h
  · rename_i hgood
    simp only [Prod.mk.injEq, Option.some.injEq] at h
    obtain ⟨⟨hm, hl⟩, _⟩ := h
    rcases hq : foldP (emptyMsg (dg (f.extract 0 2)), f.extract 10 f.size, false) (flds (f.extract 2 10) 64) with ⟨m', s', b'⟩
    rw [hq] at hm hgood
    obtain rfl : m' = m := hm
    have hb' : b' = false := by
      cases b' with
      | false => rfl
      | true => simp [okOf] at hgood
    subst hb'
    have hs' : s'.size = 0 := by simpa [okOf] using hgood
    have hse : s'.data.toList = [] := List.eq_nil_of_length_eq_zero (by rw [← Lib.size_eq]; exact hs')
    rw [hl] at hq hin2
    have hrise := flds_rise (f.extract 2 10) 64
    have hmb := map_back (f.extract 2 10) (by rw [ByteArray.size_extract]; omega)
    rw [hl] at hrise hmb
    obtain ⟨i1, i2, _, i4, i5⟩ := fold_back l _ m' _ s' (rise_nodup hrise) (lays_known _ _ hin2) hq
    rw [hse, List.append_nil] at i1 i2
    have hok2 : okD (f.extract 0 2) = true := by simpa using hok
    have hkd : (dg (f.extract 0 2)).data.toList = dig2 (f.extract 0 2).data.toList := by unfold dg; rw [if_pos hok2]
    obtain ⟨p1, p2⟩ := pk_dig2 _ hok2
    have hkind : m'.kind = dg (f.extract 0 2) := i5
    have hlen : (dig2 (f.extract 0 2).data.toList).length = 4 := by
      rw [dig2_length, ← Lib.size_eq, ByteArray.size_extract]; omega
    have hwhole : (f.extract 0 2).data.toList ++ (f.extract 2 10).data.toList ++ (f.extract 10 f.size).data.toList = f.data.toList := by
      rw [Lib.extract_data, Lib.extract_data, Lib.extract_data]
      have a1 : f.data.toList.drop 2 = (f.data.toList.drop 2).take 8 ++ (f.data.toList.drop 2).drop 8 := (List.take_append_drop 8 _).symm
      have a2 : ((f.data.toList.drop 10).take (f.size - 10)) = f.data.toList.drop 10 := List.take_of_length_le (by rw [List.length_drop, Lib.size_eq]; exact Nat.le_refl _)
      rw [a2, List.drop_zero, List.append_assoc]
      have a3 : (f.data.toList.drop 2).take (10 - 2) ++ f.data.toList.drop 10 = f.data.toList.drop 2 := by
        have : f.data.toList.drop 10 = (f.data.toList.drop 2).drop 8 := by rw [List.drop_drop]
        rw [this]; exact List.take_append_drop 8 _
      rw [a3]
      exact List.take_append_drop 2 _
    refine ⟨?_, ?_, i4 (good_empty _), ?_, ?_, ?_⟩
    · unfold wI
      rw [hkind, hkd, evenL, if_neg (by rw [hlen]; decide), p1, hmb, ← i1]
      exact hwhole
    · unfold wR
      rw [hkind, hkd, p2, hmb, ← i2]
      exact hwhole
    · rw [hkind]; exact dg_isDig _
    · rw [hkind, Lib.size_eq, hkd, hlen]
    · rw [hkind]; exact hin2
  · simp at h
end Go.Proofs.YtkkaieijbpkleaaDoor
