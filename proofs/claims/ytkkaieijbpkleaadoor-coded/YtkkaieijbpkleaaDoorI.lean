import Derived.Test.YtkkaieijbpkleaaDoorH
namespace Go.Proofs.YtkkaieijbpkleaaDoor
open Go.RowKit Go.Shelf

set_option maxRecDepth 100000 in
set_option maxHeartbeats 1000000 in
theorem equal_any (l1 l2 : List Int) (w : World) {b1 b2 n1 n2 : Nat} {v1 v2 : Value} (h1 : w.ownsRow b1 3 1 v1 n1 (l1.map (Value.int .i64))) (h2 : w.ownsRow b2 3 1 v2 n2 (l2.map (Value.int .i64))) (hn1 : n1 ≤ 1000000000) (hn2 : n2 ≤ 1000000000) :
    Calls Tryd.prog 34 #[v1, v2] w fun e w' => e = .returned (.bool (decide (l1 = l2))) ∧ ∃ m, w' = w.drewN m := by
  have hl1 : l1.length = n1 := by have := h1.1; simpa using this
  have hl2 : l2.length = n2 := by have := h2.1; simpa using this
  obtain ⟨a1, c1, rfl⟩ := row_slice h1
  obtain ⟨a2, c2, rfl⟩ := row_slice h2
  by_cases hne : n1 = n2
  · subst hne
    have HL1 := hide hl1
    have HL2 := hide hl2
    clear hl1 hl2
    go_enter Tryd.func34, Tryd.ntmps34
    go_wp2
    go_loopw [13] (fun i wr => ∃ k m : Nat, k ≤ n1 ∧ i = .int .i64 k ∧ Hid (l1.take k = l2.take k) ∧ wr = w.drewN m) (fun i _ => n1 - (intOf i).toNat)
    case atStart => exact ⟨0, 0, Nat.zero_le _, rfl, rfl, rfl⟩
    case round =>
      obtain ⟨k, m, hk, rfl, HF, rfl⟩ := hrel
      by_cases hlt : k < n1
      · have hk1 : k < l1.length := by rw [unhide HL1]; exact hlt
        have hk2 : k < l2.length := by rw [unhide HL2]; exact hlt
        rcases row_form h1 with ⟨h0, _⟩ | ⟨_, g1, d1, he1, _, hcells1⟩
        · omega
        rcases row_form h2 with ⟨h0, _⟩ | ⟨_, g2, d2, he2, _, hcells2⟩
        · omega
        obtain ⟨rfl, rfl⟩ : a1 = some ⟨g1, 0, none⟩ ∧ c1 = d1 := by simpa using he1
        obtain ⟨rfl, rfl⟩ : a2 = some ⟨g2, 0, none⟩ ∧ c2 = d2 := by simpa using he2
        have e1 := hcells1 k (.int .i64 l1[k]) (by rw [List.getElem?_map, List.getElem?_eq_getElem hk1]; rfl)
        have e2 := hcells2 k (.int .i64 l2[k]) (by rw [List.getElem?_map, List.getElem?_eq_getElem hk2]; rfl)
        by_cases heq : l1[k] = l2[k]
        · have hnx : l1.take (k + 1) = l2.take (k + 1) := by rw [List.take_succ_eq_append_getElem hk1, List.take_succ_eq_append_getElem hk2, HF.out, heq]
          have HN := hide hnx
          rw [heq] at e1
          generalize l2[k] = x at e1 e2
          clear hcells1 hcells2 he1 he2 hnx heq HF h1 h2
          go_wp2
          go_quiet (fail)
          go_wp2
          go_roundw
          case rel => exact ⟨k + 1, m + nq, by omega, by go_num, HN, by simp⟩
          case measure => simp [intOf]; omega
        · have hno : decide (l1 = l2) = false := decide_eq_false (fun e => heq (by simp [e]))
          have HN := hide hno
          have hb : (l1[k] == l2[k]) = false := by simpa using heq
          generalize l1[k] = x at e1 hb heq
          generalize l2[k] = y at e2 hb heq
          clear hcells1 hcells2 he1 he2 hno HF h1 h2
          go_wp2
          go_quiet (fail)
          go_wp2
          go_ret
          exact ⟨ret_bool (unhide HN).symm, m + nq, by simp⟩
      · have hall : decide (l1 = l2) = true := decide_eq_true (by
          have := HF.out
          rwa [List.take_of_length_le (by rw [unhide HL1]; omega), List.take_of_length_le (by rw [unhide HL2]; omega)] at this)
        have HN := hide hall
        clear hall HF h1 h2
        go_wp2
        go_ret
        exact ⟨ret_bool (unhide HN).symm, m, rfl⟩
  · have hno : decide (l1 = l2) = false := decide_eq_false (fun e => hne (by rw [← hl1, ← hl2, e]))
    have HN := hide hno
    have hb : ((n1 : Int) == (n2 : Int)) = false := by simp; omega
    clear hno h1 h2 hl1 hl2
    go_enter Tryd.func34, Tryd.ntmps34
    go_wp2
    go_ret
    exact ⟨ret_bool (unhide HN).symm, 0, rfl⟩

def kd (a b c d : UInt8) : ByteArray := ⟨#[a, b, c, d]⟩
/-- The lists of fields that a kind may have. -/
def lays (k : ByteArray) : List (List Int) :=
  if k = kd 48 49 48 48 ∨ k = kd 48 52 48 48 ∨ k = kd 48 52 50 48 then [[2, 4, 11, 41], [2, 4, 11, 41, 43]]
  else if k = kd 48 49 49 48 ∨ k = kd 48 52 49 48 ∨ k = kd 48 52 51 48 then [[2, 4, 11, 39, 41]]
  else if k = kd 48 53 48 48 ∨ k = kd 48 56 48 48 then [[11]]
  else if k = kd 48 53 49 48 then [[4, 11, 39, 54]]
  else if k = kd 48 56 49 48 then [[11, 39]]
  else if k = kd 57 57 57 48 then [[39]]
  else []

/-- A list of lists of numbers, all in new memory. -/
def Rows2 (w : World) (base : Nat) (v : Value) (ls : List (List Int)) : Prop :=
  ∃ vs, w.ownsRow base 22 1 v ls.length vs ∧ ∀ (i : Nat) (u : Value) (l : List Int), vs[i]? = some u → ls[i]? = some l → w.ownsRow base 3 1 u l.length (l.map (Value.int .i64))

theorem kd_ne {k : ByteArray} {a b c d : UInt8} (h : ¬ k = kd a b c d) : (k.toList == [a, b, c, d]) = false := by
  rw [beq_eq_false_iff_ne]
  intro e
  apply h
  apply ext_list
  rw [← Lib.toList_data, e]
  rfl

theorem rows2_one (w : World) (l : List Int) (hl : l.length ≤ 1000) :
    Rows2 ((w.alloc (.cells (l.map (Value.int .i64)).toArray 3)).alloc (.cells #[.slice (some ⟨w.heap.size, 0, none⟩) l.length l.length] 22)) w.heap.size (.slice (some ⟨w.heap.size + 1, 0, none⟩) 1 1) [l] ∧
    Below w.heap.size w ((w.alloc (.cells (l.map (Value.int .i64)).toArray 3)).alloc (.cells #[.slice (some ⟨w.heap.size, 0, none⟩) l.length l.length] 22)) := by
  have s1 : (w.alloc (.cells (l.map (Value.int .i64)).toArray 3)).heap.size = w.heap.size + 1 := by simp
  refine ⟨⟨[.slice (some ⟨w.heap.size, 0, none⟩) l.length l.length], ?_, ?_⟩, ((Below.refl _ w).alloc (Nat.le_refl _) _).alloc (by simp) _⟩
  · have := World.ownsRow_lit (base := w.heap.size) (e := 22) (size := 1) (w.alloc (.cells (l.map (Value.int .i64)).toArray 3)) #[.slice (some ⟨w.heap.size, 0, none⟩) l.length l.length] 1 (by omega) (by unfold maxLen; omega) rfl
    rw [s1] at this
    exact this
  · intro i u l' hu hl'
    match i, hu, hl' with
    | 0, hu, hl' =>
      obtain rfl : _ = u := by simpa using hu
      obtain rfl : l = l' := by simpa using hl'
      have := World.ownsRow_lit (base := w.heap.size) (e := 3) (size := 1) w (l.map (Value.int .i64)).toArray l.length (Nat.le_refl _) (by unfold maxLen; omega) (by simp)
      exact this.alloc _
    | i + 1, hu, _ => simp at hu

theorem rows2_two (w : World) (l1 l2 : List Int) (hl1 : l1.length ≤ 1000) (hl2 : l2.length ≤ 1000) :
    Rows2 (((w.alloc (.cells (l1.map (Value.int .i64)).toArray 3)).alloc (.cells (l2.map (Value.int .i64)).toArray 3)).alloc (.cells #[.slice (some ⟨w.heap.size, 0, none⟩) l1.length l1.length, .slice (some ⟨w.heap.size + 1, 0, none⟩) l2.length l2.length] 22)) w.heap.size (.slice (some ⟨w.heap.size + 1 + 1, 0, none⟩) 2 2) [l1, l2] ∧
    Below w.heap.size w (((w.alloc (.cells (l1.map (Value.int .i64)).toArray 3)).alloc (.cells (l2.map (Value.int .i64)).toArray 3)).alloc (.cells #[.slice (some ⟨w.heap.size, 0, none⟩) l1.length l1.length, .slice (some ⟨w.heap.size + 1, 0, none⟩) l2.length l2.length] 22)) := by
  have s1 : (w.alloc (.cells (l1.map (Value.int .i64)).toArray 3)).heap.size = w.heap.size + 1 := by simp
  have s2 : ((w.alloc (.cells (l1.map (Value.int .i64)).toArray 3)).alloc (.cells (l2.map (Value.int .i64)).toArray 3)).heap.size = w.heap.size + 1 + 1 := by simp
  refine ⟨⟨[.slice (some ⟨w.heap.size, 0, none⟩) l1.length l1.length, .slice (some ⟨w.heap.size + 1, 0, none⟩) l2.length l2.length], ?_, ?_⟩, (((Below.refl _ w).alloc (Nat.le_refl _) _).alloc (by simp) _).alloc (by simp; omega) _⟩
  · have := World.ownsRow_lit (base := w.heap.size) (e := 22) (size := 1) ((w.alloc (.cells (l1.map (Value.int .i64)).toArray 3)).alloc (.cells (l2.map (Value.int .i64)).toArray 3)) #[.slice (some ⟨w.heap.size, 0, none⟩) l1.length l1.length, .slice (some ⟨w.heap.size + 1, 0, none⟩) l2.length l2.length] 2 (by omega) (by unfold maxLen; omega) rfl
    rw [s2] at this
    exact this
  · intro i u l' hu hl'
    match i, hu, hl' with
    | 0, hu, hl' =>
      obtain rfl : _ = u := by simpa using hu
      obtain rfl : l1 = l' := by simpa using hl'
      have := World.ownsRow_lit (base := w.heap.size) (e := 3) (size := 1) w (l1.map (Value.int .i64)).toArray l1.length (Nat.le_refl _) (by unfold maxLen; omega) (by simp)
      exact (this.alloc _).alloc _
    | 1, hu, hl' =>
      obtain rfl : _ = u := by simpa using hu
      obtain rfl : l2 = l' := by simpa using hl'
      have := World.ownsRow_lit (base := w.heap.size) (e := 3) (size := 1) (w.alloc (.cells (l1.map (Value.int .i64)).toArray 3)) (l2.map (Value.int .i64)).toArray l2.length (by omega) (by unfold maxLen; omega) (by simp)
      rw [s1] at this
      exact this.alloc _
    | i + 2, hu, _ => simp at hu

set_option maxHeartbeats 2000000 in
theorem layouts_any (k : ByteArray) (w : World) : Calls Tryd.prog 18 #[.string k] w fun e w' => ∃ v, e = .returned v ∧ Rows2 w' w.heap.size v (lays k) ∧ Below w.heap.size w w' := by
  by_cases h0 : k = kd 48 49 48 48
  · subst h0
    rw [show lays (kd 48 49 48 48) = [[2, 4, 11, 41], [2, 4, 11, 41, 43]] by decide +kernel]
    unfold kd
    go_enter Tryd.func18, Tryd.ntmps18
    go_wp2
    go_ret
    exact ⟨_, rfl, rows2_two w [2, 4, 11, 41] [2, 4, 11, 41, 43] (by decide) (by decide)⟩
  by_cases h1 : k = kd 48 52 48 48
  · subst h1
    rw [show lays (kd 48 52 48 48) = [[2, 4, 11, 41], [2, 4, 11, 41, 43]] by decide +kernel]
    unfold kd
    go_enter Tryd.func18, Tryd.ntmps18
    go_wp2
    go_ret
    exact ⟨_, rfl, rows2_two w [2, 4, 11, 41] [2, 4, 11, 41, 43] (by decide) (by decide)⟩
  by_cases h2 : k = kd 48 52 50 48
  · subst h2
    rw [show lays (kd 48 52 50 48) = [[2, 4, 11, 41], [2, 4, 11, 41, 43]] by decide +kernel]
    unfold kd
    go_enter Tryd.func18, Tryd.ntmps18
    go_wp2
    go_ret
    exact ⟨_, rfl, rows2_two w [2, 4, 11, 41] [2, 4, 11, 41, 43] (by decide) (by decide)⟩
  by_cases h3 : k = kd 48 49 49 48
  · subst h3
    rw [show lays (kd 48 49 49 48) = [[2, 4, 11, 39, 41]] by decide +kernel]
    unfold kd
    go_enter Tryd.func18, Tryd.ntmps18
    go_wp2
    go_ret
    exact ⟨_, rfl, rows2_one w [2, 4, 11, 39, 41] (by decide)⟩
  by_cases h4 : k = kd 48 52 49 48
  · subst h4
    rw [show lays (kd 48 52 49 48) = [[2, 4, 11, 39, 41]] by decide +kernel]
    unfold kd
    go_enter Tryd.func18, Tryd.ntmps18
    go_wp2
    go_ret
    exact ⟨_, rfl, rows2_one w [2, 4, 11, 39, 41] (by decide)⟩
  by_cases h5 : k = kd 48 52 51 48
  · subst h5
    rw [show lays (kd 48 52 51 48) = [[2, 4, 11, 39, 41]] by decide +kernel]
    unfold kd
    go_enter Tryd.func18, Tryd.ntmps18
    go_wp2
    go_ret
    exact ⟨_, rfl, rows2_one w [2, 4, 11, 39, 41] (by decide)⟩
  by_cases h6 : k = kd 48 53 48 48
  · subst h6
    rw [show lays (kd 48 53 48 48) = [[11]] by decide +kernel]
    unfold kd
    go_enter Tryd.func18, Tryd.ntmps18
    go_wp2
    go_ret
    exact ⟨_, rfl, rows2_one w [11] (by decide)⟩
  by_cases h7 : k = kd 48 56 48 48
  · subst h7
    rw [show lays (kd 48 56 48 48) = [[11]] by decide +kernel]
    unfold kd
    go_enter Tryd.func18, Tryd.ntmps18
    go_wp2
    go_ret
    exact ⟨_, rfl, rows2_one w [11] (by decide)⟩
  by_cases h8 : k = kd 48 53 49 48
  · subst h8
    rw [show lays (kd 48 53 49 48) = [[4, 11, 39, 54]] by decide +kernel]
    unfold kd
    go_enter Tryd.func18, Tryd.ntmps18
    go_wp2
    go_ret
    exact ⟨_, rfl, rows2_one w [4, 11, 39, 54] (by decide)⟩
  by_cases h9 : k = kd 48 56 49 48
  · subst h9
    rw [show lays (kd 48 56 49 48) = [[11, 39]] by decide +kernel]
    unfold kd
    go_enter Tryd.func18, Tryd.ntmps18
    go_wp2
    go_ret
    exact ⟨_, rfl, rows2_one w [11, 39] (by decide)⟩
  by_cases h10 : k = kd 57 57 57 48
  · subst h10
    rw [show lays (kd 57 57 57 48) = [[39]] by decide +kernel]
    unfold kd
    go_enter Tryd.func18, Tryd.ntmps18
    go_wp2
    go_ret
    exact ⟨_, rfl, rows2_one w [39] (by decide)⟩
  have hl : lays k = [] := by simp [lays, h0, h1, h2, h3, h4, h5, h6, h7, h8, h9, h10]
  rw [hl]
  have b0 := kd_ne h0
  have b1 := kd_ne h1
  have b2 := kd_ne h2
  have b3 := kd_ne h3
  have b4 := kd_ne h4
  have b5 := kd_ne h5
  have b6 := kd_ne h6
  have b7 := kd_ne h7
  have b8 := kd_ne h8
  have b9 := kd_ne h9
  have b10 := kd_ne h10
  clear hl h0 h1 h2 h3 h4 h5 h6 h7 h8 h9 h10
  go_enter Tryd.func18, Tryd.ntmps18
  go_wp2
  go_ret
  exact ⟨_, rfl, ⟨[], World.ownsRow_nil _ _ _ _, fun i u l h => by simp at h⟩, Below.refl _ _⟩
end Go.Proofs.YtkkaieijbpkleaaDoor
