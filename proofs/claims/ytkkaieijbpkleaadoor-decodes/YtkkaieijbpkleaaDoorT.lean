import Derived.Test.YtkkaieijbpkleaaDoorS
namespace Go.Proofs.YtkkaieijbpkleaaDoor
open Go.RowKit Go.Shelf

/-- The fields that a kind must have. -/
def fr (k : ByteArray) : List Int := (lays k).headD []
def mayK (k : ByteArray) : Bool := decide (k = kd 48 49 48 48 ∨ k = kd 48 52 48 48 ∨ k = kd 48 52 50 48)
/-- nil, or a list that is there. -/
def NilOr (b : Bool) (v : Value) : Prop := if b then v = .slice none 0 0 else ∃ a n c, v = .slice (some a) n c

theorem row_lit3 (w : World) (l : List Int) (hl : l.length ≤ 1000) :
    (w.alloc (.cells (l.map (Value.int .i64)).toArray 3)).ownsRow w.heap.size 3 1 (.slice (some ⟨w.heap.size, 0, none⟩) l.length l.length) l.length (l.map (Value.int .i64)) ∧ Below w.heap.size w (w.alloc (.cells (l.map (Value.int .i64)).toArray 3)) :=
  ⟨World.ownsRow_lit (base := w.heap.size) (e := 3) (size := 1) w (l.map (Value.int .i64)).toArray l.length (Nat.le_refl _) (by unfold maxLen; omega) (by simp), (Below.refl _ w).alloc (Nat.le_refl _) _⟩

set_option maxHeartbeats 2000000 in
theorem rfields_any (k : ByteArray) (w : World) : Calls Tryd.prog 23 #[.string k] w fun e w' => ∃ v, e = .returned v ∧ NilOr (decide (lays k = [])) v ∧ w'.ownsRow w.heap.size 3 1 v (fr k).length ((fr k).map (Value.int .i64)) ∧ Below w.heap.size w w' := by
  by_cases h0 : k = kd 48 49 48 48
  · subst h0
    rw [show fr (kd 48 49 48 48) = [2, 4, 11, 41] by decide +kernel, show decide (lays (kd 48 49 48 48) = []) = false by decide +kernel]
    unfold kd
    go_enter Tryd.func23, Tryd.ntmps23
    go_wp2
    go_ret
    exact ⟨_, rfl, ⟨_, _, _, rfl⟩, row_lit3 w [2, 4, 11, 41] (by decide)⟩
  by_cases h1 : k = kd 48 52 48 48
  · subst h1
    rw [show fr (kd 48 52 48 48) = [2, 4, 11, 41] by decide +kernel, show decide (lays (kd 48 52 48 48) = []) = false by decide +kernel]
    unfold kd
    go_enter Tryd.func23, Tryd.ntmps23
    go_wp2
    go_ret
    exact ⟨_, rfl, ⟨_, _, _, rfl⟩, row_lit3 w [2, 4, 11, 41] (by decide)⟩
  by_cases h2 : k = kd 48 52 50 48
  · subst h2
    rw [show fr (kd 48 52 50 48) = [2, 4, 11, 41] by decide +kernel, show decide (lays (kd 48 52 50 48) = []) = false by decide +kernel]
    unfold kd
    go_enter Tryd.func23, Tryd.ntmps23
    go_wp2
    go_ret
    exact ⟨_, rfl, ⟨_, _, _, rfl⟩, row_lit3 w [2, 4, 11, 41] (by decide)⟩
  by_cases h3 : k = kd 48 49 49 48
  · subst h3
    rw [show fr (kd 48 49 49 48) = [2, 4, 11, 39, 41] by decide +kernel, show decide (lays (kd 48 49 49 48) = []) = false by decide +kernel]
    unfold kd
    go_enter Tryd.func23, Tryd.ntmps23
    go_wp2
    go_ret
    exact ⟨_, rfl, ⟨_, _, _, rfl⟩, row_lit3 w [2, 4, 11, 39, 41] (by decide)⟩
  by_cases h4 : k = kd 48 52 49 48
  · subst h4
    rw [show fr (kd 48 52 49 48) = [2, 4, 11, 39, 41] by decide +kernel, show decide (lays (kd 48 52 49 48) = []) = false by decide +kernel]
    unfold kd
    go_enter Tryd.func23, Tryd.ntmps23
    go_wp2
    go_ret
    exact ⟨_, rfl, ⟨_, _, _, rfl⟩, row_lit3 w [2, 4, 11, 39, 41] (by decide)⟩
  by_cases h5 : k = kd 48 52 51 48
  · subst h5
    rw [show fr (kd 48 52 51 48) = [2, 4, 11, 39, 41] by decide +kernel, show decide (lays (kd 48 52 51 48) = []) = false by decide +kernel]
    unfold kd
    go_enter Tryd.func23, Tryd.ntmps23
    go_wp2
    go_ret
    exact ⟨_, rfl, ⟨_, _, _, rfl⟩, row_lit3 w [2, 4, 11, 39, 41] (by decide)⟩
  by_cases h6 : k = kd 48 53 48 48
  · subst h6
    rw [show fr (kd 48 53 48 48) = [11] by decide +kernel, show decide (lays (kd 48 53 48 48) = []) = false by decide +kernel]
    unfold kd
    go_enter Tryd.func23, Tryd.ntmps23
    go_wp2
    go_ret
    exact ⟨_, rfl, ⟨_, _, _, rfl⟩, row_lit3 w [11] (by decide)⟩
  by_cases h7 : k = kd 48 56 48 48
  · subst h7
    rw [show fr (kd 48 56 48 48) = [11] by decide +kernel, show decide (lays (kd 48 56 48 48) = []) = false by decide +kernel]
    unfold kd
    go_enter Tryd.func23, Tryd.ntmps23
    go_wp2
    go_ret
    exact ⟨_, rfl, ⟨_, _, _, rfl⟩, row_lit3 w [11] (by decide)⟩
  by_cases h8 : k = kd 48 53 49 48
  · subst h8
    rw [show fr (kd 48 53 49 48) = [4, 11, 39, 54] by decide +kernel, show decide (lays (kd 48 53 49 48) = []) = false by decide +kernel]
    unfold kd
    go_enter Tryd.func23, Tryd.ntmps23
    go_wp2
    go_ret
    exact ⟨_, rfl, ⟨_, _, _, rfl⟩, row_lit3 w [4, 11, 39, 54] (by decide)⟩
  by_cases h9 : k = kd 48 56 49 48
  · subst h9
    rw [show fr (kd 48 56 49 48) = [11, 39] by decide +kernel, show decide (lays (kd 48 56 49 48) = []) = false by decide +kernel]
    unfold kd
    go_enter Tryd.func23, Tryd.ntmps23
    go_wp2
    go_ret
    exact ⟨_, rfl, ⟨_, _, _, rfl⟩, row_lit3 w [11, 39] (by decide)⟩
  by_cases h10 : k = kd 57 57 57 48
  · subst h10
    rw [show fr (kd 57 57 57 48) = [39] by decide +kernel, show decide (lays (kd 57 57 57 48) = []) = false by decide +kernel]
    unfold kd
    go_enter Tryd.func23, Tryd.ntmps23
    go_wp2
    go_ret
    exact ⟨_, rfl, ⟨_, _, _, rfl⟩, row_lit3 w [39] (by decide)⟩
  have hl : lays k = [] := by simp [lays, h0, h1, h2, h3, h4, h5, h6, h7, h8, h9, h10]
  have hf : fr k = [] := by unfold fr; rw [hl]; rfl
  rw [hf, show decide (lays k = []) = true from decide_eq_true hl]
  have b0 := kd_ne h0
  have b1 := kd_ne h1
  have b2 := kd_ne h2
  have b3 := kd_ne h3
  have b4 := kd_ne h4
  have b5 := kd_ne h5
  have b6 := kd_ne h6
  have b7 := kd_ne h7
  have b8 := kd_ne h8
  have b9 := kd_ne h9
  have b10 := kd_ne h10
  clear hl hf h0 h1 h2 h3 h4 h5 h6 h7 h8 h9 h10
  go_enter Tryd.func23, Tryd.ntmps23
  go_wp2
  go_ret
  exact ⟨_, rfl, rfl, World.ownsRow_nil _ _ _ _, Below.refl _ _⟩

theorem rmay_any (k : ByteArray) (w : World) : Calls Tryd.prog 36 #[.string k] w fun e w' => e = .returned (.bool (mayK k)) ∧ w = w' := by
  unfold mayK
  by_cases h0 : k = kd 48 49 48 48
  · rw [show decide (k = kd 48 49 48 48 ∨ k = kd 48 52 48 48 ∨ k = kd 48 52 50 48) = true from decide_eq_true (.inl h0)]
    subst h0
    unfold kd
    go_enter Tryd.func36, Tryd.ntmps36
    go_wp2
    go_ret
    exact ⟨rfl, rfl⟩
  by_cases h1 : k = kd 48 52 48 48
  · rw [show decide (k = kd 48 49 48 48 ∨ k = kd 48 52 48 48 ∨ k = kd 48 52 50 48) = true from decide_eq_true (.inr (.inl h1))]
    subst h1
    unfold kd
    go_enter Tryd.func36, Tryd.ntmps36
    go_wp2
    go_ret
    exact ⟨rfl, rfl⟩
  by_cases h2 : k = kd 48 52 50 48
  · rw [show decide (k = kd 48 49 48 48 ∨ k = kd 48 52 48 48 ∨ k = kd 48 52 50 48) = true from decide_eq_true (.inr (.inr h2))]
    subst h2
    unfold kd
    go_enter Tryd.func36, Tryd.ntmps36
    go_wp2
    go_ret
    exact ⟨rfl, rfl⟩
  rw [show decide (k = kd 48 49 48 48 ∨ k = kd 48 52 48 48 ∨ k = kd 48 52 50 48) = false from decide_eq_false (by simp [h0, h1, h2])]
  have b0 := kd_ne h0
  have b1 := kd_ne h1
  have b2 := kd_ne h2
  clear h0 h1 h2
  go_enter Tryd.func36, Tryd.ntmps36
  go_wp2
  go_ret
  exact ⟨rfl, rfl⟩

theorem bit_of (s : ByteArray) (j q r y : Nat) (hq : q = j / 8) (hr : r = j % 8) (hy : b8 s q = y) : ((((y / 2 ^ (7 - r) : Nat) : Int) % 2) == 1) = bitAt s j := by
  subst hq hr hy
  unfold bitAt
  rw [Bool.eq_iff_iff]
  simp only [beq_iff_eq, decide_eq_true_eq]
  omega

end Go.Proofs.YtkkaieijbpkleaaDoor
