import Derived.Test.YtkkaieijbpkleaaDoorBM
import Derived.Test.YtkkaieijbpkleaaDoorBN
namespace Go.Proofs.YtkkaieijbpkleaaDoor
open Go.RowKit Go.Shelf

theorem negmod (c n : Int) (hc : c < 0) : -((c + 1).tmod n) = (-(c + 1)) % n := by rw [← Int.neg_tmod, Int.tmod_eq_emod_of_nonneg (by omega)]
def bcdL : Nat → Nat → List UInt8
  | 0, _ => []
  | k + 1, n => bcdL k (n / 100) ++ [UInt8.ofNat (n % 10 + n / 10 % 10 * 16)]
theorem bcdL_length : ∀ k n, (bcdL k n).length = k
  | 0, _ => rfl
  | k + 1, n => by rw [bcdL, List.length_append, bcdL_length k]; rfl
def panL (c : Nat) : List UInt8 := [52, 48, 48, 48, 48, 48, 48, 48, 48, 48, 48, UInt8.ofNat (48 + c)]
def placeL (c : Nat) : List UInt8 := [84, 69, 82, 77, 73, 78, 65, UInt8.ofNat (49 + c)]
def kindB (k : Nat) : List UInt8 := if k = 0 then [1, 0] else if k = 1 then [4, 0] else [4, 32]
def kindD (k : Nat) : ByteArray := if k = 0 then kd 48 49 48 48 else if k = 1 then kd 48 52 48 48 else kd 48 52 50 48
def mapB : List UInt8 := [80, 32, 0, 0, 0, 128, 0, 0]
def restL (c a t p : Nat) : List UInt8 := [18] ++ (pkR (panL c) ++ (bcdL 6 a ++ (bcdL 3 t ++ (placeL p ++ []))))
def bodyL (k c a t p : Nat) : List UInt8 := kindB k ++ (mapB ++ restL c a t p)
def msgB (k c a t p : Nat) : Msg := ⟨kindD k, ⟨(panL c).toArray⟩, a, t, emp, ⟨(placeL p).toArray⟩, emp, 0⟩

def ba (l : List UInt8) : ByteArray := ⟨l.toArray⟩
theorem ba_list (l : List UInt8) : (ba l).data.toList = l := rfl
theorem ba_size (l : List UInt8) : (ba l).size = l.length := rfl
theorem ba_front (t r : List UInt8) (n : Nat) (h : t.length = n) : (ba (t ++ r)).extract 0 n = ba t := by
  apply ext_list
  rw [Lib.extract_data, ba_list, ba_list, List.drop_zero, Nat.sub_zero, ← h]
  exact List.take_left' rfl
theorem ba_back (t r : List UInt8) (n m : Nat) (h : t.length = n) (hm : m = (t ++ r).length) : (ba (t ++ r)).extract n m = ba r := by
  apply ext_list
  rw [Lib.extract_data, ba_list, ba_list, ← h, List.drop_left, List.take_of_length_le (by rw [hm, List.length_append]; omega)]
theorem take_fwd (t r : List UInt8) (n : Nat) (h : t.length = n) : takeP (ba (t ++ r)) false n = (ba t, ba r, false) := by
  unfold takeP
  rw [if_neg (by rw [ba_size, List.length_append]; omega), ba_front t r n h, ba_back t r n (ba (t ++ r)).size h rfl]
theorem digits_fwd (t r : List UInt8) (n : Nat) (h : t.length = n) (hok : okL t = true) : digitsP (ba (t ++ r)) false n = (ba (dig2 t), ba r, false) := by
  unfold digitsP
  rw [take_fwd t r n h]
  show (dg (ba t), ba r, false || !okL t) = _
  rw [hok]
  unfold dg
  rw [if_pos (show okD (ba t) = true from hok)]
  rfl
theorem number_fwd (t r : List UInt8) (n : Nat) (h : t.length = n) (hok : okL t = true) (x : Int) (hx : vlL (dig2 t) = x) : numberP (ba (t ++ r)) false n = (x, ba r, false) := by
  unfold numberP
  rw [digits_fwd t r n h hok, ← hx]
  rfl
theorem plain_fwd (t r : List UInt8) (n : Nat) (h : t.length = n) (hok : plainL t = true) : plainP (ba (t ++ r)) false n = (ba t, ba r, false) := by
  unfold plainP
  rw [take_fwd t r n h]
  show (ba t, ba r, false || !plainL t) = _
  rw [hok]; rfl
theorem pan_all : ∀ c : Fin 6, okL (pkR (panL c.val)) = true ∧ dig2 (pkR (panL c.val)) = panL c.val ∧ (pkR (panL c.val)).length = 6 := by decide +kernel
theorem pan_fwd (c : Nat) (hc : c < 6) (r : List UInt8) : panP (ba ([18] ++ (pkR (panL c) ++ r))) false = (ba (panL c), ba r, false) := by
  obtain ⟨h1, h2, h3⟩ := pan_all ⟨c, hc⟩
  have hn : numberP (ba ([18] ++ (pkR (panL c) ++ r))) false 1 = (12, ba (pkR (panL c) ++ r), false) := number_fwd [18] _ 1 rfl (by decide) 12 (by decide)
  have hcn : countP (ba ([18] ++ (pkR (panL c) ++ r))) false 12 19 = (12, ba (pkR (panL c) ++ r), false) := by
    unfold countP
    rw [hn]
    rfl
  have e6 : ((12 : Int).toNat + 1) / 2 = 6 := by decide
  unfold panP
  rw [hcn]
  dsimp only
  rw [if_pos (by decide), e6, digits_fwd _ _ 6 h3 h1, h2]
theorem amount_all : ∀ a : Fin 300, okL (bcdL 6 a.val) = true ∧ vlL (dig2 (bcdL 6 a.val)) = (a.val : Int) := by decide +kernel
theorem trace_all : ∀ a : Fin 12, okL (bcdL 3 a.val) = true ∧ vlL (dig2 (bcdL 3 a.val)) = (a.val : Int) := by decide +kernel
theorem place_all : ∀ c : Fin 3, plainL (placeL c.val) = true := by decide +kernel
theorem kind_all : ∀ k : Fin 3, (kindB k.val).length = 2 ∧ okD (ba (kindB k.val)) = true ∧ dg (ba (kindB k.val)) = kindD k.val ∧ lays (kindD k.val) = [[2, 4, 11, 41], [2, 4, 11, 41, 43]] := by
  intro k
  obtain ⟨k, hk⟩ := k
  match k, hk with
  | 0, _ => exact ⟨rfl, by kernel_rfl, by kernel_rfl, by kernel_rfl⟩
  | 1, _ => exact ⟨rfl, by kernel_rfl, by kernel_rfl, by kernel_rfl⟩
  | 2, _ => exact ⟨rfl, by kernel_rfl, by kernel_rfl, by kernel_rfl⟩
theorem map_flds : flds (ba mapB) 64 = [2, 4, 11, 41] := by kernel_rfl
theorem fold_body (k c a t p : Nat) (hc : c < 6) (ha : a < 300) (ht : t < 12) (hp : p < 3) : foldP (emptyMsg (kindD k), ba (restL c a t p), false) [2, 4, 11, 41] = (msgB k c a t p, ba [], false) := by
  obtain ⟨a1, a2⟩ := amount_all ⟨a, ha⟩
  obtain ⟨t1, t2⟩ := trace_all ⟨t, ht⟩
  have p1 := place_all ⟨p, hp⟩
  have h1 : stepP (emptyMsg (kindD k), ba (restL c a t p), false) 2 = ({ emptyMsg (kindD k) with pan := ba (panL c) }, ba (bcdL 6 a ++ (bcdL 3 t ++ (placeL p ++ []))), false) := by
    unfold stepP restL
    rw [if_pos rfl]
    dsimp only
    rw [pan_fwd c hc]
  have h2 : ∀ m : Msg, stepP (m, ba (bcdL 6 a ++ (bcdL 3 t ++ (placeL p ++ []))), false) 4 = ({ m with amount := (a : Int) }, ba (bcdL 3 t ++ (placeL p ++ [])), false) := fun m => by
    unfold stepP
    rw [if_neg (by decide), if_pos rfl]
    dsimp only
    rw [number_fwd _ _ 6 (bcdL_length 6 a) a1 _ a2]
  have h3 : ∀ m : Msg, stepP (m, ba (bcdL 3 t ++ (placeL p ++ [])), false) 11 = ({ m with trace := (t : Int) }, ba (placeL p ++ []), false) := fun m => by
    unfold stepP
    rw [if_neg (by decide), if_neg (by decide), if_pos rfl]
    dsimp only
    rw [number_fwd _ _ 3 (bcdL_length 3 t) t1 _ t2]
  have h4 : ∀ m : Msg, stepP (m, ba (placeL p ++ []), false) 41 = ({ m with place := ba (placeL p) }, ba [], false) := fun m => by
    unfold stepP
    rw [if_neg (by decide), if_neg (by decide), if_neg (by decide), if_neg (by decide), if_pos rfl]
    dsimp only
    rw [plain_fwd _ _ 8 rfl p1]
  show stepP (stepP (stepP (stepP (emptyMsg (kindD k), ba (restL c a t p), false) 2) 4) 11) 41 = _
  rw [h1, h2, h3, h4]
  rfl
theorem rest_length (c a t p : Nat) (hc : c < 6) : (restL c a t p).length = 24 := by
  unfold restL
  simp only [List.length_append, bcdL_length, (pan_all ⟨c, hc⟩).2.2]
  rfl
theorem body_length (k c a t p : Nat) (hk : k < 3) (hc : c < 6) : (bodyL k c a t p).length = 34 := by
  unfold bodyL
  rw [List.length_append, List.length_append, rest_length c a t p hc, (kind_all ⟨k, hk⟩).1]
  rfl
theorem dec_body (k c a t p : Nat) (hk : k < 3) (hc : c < 6) (ha : a < 300) (ht : t < 12) (hp : p < 3) : dec (ba (bodyL k c a t p)) = (some (msgB k c a t p, [2, 4, 11, 41]), emp) := by
  obtain ⟨k1, k2, k3, k4⟩ := kind_all ⟨k, hk⟩
  have e1 : (ba (bodyL k c a t p)).extract 0 2 = ba (kindB k) := ba_front _ _ 2 k1
  have e2 : (ba (bodyL k c a t p)).extract 2 10 = ba mapB := by
    apply ext_list
    rw [Lib.extract_data, ba_list, ba_list]
    unfold bodyL
    rw [← k1, List.drop_left]
    show ((mapB ++ restL c a t p).take (10 - (kindB k).length)) = mapB
    rw [k1]
    exact List.take_left' rfl
  have e3 : (ba (bodyL k c a t p)).extract 10 (ba (bodyL k c a t p)).size = ba (restL c a t p) := by
    have h := ba_back (kindB k ++ mapB) (restL c a t p) 10 (ba (bodyL k c a t p)).size (by rw [List.length_append, k1]; rfl) (by rw [ba_size]; unfold bodyL; rw [List.append_assoc])
    rw [List.append_assoc] at h
    exact h
  unfold dec
  rw [e1, e2, e3, map_flds, k3, k4, fold_body k c a t p hc ha ht hp, if_neg (by rw [ba_size, body_length k c a t p hk hc]; omega), if_neg (by rw [k2]; decide), if_neg (by decide), if_neg (by decide)]
  rfl

theorem pick_5 (c : Int) (h0 : -9223372036854775808 ≤ c) (h1 : c ≤ 9223372036854775807) (w : World) : Calls Tryd.prog 31 #[.int .i64 c, .int .i64 5] w fun e w' => ∃ r : Nat, e = .returned (.int .i64 r) ∧ r < 5 ∧ (0 ≤ c → c < 5 → (r : Int) = c) ∧ w = w' := by
  by_cases hc : c < 0
  · go_enter Tryd.func31, Tryd.ntmps31
    go_wp2
    go_ret
    exact ⟨((-(c + 1)) % 5).toNat, by rw [show (((-(c + 1)) % 5).toNat : Int) = (-(c + 1)) % 5 by omega, ← negmod c 5 hc]; simp, by omega, by intros; omega, rfl⟩
  · go_enter Tryd.func31, Tryd.ntmps31
    go_wp2
    go_ret
    exact ⟨(c % 5).toNat, by rw [show ((c % 5).toNat : Int) = c % 5 by omega]; simp, by omega, by intros; omega, rfl⟩

theorem pick_6 (c : Int) (h0 : -9223372036854775808 ≤ c) (h1 : c ≤ 9223372036854775807) (w : World) : Calls Tryd.prog 31 #[.int .i64 c, .int .i64 6] w fun e w' => ∃ r : Nat, e = .returned (.int .i64 r) ∧ r < 6 ∧ (0 ≤ c → c < 6 → (r : Int) = c) ∧ w = w' := by
  by_cases hc : c < 0
  · go_enter Tryd.func31, Tryd.ntmps31
    go_wp2
    go_ret
    exact ⟨((-(c + 1)) % 6).toNat, by rw [show (((-(c + 1)) % 6).toNat : Int) = (-(c + 1)) % 6 by omega, ← negmod c 6 hc]; simp, by omega, by intros; omega, rfl⟩
  · go_enter Tryd.func31, Tryd.ntmps31
    go_wp2
    go_ret
    exact ⟨(c % 6).toNat, by rw [show ((c % 6).toNat : Int) = c % 6 by omega]; simp, by omega, by intros; omega, rfl⟩

theorem pick_300 (c : Int) (h0 : -9223372036854775808 ≤ c) (h1 : c ≤ 9223372036854775807) (w : World) : Calls Tryd.prog 31 #[.int .i64 c, .int .i64 300] w fun e w' => ∃ r : Nat, e = .returned (.int .i64 r) ∧ r < 300 ∧ (0 ≤ c → c < 300 → (r : Int) = c) ∧ w = w' := by
  by_cases hc : c < 0
  · go_enter Tryd.func31, Tryd.ntmps31
    go_wp2
    go_ret
    exact ⟨((-(c + 1)) % 300).toNat, by rw [show (((-(c + 1)) % 300).toNat : Int) = (-(c + 1)) % 300 by omega, ← negmod c 300 hc]; simp, by omega, by intros; omega, rfl⟩
  · go_enter Tryd.func31, Tryd.ntmps31
    go_wp2
    go_ret
    exact ⟨(c % 300).toNat, by rw [show ((c % 300).toNat : Int) = c % 300 by omega]; simp, by omega, by intros; omega, rfl⟩

theorem pick_12 (c : Int) (h0 : -9223372036854775808 ≤ c) (h1 : c ≤ 9223372036854775807) (w : World) : Calls Tryd.prog 31 #[.int .i64 c, .int .i64 12] w fun e w' => ∃ r : Nat, e = .returned (.int .i64 r) ∧ r < 12 ∧ (0 ≤ c → c < 12 → (r : Int) = c) ∧ w = w' := by
  by_cases hc : c < 0
  · go_enter Tryd.func31, Tryd.ntmps31
    go_wp2
    go_ret
    exact ⟨((-(c + 1)) % 12).toNat, by rw [show (((-(c + 1)) % 12).toNat : Int) = (-(c + 1)) % 12 by omega, ← negmod c 12 hc]; simp, by omega, by intros; omega, rfl⟩
  · go_enter Tryd.func31, Tryd.ntmps31
    go_wp2
    go_ret
    exact ⟨(c % 12).toNat, by rw [show ((c % 12).toNat : Int) = c % 12 by omega]; simp, by omega, by intros; omega, rfl⟩

theorem pick_3 (c : Int) (h0 : -9223372036854775808 ≤ c) (h1 : c ≤ 9223372036854775807) (w : World) : Calls Tryd.prog 31 #[.int .i64 c, .int .i64 3] w fun e w' => ∃ r : Nat, e = .returned (.int .i64 r) ∧ r < 3 ∧ (0 ≤ c → c < 3 → (r : Int) = c) ∧ w = w' := by
  by_cases hc : c < 0
  · go_enter Tryd.func31, Tryd.ntmps31
    go_wp2
    go_ret
    exact ⟨((-(c + 1)) % 3).toNat, by rw [show (((-(c + 1)) % 3).toNat : Int) = (-(c + 1)) % 3 by omega, ← negmod c 3 hc]; simp, by omega, by intros; omega, rfl⟩
  · go_enter Tryd.func31, Tryd.ntmps31
    go_wp2
    go_ret
    exact ⟨(c % 3).toNat, by rw [show ((c % 3).toNat : Int) = c % 3 by omega]; simp, by omega, by intros; omega, rfl⟩
end Go.Proofs.YtkkaieijbpkleaaDoor
