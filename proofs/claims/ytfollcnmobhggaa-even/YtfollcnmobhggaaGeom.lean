/-
  The walks of pick and of drawGeometric.
-/
import Derived.Test.YtfollcnmobhggaaRows
import Derived.Test.YtfollcnmobhggaaShelf
import Derived.Test.YtfollcnmobhggaaPure
import Derived.WalkKit
import Derived.WalkSpells
import Derived.WalkLawsBesides
namespace Go.Proofs.Ytfollcnmobhggaa
open Go.RowKit

theorem ret_int {k : IntKind} {a b : Int} (h : a = b) : Ending.returned (.int k a) = .returned (.int k b) := by rw [h]

set_option maxHeartbeats 400000 in
theorem pick_any (c n : Int) (w : World) (h0 : -9223372036854775808 ≤ c) (h1 : c ≤ 9223372036854775807) (hn : 1 ≤ n) (hn2 : n ≤ 100) :
    Calls Try.prog 5 #[.int .i64 c, .int .i64 n] w fun e w' => e = .returned (.int .i64 (pk c n)) ∧ w' = w := by
  by_cases h : c < 0
  · go_enter Try.func5, Try.ntmps5
    go_wp2
    go_ret
    exact ⟨ret_int (pk_neg h).symm, rfl⟩
  · have h' : 0 ≤ c := by omega
    go_enter Try.func5, Try.ntmps5
    go_wp2
    go_ret
    exact ⟨ret_int (pk_pos h').symm, rfl⟩

/-- The trial as the walk writes it. -/
theorem hit_walk (s : ByteArray) (k q : Nat) : ((s.extract (q * k) ((q + 1) * k)).toList == Lib.repeatL [49] k) = hitL k s.data.toList q := by
  have e : Lib.repeatL [49] k = List.replicate k 49 := by
    induction k with
    | zero => rfl
    | succ k ih => rw [Lib.repeatL, ih]; rfl
  unfold hitL
  rw [Lib.extract_toList, e]
  congr 2
  rw [Nat.succ_mul]; omega

def GeoEnd (k : Nat) (s : ByteArray) (e : Ending) : Prop :=
  (∃ p : Nat, Geo k s.data.toList p ∧ e = .returned (.tuple #[.int .i64 p, .int .i64 ((p + 1) * k : Int), .bool true])) ∨
  (NoGeo k s.data.toList ∧ e = .returned (.tuple #[.int .i64 0, .int .i64 0, .bool false]))

theorem size_data (s : ByteArray) : s.data.toList.length = s.size := by rw [Array.length_toList]; rfl

set_option maxHeartbeats 400000 in
theorem geom_1 (s : ByteArray) (w : World) (hs : s.size ≤ 100000) :
    Calls Try.prog 10 #[.int .i64 1, .string s] w fun e w' => GeoEnd 1 s e ∧ Below w.heap.size w w' := by
  have HW : Hid (∀ q, ((s.extract q (q + 1)).toList == Lib.repeatL [49] 1) = hitL 1 s.data.toList q) := fun q => by have h := hit_walk s 1 q; rw [Nat.mul_one, Nat.mul_one] at h; exact h
  go_enter Try.func10, Try.ntmps10
  go_wp2_with (go_at_call 11; refine (Try.strings_Repeat _ 1 _ (by omega) (by decide)).mono ?_; rintro e w1 ⟨rfl, hb⟩)
  go_loop [8] (fun i => ∃ p : Nat, i = .int .i64 p ∧ p * 1 ≤ s.size ∧ Hid (∀ q, q < p → hitL 1 s.data.toList q = false)) (fun i => s.size + 1 - (intOf i).toNat)
  case atStart => exact ⟨0, rfl, by omega, fun q hq => absurd hq (by omega)⟩
  case round =>
    obtain ⟨p, rfl, hp, HQ⟩ := hrel
    by_cases hlt : (p + 1) * 1 ≤ s.size
    · go_wp2
      · have hit : hitL 1 s.data.toList p = true := (HW.out p).symm.trans (by assumption)
        go_ret3
        exact ⟨Or.inl ⟨p, ⟨by rw [size_data]; exact hlt, hit, HQ.out⟩, by simp⟩, hb⟩
      · have mis : hitL 1 s.data.toList p = false := (HW.out p).symm.trans (by assumption)
        go_round
        case rel => exact ⟨p + 1, by go_num, hlt, fun q hq => if e : q = p then by rw [e]; exact mis else HQ.out q (by omega)⟩
        case measure => simp [intOf]; omega
    · go_wp2
      go_ret3
      exact ⟨Or.inr ⟨fun q hq => by rw [size_data] at hq; exact HQ.out q (by omega), rfl⟩, hb⟩

set_option maxHeartbeats 400000 in
theorem geom_2 (s : ByteArray) (w : World) (hs : s.size ≤ 100000) :
    Calls Try.prog 10 #[.int .i64 2, .string s] w fun e w' => GeoEnd 2 s e ∧ Below w.heap.size w w' := by
  have HW : Hid (∀ q, ((s.extract (q * 2) ((q + 1) * 2)).toList == Lib.repeatL [49] 2) = hitL 2 s.data.toList q) := hit_walk s 2
  go_enter Try.func10, Try.ntmps10
  go_wp2_with (go_at_call 11; refine (Try.strings_Repeat _ 2 _ (by omega) (by decide)).mono ?_; rintro e w1 ⟨rfl, hb⟩)
  go_loop [8] (fun i => ∃ p : Nat, i = .int .i64 p ∧ p * 2 ≤ s.size ∧ Hid (∀ q, q < p → hitL 2 s.data.toList q = false)) (fun i => s.size + 1 - (intOf i).toNat)
  case atStart => exact ⟨0, rfl, by omega, fun q hq => absurd hq (by omega)⟩
  case round =>
    obtain ⟨p, rfl, hp, HQ⟩ := hrel
    by_cases hlt : (p + 1) * 2 ≤ s.size
    · go_wp2
      · have hit : hitL 2 s.data.toList p = true := (HW.out p).symm.trans (by assumption)
        go_ret3
        exact ⟨Or.inl ⟨p, ⟨by rw [size_data]; exact hlt, hit, HQ.out⟩, by simp⟩, hb⟩
      · have mis : hitL 2 s.data.toList p = false := (HW.out p).symm.trans (by assumption)
        go_round
        case rel => exact ⟨p + 1, by go_num, hlt, fun q hq => if e : q = p then by rw [e]; exact mis else HQ.out q (by omega)⟩
        case measure => simp [intOf]; omega
    · go_wp2
      go_ret3
      exact ⟨Or.inr ⟨fun q hq => by rw [size_data] at hq; exact HQ.out q (by omega), rfl⟩, hb⟩

set_option maxHeartbeats 400000 in
theorem geom_3 (s : ByteArray) (w : World) (hs : s.size ≤ 100000) :
    Calls Try.prog 10 #[.int .i64 3, .string s] w fun e w' => GeoEnd 3 s e ∧ Below w.heap.size w w' := by
  have HW : Hid (∀ q, ((s.extract (q * 3) ((q + 1) * 3)).toList == Lib.repeatL [49] 3) = hitL 3 s.data.toList q) := hit_walk s 3
  go_enter Try.func10, Try.ntmps10
  go_wp2_with (go_at_call 11; refine (Try.strings_Repeat _ 3 _ (by omega) (by decide)).mono ?_; rintro e w1 ⟨rfl, hb⟩)
  go_loop [8] (fun i => ∃ p : Nat, i = .int .i64 p ∧ p * 3 ≤ s.size ∧ Hid (∀ q, q < p → hitL 3 s.data.toList q = false)) (fun i => s.size + 1 - (intOf i).toNat)
  case atStart => exact ⟨0, rfl, by omega, fun q hq => absurd hq (by omega)⟩
  case round =>
    obtain ⟨p, rfl, hp, HQ⟩ := hrel
    by_cases hlt : (p + 1) * 3 ≤ s.size
    · go_wp2
      · have hit : hitL 3 s.data.toList p = true := (HW.out p).symm.trans (by assumption)
        go_ret3
        exact ⟨Or.inl ⟨p, ⟨by rw [size_data]; exact hlt, hit, HQ.out⟩, by simp⟩, hb⟩
      · have mis : hitL 3 s.data.toList p = false := (HW.out p).symm.trans (by assumption)
        go_round
        case rel => exact ⟨p + 1, by go_num, hlt, fun q hq => if e : q = p then by rw [e]; exact mis else HQ.out q (by omega)⟩
        case measure => simp [intOf]; omega
    · go_wp2
      go_ret3
      exact ⟨Or.inr ⟨fun q hq => by rw [size_data] at hq; exact HQ.out q (by omega), rfl⟩, hb⟩

set_option maxHeartbeats 400000 in
theorem geom_4 (s : ByteArray) (w : World) (hs : s.size ≤ 100000) :
    Calls Try.prog 10 #[.int .i64 4, .string s] w fun e w' => GeoEnd 4 s e ∧ Below w.heap.size w w' := by
  have HW : Hid (∀ q, ((s.extract (q * 4) ((q + 1) * 4)).toList == Lib.repeatL [49] 4) = hitL 4 s.data.toList q) := hit_walk s 4
  go_enter Try.func10, Try.ntmps10
  go_wp2_with (go_at_call 11; refine (Try.strings_Repeat _ 4 _ (by omega) (by decide)).mono ?_; rintro e w1 ⟨rfl, hb⟩)
  go_loop [8] (fun i => ∃ p : Nat, i = .int .i64 p ∧ p * 4 ≤ s.size ∧ Hid (∀ q, q < p → hitL 4 s.data.toList q = false)) (fun i => s.size + 1 - (intOf i).toNat)
  case atStart => exact ⟨0, rfl, by omega, fun q hq => absurd hq (by omega)⟩
  case round =>
    obtain ⟨p, rfl, hp, HQ⟩ := hrel
    by_cases hlt : (p + 1) * 4 ≤ s.size
    · go_wp2
      · have hit : hitL 4 s.data.toList p = true := (HW.out p).symm.trans (by assumption)
        go_ret3
        exact ⟨Or.inl ⟨p, ⟨by rw [size_data]; exact hlt, hit, HQ.out⟩, by simp⟩, hb⟩
      · have mis : hitL 4 s.data.toList p = false := (HW.out p).symm.trans (by assumption)
        go_round
        case rel => exact ⟨p + 1, by go_num, hlt, fun q hq => if e : q = p then by rw [e]; exact mis else HQ.out q (by omega)⟩
        case measure => simp [intOf]; omega
    · go_wp2
      go_ret3
      exact ⟨Or.inr ⟨fun q hq => by rw [size_data] at hq; exact HQ.out q (by omega), rfl⟩, hb⟩

end Go.Proofs.Ytfollcnmobhggaa
