/-
  The walks of murmur.Draw and of what it calls, at tapes.
-/
import Derived.Test.YtfollcnmobhggaaGeom
namespace Go.Proofs.Ytfollcnmobhggaa
open Go.RowKit

def KOk (k : Nat) : Prop := k = 1 ∨ k = 2 ∨ k = 3 ∨ k = 4
theorem KOk.pos {k : Nat} (h : KOk k) : 1 ≤ k := by rcases h with rfl | rfl | rfl | rfl <;> omega
theorem KOk.le {k : Nat} (h : KOk k) : k ≤ 4 := by rcases h with rfl | rfl | rfl | rfl <;> omega

theorem geom_any (k : Nat) (s : ByteArray) (w : World) (hk : KOk k) (hs : s.size ≤ 100000) :
    Calls Try.prog 10 #[.int .i64 k, .string s] w fun e w' => GeoEnd k s e ∧ Below w.heap.size w w' := by
  rcases hk with rfl | rfl | rfl | rfl
  · exact geom_1 s w hs
  · exact geom_2 s w hs
  · exact geom_3 s w hs
  · exact geom_4 s w hs

theorem geom_hit (k : Nat) (s : ByteArray) (w : World) (hk : KOk k) (hs : s.size ≤ 100000) (p T : Nat) (hg : Geo k s.data.toList p) (hT : (p + 1) * k = T) :
    Calls Try.prog 10 #[.int .i64 k, .string s] w fun e w' => e = .returned (.tuple #[.int .i64 p, .int .i64 T, .bool true]) ∧ Below w.heap.size w w' := by
  refine (geom_any k s w hk hs).mono fun e w' h => ?_
  obtain ⟨⟨q, g, rfl⟩ | ⟨g, rfl⟩, hb⟩ := h
  · have := hg.uniq g
    subst this hT
    exact ⟨by simp, hb⟩
  · exact (hg.not g).elim

theorem geom_miss (k : Nat) (s : ByteArray) (w : World) (hk : KOk k) (hs : s.size ≤ 100000) (hg : NoGeo k s.data.toList) :
    Calls Try.prog 10 #[.int .i64 k, .string s] w fun e w' => e = .returned (.tuple #[.int .i64 0, .int .i64 0, .bool false]) ∧ Below w.heap.size w w' := by
  refine (geom_any k s w hk hs).mono fun e w' h => ?_
  obtain ⟨⟨q, g, rfl⟩ | ⟨g, rfl⟩, hb⟩ := h
  · exact (g.not hg).elim
  · exact ⟨rfl, hb⟩

theorem rest_data (s : ByteArray) (T : Nat) : (s.extract T s.size).data.toList = s.data.toList.drop T := by
  rw [Lib.extract_data, List.take_of_length_le]
  rw [List.length_drop, size_data]; omega
theorem rest_size (s : ByteArray) (T : Nat) : (s.extract T s.size).size ≤ s.size := by
  rw [← size_data, rest_data, List.length_drop, size_data]; omega

set_option maxHeartbeats 400000 in
theorem noise_hit (k : Nat) (s : ByteArray) (w : World) (hk : KOk k) (hs : s.size ≤ 100000) (p q T U : Nat) (hg : Drw k s.data.toList p q) (hT : (p + 1) * k = T) (hU : (q + 1) * k = U) :
    Calls Try.prog 9 #[.int .i64 k, .string s] w fun e w' => e = .returned (.tuple #[.int .i64 (p - q : Int), .int .i64 (T + U : Int), .bool true]) ∧ Below w.heap.size w w' := by
  have hb := hg.bound
  rw [size_data, hT, hU] at hb
  have hp : p < T := by have : (p + 1) * 1 ≤ (p + 1) * k := Nat.mul_le_mul_left _ hk.pos; omega
  have hq : q < U := by have : (q + 1) * 1 ≤ (q + 1) * k := Nat.mul_le_mul_left _ hk.pos; omega
  have H1 := fun w => geom_hit k s w hk hs p T hg.1 hT
  have H2 := fun w => geom_hit k (s.extract T s.size) w hk (Nat.le_trans (rest_size s T) hs) q U (by rw [rest_data, ← hT]; exact hg.2) hU
  obtain ⟨R, hR⟩ : ∃ R, s.extract T s.size = R := ⟨_, rfl⟩
  rw [hR] at H2
  clear hg hT hU hk
  go_enter Try.func9, Try.ntmps9
  go_wp2_with fail
  refine (H1 _).mono ?_
  rintro e w1 ⟨rfl, hb1⟩
  go_wp2_with fail
  refine (H2 _).mono ?_
  rintro e w2 ⟨rfl, hb2⟩
  go_wp2_with fail
  go_ret3
  exact ⟨rfl, hb1.trans (hb2.mono hb1.size)⟩

set_option maxHeartbeats 400000 in
theorem noise_miss (k : Nat) (s : ByteArray) (w : World) (hk : KOk k) (hs : s.size ≤ 100000) (hg : NoDrw k s.data.toList) :
    Calls Try.prog 9 #[.int .i64 k, .string s] w fun e w' => e = .returned (.tuple #[.int .i64 0, .int .i64 0, .bool false]) ∧ Below w.heap.size w w' := by
  rcases hg with hg | ⟨p, g1, g2⟩
  · have H1 := fun w => geom_miss k s w hk hs hg
    clear hk hg
    go_enter Try.func9, Try.ntmps9
    go_wp2_with (go_at_call 10; refine (H1 _).mono ?_; rintro e w1 ⟨rfl, hb1⟩)
    go_ret3
    exact ⟨rfl, hb1⟩
  · obtain ⟨T, hT⟩ : ∃ T, (p + 1) * k = T := ⟨_, rfl⟩
    have hb := g1.1
    rw [size_data, hT] at hb
    have H1 := fun w => geom_hit k s w hk hs p T g1 hT
    have H2 := fun w => geom_miss k (s.extract T s.size) w hk (Nat.le_trans (rest_size s T) hs) (by rw [rest_data, ← hT]; exact g2)
    obtain ⟨R, hR⟩ : ∃ R, s.extract T s.size = R := ⟨_, rfl⟩
    rw [hR] at H2
    clear hk g1 g2 hT
    go_enter Try.func9, Try.ntmps9
    go_wp2_with fail
    refine (H1 _).mono ?_
    rintro e w1 ⟨rfl, hb1⟩
    go_wp2_with fail
    refine (H2 _).mono ?_
    rintro e w2 ⟨rfl, hb2⟩
    go_wp2_with fail
    go_ret3
    exact ⟨rfl, hb1.trans (hb2.mono hb1.size)⟩

def Bits (s : ByteArray) : Prop := ∀ c, c ∈ s.data.toList → c = 48 ∨ c = 49
theorem Bits.at {s : ByteArray} (h : Bits s) (i : Nat) (hi : i < s.size) : s[i] = 48 ∨ s[i] = 49 := by
  refine h _ ?_
  show s.data[i] ∈ s.data.toList
  simp

set_option maxHeartbeats 400000 in
theorem isTape_yes (s : ByteArray) (w : World) (hs : s.size ≤ 100000) (hbit : Bits s) :
    Calls Try.prog 8 #[.string s] w fun e w' => e = .returned (.bool true) ∧ w' = w := by
  have HB : Hid (∀ i (hi : i < s.size), s[i] = 48 ∨ s[i] = 49) := fun i hi => hbit.at i hi
  clear hbit
  go_enter Try.func8, Try.ntmps8
  go_wp2
  go_loop [9, 3] (fun i _ => ∃ p : Nat, i = .int .i64 p ∧ p ≤ s.size) (fun i _ => s.size - (intOf i).toNat)
  case atStart => exact ⟨0, rfl, by omega⟩
  case round =>
    obtain ⟨p, rfl, hp⟩ := hrel
    by_cases hlt : p < s.size
    · rcases HB.out p hlt with h | h
      · go_wp2
        go_round
        case rel => exact ⟨p + 1, by go_num, hlt⟩
        case measure => simp [intOf]; omega
      · go_wp2
        go_round
        case rel => exact ⟨p + 1, by go_num, hlt⟩
        case measure => simp [intOf]; omega
    · go_wp2
      go_ret
      exact ⟨rfl, rfl⟩

set_option maxHeartbeats 400000 in
theorem draw_hit (k : Nat) (s : ByteArray) (w : World) (hk : KOk k) (hs : s.size ≤ 100000) (hbit : Bits s) (p q T U : Nat) (hg : Drw k s.data.toList p q) (hT : (p + 1) * k = T) (hU : (q + 1) * k = U) :
    Calls Try.prog 7 #[.int .i64 k, .string s] w fun e w' => e = .returned (.tuple #[.int .i64 (p - q : Int), .int .i64 (T + U : Int), .int .i64 0]) ∧ Below w.heap.size w w' := by
  have h1 := hk.pos
  have h4 := hk.le
  have H1 := fun w => isTape_yes s w hs hbit
  have H2 := fun w => noise_hit k s w hk hs p q T U hg hT hU
  clear hk hg hT hU hbit
  go_enter Try.func7, Try.ntmps7
  go_wp2_with (first | (go_at_call 8; refine (H1 _).mono ?_; rintro e w1 ⟨rfl, rfl⟩) | (go_at_call 9; refine (H2 _).mono ?_; rintro e w2 ⟨rfl, hb2⟩))
  go_ret3
  exact ⟨rfl, hb2⟩

set_option maxHeartbeats 400000 in
theorem draw_miss (k : Nat) (s : ByteArray) (w : World) (hk : KOk k) (hs : s.size ≤ 100000) (hbit : Bits s) (hg : NoDrw k s.data.toList) :
    Calls Try.prog 7 #[.int .i64 k, .string s] w fun e w' => e = .returned (.tuple #[.int .i64 0, .int .i64 0, .int .i64 2]) ∧ Below w.heap.size w w' := by
  have h1 := hk.pos
  have h4 := hk.le
  have H1 := fun w => isTape_yes s w hs hbit
  have H2 := fun w => noise_miss k s w hk hs hg
  clear hk hg hbit
  go_enter Try.func7, Try.ntmps7
  go_wp2_with (first | (go_at_call 8; refine (H1 _).mono ?_; rintro e w1 ⟨rfl, rfl⟩) | (go_at_call 9; refine (H2 _).mono ?_; rintro e w2 ⟨rfl, hb2⟩))
  go_ret3
  exact ⟨rfl, hb2⟩

end Go.Proofs.Ytfollcnmobhggaa
