/-
  How often each difference is drawn, among all tapes of a length: by reckoning.
-/
import Derived.Test.YtfollcnmobhggaaPure
namespace Go.Proofs.Ytfollcnmobhggaa

/-- What the tape of c's n bits draws, and 20 more. -/
def dif (k n c : Nat) : Option Nat :=
  match drw k (bitsUp c n) with
  | none => none
  | some (p, q) => some (20 + p - q)
/-- All of them, of the tapes below c. -/
def difs (k n c : Nat) : List Nat := (List.range c).filterMap (dif k n)
/-- How often i was drawn. -/
def cnt (k n c i : Nat) : Nat := (difs k n c).count i

theorem difs_none {k n c : Nat} (h : dif k n c = none) : difs k n (c + 1) = difs k n c := by
  unfold difs; rw [List.range_succ, List.filterMap_append]; simp [h]
theorem difs_some {k n c d : Nat} (h : dif k n c = some d) : difs k n (c + 1) = difs k n c ++ [d] := by
  unfold difs; rw [List.range_succ, List.filterMap_append]; simp [h]
theorem cnt_zero (k n i : Nat) : cnt k n 0 i = 0 := rfl
theorem cnt_none {k n c : Nat} (h : dif k n c = none) (i : Nat) : cnt k n (c + 1) i = cnt k n c i := by unfold cnt; rw [difs_none h]
theorem cnt_same {k n c d : Nat} (h : dif k n c = some d) : cnt k n (c + 1) d = cnt k n c d + 1 := by
  unfold cnt; rw [difs_some h, List.count_append]; simp
theorem cnt_other {k n c d i : Nat} (h : dif k n c = some d) (hi : i ≠ d) : cnt k n (c + 1) i = cnt k n c i := by
  unfold cnt; rw [difs_some h, List.count_append]; simp [Ne.symm hi]
theorem cnt_le (k n c i : Nat) : cnt k n c i ≤ c := by
  unfold cnt difs
  refine Nat.le_trans List.count_le_length (Nat.le_trans (List.length_filterMap_le _ _) ?_)
  simp
theorem difs_le (k n c : Nat) : (difs k n c).length ≤ c := by
  unfold difs
  refine Nat.le_trans (List.length_filterMap_le _ _) ?_
  simp

/-- As often on the one side as on the other. -/
def evenB (D : List Nat) : Bool := (List.range 20).all (fun z => D.count (21 + z) == D.count (19 - z)) && decide (0 < D.count 20) && decide (0 < D.length)
theorem evenB_sides {D : List Nat} (h : evenB D = true) (z : Nat) (h1 : 1 ≤ z) (h2 : z ≤ 20) : D.count (20 + z) = D.count (20 - z) := by
  unfold evenB at h
  simp only [Bool.and_eq_true, List.all_eq_true, List.mem_range, beq_iff_eq] at h
  have := h.1.1 (z - 1) (by omega)
  have e1 : 21 + (z - 1) = 20 + z := by omega
  have e2 : 19 - (z - 1) = 20 - z := by omega
  rw [e1, e2] at this
  exact this
theorem evenB_mid {D : List Nat} (h : evenB D = true) : 0 < D.count 20 := by
  unfold evenB at h
  simp only [Bool.and_eq_true, decide_eq_true_eq] at h
  exact h.1.2
theorem evenB_len {D : List Nat} (h : evenB D = true) : 0 < D.length := by
  unfold evenB at h
  simp only [Bool.and_eq_true, decide_eq_true_eq] at h
  exact h.2

set_option maxRecDepth 100000 in
theorem difs_1_2 : difs 1 2 4 = [20] := by decide +kernel
set_option maxRecDepth 100000 in
theorem even_1_2 : evenB (difs 1 2 4) = true := by rw [difs_1_2]; decide +kernel
set_option maxRecDepth 100000 in
theorem difs_1_3 : difs 1 3 8 = [20, 19, 21, 20] := by decide +kernel
set_option maxRecDepth 100000 in
theorem even_1_3 : evenB (difs 1 3 8) = true := by rw [difs_1_3]; decide +kernel
set_option maxRecDepth 100000 in
theorem difs_1_4 : difs 1 4 16 = [20, 19, 21, 20, 18, 20, 20, 22, 19, 21, 20] := by decide +kernel
set_option maxRecDepth 100000 in
theorem even_1_4 : evenB (difs 1 4 16) = true := by rw [difs_1_4]; decide +kernel
set_option maxRecDepth 100000 in
theorem difs_1_5 : difs 1 5 32 = [20, 19, 21, 20, 18, 20, 20, 22, 19, 21, 20, 17, 19, 20, 21, 19, 21, 20, 23, 18, 20, 20, 22, 19, 21, 20] := by decide +kernel
set_option maxRecDepth 100000 in
theorem even_1_5 : evenB (difs 1 5 32) = true := by rw [difs_1_5]; decide +kernel
set_option maxRecDepth 100000 in
theorem difs_1_6 : difs 1 6 64 = [20, 19, 21, 20, 18, 20, 20, 22, 19, 21, 20, 17, 19, 20, 21, 19, 21, 20, 23, 18, 20, 20, 22, 19, 21, 20, 16, 18, 20, 20, 19, 21, 20, 22, 18, 20, 20, 22, 19, 21, 20, 24, 17, 19, 20, 21, 19, 21, 20, 23, 18, 20, 20, 22, 19, 21, 20] := by decide +kernel
set_option maxRecDepth 100000 in
theorem even_1_6 : evenB (difs 1 6 64) = true := by rw [difs_1_6]; decide +kernel
set_option maxRecDepth 100000 in
theorem difs_1_7 : difs 1 7 128 = [20, 19, 21, 20, 18, 20, 20, 22, 19, 21, 20, 17, 19, 20, 21, 19, 21, 20, 23, 18, 20, 20, 22, 19, 21, 20, 16, 18, 20, 20, 19, 21, 20, 22, 18, 20, 20, 22, 19, 21, 20, 24, 17, 19, 20, 21, 19, 21, 20, 23, 18, 20, 20, 22, 19, 21, 20, 15, 17, 20, 19, 19, 21, 20, 21, 18, 20, 20, 22, 19, 21, 20, 23, 17, 19, 20, 21, 19, 21, 20, 23, 18, 20, 20, 22, 19, 21, 20, 25, 16, 18, 20, 20, 19, 21, 20, 22, 18, 20, 20, 22, 19, 21, 20, 24, 17, 19, 20, 21, 19, 21, 20, 23, 18, 20, 20, 22, 19, 21, 20] := by decide +kernel
set_option maxRecDepth 100000 in
theorem even_1_7 : evenB (difs 1 7 128) = true := by rw [difs_1_7]; decide +kernel
set_option maxRecDepth 100000 in
theorem difs_1_8 : difs 1 8 256 = [20, 19, 21, 20, 18, 20, 20, 22, 19, 21, 20, 17, 19, 20, 21, 19, 21, 20, 23, 18, 20, 20, 22, 19, 21, 20, 16, 18, 20, 20, 19, 21, 20, 22, 18, 20, 20, 22, 19, 21, 20, 24, 17, 19, 20, 21, 19, 21, 20, 23, 18, 20, 20, 22, 19, 21, 20, 15, 17, 20, 19, 19, 21, 20, 21, 18, 20, 20, 22, 19, 21, 20, 23, 17, 19, 20, 21, 19, 21, 20, 23, 18, 20, 20, 22, 19, 21, 20, 25, 16, 18, 20, 20, 19, 21, 20, 22, 18, 20, 20, 22, 19, 21, 20, 24, 17, 19, 20, 21, 19, 21, 20, 23, 18, 20, 20, 22, 19, 21, 20, 14, 16, 20, 18, 19, 21, 20, 20, 18, 20, 20, 22, 19, 21, 20, 22, 17, 19, 20, 21, 19, 21, 20, 23, 18, 20, 20, 22, 19, 21, 20, 24, 16, 18, 20, 20, 19, 21, 20, 22, 18, 20, 20, 22, 19, 21, 20, 24, 17, 19, 20, 21, 19, 21, 20, 23, 18, 20, 20, 22, 19, 21, 20, 26, 15, 17, 20, 19, 19, 21, 20, 21, 18, 20, 20, 22, 19, 21, 20, 23, 17, 19, 20, 21, 19, 21, 20, 23, 18, 20, 20, 22, 19, 21, 20, 25, 16, 18, 20, 20, 19, 21, 20, 22, 18, 20, 20, 22, 19, 21, 20, 24, 17, 19, 20, 21, 19, 21, 20, 23, 18, 20, 20, 22, 19, 21, 20] := by decide +kernel
set_option maxRecDepth 100000 in
theorem even_1_8 : evenB (difs 1 8 256) = true := by rw [difs_1_8]; decide +kernel
set_option maxRecDepth 100000 in
theorem difs_1_9 : difs 1 9 512 = [20, 19, 21, 20, 18, 20, 20, 22, 19, 21, 20, 17, 19, 20, 21, 19, 21, 20, 23, 18, 20, 20, 22, 19, 21, 20, 16, 18, 20, 20, 19, 21, 20, 22, 18, 20, 20, 22, 19, 21, 20, 24, 17, 19, 20, 21, 19, 21, 20, 23, 18, 20, 20, 22, 19, 21, 20, 15, 17, 20, 19, 19, 21, 20, 21, 18, 20, 20, 22, 19, 21, 20, 23, 17, 19, 20, 21, 19, 21, 20, 23, 18, 20, 20, 22, 19, 21, 20, 25, 16, 18, 20, 20, 19, 21, 20, 22, 18, 20, 20, 22, 19, 21, 20, 24, 17, 19, 20, 21, 19, 21, 20, 23, 18, 20, 20, 22, 19, 21, 20, 14, 16, 20, 18, 19, 21, 20, 20, 18, 20, 20, 22, 19, 21, 20, 22, 17, 19, 20, 21, 19, 21, 20, 23, 18, 20, 20, 22, 19, 21, 20, 24, 16, 18, 20, 20, 19, 21, 20, 22, 18, 20, 20, 22, 19, 21, 20, 24, 17, 19, 20, 21, 19, 21, 20, 23, 18, 20, 20, 22, 19, 21, 20, 26, 15, 17, 20, 19, 19, 21, 20, 21, 18, 20, 20, 22, 19, 21, 20, 23, 17, 19, 20, 21, 19, 21, 20, 23, 18, 20, 20, 22, 19, 21, 20, 25, 16, 18, 20, 20, 19, 21, 20, 22, 18, 20, 20, 22, 19, 21, 20, 24, 17, 19, 20, 21, 19, 21, 20, 23, 18, 20, 20, 22, 19, 21, 20, 13, 15, 20, 17, 19, 21, 20, 19, 18, 20, 20, 22, 19, 21, 20, 21, 17, 19, 20, 21, 19, 21, 20, 23, 18, 20, 20, 22, 19, 21, 20, 23, 16, 18, 20, 20, 19, 21, 20, 22, 18, 20, 20, 22, 19, 21, 20, 24, 17, 19, 20, 21, 19, 21, 20, 23, 18, 20, 20, 22, 19, 21, 20, 25, 15, 17, 20, 19, 19, 21, 20, 21, 18, 20, 20, 22, 19, 21, 20, 23, 17, 19, 20, 21, 19, 21, 20, 23, 18, 20, 20, 22, 19, 21, 20, 25, 16, 18, 20, 20, 19, 21, 20, 22, 18, 20, 20, 22, 19, 21, 20, 24, 17, 19, 20, 21, 19, 21, 20, 23, 18, 20, 20, 22, 19, 21, 20, 27, 14, 16, 20, 18, 19, 21, 20, 20, 18, 20, 20, 22, 19, 21, 20, 22, 17, 19, 20, 21, 19, 21, 20, 23, 18, 20, 20, 22, 19, 21, 20, 24, 16, 18, 20, 20, 19, 21, 20, 22, 18, 20, 20, 22, 19, 21, 20, 24, 17, 19, 20, 21, 19, 21, 20, 23, 18, 20, 20, 22, 19, 21, 20, 26, 15, 17, 20, 19, 19, 21, 20, 21, 18, 20, 20, 22, 19, 21, 20, 23, 17, 19, 20, 21, 19, 21, 20, 23, 18, 20, 20, 22, 19, 21, 20, 25, 16, 18, 20, 20, 19, 21, 20, 22, 18, 20, 20, 22, 19, 21, 20, 24, 17, 19, 20, 21, 19, 21, 20, 23, 18, 20, 20, 22, 19, 21, 20] := by decide +kernel
set_option maxRecDepth 100000 in
theorem even_1_9 : evenB (difs 1 9 512) = true := by rw [difs_1_9]; decide +kernel
set_option maxRecDepth 100000 in
theorem difs_2_4 : difs 2 4 16 = [20] := by decide +kernel
set_option maxRecDepth 100000 in
theorem even_2_4 : evenB (difs 2 4 16) = true := by rw [difs_2_4]; decide +kernel
set_option maxRecDepth 100000 in
theorem difs_2_5 : difs 2 5 32 = [20, 20] := by decide +kernel
set_option maxRecDepth 100000 in
theorem even_2_5 : evenB (difs 2 5 32) = true := by rw [difs_2_5]; decide +kernel
set_option maxRecDepth 100000 in
theorem difs_2_6 : difs 2 6 64 = [20, 20, 20, 19, 19, 19, 21, 21, 21, 20] := by decide +kernel
set_option maxRecDepth 100000 in
theorem even_2_6 : evenB (difs 2 6 64) = true := by rw [difs_2_6]; decide +kernel
set_option maxRecDepth 100000 in
theorem difs_2_7 : difs 2 7 128 = [20, 20, 20, 19, 19, 19, 21, 21, 21, 20, 20, 20, 20, 19, 19, 19, 21, 21, 21, 20] := by decide +kernel
set_option maxRecDepth 100000 in
theorem even_2_7 : evenB (difs 2 7 128) = true := by rw [difs_2_7]; decide +kernel
set_option maxRecDepth 100000 in
theorem difs_2_8 : difs 2 8 256 = [20, 20, 20, 19, 19, 19, 21, 21, 21, 20, 20, 20, 20, 19, 19, 19, 21, 21, 21, 20, 20, 20, 20, 19, 19, 19, 21, 21, 21, 20, 18, 18, 18, 20, 20, 20, 20, 18, 18, 18, 20, 20, 20, 20, 18, 18, 18, 20, 20, 20, 20, 22, 22, 22, 19, 22, 22, 22, 19, 22, 22, 22, 19, 21, 21, 21, 20] := by decide +kernel
set_option maxRecDepth 100000 in
theorem even_2_8 : evenB (difs 2 8 256) = true := by rw [difs_2_8]; decide +kernel
set_option maxRecDepth 100000 in
theorem difs_2_9 : difs 2 9 512 = [20, 20, 20, 19, 19, 19, 21, 21, 21, 20, 20, 20, 20, 19, 19, 19, 21, 21, 21, 20, 20, 20, 20, 19, 19, 19, 21, 21, 21, 20, 18, 18, 18, 20, 20, 20, 20, 18, 18, 18, 20, 20, 20, 20, 18, 18, 18, 20, 20, 20, 20, 22, 22, 22, 19, 22, 22, 22, 19, 22, 22, 22, 19, 21, 21, 21, 20, 20, 20, 20, 19, 19, 19, 21, 21, 21, 20, 20, 20, 20, 19, 19, 19, 21, 21, 21, 20, 20, 20, 20, 19, 19, 19, 21, 21, 21, 20, 18, 18, 18, 20, 20, 20, 20, 18, 18, 18, 20, 20, 20, 20, 18, 18, 18, 20, 20, 20, 20, 22, 22, 22, 19, 22, 22, 22, 19, 22, 22, 22, 19, 21, 21, 21, 20] := by decide +kernel
set_option maxRecDepth 100000 in
theorem even_2_9 : evenB (difs 2 9 512) = true := by rw [difs_2_9]; decide +kernel

end Go.Proofs.Ytfollcnmobhggaa
