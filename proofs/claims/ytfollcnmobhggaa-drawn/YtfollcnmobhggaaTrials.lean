/-
  The walk of trials.
-/
import Derived.Test.YtfollcnmobhggaaDraw
import Derived.Deep.QuietTactic
import Derived.BigQuiet
import Derived.Laws.BytesArg
import Derived.Laws.BitsLemmas
namespace Go.Proofs.Ytfollcnmobhggaa
open Go.RowKit

theorem bcell {B : Nat} {W w1 : World} (hb : Below B W w1) : (∀ b o, b < B → w1.cell? ⟨b, o, none⟩ = W.cell? ⟨b, o, none⟩) ∧ (∀ b o, b < B → w1.frozen? ⟨b, o, none⟩ = W.frozen? ⟨b, o, none⟩) :=
  ⟨fun b o h => hb.cell (p := ⟨b, o, none⟩) h, fun b o h => hb.frozen (p := ⟨b, o, none⟩) h⟩

/-- 'string([]byte{n})', the slice just made. -/
theorem conv1 (w : World) (n : Int) : (convert 25 9 (.slice (some ⟨w.heap.size, 0, none⟩) 1 1)).run Try.prog (w.alloc (.cells #[.int .u8 n] 5)) = .ok (.string (strOfNums [n])) (w.alloc (.cells #[.int .u8 n] 5)) := by
  refine run_convert_bytes_arg _ 25 5 Try.underlying25 Try.underlying5 _ _ 1 1 [n] rfl ?_ 9 Try.underlying9
  intro i hi
  have : i = 0 := by omega
  subst this
  rw [World.cell?_alloc_mark]
  rfl

theorem app_data (a b : ByteArray) : (a ++ b).data.toList = a.data.toList ++ b.data.toList := by rw [ByteArray.data_append, Array.toList_append]

theorem str1 (S : ByteArray) (c j d : Nat) (hd : c / 2 ^ j % 2 = d) : (S ++ strOfNums [48 + (d : Int)]).data.toList = S.data.toList ++ [bitC c j] := by
  rw [app_data, strOfNums_data]
  simp only [List.map_cons, List.map_nil]
  congr 2
  unfold bitC
  rw [hd]
  rfl

theorem wraps_i64 (n : Int) (h₀ : 0 ≤ n) (h₁ : n < 2 ^ 63) : IntKind.i64.wrap n = n := by rw [IntKind.wrap_i64]; omega
theorem and_one_nat (i : Nat) (hi : i < 9223372036854775808) : bits BinOp.and IntKind.i64 (i : Int) 1 = ((i % 2 : Nat) : Int) := by
  have h := (bits_nat .i64 63 (by decide) wraps_i64 i 1 hi (by omega)).1
  rw [Nat.and_one_is_mod] at h
  exact h

/-- The bit of c that stands at j: as a number. -/
theorem bit_and (c j : Nat) (hc : c < 1000) : ∃ d : Nat, c / 2 ^ j % 2 = d ∧ d ≤ 1 ∧ bits BinOp.and IntKind.i64 ((c : Int) / 2 ^ j) 1 = (d : Int) := by
  refine ⟨c / 2 ^ j % 2, rfl, by omega, ?_⟩
  have h := and_one_nat (c / 2 ^ j) (Nat.lt_of_le_of_lt (Nat.div_le_self _ _) (by omega))
  have e : ((c : Int) / 2 ^ j) = ((c / 2 ^ j : Nat) : Int) := by rw [Int.natCast_ediv, Int.natCast_pow]; rfl
  rw [e]
  exact h

theorem str0 (S : ByteArray) (j : Nat) : (S ++ strOfNums [48]).data.toList = S.data.toList ++ [bitC 0 j] := by
  have h := str1 S 0 j 0 (by rw [Nat.zero_div])
  exact h
theorem one_size (n : Int) : (strOfNums [n]).size = 1 := strOfNums_size [n]
theorem and_zero : bits BinOp.and IntKind.i64 0 1 = 0 := and_one_nat 0 (by omega)

theorem rep_snoc (k : Nat) : List.replicate (k + 1) (49 : UInt8) = List.replicate k 49 ++ [49] := List.replicate_succ'

/-- What 'trials' hands back: n trials that do not stop, and one that does. -/
def TrialEnd (k n : Nat) (e : Ending) : Prop := ∃ (S : ByteArray) (l : List UInt8), Blocks k n l ∧ S.data.toList = l ++ List.replicate k 49 ∧ e = .returned (.string S)

set_option maxHeartbeats 1000000 in
theorem trials_some_1 (n at_ len cap b off : Nat) (zs : List Int) (w : World) (hn : n < 100) (ha : at_ < 100) (hl : 0 < len) (hl2 : len ≤ 9223372036854775807)
    (hc : ∀ j, j < len → w.cell? ⟨b, off + j, none⟩ = some (.int .i64 (zs.getD j 0))) (hz : ∀ j, -9223372036854775808 ≤ zs.getD j 0 ∧ zs.getD j 0 ≤ 9223372036854775807) (hbw : b < w.heap.size) :
    Calls Try.prog 6 #[.int .i64 1, .int .i64 n, .slice (some ⟨b, off, none⟩) len cap, .int .i64 at_] w fun e w' => TrialEnd 1 n e ∧ Below w.heap.size w w' := by
  have HC : Hid (∀ wr, Below w.heap.size w wr → ∀ j, j < len → wr.cell? ⟨b, off + j, none⟩ = some (.int .i64 (zs.getD j 0))) := fun wr hb j hj => by rw [(bcell hb).1 b _ hbw]; exact hc j hj
  have HZ : Hid (∀ j, -9223372036854775808 ≤ zs.getD j 0 ∧ zs.getD j 0 ≤ 9223372036854775807) := hz
  clear hc hz
  have hcv := conv1
  have hs1 := one_size
  go_enter Try.func6, Try.ntmps6
  go_wp2
  go_loopw [9, 10, 11, 12] (fun s i c j wr => ∃ (m : Nat) (S : ByteArray), m ≤ n ∧ i = .int .i64 m ∧ s = .string S ∧ Blocks 1 m S.data.toList ∧ Below w.heap.size w wr) (fun _ i _ _ _ => n - (intOf i).toNat)
  case atStart => exact ⟨0, ⟨#[]⟩, by omega, rfl, rfl, Blocks.nil _, Below.refl _ _⟩
  case round =>
    obtain ⟨m, S, hm, rfl, rfl, hS, hb⟩ := hrel
    by_cases hlt : m < n
    · obtain ⟨ix, hix, hixl⟩ : ∃ ix : Nat, ((at_ : Int) + m) % len = ix ∧ ix < len := ⟨(at_ + m) % len, by rw [← Int.natCast_add, ← Int.natCast_emod], Nat.mod_lt _ hl⟩
      have hcell := HC.out wr hb ix hixl
      obtain ⟨z, hzz⟩ : ∃ z, zs.getD ix 0 = z := ⟨_, rfl⟩
      rw [hzz] at hcell
      obtain ⟨hz1, hz2⟩ := hzz ▸ HZ.out ix
      clear hzz
      obtain ⟨c, hcc, hcl⟩ := pk_nat z 1 (by omega)
      have hcc' : pk z 1 = (c : Int) := hcc
      have HP := fun w => pick_any z 1 w hz1 hz2 (by omega) (by omega)
      rw [hcc'] at HP
      clear hcc hcc'
      go_wp2
      go_quiet ((go_at_call 5; exact Calls.quiet_of_same (HP _)))
      go_wp2
      clear hcell hix HP hz1 hz2
      go_loopw [9, 12] (fun s j wv => ∃ (m2 : Nat) (S2 : ByteArray), m2 ≤ 1 ∧ j = .int .i64 (0 - m2 : Int) ∧ s = .string S2 ∧ S2.data.toList = S.data.toList ++ bitsDown 1 c m2 ∧ Below w.heap.size w wv) (fun _ j _ => (intOf j + 1).toNat)
      case atStart => exact ⟨0, S, by omega, rfl, rfl, by simp [bitsDown], below_drewN hb _⟩
      case round =>
        obtain ⟨m2, S2, hm2, rfl, rfl, hS2, hb2⟩ := hrel
        have hsz : S2.size ≤ 1000 := by rw [← size_data, hS2, List.length_append, hS.length, bitsDown_length]; omega
        have HS2 : Hid (S2.data.toList = S.data.toList ++ bitsDown 1 c m2) := hS2
        have HS : Hid (Blocks 1 m S.data.toList) := hS
        clear hS2 hS
        by_cases hlt2 : m2 < 1
        · obtain ⟨d, hd, hd1, hand⟩ := bit_and c 0 (by omega)
          have e0 : m2 = 0 := by omega
          subst e0
          rw [Int.pow_zero, Int.ediv_one] at hand
          have HD : Hid (c / 2 ^ (1 - 1 - 0) % 2 = d) := hd
          clear hd
          go_wp2
          go_roundw
          case rel => exact ⟨0 + 1, _, by omega, by go_num, rfl, by rw [str1 _ c (1 - 1 - 0) d HD.out, HS2.out, bitsDown_succ, List.append_assoc], hb2.alloc hb2.size _⟩
          case measure => simp [intOf]
        · have e2 : m2 = 1 := by omega
          subst e2
          go_wp2
          go_roundw
          case rel => exact ⟨m + 1, _, by omega, by go_num, rfl, by rw [HS2.out]; exact HS.out.snoc (bitsDown_length _ _ _) (bitsDown_not1 c (by omega)) (bitsDown_bits _ _ _), hb2⟩
          case measure => simp [intOf]; omega
    · have HS : Hid (Blocks 1 m S.data.toList) := hS
      clear hS
      have e1 : m = n := by omega
      subst e1
      go_wp2
      go_loopw [9, 13] (fun s j wv => ∃ (m2 : Nat) (S2 : ByteArray), m2 ≤ 1 ∧ j = .int .i64 m2 ∧ s = .string S2 ∧ S2.data.toList = S.data.toList ++ List.replicate m2 49 ∧ Below w.heap.size w wv) (fun _ j _ => 1 - (intOf j).toNat)
      case atStart => exact ⟨0, S, by omega, rfl, rfl, by simp, hb⟩
      case round =>
        obtain ⟨m2, S2, hm2, rfl, rfl, hS2, hb2⟩ := hrel
        have hsz : S2.size ≤ 1000 := by rw [← size_data, hS2, List.length_append, HS.out.length, List.length_replicate]; omega
        have HS2 : Hid (S2.data.toList = S.data.toList ++ List.replicate m2 49) := hS2
        clear hS2
        by_cases hlt2 : m2 < 1
        · go_wp2
          go_roundw
          case rel => exact ⟨m2 + 1, _, by omega, by go_num, rfl, by rw [app_data, HS2.out, rep_snoc, List.append_assoc], hb2⟩
          case measure => simp [intOf]; omega
        · have e2 : m2 = 1 := by omega
          subst e2
          go_wp2
          go_ret
          exact ⟨⟨S2, _, HS.out, HS2.out, rfl⟩, hb2⟩

set_option maxHeartbeats 1000000 in
theorem trials_none_1 (n at_ cap : Nat) (a : Option Addr) (w : World) (hn : n < 100) :
    Calls Try.prog 6 #[.int .i64 1, .int .i64 n, .slice a 0 cap, .int .i64 at_] w fun e w' => TrialEnd 1 n e ∧ Below w.heap.size w w' := by
  have hcv := conv1
  have hs1 := one_size
  go_enter Try.func6, Try.ntmps6
  go_wp2
  go_loopw [9, 10, 11, 12] (fun s i c j wr => ∃ (m : Nat) (S : ByteArray), m ≤ n ∧ i = .int .i64 m ∧ s = .string S ∧ Blocks 1 m S.data.toList ∧ Below w.heap.size w wr) (fun _ i _ _ _ => n - (intOf i).toNat)
  case atStart => exact ⟨0, ⟨#[]⟩, by omega, rfl, rfl, Blocks.nil _, Below.refl _ _⟩
  case round =>
    obtain ⟨m, S, hm, rfl, rfl, hS, hb⟩ := hrel
    by_cases hlt : m < n
    · go_wp2
      go_loopw [9, 12] (fun s j wv => ∃ (m2 : Nat) (S2 : ByteArray), m2 ≤ 1 ∧ j = .int .i64 (0 - m2 : Int) ∧ s = .string S2 ∧ S2.data.toList = S.data.toList ++ bitsDown 1 0 m2 ∧ Below w.heap.size w wv) (fun _ j _ => (intOf j + 1).toNat)
      case atStart => exact ⟨0, S, by omega, rfl, rfl, by simp [bitsDown], hb⟩
      case round =>
        obtain ⟨m2, S2, hm2, rfl, rfl, hS2, hb2⟩ := hrel
        have hsz : S2.size ≤ 1000 := by rw [← size_data, hS2, List.length_append, hS.length, bitsDown_length]; omega
        have HS2 : Hid (S2.data.toList = S.data.toList ++ bitsDown 1 0 m2) := hS2
        have HS : Hid (Blocks 1 m S.data.toList) := hS
        clear hS2 hS
        by_cases hlt2 : m2 < 1
        · have hand := and_zero
          have e0 : m2 = 0 := by omega
          subst e0
          go_wp2
          go_roundw
          case rel => exact ⟨0 + 1, _, by omega, by go_num, rfl, by rw [str0 _ (1 - 1 - 0), HS2.out, bitsDown_succ, List.append_assoc], hb2.alloc hb2.size _⟩
          case measure => simp [intOf]
        · have e2 : m2 = 1 := by omega
          subst e2
          go_wp2
          go_roundw
          case rel => exact ⟨m + 1, _, by omega, by go_num, rfl, by rw [HS2.out]; exact HS.out.snoc (bitsDown_length _ _ _) (bitsDown_not1 0 (by omega)) (bitsDown_bits _ _ _), hb2⟩
          case measure => simp [intOf]; omega
    · have HS : Hid (Blocks 1 m S.data.toList) := hS
      clear hS
      have e1 : m = n := by omega
      subst e1
      go_wp2
      go_loopw [9, 13] (fun s j wv => ∃ (m2 : Nat) (S2 : ByteArray), m2 ≤ 1 ∧ j = .int .i64 m2 ∧ s = .string S2 ∧ S2.data.toList = S.data.toList ++ List.replicate m2 49 ∧ Below w.heap.size w wv) (fun _ j _ => 1 - (intOf j).toNat)
      case atStart => exact ⟨0, S, by omega, rfl, rfl, by simp, hb⟩
      case round =>
        obtain ⟨m2, S2, hm2, rfl, rfl, hS2, hb2⟩ := hrel
        have hsz : S2.size ≤ 1000 := by rw [← size_data, hS2, List.length_append, HS.out.length, List.length_replicate]; omega
        have HS2 : Hid (S2.data.toList = S.data.toList ++ List.replicate m2 49) := hS2
        clear hS2
        by_cases hlt2 : m2 < 1
        · go_wp2
          go_roundw
          case rel => exact ⟨m2 + 1, _, by omega, by go_num, rfl, by rw [app_data, HS2.out, rep_snoc, List.append_assoc], hb2⟩
          case measure => simp [intOf]; omega
        · have e2 : m2 = 1 := by omega
          subst e2
          go_wp2
          go_ret
          exact ⟨⟨S2, _, HS.out, HS2.out, rfl⟩, hb2⟩

set_option maxHeartbeats 1000000 in
theorem trials_some_2 (n at_ len cap b off : Nat) (zs : List Int) (w : World) (hn : n < 100) (ha : at_ < 100) (hl : 0 < len) (hl2 : len ≤ 9223372036854775807)
    (hc : ∀ j, j < len → w.cell? ⟨b, off + j, none⟩ = some (.int .i64 (zs.getD j 0))) (hz : ∀ j, -9223372036854775808 ≤ zs.getD j 0 ∧ zs.getD j 0 ≤ 9223372036854775807) (hbw : b < w.heap.size) :
    Calls Try.prog 6 #[.int .i64 2, .int .i64 n, .slice (some ⟨b, off, none⟩) len cap, .int .i64 at_] w fun e w' => TrialEnd 2 n e ∧ Below w.heap.size w w' := by
  have HC : Hid (∀ wr, Below w.heap.size w wr → ∀ j, j < len → wr.cell? ⟨b, off + j, none⟩ = some (.int .i64 (zs.getD j 0))) := fun wr hb j hj => by rw [(bcell hb).1 b _ hbw]; exact hc j hj
  have HZ : Hid (∀ j, -9223372036854775808 ≤ zs.getD j 0 ∧ zs.getD j 0 ≤ 9223372036854775807) := hz
  clear hc hz
  have hcv := conv1
  have hs1 := one_size
  go_enter Try.func6, Try.ntmps6
  go_wp2
  go_loopw [9, 10, 11, 12] (fun s i c j wr => ∃ (m : Nat) (S : ByteArray), m ≤ n ∧ i = .int .i64 m ∧ s = .string S ∧ Blocks 2 m S.data.toList ∧ Below w.heap.size w wr) (fun _ i _ _ _ => n - (intOf i).toNat)
  case atStart => exact ⟨0, ⟨#[]⟩, by omega, rfl, rfl, Blocks.nil _, Below.refl _ _⟩
  case round =>
    obtain ⟨m, S, hm, rfl, rfl, hS, hb⟩ := hrel
    by_cases hlt : m < n
    · obtain ⟨ix, hix, hixl⟩ : ∃ ix : Nat, ((at_ : Int) + m) % len = ix ∧ ix < len := ⟨(at_ + m) % len, by rw [← Int.natCast_add, ← Int.natCast_emod], Nat.mod_lt _ hl⟩
      have hcell := HC.out wr hb ix hixl
      obtain ⟨z, hzz⟩ : ∃ z, zs.getD ix 0 = z := ⟨_, rfl⟩
      rw [hzz] at hcell
      obtain ⟨hz1, hz2⟩ := hzz ▸ HZ.out ix
      clear hzz
      obtain ⟨c, hcc, hcl⟩ := pk_nat z 3 (by omega)
      have hcc' : pk z 3 = (c : Int) := hcc
      have HP := fun w => pick_any z 3 w hz1 hz2 (by omega) (by omega)
      rw [hcc'] at HP
      clear hcc hcc'
      go_wp2
      go_quiet ((go_at_call 5; exact Calls.quiet_of_same (HP _)))
      go_wp2
      clear hcell hix HP hz1 hz2
      go_loopw [9, 12] (fun s j wv => ∃ (m2 : Nat) (S2 : ByteArray), m2 ≤ 2 ∧ j = .int .i64 (1 - m2 : Int) ∧ s = .string S2 ∧ S2.data.toList = S.data.toList ++ bitsDown 2 c m2 ∧ Below w.heap.size w wv) (fun _ j _ => (intOf j + 1).toNat)
      case atStart => exact ⟨0, S, by omega, rfl, rfl, by simp [bitsDown], below_drewN hb _⟩
      case round =>
        obtain ⟨m2, S2, hm2, rfl, rfl, hS2, hb2⟩ := hrel
        have hsz : S2.size ≤ 1000 := by rw [← size_data, hS2, List.length_append, hS.length, bitsDown_length]; omega
        have HS2 : Hid (S2.data.toList = S.data.toList ++ bitsDown 2 c m2) := hS2
        have HS : Hid (Blocks 2 m S.data.toList) := hS
        clear hS2 hS
        by_cases hlt2 : m2 < 2
        · obtain ⟨d, hd, hd1, hand⟩ := bit_and c (1 - m2) (by omega)
          have HD : Hid (c / 2 ^ (2 - 1 - m2) % 2 = d) := hd
          clear hd
          go_wp2
          go_roundw
          case rel => exact ⟨m2 + 1, _, by omega, by go_num, rfl, by rw [str1 _ c (2 - 1 - m2) d HD.out, HS2.out, bitsDown_succ, List.append_assoc], hb2.alloc hb2.size _⟩
          case measure => simp [intOf]; omega
        · have e2 : m2 = 2 := by omega
          subst e2
          go_wp2
          go_roundw
          case rel => exact ⟨m + 1, _, by omega, by go_num, rfl, by rw [HS2.out]; exact HS.out.snoc (bitsDown_length _ _ _) (bitsDown_not2 c (by omega)) (bitsDown_bits _ _ _), hb2⟩
          case measure => simp [intOf]; omega
    · have HS : Hid (Blocks 2 m S.data.toList) := hS
      clear hS
      have e1 : m = n := by omega
      subst e1
      go_wp2
      go_loopw [9, 13] (fun s j wv => ∃ (m2 : Nat) (S2 : ByteArray), m2 ≤ 2 ∧ j = .int .i64 m2 ∧ s = .string S2 ∧ S2.data.toList = S.data.toList ++ List.replicate m2 49 ∧ Below w.heap.size w wv) (fun _ j _ => 2 - (intOf j).toNat)
      case atStart => exact ⟨0, S, by omega, rfl, rfl, by simp, hb⟩
      case round =>
        obtain ⟨m2, S2, hm2, rfl, rfl, hS2, hb2⟩ := hrel
        have hsz : S2.size ≤ 1000 := by rw [← size_data, hS2, List.length_append, HS.out.length, List.length_replicate]; omega
        have HS2 : Hid (S2.data.toList = S.data.toList ++ List.replicate m2 49) := hS2
        clear hS2
        by_cases hlt2 : m2 < 2
        · go_wp2
          go_roundw
          case rel => exact ⟨m2 + 1, _, by omega, by go_num, rfl, by rw [app_data, HS2.out, rep_snoc, List.append_assoc], hb2⟩
          case measure => simp [intOf]; omega
        · have e2 : m2 = 2 := by omega
          subst e2
          go_wp2
          go_ret
          exact ⟨⟨S2, _, HS.out, HS2.out, rfl⟩, hb2⟩

set_option maxHeartbeats 1000000 in
theorem trials_none_2 (n at_ cap : Nat) (a : Option Addr) (w : World) (hn : n < 100) :
    Calls Try.prog 6 #[.int .i64 2, .int .i64 n, .slice a 0 cap, .int .i64 at_] w fun e w' => TrialEnd 2 n e ∧ Below w.heap.size w w' := by
  have hcv := conv1
  have hs1 := one_size
  go_enter Try.func6, Try.ntmps6
  go_wp2
  go_loopw [9, 10, 11, 12] (fun s i c j wr => ∃ (m : Nat) (S : ByteArray), m ≤ n ∧ i = .int .i64 m ∧ s = .string S ∧ Blocks 2 m S.data.toList ∧ Below w.heap.size w wr) (fun _ i _ _ _ => n - (intOf i).toNat)
  case atStart => exact ⟨0, ⟨#[]⟩, by omega, rfl, rfl, Blocks.nil _, Below.refl _ _⟩
  case round =>
    obtain ⟨m, S, hm, rfl, rfl, hS, hb⟩ := hrel
    by_cases hlt : m < n
    · go_wp2
      go_loopw [9, 12] (fun s j wv => ∃ (m2 : Nat) (S2 : ByteArray), m2 ≤ 2 ∧ j = .int .i64 (1 - m2 : Int) ∧ s = .string S2 ∧ S2.data.toList = S.data.toList ++ bitsDown 2 0 m2 ∧ Below w.heap.size w wv) (fun _ j _ => (intOf j + 1).toNat)
      case atStart => exact ⟨0, S, by omega, rfl, rfl, by simp [bitsDown], hb⟩
      case round =>
        obtain ⟨m2, S2, hm2, rfl, rfl, hS2, hb2⟩ := hrel
        have hsz : S2.size ≤ 1000 := by rw [← size_data, hS2, List.length_append, hS.length, bitsDown_length]; omega
        have HS2 : Hid (S2.data.toList = S.data.toList ++ bitsDown 2 0 m2) := hS2
        have HS : Hid (Blocks 2 m S.data.toList) := hS
        clear hS2 hS
        by_cases hlt2 : m2 < 2
        · have hand := and_zero
          go_wp2
          go_roundw
          case rel => exact ⟨m2 + 1, _, by omega, by go_num, rfl, by rw [str0 _ (2 - 1 - m2), HS2.out, bitsDown_succ, List.append_assoc], hb2.alloc hb2.size _⟩
          case measure => simp [intOf]; omega
        · have e2 : m2 = 2 := by omega
          subst e2
          go_wp2
          go_roundw
          case rel => exact ⟨m + 1, _, by omega, by go_num, rfl, by rw [HS2.out]; exact HS.out.snoc (bitsDown_length _ _ _) (bitsDown_not2 0 (by omega)) (bitsDown_bits _ _ _), hb2⟩
          case measure => simp [intOf]; omega
    · have HS : Hid (Blocks 2 m S.data.toList) := hS
      clear hS
      have e1 : m = n := by omega
      subst e1
      go_wp2
      go_loopw [9, 13] (fun s j wv => ∃ (m2 : Nat) (S2 : ByteArray), m2 ≤ 2 ∧ j = .int .i64 m2 ∧ s = .string S2 ∧ S2.data.toList = S.data.toList ++ List.replicate m2 49 ∧ Below w.heap.size w wv) (fun _ j _ => 2 - (intOf j).toNat)
      case atStart => exact ⟨0, S, by omega, rfl, rfl, by simp, hb⟩
      case round =>
        obtain ⟨m2, S2, hm2, rfl, rfl, hS2, hb2⟩ := hrel
        have hsz : S2.size ≤ 1000 := by rw [← size_data, hS2, List.length_append, HS.out.length, List.length_replicate]; omega
        have HS2 : Hid (S2.data.toList = S.data.toList ++ List.replicate m2 49) := hS2
        clear hS2
        by_cases hlt2 : m2 < 2
        · go_wp2
          go_roundw
          case rel => exact ⟨m2 + 1, _, by omega, by go_num, rfl, by rw [app_data, HS2.out, rep_snoc, List.append_assoc], hb2⟩
          case measure => simp [intOf]; omega
        · have e2 : m2 = 2 := by omega
          subst e2
          go_wp2
          go_ret
          exact ⟨⟨S2, _, HS.out, HS2.out, rfl⟩, hb2⟩

set_option maxHeartbeats 1000000 in
theorem trials_some_3 (n at_ len cap b off : Nat) (zs : List Int) (w : World) (hn : n < 100) (ha : at_ < 100) (hl : 0 < len) (hl2 : len ≤ 9223372036854775807)
    (hc : ∀ j, j < len → w.cell? ⟨b, off + j, none⟩ = some (.int .i64 (zs.getD j 0))) (hz : ∀ j, -9223372036854775808 ≤ zs.getD j 0 ∧ zs.getD j 0 ≤ 9223372036854775807) (hbw : b < w.heap.size) :
    Calls Try.prog 6 #[.int .i64 3, .int .i64 n, .slice (some ⟨b, off, none⟩) len cap, .int .i64 at_] w fun e w' => TrialEnd 3 n e ∧ Below w.heap.size w w' := by
  have HC : Hid (∀ wr, Below w.heap.size w wr → ∀ j, j < len → wr.cell? ⟨b, off + j, none⟩ = some (.int .i64 (zs.getD j 0))) := fun wr hb j hj => by rw [(bcell hb).1 b _ hbw]; exact hc j hj
  have HZ : Hid (∀ j, -9223372036854775808 ≤ zs.getD j 0 ∧ zs.getD j 0 ≤ 9223372036854775807) := hz
  clear hc hz
  have hcv := conv1
  have hs1 := one_size
  go_enter Try.func6, Try.ntmps6
  go_wp2
  go_loopw [9, 10, 11, 12] (fun s i c j wr => ∃ (m : Nat) (S : ByteArray), m ≤ n ∧ i = .int .i64 m ∧ s = .string S ∧ Blocks 3 m S.data.toList ∧ Below w.heap.size w wr) (fun _ i _ _ _ => n - (intOf i).toNat)
  case atStart => exact ⟨0, ⟨#[]⟩, by omega, rfl, rfl, Blocks.nil _, Below.refl _ _⟩
  case round =>
    obtain ⟨m, S, hm, rfl, rfl, hS, hb⟩ := hrel
    by_cases hlt : m < n
    · obtain ⟨ix, hix, hixl⟩ : ∃ ix : Nat, ((at_ : Int) + m) % len = ix ∧ ix < len := ⟨(at_ + m) % len, by rw [← Int.natCast_add, ← Int.natCast_emod], Nat.mod_lt _ hl⟩
      have hcell := HC.out wr hb ix hixl
      obtain ⟨z, hzz⟩ : ∃ z, zs.getD ix 0 = z := ⟨_, rfl⟩
      rw [hzz] at hcell
      obtain ⟨hz1, hz2⟩ := hzz ▸ HZ.out ix
      clear hzz
      obtain ⟨c, hcc, hcl⟩ := pk_nat z 7 (by omega)
      have hcc' : pk z 7 = (c : Int) := hcc
      have HP := fun w => pick_any z 7 w hz1 hz2 (by omega) (by omega)
      rw [hcc'] at HP
      clear hcc hcc'
      go_wp2
      go_quiet ((go_at_call 5; exact Calls.quiet_of_same (HP _)))
      go_wp2
      clear hcell hix HP hz1 hz2
      go_loopw [9, 12] (fun s j wv => ∃ (m2 : Nat) (S2 : ByteArray), m2 ≤ 3 ∧ j = .int .i64 (2 - m2 : Int) ∧ s = .string S2 ∧ S2.data.toList = S.data.toList ++ bitsDown 3 c m2 ∧ Below w.heap.size w wv) (fun _ j _ => (intOf j + 1).toNat)
      case atStart => exact ⟨0, S, by omega, rfl, rfl, by simp [bitsDown], below_drewN hb _⟩
      case round =>
        obtain ⟨m2, S2, hm2, rfl, rfl, hS2, hb2⟩ := hrel
        have hsz : S2.size ≤ 1000 := by rw [← size_data, hS2, List.length_append, hS.length, bitsDown_length]; omega
        have HS2 : Hid (S2.data.toList = S.data.toList ++ bitsDown 3 c m2) := hS2
        have HS : Hid (Blocks 3 m S.data.toList) := hS
        clear hS2 hS
        by_cases hlt2 : m2 < 3
        · obtain ⟨d, hd, hd1, hand⟩ := bit_and c (2 - m2) (by omega)
          have HD : Hid (c / 2 ^ (3 - 1 - m2) % 2 = d) := hd
          clear hd
          go_wp2
          go_roundw
          case rel => exact ⟨m2 + 1, _, by omega, by go_num, rfl, by rw [str1 _ c (3 - 1 - m2) d HD.out, HS2.out, bitsDown_succ, List.append_assoc], hb2.alloc hb2.size _⟩
          case measure => simp [intOf]; omega
        · have e2 : m2 = 3 := by omega
          subst e2
          go_wp2
          go_roundw
          case rel => exact ⟨m + 1, _, by omega, by go_num, rfl, by rw [HS2.out]; exact HS.out.snoc (bitsDown_length _ _ _) (bitsDown_not3 c (by omega)) (bitsDown_bits _ _ _), hb2⟩
          case measure => simp [intOf]; omega
    · have HS : Hid (Blocks 3 m S.data.toList) := hS
      clear hS
      have e1 : m = n := by omega
      subst e1
      go_wp2
      go_loopw [9, 13] (fun s j wv => ∃ (m2 : Nat) (S2 : ByteArray), m2 ≤ 3 ∧ j = .int .i64 m2 ∧ s = .string S2 ∧ S2.data.toList = S.data.toList ++ List.replicate m2 49 ∧ Below w.heap.size w wv) (fun _ j _ => 3 - (intOf j).toNat)
      case atStart => exact ⟨0, S, by omega, rfl, rfl, by simp, hb⟩
      case round =>
        obtain ⟨m2, S2, hm2, rfl, rfl, hS2, hb2⟩ := hrel
        have hsz : S2.size ≤ 1000 := by rw [← size_data, hS2, List.length_append, HS.out.length, List.length_replicate]; omega
        have HS2 : Hid (S2.data.toList = S.data.toList ++ List.replicate m2 49) := hS2
        clear hS2
        by_cases hlt2 : m2 < 3
        · go_wp2
          go_roundw
          case rel => exact ⟨m2 + 1, _, by omega, by go_num, rfl, by rw [app_data, HS2.out, rep_snoc, List.append_assoc], hb2⟩
          case measure => simp [intOf]; omega
        · have e2 : m2 = 3 := by omega
          subst e2
          go_wp2
          go_ret
          exact ⟨⟨S2, _, HS.out, HS2.out, rfl⟩, hb2⟩

set_option maxHeartbeats 1000000 in
theorem trials_none_3 (n at_ cap : Nat) (a : Option Addr) (w : World) (hn : n < 100) :
    Calls Try.prog 6 #[.int .i64 3, .int .i64 n, .slice a 0 cap, .int .i64 at_] w fun e w' => TrialEnd 3 n e ∧ Below w.heap.size w w' := by
  have hcv := conv1
  have hs1 := one_size
  go_enter Try.func6, Try.ntmps6
  go_wp2
  go_loopw [9, 10, 11, 12] (fun s i c j wr => ∃ (m : Nat) (S : ByteArray), m ≤ n ∧ i = .int .i64 m ∧ s = .string S ∧ Blocks 3 m S.data.toList ∧ Below w.heap.size w wr) (fun _ i _ _ _ => n - (intOf i).toNat)
  case atStart => exact ⟨0, ⟨#[]⟩, by omega, rfl, rfl, Blocks.nil _, Below.refl _ _⟩
  case round =>
    obtain ⟨m, S, hm, rfl, rfl, hS, hb⟩ := hrel
    by_cases hlt : m < n
    · go_wp2
      go_loopw [9, 12] (fun s j wv => ∃ (m2 : Nat) (S2 : ByteArray), m2 ≤ 3 ∧ j = .int .i64 (2 - m2 : Int) ∧ s = .string S2 ∧ S2.data.toList = S.data.toList ++ bitsDown 3 0 m2 ∧ Below w.heap.size w wv) (fun _ j _ => (intOf j + 1).toNat)
      case atStart => exact ⟨0, S, by omega, rfl, rfl, by simp [bitsDown], hb⟩
      case round =>
        obtain ⟨m2, S2, hm2, rfl, rfl, hS2, hb2⟩ := hrel
        have hsz : S2.size ≤ 1000 := by rw [← size_data, hS2, List.length_append, hS.length, bitsDown_length]; omega
        have HS2 : Hid (S2.data.toList = S.data.toList ++ bitsDown 3 0 m2) := hS2
        have HS : Hid (Blocks 3 m S.data.toList) := hS
        clear hS2 hS
        by_cases hlt2 : m2 < 3
        · have hand := and_zero
          go_wp2
          go_roundw
          case rel => exact ⟨m2 + 1, _, by omega, by go_num, rfl, by rw [str0 _ (3 - 1 - m2), HS2.out, bitsDown_succ, List.append_assoc], hb2.alloc hb2.size _⟩
          case measure => simp [intOf]; omega
        · have e2 : m2 = 3 := by omega
          subst e2
          go_wp2
          go_roundw
          case rel => exact ⟨m + 1, _, by omega, by go_num, rfl, by rw [HS2.out]; exact HS.out.snoc (bitsDown_length _ _ _) (bitsDown_not3 0 (by omega)) (bitsDown_bits _ _ _), hb2⟩
          case measure => simp [intOf]; omega
    · have HS : Hid (Blocks 3 m S.data.toList) := hS
      clear hS
      have e1 : m = n := by omega
      subst e1
      go_wp2
      go_loopw [9, 13] (fun s j wv => ∃ (m2 : Nat) (S2 : ByteArray), m2 ≤ 3 ∧ j = .int .i64 m2 ∧ s = .string S2 ∧ S2.data.toList = S.data.toList ++ List.replicate m2 49 ∧ Below w.heap.size w wv) (fun _ j _ => 3 - (intOf j).toNat)
      case atStart => exact ⟨0, S, by omega, rfl, rfl, by simp, hb⟩
      case round =>
        obtain ⟨m2, S2, hm2, rfl, rfl, hS2, hb2⟩ := hrel
        have hsz : S2.size ≤ 1000 := by rw [← size_data, hS2, List.length_append, HS.out.length, List.length_replicate]; omega
        have HS2 : Hid (S2.data.toList = S.data.toList ++ List.replicate m2 49) := hS2
        clear hS2
        by_cases hlt2 : m2 < 3
        · go_wp2
          go_roundw
          case rel => exact ⟨m2 + 1, _, by omega, by go_num, rfl, by rw [app_data, HS2.out, rep_snoc, List.append_assoc], hb2⟩
          case measure => simp [intOf]; omega
        · have e2 : m2 = 3 := by omega
          subst e2
          go_wp2
          go_ret
          exact ⟨⟨S2, _, HS.out, HS2.out, rfl⟩, hb2⟩

set_option maxHeartbeats 1000000 in
theorem trials_some_4 (n at_ len cap b off : Nat) (zs : List Int) (w : World) (hn : n < 100) (ha : at_ < 100) (hl : 0 < len) (hl2 : len ≤ 9223372036854775807)
    (hc : ∀ j, j < len → w.cell? ⟨b, off + j, none⟩ = some (.int .i64 (zs.getD j 0))) (hz : ∀ j, -9223372036854775808 ≤ zs.getD j 0 ∧ zs.getD j 0 ≤ 9223372036854775807) (hbw : b < w.heap.size) :
    Calls Try.prog 6 #[.int .i64 4, .int .i64 n, .slice (some ⟨b, off, none⟩) len cap, .int .i64 at_] w fun e w' => TrialEnd 4 n e ∧ Below w.heap.size w w' := by
  have HC : Hid (∀ wr, Below w.heap.size w wr → ∀ j, j < len → wr.cell? ⟨b, off + j, none⟩ = some (.int .i64 (zs.getD j 0))) := fun wr hb j hj => by rw [(bcell hb).1 b _ hbw]; exact hc j hj
  have HZ : Hid (∀ j, -9223372036854775808 ≤ zs.getD j 0 ∧ zs.getD j 0 ≤ 9223372036854775807) := hz
  clear hc hz
  have hcv := conv1
  have hs1 := one_size
  go_enter Try.func6, Try.ntmps6
  go_wp2
  go_loopw [9, 10, 11, 12] (fun s i c j wr => ∃ (m : Nat) (S : ByteArray), m ≤ n ∧ i = .int .i64 m ∧ s = .string S ∧ Blocks 4 m S.data.toList ∧ Below w.heap.size w wr) (fun _ i _ _ _ => n - (intOf i).toNat)
  case atStart => exact ⟨0, ⟨#[]⟩, by omega, rfl, rfl, Blocks.nil _, Below.refl _ _⟩
  case round =>
    obtain ⟨m, S, hm, rfl, rfl, hS, hb⟩ := hrel
    by_cases hlt : m < n
    · obtain ⟨ix, hix, hixl⟩ : ∃ ix : Nat, ((at_ : Int) + m) % len = ix ∧ ix < len := ⟨(at_ + m) % len, by rw [← Int.natCast_add, ← Int.natCast_emod], Nat.mod_lt _ hl⟩
      have hcell := HC.out wr hb ix hixl
      obtain ⟨z, hzz⟩ : ∃ z, zs.getD ix 0 = z := ⟨_, rfl⟩
      rw [hzz] at hcell
      obtain ⟨hz1, hz2⟩ := hzz ▸ HZ.out ix
      clear hzz
      obtain ⟨c, hcc, hcl⟩ := pk_nat z 15 (by omega)
      have hcc' : pk z 15 = (c : Int) := hcc
      have HP := fun w => pick_any z 15 w hz1 hz2 (by omega) (by omega)
      rw [hcc'] at HP
      clear hcc hcc'
      go_wp2
      go_quiet ((go_at_call 5; exact Calls.quiet_of_same (HP _)))
      go_wp2
      clear hcell hix HP hz1 hz2
      go_loopw [9, 12] (fun s j wv => ∃ (m2 : Nat) (S2 : ByteArray), m2 ≤ 4 ∧ j = .int .i64 (3 - m2 : Int) ∧ s = .string S2 ∧ S2.data.toList = S.data.toList ++ bitsDown 4 c m2 ∧ Below w.heap.size w wv) (fun _ j _ => (intOf j + 1).toNat)
      case atStart => exact ⟨0, S, by omega, rfl, rfl, by simp [bitsDown], below_drewN hb _⟩
      case round =>
        obtain ⟨m2, S2, hm2, rfl, rfl, hS2, hb2⟩ := hrel
        have hsz : S2.size ≤ 1000 := by rw [← size_data, hS2, List.length_append, hS.length, bitsDown_length]; omega
        have HS2 : Hid (S2.data.toList = S.data.toList ++ bitsDown 4 c m2) := hS2
        have HS : Hid (Blocks 4 m S.data.toList) := hS
        clear hS2 hS
        by_cases hlt2 : m2 < 4
        · obtain ⟨d, hd, hd1, hand⟩ := bit_and c (3 - m2) (by omega)
          have HD : Hid (c / 2 ^ (4 - 1 - m2) % 2 = d) := hd
          clear hd
          go_wp2
          go_roundw
          case rel => exact ⟨m2 + 1, _, by omega, by go_num, rfl, by rw [str1 _ c (4 - 1 - m2) d HD.out, HS2.out, bitsDown_succ, List.append_assoc], hb2.alloc hb2.size _⟩
          case measure => simp [intOf]; omega
        · have e2 : m2 = 4 := by omega
          subst e2
          go_wp2
          go_roundw
          case rel => exact ⟨m + 1, _, by omega, by go_num, rfl, by rw [HS2.out]; exact HS.out.snoc (bitsDown_length _ _ _) (bitsDown_not4 c (by omega)) (bitsDown_bits _ _ _), hb2⟩
          case measure => simp [intOf]; omega
    · have HS : Hid (Blocks 4 m S.data.toList) := hS
      clear hS
      have e1 : m = n := by omega
      subst e1
      go_wp2
      go_loopw [9, 13] (fun s j wv => ∃ (m2 : Nat) (S2 : ByteArray), m2 ≤ 4 ∧ j = .int .i64 m2 ∧ s = .string S2 ∧ S2.data.toList = S.data.toList ++ List.replicate m2 49 ∧ Below w.heap.size w wv) (fun _ j _ => 4 - (intOf j).toNat)
      case atStart => exact ⟨0, S, by omega, rfl, rfl, by simp, hb⟩
      case round =>
        obtain ⟨m2, S2, hm2, rfl, rfl, hS2, hb2⟩ := hrel
        have hsz : S2.size ≤ 1000 := by rw [← size_data, hS2, List.length_append, HS.out.length, List.length_replicate]; omega
        have HS2 : Hid (S2.data.toList = S.data.toList ++ List.replicate m2 49) := hS2
        clear hS2
        by_cases hlt2 : m2 < 4
        · go_wp2
          go_roundw
          case rel => exact ⟨m2 + 1, _, by omega, by go_num, rfl, by rw [app_data, HS2.out, rep_snoc, List.append_assoc], hb2⟩
          case measure => simp [intOf]; omega
        · have e2 : m2 = 4 := by omega
          subst e2
          go_wp2
          go_ret
          exact ⟨⟨S2, _, HS.out, HS2.out, rfl⟩, hb2⟩

set_option maxHeartbeats 1000000 in
theorem trials_none_4 (n at_ cap : Nat) (a : Option Addr) (w : World) (hn : n < 100) :
    Calls Try.prog 6 #[.int .i64 4, .int .i64 n, .slice a 0 cap, .int .i64 at_] w fun e w' => TrialEnd 4 n e ∧ Below w.heap.size w w' := by
  have hcv := conv1
  have hs1 := one_size
  go_enter Try.func6, Try.ntmps6
  go_wp2
  go_loopw [9, 10, 11, 12] (fun s i c j wr => ∃ (m : Nat) (S : ByteArray), m ≤ n ∧ i = .int .i64 m ∧ s = .string S ∧ Blocks 4 m S.data.toList ∧ Below w.heap.size w wr) (fun _ i _ _ _ => n - (intOf i).toNat)
  case atStart => exact ⟨0, ⟨#[]⟩, by omega, rfl, rfl, Blocks.nil _, Below.refl _ _⟩
  case round =>
    obtain ⟨m, S, hm, rfl, rfl, hS, hb⟩ := hrel
    by_cases hlt : m < n
    · go_wp2
      go_loopw [9, 12] (fun s j wv => ∃ (m2 : Nat) (S2 : ByteArray), m2 ≤ 4 ∧ j = .int .i64 (3 - m2 : Int) ∧ s = .string S2 ∧ S2.data.toList = S.data.toList ++ bitsDown 4 0 m2 ∧ Below w.heap.size w wv) (fun _ j _ => (intOf j + 1).toNat)
      case atStart => exact ⟨0, S, by omega, rfl, rfl, by simp [bitsDown], hb⟩
      case round =>
        obtain ⟨m2, S2, hm2, rfl, rfl, hS2, hb2⟩ := hrel
        have hsz : S2.size ≤ 1000 := by rw [← size_data, hS2, List.length_append, hS.length, bitsDown_length]; omega
        have HS2 : Hid (S2.data.toList = S.data.toList ++ bitsDown 4 0 m2) := hS2
        have HS : Hid (Blocks 4 m S.data.toList) := hS
        clear hS2 hS
        by_cases hlt2 : m2 < 4
        · have hand := and_zero
          go_wp2
          go_roundw
          case rel => exact ⟨m2 + 1, _, by omega, by go_num, rfl, by rw [str0 _ (4 - 1 - m2), HS2.out, bitsDown_succ, List.append_assoc], hb2.alloc hb2.size _⟩
          case measure => simp [intOf]; omega
        · have e2 : m2 = 4 := by omega
          subst e2
          go_wp2
          go_roundw
          case rel => exact ⟨m + 1, _, by omega, by go_num, rfl, by rw [HS2.out]; exact HS.out.snoc (bitsDown_length _ _ _) (bitsDown_not4 0 (by omega)) (bitsDown_bits _ _ _), hb2⟩
          case measure => simp [intOf]; omega
    · have HS : Hid (Blocks 4 m S.data.toList) := hS
      clear hS
      have e1 : m = n := by omega
      subst e1
      go_wp2
      go_loopw [9, 13] (fun s j wv => ∃ (m2 : Nat) (S2 : ByteArray), m2 ≤ 4 ∧ j = .int .i64 m2 ∧ s = .string S2 ∧ S2.data.toList = S.data.toList ++ List.replicate m2 49 ∧ Below w.heap.size w wv) (fun _ j _ => 4 - (intOf j).toNat)
      case atStart => exact ⟨0, S, by omega, rfl, rfl, by simp, hb⟩
      case round =>
        obtain ⟨m2, S2, hm2, rfl, rfl, hS2, hb2⟩ := hrel
        have hsz : S2.size ≤ 1000 := by rw [← size_data, hS2, List.length_append, HS.out.length, List.length_replicate]; omega
        have HS2 : Hid (S2.data.toList = S.data.toList ++ List.replicate m2 49) := hS2
        clear hS2
        by_cases hlt2 : m2 < 4
        · go_wp2
          go_roundw
          case rel => exact ⟨m2 + 1, _, by omega, by go_num, rfl, by rw [app_data, HS2.out, rep_snoc, List.append_assoc], hb2⟩
          case measure => simp [intOf]; omega
        · have e2 : m2 = 4 := by omega
          subst e2
          go_wp2
          go_ret
          exact ⟨⟨S2, _, HS.out, HS2.out, rfl⟩, hb2⟩

end Go.Proofs.Ytfollcnmobhggaa
