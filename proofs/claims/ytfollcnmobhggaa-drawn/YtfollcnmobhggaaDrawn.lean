/-
  The walk of Drawn.
-/
import Derived.Test.YtfollcnmobhggaaTrials
namespace Go.Proofs.Ytfollcnmobhggaa
open Go.RowKit

theorem str2 (T : ByteArray) (d : Nat) (hd : d ≤ 1) (hT : Bits T) : Bits (T ++ strOfNums [48 + (d : Int)]) := by
  intro c hc
  rw [app_data, strOfNums_data] at hc
  rcases List.mem_append.1 hc with h | h
  · exact hT c h
  · rw [List.map_cons, List.map_nil, List.mem_singleton] at h
    subst h
    have : d = 0 ∨ d = 1 := by omega
    rcases this with rfl | rfl
    · exact Or.inl rfl
    · exact Or.inr rfl

theorem trial_size {k n : Nat} {S : ByteArray} {l : List UInt8} (hB : Blocks k n l) (hS : S.data.toList = l ++ List.replicate k 49) : S.size = (n + 1) * k := by
  rw [← size_data, hS, List.length_append, hB.length, List.length_replicate, Nat.succ_mul]
theorem trial_bits {k n : Nat} {S : ByteArray} {l : List UInt8} (hB : Blocks k n l) (hS : S.data.toList = l ++ List.replicate k 49) : Bits S := by
  intro c hc
  rw [hS] at hc
  rcases List.mem_append.1 hc with h | h
  · exact hB.bits c h
  · exact Or.inr (List.eq_of_mem_replicate h)
theorem Bits.app {a b : ByteArray} (ha : Bits a) (hb : Bits b) : Bits (a ++ b) := by
  intro c hc
  rw [app_data] at hc
  rcases List.mem_append.1 hc with h | h
  · exact ha c h
  · exact hb c h
theorem Bits.ext {a : ByteArray} (ha : Bits a) (i j : Nat) : Bits (a.extract i j) := by
  intro c hc
  rw [Lib.extract_data] at hc
  exact ha c (List.mem_of_mem_drop (List.mem_of_mem_take hc))

theorem two_trials {k a b : Nat} {S1 S2 : ByteArray} {l1 l2 : List UInt8} (hB1 : Blocks k a l1) (hS1 : S1.data.toList = l1 ++ List.replicate k 49)
    (hB2 : Blocks k b l2) (hS2 : S2.data.toList = l2 ++ List.replicate k 49) (T : ByteArray) : Drw k (S1 ++ S2 ++ T).data.toList a b := by
  have e : (S1 ++ S2 ++ T).data.toList = l1 ++ (List.replicate k 49 ++ (l2 ++ (List.replicate k 49 ++ T.data.toList))) := by
    rw [app_data, app_data, hS1, hS2]; simp only [List.append_assoc]
  rw [e]
  refine ⟨hB1.geo _, ?_⟩
  rw [hB1.drop]
  exact hB2.geo _

theorem one_less {k a b : Nat} (hk : 1 ≤ k) {S1 S2 : ByteArray} {l1 l2 : List UInt8} (hB1 : Blocks k a l1) (hS1 : S1.data.toList = l1 ++ List.replicate k 49)
    (hB2 : Blocks k b l2) (hS2 : S2.data.toList = l2 ++ List.replicate k 49) (n : Nat) (hn : n + 1 = S1.size + S2.size) : NoDrw k ((S1 ++ S2).extract 0 n).data.toList := by
  have hz1 := trial_size hB1 hS1
  have hz2 := trial_size hB2 hS2
  obtain ⟨j, rfl⟩ : ∃ j, k = j + 1 := ⟨k - 1, by omega⟩
  have hl : (l1 ++ (List.replicate (j + 1) 49 ++ (l2 ++ List.replicate j (49 : UInt8)))).length = n := by
    simp only [List.length_append, List.length_replicate, hB1.length, hB2.length]
    rw [hz1, hz2, Nat.succ_mul, Nat.succ_mul] at hn
    omega
  have e : ((S1 ++ S2).extract 0 n).data.toList = l1 ++ (List.replicate (j + 1) 49 ++ (l2 ++ List.replicate j 49)) := by
    rw [Lib.extract_data, app_data, hS1, hS2, List.drop_zero, Nat.sub_zero, rep_snoc j]
    rw [rep_snoc j] at hl
    have : (l1 ++ (List.replicate j 49 ++ [49]) ++ (l2 ++ (List.replicate j 49 ++ [49]))) = (l1 ++ ((List.replicate j 49 ++ [49]) ++ (l2 ++ List.replicate j (49 : UInt8)))) ++ [49] := by simp only [List.append_assoc]
    rw [this, ← hl, List.take_left]
  rw [e]
  refine Or.inr ⟨a, hB1.geo _, ?_⟩
  rw [hB1.drop]
  exact hB2.noGeo _ (by rw [List.length_replicate]; omega)

set_option maxHeartbeats 1000000 in
theorem drawn_1 (kc ac bc : Int) (a b : Nat) (raw : Value) (bh : ByteArray) (w : World) (hbh : bh.size ≤ 9223372036854775807) (ha : a < 100) (hb : b < 100)
    (HK : ∀ w, Calls Try.prog 5 #[.int .i64 kc, .int .i64 4] w fun e w' => e = .returned (.int .i64 0) ∧ w = w')
    (HA : ∀ w, Calls Try.prog 5 #[.int .i64 ac, .int .i64 100] w fun e w' => e = .returned (.int .i64 a) ∧ w = w')
    (HB : ∀ w, Calls Try.prog 5 #[.int .i64 bc, .int .i64 100] w fun e w' => e = .returned (.int .i64 b) ∧ w = w')
    (HT1 : Calls Try.prog 6 #[.int .i64 1, .int .i64 a, raw, .int .i64 0] w fun e w' => TrialEnd 1 a e ∧ Below w.heap.size w w')
    (HT2 : ∀ w1, Below w.heap.size w w1 → Calls Try.prog 6 #[.int .i64 1, .int .i64 b, raw, .int .i64 a] w1 fun e w' => TrialEnd 1 b e ∧ Below w1.heap.size w1 w') :
    Calls Try.prog 3 #[.int .i64 kc, .int .i64 ac, .int .i64 bc, raw, .string bh] w fun e w' => e = .returned (.bool true) ∧ Below w.heap.size w w' := by
  go_enter Try.func3, Try.ntmps3
  go_wp2_with fail
  refine (HK _).mono ?_
  rintro e w1 ⟨rfl, rfl⟩
  go_wp2_with fail
  refine (HA _).mono ?_
  rintro e w1 ⟨rfl, rfl⟩
  go_wp2_with fail
  refine (HB _).mono ?_
  rintro e w1 ⟨rfl, rfl⟩
  go_wp2_with fail
  refine HT1.mono ?_
  rintro e w1 ⟨⟨S1, l1, hB1, hS1, rfl⟩, hb1⟩
  go_wp2_with fail
  refine (HT2 _ hb1).mono ?_
  rintro e w2 ⟨⟨S2, l2, hB2, hS2, rfl⟩, hb2⟩
  clear HK HA HB HT1 HT2
  obtain ⟨T1, HZ1, hT1, hT1', hz1⟩ : ∃ T1 : Nat, Hid ((a + 1) * 1 = T1) ∧ T1 ≤ 400 ∧ 1 ≤ T1 ∧ S1.size = T1 := ⟨(a + 1) * 1, rfl, by omega, by omega, trial_size hB1 hS1⟩
  obtain ⟨T2, HZ2, hT2, hT2', hz2⟩ : ∃ T2 : Nat, Hid ((b + 1) * 1 = T2) ∧ T2 ≤ 400 ∧ 1 ≤ T2 ∧ S2.size = T2 := ⟨(b + 1) * 1, rfl, by omega, by omega, trial_size hB2 hS2⟩
  have hcv := conv1
  have hs1 := one_size
  have hbw : Below w.heap.size w w2 := hb1.trans (hb2.mono hb1.size)
  have D1 := fun T : ByteArray => two_trials hB1 hS1 hB2 hS2 T
  have D2 := fun n (h : n + 1 = S1.size + S2.size) => one_less (by omega) hB1 hS1 hB2 hS2 n h
  have B12 : Bits (S1 ++ S2) := (trial_bits hB1 hS1).app (trial_bits hB2 hS2)
  have HD1 : Hid (∀ T : ByteArray, Drw 1 (S1 ++ S2 ++ T).data.toList a b) := D1
  have HD2 : Hid (∀ n, n + 1 = S1.size + S2.size → NoDrw 1 ((S1 ++ S2).extract 0 n).data.toList) := D2
  have HB12 : Hid (Bits (S1 ++ S2)) := B12
  clear D1 D2 B12 hS1 hS2 hB1 hB2 hb1 hb2
  go_wp2_with fail
  go_loopw [12, 13] (fun t i wv => ∃ (m : Nat) (T : ByteArray), m ≤ 100 ∧ m ≤ bh.size ∧ i = .int .i64 m ∧ t = .string T ∧ T.size = m ∧ Bits T ∧ Below w.heap.size w wv) (fun _ i _ => 100 - (intOf i).toNat)
  case atStart => exact ⟨0, ⟨#[]⟩, by omega, by omega, rfl, rfl, rfl, fun c hc => absurd hc (by simp), hbw⟩
  case round =>
    clear hbw
    obtain ⟨m, T, hm1, hm2, rfl, rfl, hTs, hT, hb3⟩ := hrel
    have HT : Hid (Bits T) := hT
    clear hT
    by_cases hlt : m < bh.size ∧ m < 100
    · obtain ⟨h1, h2⟩ := hlt
      obtain ⟨d, hd, hd1⟩ : ∃ d : Nat, ((bh[m].toNat : Nat) : Int) % 2 = d ∧ d ≤ 1 := ⟨bh[m].toNat % 2, by omega, by omega⟩
      go_wp2
      go_roundw
      case rel => exact ⟨m + 1, _, by omega, by omega, by go_num, rfl, by rw [ByteArray.size_append, one_size, hTs], str2 T d hd1 HT.out, hb3.alloc hb3.size _⟩
      case measure => simp [intOf]; omega
    · have hsz : (S1 ++ S2 ++ T).size ≤ 100000 := by rw [ByteArray.size_append, ByteArray.size_append, hz1, hz2, hTs]; omega
      have E1 : ∀ w, Calls Try.prog 7 #[.int .i64 1, .string (S1 ++ S2 ++ T)] w fun e w' => e = .returned (.tuple #[.int .i64 (a - b : Int), .int .i64 (T1 + T2 : Int), .int .i64 0]) ∧ Below w.heap.size w w' :=
        fun w => draw_hit 1 (S1 ++ S2 ++ T) w (by unfold KOk; omega) hsz (HB12.out.app HT.out) a b T1 T2 (HD1.out T) HZ1.out HZ2.out
      have hse : ((S1 ++ S2).extract 0 (T1 + T2 - 1)).size ≤ 100000 := by rw [← size_data, Lib.extract_data, List.length_take]; omega
      have E2 : ∀ w, Calls Try.prog 7 #[.int .i64 1, .string ((S1 ++ S2).extract 0 (T1 + T2 - 1))] w fun e w' => e = .returned (.tuple #[.int .i64 0, .int .i64 0, .int .i64 2]) ∧ Below w.heap.size w w' :=
        fun w => draw_miss 1 _ w (by unfold KOk; omega) hse (HB12.out.ext _ _) (HD2.out _ (by omega))
      have HE : Hid (m < bh.size → ¬ m < 100) := fun h1 h2 => hlt ⟨h1, h2⟩
      clear hlt hsz hse
      by_cases h1 : m < bh.size
      · have h2 : ¬ m < 100 := HE.out h1
        go_wp2_with fail
        refine (E1 _).mono ?_
        rintro e w3 ⟨rfl, hb4⟩
        go_wp2_with fail
        refine (E2 _).mono ?_
        rintro e w4 ⟨rfl, hb5⟩
        clear E1 E2
        go_wp2
        go_ret
        exact ⟨rfl, hb3.trans ((hb4.trans (hb5.mono hb4.size)).mono hb3.size)⟩
      · go_wp2_with fail
        refine (E1 _).mono ?_
        rintro e w3 ⟨rfl, hb4⟩
        go_wp2_with fail
        refine (E2 _).mono ?_
        rintro e w4 ⟨rfl, hb5⟩
        clear E1 E2
        go_wp2
        go_ret
        exact ⟨rfl, hb3.trans ((hb4.trans (hb5.mono hb4.size)).mono hb3.size)⟩

set_option maxHeartbeats 1000000 in
theorem drawn_2 (kc ac bc : Int) (a b : Nat) (raw : Value) (bh : ByteArray) (w : World) (hbh : bh.size ≤ 9223372036854775807) (ha : a < 100) (hb : b < 100)
    (HK : ∀ w, Calls Try.prog 5 #[.int .i64 kc, .int .i64 4] w fun e w' => e = .returned (.int .i64 1) ∧ w = w')
    (HA : ∀ w, Calls Try.prog 5 #[.int .i64 ac, .int .i64 100] w fun e w' => e = .returned (.int .i64 a) ∧ w = w')
    (HB : ∀ w, Calls Try.prog 5 #[.int .i64 bc, .int .i64 100] w fun e w' => e = .returned (.int .i64 b) ∧ w = w')
    (HT1 : Calls Try.prog 6 #[.int .i64 2, .int .i64 a, raw, .int .i64 0] w fun e w' => TrialEnd 2 a e ∧ Below w.heap.size w w')
    (HT2 : ∀ w1, Below w.heap.size w w1 → Calls Try.prog 6 #[.int .i64 2, .int .i64 b, raw, .int .i64 a] w1 fun e w' => TrialEnd 2 b e ∧ Below w1.heap.size w1 w') :
    Calls Try.prog 3 #[.int .i64 kc, .int .i64 ac, .int .i64 bc, raw, .string bh] w fun e w' => e = .returned (.bool true) ∧ Below w.heap.size w w' := by
  go_enter Try.func3, Try.ntmps3
  go_wp2_with fail
  refine (HK _).mono ?_
  rintro e w1 ⟨rfl, rfl⟩
  go_wp2_with fail
  refine (HA _).mono ?_
  rintro e w1 ⟨rfl, rfl⟩
  go_wp2_with fail
  refine (HB _).mono ?_
  rintro e w1 ⟨rfl, rfl⟩
  go_wp2_with fail
  refine HT1.mono ?_
  rintro e w1 ⟨⟨S1, l1, hB1, hS1, rfl⟩, hb1⟩
  go_wp2_with fail
  refine (HT2 _ hb1).mono ?_
  rintro e w2 ⟨⟨S2, l2, hB2, hS2, rfl⟩, hb2⟩
  clear HK HA HB HT1 HT2
  obtain ⟨T1, HZ1, hT1, hT1', hz1⟩ : ∃ T1 : Nat, Hid ((a + 1) * 2 = T1) ∧ T1 ≤ 400 ∧ 1 ≤ T1 ∧ S1.size = T1 := ⟨(a + 1) * 2, rfl, by omega, by omega, trial_size hB1 hS1⟩
  obtain ⟨T2, HZ2, hT2, hT2', hz2⟩ : ∃ T2 : Nat, Hid ((b + 1) * 2 = T2) ∧ T2 ≤ 400 ∧ 1 ≤ T2 ∧ S2.size = T2 := ⟨(b + 1) * 2, rfl, by omega, by omega, trial_size hB2 hS2⟩
  have hcv := conv1
  have hs1 := one_size
  have hbw : Below w.heap.size w w2 := hb1.trans (hb2.mono hb1.size)
  have D1 := fun T : ByteArray => two_trials hB1 hS1 hB2 hS2 T
  have D2 := fun n (h : n + 1 = S1.size + S2.size) => one_less (by omega) hB1 hS1 hB2 hS2 n h
  have B12 : Bits (S1 ++ S2) := (trial_bits hB1 hS1).app (trial_bits hB2 hS2)
  have HD1 : Hid (∀ T : ByteArray, Drw 2 (S1 ++ S2 ++ T).data.toList a b) := D1
  have HD2 : Hid (∀ n, n + 1 = S1.size + S2.size → NoDrw 2 ((S1 ++ S2).extract 0 n).data.toList) := D2
  have HB12 : Hid (Bits (S1 ++ S2)) := B12
  clear D1 D2 B12 hS1 hS2 hB1 hB2 hb1 hb2
  go_wp2_with fail
  go_loopw [12, 13] (fun t i wv => ∃ (m : Nat) (T : ByteArray), m ≤ 100 ∧ m ≤ bh.size ∧ i = .int .i64 m ∧ t = .string T ∧ T.size = m ∧ Bits T ∧ Below w.heap.size w wv) (fun _ i _ => 100 - (intOf i).toNat)
  case atStart => exact ⟨0, ⟨#[]⟩, by omega, by omega, rfl, rfl, rfl, fun c hc => absurd hc (by simp), hbw⟩
  case round =>
    clear hbw
    obtain ⟨m, T, hm1, hm2, rfl, rfl, hTs, hT, hb3⟩ := hrel
    have HT : Hid (Bits T) := hT
    clear hT
    by_cases hlt : m < bh.size ∧ m < 100
    · obtain ⟨h1, h2⟩ := hlt
      obtain ⟨d, hd, hd1⟩ : ∃ d : Nat, ((bh[m].toNat : Nat) : Int) % 2 = d ∧ d ≤ 1 := ⟨bh[m].toNat % 2, by omega, by omega⟩
      go_wp2
      go_roundw
      case rel => exact ⟨m + 1, _, by omega, by omega, by go_num, rfl, by rw [ByteArray.size_append, one_size, hTs], str2 T d hd1 HT.out, hb3.alloc hb3.size _⟩
      case measure => simp [intOf]; omega
    · have hsz : (S1 ++ S2 ++ T).size ≤ 100000 := by rw [ByteArray.size_append, ByteArray.size_append, hz1, hz2, hTs]; omega
      have E1 : ∀ w, Calls Try.prog 7 #[.int .i64 2, .string (S1 ++ S2 ++ T)] w fun e w' => e = .returned (.tuple #[.int .i64 (a - b : Int), .int .i64 (T1 + T2 : Int), .int .i64 0]) ∧ Below w.heap.size w w' :=
        fun w => draw_hit 2 (S1 ++ S2 ++ T) w (by unfold KOk; omega) hsz (HB12.out.app HT.out) a b T1 T2 (HD1.out T) HZ1.out HZ2.out
      have hse : ((S1 ++ S2).extract 0 (T1 + T2 - 1)).size ≤ 100000 := by rw [← size_data, Lib.extract_data, List.length_take]; omega
      have E2 : ∀ w, Calls Try.prog 7 #[.int .i64 2, .string ((S1 ++ S2).extract 0 (T1 + T2 - 1))] w fun e w' => e = .returned (.tuple #[.int .i64 0, .int .i64 0, .int .i64 2]) ∧ Below w.heap.size w w' :=
        fun w => draw_miss 2 _ w (by unfold KOk; omega) hse (HB12.out.ext _ _) (HD2.out _ (by omega))
      have HE : Hid (m < bh.size → ¬ m < 100) := fun h1 h2 => hlt ⟨h1, h2⟩
      clear hlt hsz hse
      by_cases h1 : m < bh.size
      · have h2 : ¬ m < 100 := HE.out h1
        go_wp2_with fail
        refine (E1 _).mono ?_
        rintro e w3 ⟨rfl, hb4⟩
        go_wp2_with fail
        refine (E2 _).mono ?_
        rintro e w4 ⟨rfl, hb5⟩
        clear E1 E2
        go_wp2
        go_ret
        exact ⟨rfl, hb3.trans ((hb4.trans (hb5.mono hb4.size)).mono hb3.size)⟩
      · go_wp2_with fail
        refine (E1 _).mono ?_
        rintro e w3 ⟨rfl, hb4⟩
        go_wp2_with fail
        refine (E2 _).mono ?_
        rintro e w4 ⟨rfl, hb5⟩
        clear E1 E2
        go_wp2
        go_ret
        exact ⟨rfl, hb3.trans ((hb4.trans (hb5.mono hb4.size)).mono hb3.size)⟩

set_option maxHeartbeats 1000000 in
theorem drawn_3 (kc ac bc : Int) (a b : Nat) (raw : Value) (bh : ByteArray) (w : World) (hbh : bh.size ≤ 9223372036854775807) (ha : a < 100) (hb : b < 100)
    (HK : ∀ w, Calls Try.prog 5 #[.int .i64 kc, .int .i64 4] w fun e w' => e = .returned (.int .i64 2) ∧ w = w')
    (HA : ∀ w, Calls Try.prog 5 #[.int .i64 ac, .int .i64 100] w fun e w' => e = .returned (.int .i64 a) ∧ w = w')
    (HB : ∀ w, Calls Try.prog 5 #[.int .i64 bc, .int .i64 100] w fun e w' => e = .returned (.int .i64 b) ∧ w = w')
    (HT1 : Calls Try.prog 6 #[.int .i64 3, .int .i64 a, raw, .int .i64 0] w fun e w' => TrialEnd 3 a e ∧ Below w.heap.size w w')
    (HT2 : ∀ w1, Below w.heap.size w w1 → Calls Try.prog 6 #[.int .i64 3, .int .i64 b, raw, .int .i64 a] w1 fun e w' => TrialEnd 3 b e ∧ Below w1.heap.size w1 w') :
    Calls Try.prog 3 #[.int .i64 kc, .int .i64 ac, .int .i64 bc, raw, .string bh] w fun e w' => e = .returned (.bool true) ∧ Below w.heap.size w w' := by
  go_enter Try.func3, Try.ntmps3
  go_wp2_with fail
  refine (HK _).mono ?_
  rintro e w1 ⟨rfl, rfl⟩
  go_wp2_with fail
  refine (HA _).mono ?_
  rintro e w1 ⟨rfl, rfl⟩
  go_wp2_with fail
  refine (HB _).mono ?_
  rintro e w1 ⟨rfl, rfl⟩
  go_wp2_with fail
  refine HT1.mono ?_
  rintro e w1 ⟨⟨S1, l1, hB1, hS1, rfl⟩, hb1⟩
  go_wp2_with fail
  refine (HT2 _ hb1).mono ?_
  rintro e w2 ⟨⟨S2, l2, hB2, hS2, rfl⟩, hb2⟩
  clear HK HA HB HT1 HT2
  obtain ⟨T1, HZ1, hT1, hT1', hz1⟩ : ∃ T1 : Nat, Hid ((a + 1) * 3 = T1) ∧ T1 ≤ 400 ∧ 1 ≤ T1 ∧ S1.size = T1 := ⟨(a + 1) * 3, rfl, by omega, by omega, trial_size hB1 hS1⟩
  obtain ⟨T2, HZ2, hT2, hT2', hz2⟩ : ∃ T2 : Nat, Hid ((b + 1) * 3 = T2) ∧ T2 ≤ 400 ∧ 1 ≤ T2 ∧ S2.size = T2 := ⟨(b + 1) * 3, rfl, by omega, by omega, trial_size hB2 hS2⟩
  have hcv := conv1
  have hs1 := one_size
  have hbw : Below w.heap.size w w2 := hb1.trans (hb2.mono hb1.size)
  have D1 := fun T : ByteArray => two_trials hB1 hS1 hB2 hS2 T
  have D2 := fun n (h : n + 1 = S1.size + S2.size) => one_less (by omega) hB1 hS1 hB2 hS2 n h
  have B12 : Bits (S1 ++ S2) := (trial_bits hB1 hS1).app (trial_bits hB2 hS2)
  have HD1 : Hid (∀ T : ByteArray, Drw 3 (S1 ++ S2 ++ T).data.toList a b) := D1
  have HD2 : Hid (∀ n, n + 1 = S1.size + S2.size → NoDrw 3 ((S1 ++ S2).extract 0 n).data.toList) := D2
  have HB12 : Hid (Bits (S1 ++ S2)) := B12
  clear D1 D2 B12 hS1 hS2 hB1 hB2 hb1 hb2
  go_wp2_with fail
  go_loopw [12, 13] (fun t i wv => ∃ (m : Nat) (T : ByteArray), m ≤ 100 ∧ m ≤ bh.size ∧ i = .int .i64 m ∧ t = .string T ∧ T.size = m ∧ Bits T ∧ Below w.heap.size w wv) (fun _ i _ => 100 - (intOf i).toNat)
  case atStart => exact ⟨0, ⟨#[]⟩, by omega, by omega, rfl, rfl, rfl, fun c hc => absurd hc (by simp), hbw⟩
  case round =>
    clear hbw
    obtain ⟨m, T, hm1, hm2, rfl, rfl, hTs, hT, hb3⟩ := hrel
    have HT : Hid (Bits T) := hT
    clear hT
    by_cases hlt : m < bh.size ∧ m < 100
    · obtain ⟨h1, h2⟩ := hlt
      obtain ⟨d, hd, hd1⟩ : ∃ d : Nat, ((bh[m].toNat : Nat) : Int) % 2 = d ∧ d ≤ 1 := ⟨bh[m].toNat % 2, by omega, by omega⟩
      go_wp2
      go_roundw
      case rel => exact ⟨m + 1, _, by omega, by omega, by go_num, rfl, by rw [ByteArray.size_append, one_size, hTs], str2 T d hd1 HT.out, hb3.alloc hb3.size _⟩
      case measure => simp [intOf]; omega
    · have hsz : (S1 ++ S2 ++ T).size ≤ 100000 := by rw [ByteArray.size_append, ByteArray.size_append, hz1, hz2, hTs]; omega
      have E1 : ∀ w, Calls Try.prog 7 #[.int .i64 3, .string (S1 ++ S2 ++ T)] w fun e w' => e = .returned (.tuple #[.int .i64 (a - b : Int), .int .i64 (T1 + T2 : Int), .int .i64 0]) ∧ Below w.heap.size w w' :=
        fun w => draw_hit 3 (S1 ++ S2 ++ T) w (by unfold KOk; omega) hsz (HB12.out.app HT.out) a b T1 T2 (HD1.out T) HZ1.out HZ2.out
      have hse : ((S1 ++ S2).extract 0 (T1 + T2 - 1)).size ≤ 100000 := by rw [← size_data, Lib.extract_data, List.length_take]; omega
      have E2 : ∀ w, Calls Try.prog 7 #[.int .i64 3, .string ((S1 ++ S2).extract 0 (T1 + T2 - 1))] w fun e w' => e = .returned (.tuple #[.int .i64 0, .int .i64 0, .int .i64 2]) ∧ Below w.heap.size w w' :=
        fun w => draw_miss 3 _ w (by unfold KOk; omega) hse (HB12.out.ext _ _) (HD2.out _ (by omega))
      have HE : Hid (m < bh.size → ¬ m < 100) := fun h1 h2 => hlt ⟨h1, h2⟩
      clear hlt hsz hse
      by_cases h1 : m < bh.size
      · have h2 : ¬ m < 100 := HE.out h1
        go_wp2_with fail
        refine (E1 _).mono ?_
        rintro e w3 ⟨rfl, hb4⟩
        go_wp2_with fail
        refine (E2 _).mono ?_
        rintro e w4 ⟨rfl, hb5⟩
        clear E1 E2
        go_wp2
        go_ret
        exact ⟨rfl, hb3.trans ((hb4.trans (hb5.mono hb4.size)).mono hb3.size)⟩
      · go_wp2_with fail
        refine (E1 _).mono ?_
        rintro e w3 ⟨rfl, hb4⟩
        go_wp2_with fail
        refine (E2 _).mono ?_
        rintro e w4 ⟨rfl, hb5⟩
        clear E1 E2
        go_wp2
        go_ret
        exact ⟨rfl, hb3.trans ((hb4.trans (hb5.mono hb4.size)).mono hb3.size)⟩

set_option maxHeartbeats 1000000 in
theorem drawn_4 (kc ac bc : Int) (a b : Nat) (raw : Value) (bh : ByteArray) (w : World) (hbh : bh.size ≤ 9223372036854775807) (ha : a < 100) (hb : b < 100)
    (HK : ∀ w, Calls Try.prog 5 #[.int .i64 kc, .int .i64 4] w fun e w' => e = .returned (.int .i64 3) ∧ w = w')
    (HA : ∀ w, Calls Try.prog 5 #[.int .i64 ac, .int .i64 100] w fun e w' => e = .returned (.int .i64 a) ∧ w = w')
    (HB : ∀ w, Calls Try.prog 5 #[.int .i64 bc, .int .i64 100] w fun e w' => e = .returned (.int .i64 b) ∧ w = w')
    (HT1 : Calls Try.prog 6 #[.int .i64 4, .int .i64 a, raw, .int .i64 0] w fun e w' => TrialEnd 4 a e ∧ Below w.heap.size w w')
    (HT2 : ∀ w1, Below w.heap.size w w1 → Calls Try.prog 6 #[.int .i64 4, .int .i64 b, raw, .int .i64 a] w1 fun e w' => TrialEnd 4 b e ∧ Below w1.heap.size w1 w') :
    Calls Try.prog 3 #[.int .i64 kc, .int .i64 ac, .int .i64 bc, raw, .string bh] w fun e w' => e = .returned (.bool true) ∧ Below w.heap.size w w' := by
  go_enter Try.func3, Try.ntmps3
  go_wp2_with fail
  refine (HK _).mono ?_
  rintro e w1 ⟨rfl, rfl⟩
  go_wp2_with fail
  refine (HA _).mono ?_
  rintro e w1 ⟨rfl, rfl⟩
  go_wp2_with fail
  refine (HB _).mono ?_
  rintro e w1 ⟨rfl, rfl⟩
  go_wp2_with fail
  refine HT1.mono ?_
  rintro e w1 ⟨⟨S1, l1, hB1, hS1, rfl⟩, hb1⟩
  go_wp2_with fail
  refine (HT2 _ hb1).mono ?_
  rintro e w2 ⟨⟨S2, l2, hB2, hS2, rfl⟩, hb2⟩
  clear HK HA HB HT1 HT2
  obtain ⟨T1, HZ1, hT1, hT1', hz1⟩ : ∃ T1 : Nat, Hid ((a + 1) * 4 = T1) ∧ T1 ≤ 400 ∧ 1 ≤ T1 ∧ S1.size = T1 := ⟨(a + 1) * 4, rfl, by omega, by omega, trial_size hB1 hS1⟩
  obtain ⟨T2, HZ2, hT2, hT2', hz2⟩ : ∃ T2 : Nat, Hid ((b + 1) * 4 = T2) ∧ T2 ≤ 400 ∧ 1 ≤ T2 ∧ S2.size = T2 := ⟨(b + 1) * 4, rfl, by omega, by omega, trial_size hB2 hS2⟩
  have hcv := conv1
  have hs1 := one_size
  have hbw : Below w.heap.size w w2 := hb1.trans (hb2.mono hb1.size)
  have D1 := fun T : ByteArray => two_trials hB1 hS1 hB2 hS2 T
  have D2 := fun n (h : n + 1 = S1.size + S2.size) => one_less (by omega) hB1 hS1 hB2 hS2 n h
  have B12 : Bits (S1 ++ S2) := (trial_bits hB1 hS1).app (trial_bits hB2 hS2)
  have HD1 : Hid (∀ T : ByteArray, Drw 4 (S1 ++ S2 ++ T).data.toList a b) := D1
  have HD2 : Hid (∀ n, n + 1 = S1.size + S2.size → NoDrw 4 ((S1 ++ S2).extract 0 n).data.toList) := D2
  have HB12 : Hid (Bits (S1 ++ S2)) := B12
  clear D1 D2 B12 hS1 hS2 hB1 hB2 hb1 hb2
  go_wp2_with fail
  go_loopw [12, 13] (fun t i wv => ∃ (m : Nat) (T : ByteArray), m ≤ 100 ∧ m ≤ bh.size ∧ i = .int .i64 m ∧ t = .string T ∧ T.size = m ∧ Bits T ∧ Below w.heap.size w wv) (fun _ i _ => 100 - (intOf i).toNat)
  case atStart => exact ⟨0, ⟨#[]⟩, by omega, by omega, rfl, rfl, rfl, fun c hc => absurd hc (by simp), hbw⟩
  case round =>
    clear hbw
    obtain ⟨m, T, hm1, hm2, rfl, rfl, hTs, hT, hb3⟩ := hrel
    have HT : Hid (Bits T) := hT
    clear hT
    by_cases hlt : m < bh.size ∧ m < 100
    · obtain ⟨h1, h2⟩ := hlt
      obtain ⟨d, hd, hd1⟩ : ∃ d : Nat, ((bh[m].toNat : Nat) : Int) % 2 = d ∧ d ≤ 1 := ⟨bh[m].toNat % 2, by omega, by omega⟩
      go_wp2
      go_roundw
      case rel => exact ⟨m + 1, _, by omega, by omega, by go_num, rfl, by rw [ByteArray.size_append, one_size, hTs], str2 T d hd1 HT.out, hb3.alloc hb3.size _⟩
      case measure => simp [intOf]; omega
    · have hsz : (S1 ++ S2 ++ T).size ≤ 100000 := by rw [ByteArray.size_append, ByteArray.size_append, hz1, hz2, hTs]; omega
      have E1 : ∀ w, Calls Try.prog 7 #[.int .i64 4, .string (S1 ++ S2 ++ T)] w fun e w' => e = .returned (.tuple #[.int .i64 (a - b : Int), .int .i64 (T1 + T2 : Int), .int .i64 0]) ∧ Below w.heap.size w w' :=
        fun w => draw_hit 4 (S1 ++ S2 ++ T) w (by unfold KOk; omega) hsz (HB12.out.app HT.out) a b T1 T2 (HD1.out T) HZ1.out HZ2.out
      have hse : ((S1 ++ S2).extract 0 (T1 + T2 - 1)).size ≤ 100000 := by rw [← size_data, Lib.extract_data, List.length_take]; omega
      have E2 : ∀ w, Calls Try.prog 7 #[.int .i64 4, .string ((S1 ++ S2).extract 0 (T1 + T2 - 1))] w fun e w' => e = .returned (.tuple #[.int .i64 0, .int .i64 0, .int .i64 2]) ∧ Below w.heap.size w w' :=
        fun w => draw_miss 4 _ w (by unfold KOk; omega) hse (HB12.out.ext _ _) (HD2.out _ (by omega))
      have HE : Hid (m < bh.size → ¬ m < 100) := fun h1 h2 => hlt ⟨h1, h2⟩
      clear hlt hsz hse
      by_cases h1 : m < bh.size
      · have h2 : ¬ m < 100 := HE.out h1
        go_wp2_with fail
        refine (E1 _).mono ?_
        rintro e w3 ⟨rfl, hb4⟩
        go_wp2_with fail
        refine (E2 _).mono ?_
        rintro e w4 ⟨rfl, hb5⟩
        clear E1 E2
        go_wp2
        go_ret
        exact ⟨rfl, hb3.trans ((hb4.trans (hb5.mono hb4.size)).mono hb3.size)⟩
      · go_wp2_with fail
        refine (E1 _).mono ?_
        rintro e w3 ⟨rfl, hb4⟩
        go_wp2_with fail
        refine (E2 _).mono ?_
        rintro e w4 ⟨rfl, hb5⟩
        clear E1 E2
        go_wp2
        go_ret
        exact ⟨rfl, hb3.trans ((hb4.trans (hb5.mono hb4.size)).mono hb3.size)⟩

end Go.Proofs.Ytfollcnmobhggaa
