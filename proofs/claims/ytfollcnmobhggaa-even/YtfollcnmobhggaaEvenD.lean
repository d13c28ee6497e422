/-
  The walk of Even, at some lengths.
-/
import Derived.Test.YtfollcnmobhggaaRow
namespace Go.Proofs.Ytfollcnmobhggaa
open Go.RowKit

set_option maxRecDepth 100000 in
set_option maxHeartbeats 1000000 in
theorem even_walk_2_7 (kc lc : Int) (w : World)
    (HK : ∀ w, Calls Try.prog 5 #[.int .i64 kc, .int .i64 2] w fun e w' => e = .returned (.int .i64 1) ∧ w = w')
    (HL : ∀ w, Calls Try.prog 5 #[.int .i64 lc, .int .i64 6] w fun e w' => e = .returned (.int .i64 3) ∧ w = w') :
    Calls Try.prog 4 #[.int .i64 kc, .int .i64 lc] w fun e w' => e = .returned (.bool true) ∧ Below w.heap.size w w' := by
  have hcv := conv1
  have hs1 := one_size
  have hmk := mk41
  go_enter Try.func4, Try.ntmps4
  go_wp2_with fail
  refine (HK _).mono ?_
  rintro e w1 ⟨rfl, rfl⟩
  go_wp2_with fail
  refine (HL _).mono ?_
  rintro e w1 ⟨rfl, rfl⟩
  clear HK HL
  go_wp2_with fail
  go_loopw [7, 8, 9, 10, 11, 12, 13] (fun so cc _ _ _ _ _ wr => ∃ c : Nat, c ≤ 128 ∧ cc = .int .i64 c ∧ so = .int .i64 ((difs 2 7 c).length : Nat) ∧ Row w.heap.size (cnt 2 7 c) wr ∧ Below w.heap.size w wr) (fun _ cc _ _ _ _ _ _ => 128 - (intOf cc).toNat)
  case atStart => exact ⟨0, by omega, rfl, rfl, (made_row w).ext (fun i => rfl), (Below.refl _ _).alloc (Nat.le_refl _) _⟩
  case round =>
    clear hmk
    obtain ⟨c, hc, rfl, rfl, hR, hb⟩ := hrel
    have HR : Hid (Row w.heap.size (cnt 2 7 c) wr) := hR
    have hBs : w.heap.size < wr.heap.size := hR.1
    clear hR
    have hle := difs_le 2 7 c
    obtain ⟨L, hL⟩ : ∃ L, (difs 2 7 c).length = L := ⟨_, rfl⟩
    rw [hL] at hle ⊢
    have HL : Hid ((difs 2 7 c).length = L) := hL
    clear hL
    by_cases hlt : c < 128
    · go_wp2
      go_loopw [9, 10] (fun s j wv => ∃ (m : Nat) (S : ByteArray), m ≤ 7 ∧ j = .int .i64 m ∧ s = .string S ∧ S.data.toList = bitsUp c m ∧ Below wr.heap.size wr wv) (fun _ j _ => 7 - (intOf j).toNat)
      case atStart => exact ⟨0, ⟨#[]⟩, by omega, rfl, rfl, rfl, Below.refl _ _⟩
      case round =>
        obtain ⟨m, S, hm, rfl, rfl, hS, hb2⟩ := hrel
        have hsz : S.size = m := by rw [← size_data, hS, bitsUp_length]
        have HS : Hid (S.data.toList = bitsUp c m) := hS
        clear hS
        by_cases hlt2 : m < 7
        · obtain ⟨d, hd, hd1, hand⟩ := bit_and c m (by omega)
          have HD : Hid (c / 2 ^ m % 2 = d) := hd
          clear hd
          go_wp2
          go_roundw
          case rel => exact ⟨m + 1, _, by omega, by go_num, rfl, by rw [str1 _ c m d HD.out, HS.out, bitsUp_succ], hb2.alloc hb2.size _⟩
          case measure => simp [intOf]; omega
        · have e2 : m = 7 := by omega
          subst e2
          have hbit : Bits S := by intro x hx; rw [HS.out] at hx; exact bitsUp_bits _ _ x hx
          rcases drw_spec 2 (by omega) (bitsUp c 7) with ⟨p, q, hpq, hD⟩ | ⟨hno, hD⟩
          · have hdif : dif 2 7 c = some (20 + p - q) := by unfold dif; rw [hpq]
            obtain ⟨T1, hT1⟩ : ∃ T1, (p + 1) * 2 = T1 := ⟨_, rfl⟩
            obtain ⟨T2, hT2⟩ : ∃ T2, (q + 1) * 2 = T2 := ⟨_, rfl⟩
            have hbd := hD.bound
            rw [bitsUp_length, hT1, hT2] at hbd
            have E1 : ∀ w, Calls Try.prog 7 #[.int .i64 2, .string S] w fun e w' => e = .returned (.tuple #[.int .i64 (p - q : Int), .int .i64 (T1 + T2 : Int), .int .i64 0]) ∧ Below w.heap.size w w' :=
              fun w => draw_hit 2 S w (by unfold KOk; omega) (by omega) hbit p q T1 T2 (by rw [HS.out]; exact hD) hT1 hT2
            have hp1 : p < T1 := by omega
            have hq1 : q < T2 := by omega
            have hlo : 4 ≤ T1 + T2 := by omega
            have HDIF : Hid (dif 2 7 c = some (20 + p - q)) := hdif
            clear hT1 hT2 hD hpq hdif hbit
            go_wp2_with fail
            refine (E1 _).mono ?_
            rintro e w3 ⟨rfl, hb3⟩
            clear E1
            have hR3 : Row w.heap.size (cnt 2 7 c) w3 := (HR.out.below hb2).below hb3
            have HR3 : Hid (Row w.heap.size (cnt 2 7 c) w3) := hR3
            obtain ⟨d, hd, hd2⟩ : ∃ d : Nat, d = 20 + p - q ∧ d < 41 := ⟨_, rfl, by omega⟩
            have hdi : (20 + ((p : Int) - (q : Int))) = (d : Int) := by omega
            have hcell := (hR3.2 d hd2).1
            have hfro := (hR3.2 d hd2).2
            have hcl := cnt_le 2 7 c d
            obtain ⟨x, hx⟩ : ∃ x, cnt 2 7 c d = x := ⟨_, rfl⟩
            rw [hx] at hcell hcl
            have HX : Hid (cnt 2 7 c d = x) := hx
            have HDE : Hid (d = 20 + p - q) := hd
            clear hx hd hR3
            have hset := HR3.out.set d hd2 (g := cnt 2 7 (c + 1)) (by rw [HDE.out]; exact cnt_same HDIF.out) (fun i hi => cnt_other HDIF.out (by rw [HDE.out] at hi; exact hi))
            rw [HX.out] at hset
            have HSET : Hid (Row w.heap.size (cnt 2 7 (c + 1)) (w3.setCell ⟨w.heap.size, d, none⟩ (.int .i64 ((x : Int) + 1)))) := hset
            clear hset
            go_wp2
            go_roundw
            case rel => exact ⟨c + 1, by omega, by go_num, by rw [difs_some HDIF.out, List.length_append, HL.out]; go_num, HSET.out, (hb.trans ((hb2.trans (hb3.mono hb2.size)).mono hb.size)).setCell (Nat.le_refl _) _⟩
            case measure => simp [intOf]; omega
          · have hdif : dif 2 7 c = none := by unfold dif; rw [hno]
            have E1 : ∀ w, Calls Try.prog 7 #[.int .i64 2, .string S] w fun e w' => e = .returned (.tuple #[.int .i64 0, .int .i64 0, .int .i64 2]) ∧ Below w.heap.size w w' :=
              fun w => draw_miss 2 S w (by unfold KOk; omega) (by omega) hbit (by rw [HS.out]; exact hD)
            have HDIF : Hid (dif 2 7 c = none) := hdif
            clear hD hno hdif hbit
            go_wp2_with fail
            refine (E1 _).mono ?_
            rintro e w3 ⟨rfl, hb3⟩
            clear E1
            go_wp2
            go_roundw
            case rel => exact ⟨c + 1, by omega, by go_num, by rw [difs_none HDIF.out, HL.out], ((HR.out.below hb2).below hb3).ext (cnt_none HDIF.out), hb.trans ((hb2.trans (hb3.mono hb2.size)).mono hb.size)⟩
            case measure => simp [intOf]; omega
    · have e1 : c = 128 := by omega
      subst e1
      have hev := even_2_7
      have hpos := evenB_len hev
      rw [HL.out] at hpos
      have HS : Hid (∀ z, 1 ≤ z → z ≤ 20 → cnt 2 7 128 (20 + z) = cnt 2 7 128 (20 - z)) := evenB_sides hev
      have hmid : 0 < cnt 2 7 128 20 := evenB_mid hev
      have HM : Hid (0 < cnt 2 7 128 20) := hmid
      clear hev hmid
      go_wp2
      go_loopw [14] (fun zz wv => ∃ z : Nat, 1 ≤ z ∧ z ≤ 21 ∧ zz = .int .i64 z ∧ Row w.heap.size (cnt 2 7 128) wv ∧ Below w.heap.size w wv) (fun zz _ => 21 - (intOf zz).toNat)
      case atStart => exact ⟨1, by omega, by omega, rfl, HR.out, hb⟩
      case round =>
        obtain ⟨z, hz1, hz2, rfl, hR, hb2⟩ := hrel
        by_cases hlt2 : z ≤ 20
        · obtain ⟨u1, hu1, hu1'⟩ : ∃ u : Nat, (20 + (z : Int)) = (u : Int) ∧ u = 20 + z := ⟨20 + z, by omega, rfl⟩
          obtain ⟨u2, hu2, hu2'⟩ : ∃ u : Nat, (20 - (z : Int)) = (u : Int) ∧ u = 20 - z := ⟨20 - z, by omega, rfl⟩
          have hc1 := (hR.2 u1 (by omega)).1
          have hc2 := (hR.2 u2 (by omega)).1
          have hsame : cnt 2 7 128 u1 = cnt 2 7 128 u2 := by rw [hu1', hu2']; exact HS.out z hz1 hlt2
          rw [hsame] at hc1
          obtain ⟨x, hx⟩ : ∃ x, cnt 2 7 128 u2 = x := ⟨_, rfl⟩
          rw [hx] at hc1 hc2
          have hul : u1 < 41 := by omega
          have hul2 : u2 < 41 := by omega
          have HR2 : Hid (Row w.heap.size (cnt 2 7 128) wr) := hR
          clear hx hsame hu1' hu2' hR
          go_wp2
          go_quiet (fail)
          go_wp2
          go_roundw
          case rel => exact ⟨z + 1, by omega, by omega, by go_num, HR2.out.below (below_drewN (Below.refl _ _) _), below_drewN hb2 _⟩
          case measure => simp [intOf]; omega
        · have hc20 := (hR.2 20 (by omega)).1
          have hm := HM.out
          obtain ⟨x, hx⟩ : ∃ x, cnt 2 7 128 20 = x := ⟨_, rfl⟩
          rw [hx] at hc20 hm
          clear hx hR
          go_wp2
          go_ret
          exact ⟨rfl, hb2⟩

set_option maxRecDepth 100000 in
set_option maxHeartbeats 1000000 in
theorem even_walk_2_8 (kc lc : Int) (w : World)
    (HK : ∀ w, Calls Try.prog 5 #[.int .i64 kc, .int .i64 2] w fun e w' => e = .returned (.int .i64 1) ∧ w = w')
    (HL : ∀ w, Calls Try.prog 5 #[.int .i64 lc, .int .i64 6] w fun e w' => e = .returned (.int .i64 4) ∧ w = w') :
    Calls Try.prog 4 #[.int .i64 kc, .int .i64 lc] w fun e w' => e = .returned (.bool true) ∧ Below w.heap.size w w' := by
  have hcv := conv1
  have hs1 := one_size
  have hmk := mk41
  go_enter Try.func4, Try.ntmps4
  go_wp2_with fail
  refine (HK _).mono ?_
  rintro e w1 ⟨rfl, rfl⟩
  go_wp2_with fail
  refine (HL _).mono ?_
  rintro e w1 ⟨rfl, rfl⟩
  clear HK HL
  go_wp2_with fail
  go_loopw [7, 8, 9, 10, 11, 12, 13] (fun so cc _ _ _ _ _ wr => ∃ c : Nat, c ≤ 256 ∧ cc = .int .i64 c ∧ so = .int .i64 ((difs 2 8 c).length : Nat) ∧ Row w.heap.size (cnt 2 8 c) wr ∧ Below w.heap.size w wr) (fun _ cc _ _ _ _ _ _ => 256 - (intOf cc).toNat)
  case atStart => exact ⟨0, by omega, rfl, rfl, (made_row w).ext (fun i => rfl), (Below.refl _ _).alloc (Nat.le_refl _) _⟩
  case round =>
    clear hmk
    obtain ⟨c, hc, rfl, rfl, hR, hb⟩ := hrel
    have HR : Hid (Row w.heap.size (cnt 2 8 c) wr) := hR
    have hBs : w.heap.size < wr.heap.size := hR.1
    clear hR
    have hle := difs_le 2 8 c
    obtain ⟨L, hL⟩ : ∃ L, (difs 2 8 c).length = L := ⟨_, rfl⟩
    rw [hL] at hle ⊢
    have HL : Hid ((difs 2 8 c).length = L) := hL
    clear hL
    by_cases hlt : c < 256
    · go_wp2
      go_loopw [9, 10] (fun s j wv => ∃ (m : Nat) (S : ByteArray), m ≤ 8 ∧ j = .int .i64 m ∧ s = .string S ∧ S.data.toList = bitsUp c m ∧ Below wr.heap.size wr wv) (fun _ j _ => 8 - (intOf j).toNat)
      case atStart => exact ⟨0, ⟨#[]⟩, by omega, rfl, rfl, rfl, Below.refl _ _⟩
      case round =>
        obtain ⟨m, S, hm, rfl, rfl, hS, hb2⟩ := hrel
        have hsz : S.size = m := by rw [← size_data, hS, bitsUp_length]
        have HS : Hid (S.data.toList = bitsUp c m) := hS
        clear hS
        by_cases hlt2 : m < 8
        · obtain ⟨d, hd, hd1, hand⟩ := bit_and c m (by omega)
          have HD : Hid (c / 2 ^ m % 2 = d) := hd
          clear hd
          go_wp2
          go_roundw
          case rel => exact ⟨m + 1, _, by omega, by go_num, rfl, by rw [str1 _ c m d HD.out, HS.out, bitsUp_succ], hb2.alloc hb2.size _⟩
          case measure => simp [intOf]; omega
        · have e2 : m = 8 := by omega
          subst e2
          have hbit : Bits S := by intro x hx; rw [HS.out] at hx; exact bitsUp_bits _ _ x hx
          rcases drw_spec 2 (by omega) (bitsUp c 8) with ⟨p, q, hpq, hD⟩ | ⟨hno, hD⟩
          · have hdif : dif 2 8 c = some (20 + p - q) := by unfold dif; rw [hpq]
            obtain ⟨T1, hT1⟩ : ∃ T1, (p + 1) * 2 = T1 := ⟨_, rfl⟩
            obtain ⟨T2, hT2⟩ : ∃ T2, (q + 1) * 2 = T2 := ⟨_, rfl⟩
            have hbd := hD.bound
            rw [bitsUp_length, hT1, hT2] at hbd
            have E1 : ∀ w, Calls Try.prog 7 #[.int .i64 2, .string S] w fun e w' => e = .returned (.tuple #[.int .i64 (p - q : Int), .int .i64 (T1 + T2 : Int), .int .i64 0]) ∧ Below w.heap.size w w' :=
              fun w => draw_hit 2 S w (by unfold KOk; omega) (by omega) hbit p q T1 T2 (by rw [HS.out]; exact hD) hT1 hT2
            have hp1 : p < T1 := by omega
            have hq1 : q < T2 := by omega
            have hlo : 4 ≤ T1 + T2 := by omega
            have HDIF : Hid (dif 2 8 c = some (20 + p - q)) := hdif
            clear hT1 hT2 hD hpq hdif hbit
            go_wp2_with fail
            refine (E1 _).mono ?_
            rintro e w3 ⟨rfl, hb3⟩
            clear E1
            have hR3 : Row w.heap.size (cnt 2 8 c) w3 := (HR.out.below hb2).below hb3
            have HR3 : Hid (Row w.heap.size (cnt 2 8 c) w3) := hR3
            obtain ⟨d, hd, hd2⟩ : ∃ d : Nat, d = 20 + p - q ∧ d < 41 := ⟨_, rfl, by omega⟩
            have hdi : (20 + ((p : Int) - (q : Int))) = (d : Int) := by omega
            have hcell := (hR3.2 d hd2).1
            have hfro := (hR3.2 d hd2).2
            have hcl := cnt_le 2 8 c d
            obtain ⟨x, hx⟩ : ∃ x, cnt 2 8 c d = x := ⟨_, rfl⟩
            rw [hx] at hcell hcl
            have HX : Hid (cnt 2 8 c d = x) := hx
            have HDE : Hid (d = 20 + p - q) := hd
            clear hx hd hR3
            have hset := HR3.out.set d hd2 (g := cnt 2 8 (c + 1)) (by rw [HDE.out]; exact cnt_same HDIF.out) (fun i hi => cnt_other HDIF.out (by rw [HDE.out] at hi; exact hi))
            rw [HX.out] at hset
            have HSET : Hid (Row w.heap.size (cnt 2 8 (c + 1)) (w3.setCell ⟨w.heap.size, d, none⟩ (.int .i64 ((x : Int) + 1)))) := hset
            clear hset
            go_wp2
            go_roundw
            case rel => exact ⟨c + 1, by omega, by go_num, by rw [difs_some HDIF.out, List.length_append, HL.out]; go_num, HSET.out, (hb.trans ((hb2.trans (hb3.mono hb2.size)).mono hb.size)).setCell (Nat.le_refl _) _⟩
            case measure => simp [intOf]; omega
          · have hdif : dif 2 8 c = none := by unfold dif; rw [hno]
            have E1 : ∀ w, Calls Try.prog 7 #[.int .i64 2, .string S] w fun e w' => e = .returned (.tuple #[.int .i64 0, .int .i64 0, .int .i64 2]) ∧ Below w.heap.size w w' :=
              fun w => draw_miss 2 S w (by unfold KOk; omega) (by omega) hbit (by rw [HS.out]; exact hD)
            have HDIF : Hid (dif 2 8 c = none) := hdif
            clear hD hno hdif hbit
            go_wp2_with fail
            refine (E1 _).mono ?_
            rintro e w3 ⟨rfl, hb3⟩
            clear E1
            go_wp2
            go_roundw
            case rel => exact ⟨c + 1, by omega, by go_num, by rw [difs_none HDIF.out, HL.out], ((HR.out.below hb2).below hb3).ext (cnt_none HDIF.out), hb.trans ((hb2.trans (hb3.mono hb2.size)).mono hb.size)⟩
            case measure => simp [intOf]; omega
    · have e1 : c = 256 := by omega
      subst e1
      have hev := even_2_8
      have hpos := evenB_len hev
      rw [HL.out] at hpos
      have HS : Hid (∀ z, 1 ≤ z → z ≤ 20 → cnt 2 8 256 (20 + z) = cnt 2 8 256 (20 - z)) := evenB_sides hev
      have hmid : 0 < cnt 2 8 256 20 := evenB_mid hev
      have HM : Hid (0 < cnt 2 8 256 20) := hmid
      clear hev hmid
      go_wp2
      go_loopw [14] (fun zz wv => ∃ z : Nat, 1 ≤ z ∧ z ≤ 21 ∧ zz = .int .i64 z ∧ Row w.heap.size (cnt 2 8 256) wv ∧ Below w.heap.size w wv) (fun zz _ => 21 - (intOf zz).toNat)
      case atStart => exact ⟨1, by omega, by omega, rfl, HR.out, hb⟩
      case round =>
        obtain ⟨z, hz1, hz2, rfl, hR, hb2⟩ := hrel
        by_cases hlt2 : z ≤ 20
        · obtain ⟨u1, hu1, hu1'⟩ : ∃ u : Nat, (20 + (z : Int)) = (u : Int) ∧ u = 20 + z := ⟨20 + z, by omega, rfl⟩
          obtain ⟨u2, hu2, hu2'⟩ : ∃ u : Nat, (20 - (z : Int)) = (u : Int) ∧ u = 20 - z := ⟨20 - z, by omega, rfl⟩
          have hc1 := (hR.2 u1 (by omega)).1
          have hc2 := (hR.2 u2 (by omega)).1
          have hsame : cnt 2 8 256 u1 = cnt 2 8 256 u2 := by rw [hu1', hu2']; exact HS.out z hz1 hlt2
          rw [hsame] at hc1
          obtain ⟨x, hx⟩ : ∃ x, cnt 2 8 256 u2 = x := ⟨_, rfl⟩
          rw [hx] at hc1 hc2
          have hul : u1 < 41 := by omega
          have hul2 : u2 < 41 := by omega
          have HR2 : Hid (Row w.heap.size (cnt 2 8 256) wr) := hR
          clear hx hsame hu1' hu2' hR
          go_wp2
          go_quiet (fail)
          go_wp2
          go_roundw
          case rel => exact ⟨z + 1, by omega, by omega, by go_num, HR2.out.below (below_drewN (Below.refl _ _) _), below_drewN hb2 _⟩
          case measure => simp [intOf]; omega
        · have hc20 := (hR.2 20 (by omega)).1
          have hm := HM.out
          obtain ⟨x, hx⟩ : ∃ x, cnt 2 8 256 20 = x := ⟨_, rfl⟩
          rw [hx] at hc20 hm
          clear hx hR
          go_wp2
          go_ret
          exact ⟨rfl, hb2⟩

set_option maxRecDepth 100000 in
set_option maxHeartbeats 1000000 in
theorem even_walk_2_9 (kc lc : Int) (w : World)
    (HK : ∀ w, Calls Try.prog 5 #[.int .i64 kc, .int .i64 2] w fun e w' => e = .returned (.int .i64 1) ∧ w = w')
    (HL : ∀ w, Calls Try.prog 5 #[.int .i64 lc, .int .i64 6] w fun e w' => e = .returned (.int .i64 5) ∧ w = w') :
    Calls Try.prog 4 #[.int .i64 kc, .int .i64 lc] w fun e w' => e = .returned (.bool true) ∧ Below w.heap.size w w' := by
  have hcv := conv1
  have hs1 := one_size
  have hmk := mk41
  go_enter Try.func4, Try.ntmps4
  go_wp2_with fail
  refine (HK _).mono ?_
  rintro e w1 ⟨rfl, rfl⟩
  go_wp2_with fail
  refine (HL _).mono ?_
  rintro e w1 ⟨rfl, rfl⟩
  clear HK HL
  go_wp2_with fail
  go_loopw [7, 8, 9, 10, 11, 12, 13] (fun so cc _ _ _ _ _ wr => ∃ c : Nat, c ≤ 512 ∧ cc = .int .i64 c ∧ so = .int .i64 ((difs 2 9 c).length : Nat) ∧ Row w.heap.size (cnt 2 9 c) wr ∧ Below w.heap.size w wr) (fun _ cc _ _ _ _ _ _ => 512 - (intOf cc).toNat)
  case atStart => exact ⟨0, by omega, rfl, rfl, (made_row w).ext (fun i => rfl), (Below.refl _ _).alloc (Nat.le_refl _) _⟩
  case round =>
    clear hmk
    obtain ⟨c, hc, rfl, rfl, hR, hb⟩ := hrel
    have HR : Hid (Row w.heap.size (cnt 2 9 c) wr) := hR
    have hBs : w.heap.size < wr.heap.size := hR.1
    clear hR
    have hle := difs_le 2 9 c
    obtain ⟨L, hL⟩ : ∃ L, (difs 2 9 c).length = L := ⟨_, rfl⟩
    rw [hL] at hle ⊢
    have HL : Hid ((difs 2 9 c).length = L) := hL
    clear hL
    by_cases hlt : c < 512
    · go_wp2
      go_loopw [9, 10] (fun s j wv => ∃ (m : Nat) (S : ByteArray), m ≤ 9 ∧ j = .int .i64 m ∧ s = .string S ∧ S.data.toList = bitsUp c m ∧ Below wr.heap.size wr wv) (fun _ j _ => 9 - (intOf j).toNat)
      case atStart => exact ⟨0, ⟨#[]⟩, by omega, rfl, rfl, rfl, Below.refl _ _⟩
      case round =>
        obtain ⟨m, S, hm, rfl, rfl, hS, hb2⟩ := hrel
        have hsz : S.size = m := by rw [← size_data, hS, bitsUp_length]
        have HS : Hid (S.data.toList = bitsUp c m) := hS
        clear hS
        by_cases hlt2 : m < 9
        · obtain ⟨d, hd, hd1, hand⟩ := bit_and c m (by omega)
          have HD : Hid (c / 2 ^ m % 2 = d) := hd
          clear hd
          go_wp2
          go_roundw
          case rel => exact ⟨m + 1, _, by omega, by go_num, rfl, by rw [str1 _ c m d HD.out, HS.out, bitsUp_succ], hb2.alloc hb2.size _⟩
          case measure => simp [intOf]; omega
        · have e2 : m = 9 := by omega
          subst e2
          have hbit : Bits S := by intro x hx; rw [HS.out] at hx; exact bitsUp_bits _ _ x hx
          rcases drw_spec 2 (by omega) (bitsUp c 9) with ⟨p, q, hpq, hD⟩ | ⟨hno, hD⟩
          · have hdif : dif 2 9 c = some (20 + p - q) := by unfold dif; rw [hpq]
            obtain ⟨T1, hT1⟩ : ∃ T1, (p + 1) * 2 = T1 := ⟨_, rfl⟩
            obtain ⟨T2, hT2⟩ : ∃ T2, (q + 1) * 2 = T2 := ⟨_, rfl⟩
            have hbd := hD.bound
            rw [bitsUp_length, hT1, hT2] at hbd
            have E1 : ∀ w, Calls Try.prog 7 #[.int .i64 2, .string S] w fun e w' => e = .returned (.tuple #[.int .i64 (p - q : Int), .int .i64 (T1 + T2 : Int), .int .i64 0]) ∧ Below w.heap.size w w' :=
              fun w => draw_hit 2 S w (by unfold KOk; omega) (by omega) hbit p q T1 T2 (by rw [HS.out]; exact hD) hT1 hT2
            have hp1 : p < T1 := by omega
            have hq1 : q < T2 := by omega
            have hlo : 4 ≤ T1 + T2 := by omega
            have HDIF : Hid (dif 2 9 c = some (20 + p - q)) := hdif
            clear hT1 hT2 hD hpq hdif hbit
            go_wp2_with fail
            refine (E1 _).mono ?_
            rintro e w3 ⟨rfl, hb3⟩
            clear E1
            have hR3 : Row w.heap.size (cnt 2 9 c) w3 := (HR.out.below hb2).below hb3
            have HR3 : Hid (Row w.heap.size (cnt 2 9 c) w3) := hR3
            obtain ⟨d, hd, hd2⟩ : ∃ d : Nat, d = 20 + p - q ∧ d < 41 := ⟨_, rfl, by omega⟩
            have hdi : (20 + ((p : Int) - (q : Int))) = (d : Int) := by omega
            have hcell := (hR3.2 d hd2).1
            have hfro := (hR3.2 d hd2).2
            have hcl := cnt_le 2 9 c d
            obtain ⟨x, hx⟩ : ∃ x, cnt 2 9 c d = x := ⟨_, rfl⟩
            rw [hx] at hcell hcl
            have HX : Hid (cnt 2 9 c d = x) := hx
            have HDE : Hid (d = 20 + p - q) := hd
            clear hx hd hR3
            have hset := HR3.out.set d hd2 (g := cnt 2 9 (c + 1)) (by rw [HDE.out]; exact cnt_same HDIF.out) (fun i hi => cnt_other HDIF.out (by rw [HDE.out] at hi; exact hi))
            rw [HX.out] at hset
            have HSET : Hid (Row w.heap.size (cnt 2 9 (c + 1)) (w3.setCell ⟨w.heap.size, d, none⟩ (.int .i64 ((x : Int) + 1)))) := hset
            clear hset
            go_wp2
            go_roundw
            case rel => exact ⟨c + 1, by omega, by go_num, by rw [difs_some HDIF.out, List.length_append, HL.out]; go_num, HSET.out, (hb.trans ((hb2.trans (hb3.mono hb2.size)).mono hb.size)).setCell (Nat.le_refl _) _⟩
            case measure => simp [intOf]; omega
          · have hdif : dif 2 9 c = none := by unfold dif; rw [hno]
            have E1 : ∀ w, Calls Try.prog 7 #[.int .i64 2, .string S] w fun e w' => e = .returned (.tuple #[.int .i64 0, .int .i64 0, .int .i64 2]) ∧ Below w.heap.size w w' :=
              fun w => draw_miss 2 S w (by unfold KOk; omega) (by omega) hbit (by rw [HS.out]; exact hD)
            have HDIF : Hid (dif 2 9 c = none) := hdif
            clear hD hno hdif hbit
            go_wp2_with fail
            refine (E1 _).mono ?_
            rintro e w3 ⟨rfl, hb3⟩
            clear E1
            go_wp2
            go_roundw
            case rel => exact ⟨c + 1, by omega, by go_num, by rw [difs_none HDIF.out, HL.out], ((HR.out.below hb2).below hb3).ext (cnt_none HDIF.out), hb.trans ((hb2.trans (hb3.mono hb2.size)).mono hb.size)⟩
            case measure => simp [intOf]; omega
    · have e1 : c = 512 := by omega
      subst e1
      have hev := even_2_9
      have hpos := evenB_len hev
      rw [HL.out] at hpos
      have HS : Hid (∀ z, 1 ≤ z → z ≤ 20 → cnt 2 9 512 (20 + z) = cnt 2 9 512 (20 - z)) := evenB_sides hev
      have hmid : 0 < cnt 2 9 512 20 := evenB_mid hev
      have HM : Hid (0 < cnt 2 9 512 20) := hmid
      clear hev hmid
      go_wp2
      go_loopw [14] (fun zz wv => ∃ z : Nat, 1 ≤ z ∧ z ≤ 21 ∧ zz = .int .i64 z ∧ Row w.heap.size (cnt 2 9 512) wv ∧ Below w.heap.size w wv) (fun zz _ => 21 - (intOf zz).toNat)
      case atStart => exact ⟨1, by omega, by omega, rfl, HR.out, hb⟩
      case round =>
        obtain ⟨z, hz1, hz2, rfl, hR, hb2⟩ := hrel
        by_cases hlt2 : z ≤ 20
        · obtain ⟨u1, hu1, hu1'⟩ : ∃ u : Nat, (20 + (z : Int)) = (u : Int) ∧ u = 20 + z := ⟨20 + z, by omega, rfl⟩
          obtain ⟨u2, hu2, hu2'⟩ : ∃ u : Nat, (20 - (z : Int)) = (u : Int) ∧ u = 20 - z := ⟨20 - z, by omega, rfl⟩
          have hc1 := (hR.2 u1 (by omega)).1
          have hc2 := (hR.2 u2 (by omega)).1
          have hsame : cnt 2 9 512 u1 = cnt 2 9 512 u2 := by rw [hu1', hu2']; exact HS.out z hz1 hlt2
          rw [hsame] at hc1
          obtain ⟨x, hx⟩ : ∃ x, cnt 2 9 512 u2 = x := ⟨_, rfl⟩
          rw [hx] at hc1 hc2
          have hul : u1 < 41 := by omega
          have hul2 : u2 < 41 := by omega
          have HR2 : Hid (Row w.heap.size (cnt 2 9 512) wr) := hR
          clear hx hsame hu1' hu2' hR
          go_wp2
          go_quiet (fail)
          go_wp2
          go_roundw
          case rel => exact ⟨z + 1, by omega, by omega, by go_num, HR2.out.below (below_drewN (Below.refl _ _) _), below_drewN hb2 _⟩
          case measure => simp [intOf]; omega
        · have hc20 := (hR.2 20 (by omega)).1
          have hm := HM.out
          obtain ⟨x, hx⟩ : ∃ x, cnt 2 9 512 20 = x := ⟨_, rfl⟩
          rw [hx] at hc20 hm
          clear hx hR
          go_wp2
          go_ret
          exact ⟨rfl, hb2⟩

end Go.Proofs.Ytfollcnmobhggaa
