/-
  The proof of 'Rows.DrawnSaid': the frame as the guide's program writes it; the walk is filled in.
-/
import Derived.Test.YtfollcnmobhggaaRows
import Derived.Test.YtfollcnmobhggaaDrawn
import Derived.WalkKit
import Derived.ProofKit
import Derived.OpenShut
import Derived.ShutString
import Derived.ChangeOld
import Derived.Below
namespace Go.Proofs.Ytfollcnmobhggaa.drawn
open Go.ChangeShapes Go.WideShapes Go.ChangeAt Go.RowKit
open Go.ChangeMaps (open_string shut_string)
set_option linter.unusedVariables false

theorem own : ownKnob Try.prog.godebug = none := by kernel_rfl
theorem laidOut : laidOutB Try.prog = true := by kernel_rfl

/-- WHAT THE WALK IS TOLD OF A SLICE OF INTEGERS THAT CAME IN: it is nil; or it leads to a row of 'cap' cells, the numbers 'zs' (the first 'len' are its elements, the rest its spare room), each fitting its kind. -/
def IsRow (k : IntKind) (w : World) (a : Option Addr) (len cap : Nat) (zs : List Int) : Prop :=
  (a = none ∧ len = 0 ∧ cap = 0 ∧ zs = []) ∨
  ∃ x, a = some x ∧ len ≤ cap ∧ cap ≤ maxLen ∧ zs.length = cap ∧ (∀ i, i < zs.length → w.cell? (x.add i) = some (.int k (zs.getD i 0))) ∧ ∀ n ∈ zs, (Lit.int k n).wf = true

/-- Trials over a row that came in, in whatever later world. -/
theorem row_trials (k : Nat) (hk : KOk k) (a : Option Addr) (len cap : Nat) (zs : List Int) (w : World) (h : IsRow .i64 w a len cap zs) (n at_ : Nat) (hn : n < 100) (ha : at_ < 100) (w1 : World) (hb : Below w.heap.size w w1) :
    Calls Try.prog 6 #[.int .i64 k, .int .i64 n, .slice a len cap, .int .i64 at_] w1 fun e w' => TrialEnd k n e ∧ Below w1.heap.size w1 w' := by
  by_cases hl : len = 0
  · subst hl
    rcases hk with rfl | rfl | rfl | rfl
    · exact trials_none_1 n at_ cap a w1 hn
    · exact trials_none_2 n at_ cap a w1 hn
    · exact trials_none_3 n at_ cap a w1 hn
    · exact trials_none_4 n at_ cap a w1 hn
  · rcases h with ⟨_, h0, _⟩ | ⟨x, rfl, hlc, hcm, hz, hcell, hwf⟩
    · exact absurd h0 hl
    · unfold maxLen at hcm
      obtain ⟨b, off, rfl, hc⟩ := ints_at hcell (by omega)
      have hbw : b < w.heap.size := World.block_lt_of_cell? w ⟨b, off + 0, none⟩ (hc 0 (by omega))
      have hc1 : ∀ j, j < len → w1.cell? ⟨b, off + j, none⟩ = some (.int .i64 (zs.getD j 0)) := fun j hj => by
        rw [(bcell hb).1 b _ hbw]; exact hc j (by omega)
      have hzb : ∀ j, -9223372036854775808 ≤ zs.getD j 0 ∧ zs.getD j 0 ≤ 9223372036854775807 := fun j => by
        have := range_i64 hwf j
        simpa using this
      have hbw1 : b < w1.heap.size := Nat.lt_of_lt_of_le hbw hb.size
      rcases hk with rfl | rfl | rfl | rfl
      · exact trials_some_1 n at_ len cap b off zs w1 hn ha (by omega) (by omega) hc1 hzb hbw1
      · exact trials_some_2 n at_ len cap b off zs w1 hn ha (by omega) (by omega) hc1 hzb hbw1
      · exact trials_some_3 n at_ len cap b off zs w1 hn ha (by omega) (by omega) hc1 hzb hbw1
      · exact trials_some_4 n at_ len cap b off zs w1 hn ha (by omega) (by omega) hc1 hzb hbw1

theorem walk (a0 : Int) (a1 : Int) (a2 : Int) (a3 : Option Addr) (len3 cap3 : Nat) (z3 : List Int) (a4 : ByteArray) (w : World) (w0 : (Lit.int .i64 a0).wf = true) (w1 : (Lit.int .i64 a1).wf = true) (w2 : (Lit.int .i64 a2).wf = true) (w3 : IsRow .i64 w a3 len3 cap3 z3) (w4 : a4.size ≤ maxLen) :
    Calls Try.prog 3 #[.int .i64 a0, .int .i64 a1, .int .i64 a2, .slice a3 len3 cap3, .string a4] w fun e w' => e = .returned (.bool true) ∧ Below w.heap.size w w' := by
  have b0 := bounds_i64 w0
  have b1 := bounds_i64 w1
  have b2 := bounds_i64 w2
  have hsz : a4.size ≤ 9223372036854775807 := w4
  obtain ⟨k, hk, hk4⟩ := pk_nat a0 4 (by omega)
  obtain ⟨a, ha, ha1⟩ := pk_nat a1 100 (by omega)
  obtain ⟨b, hb, hb1⟩ := pk_nat a2 100 (by omega)
  have HK : ∀ w, Calls Try.prog 5 #[.int .i64 a0, .int .i64 4] w fun e w' => e = .returned (.int .i64 k) ∧ w = w' := fun w => (pick_any a0 4 w b0.1 b0.2 (by omega) (by omega)).mono fun e w' h => ⟨h.1.trans (ret_int hk), h.2.symm⟩
  have HA : ∀ w, Calls Try.prog 5 #[.int .i64 a1, .int .i64 100] w fun e w' => e = .returned (.int .i64 a) ∧ w = w' := fun w => (pick_any a1 100 w b1.1 b1.2 (by omega) (by omega)).mono fun e w' h => ⟨h.1.trans (ret_int ha), h.2.symm⟩
  have HB : ∀ w, Calls Try.prog 5 #[.int .i64 a2, .int .i64 100] w fun e w' => e = .returned (.int .i64 b) ∧ w = w' := fun w => (pick_any a2 100 w b2.1 b2.2 (by omega) (by omega)).mono fun e w' h => ⟨h.1.trans (ret_int hb), h.2.symm⟩
  have HT1 : ∀ K, KOk K → Calls Try.prog 6 #[.int .i64 K, .int .i64 a, .slice a3 len3 cap3, .int .i64 0] w fun e w' => TrialEnd K a e ∧ Below w.heap.size w w' := fun K hK => row_trials K hK a3 len3 cap3 z3 w w3 a 0 ha1 (by omega) w (Below.refl _ _)
  have HT2 : ∀ K, KOk K → ∀ w1, Below w.heap.size w w1 → Calls Try.prog 6 #[.int .i64 K, .int .i64 b, .slice a3 len3 cap3, .int .i64 a] w1 fun e w' => TrialEnd K b e ∧ Below w1.heap.size w1 w' := fun K hK w1 hw1 => row_trials K hK a3 len3 cap3 z3 w w3 b a hb1 ha1 w1 hw1
  have hkk : k = 0 ∨ k = 1 ∨ k = 2 ∨ k = 3 := by omega
  rcases hkk with rfl | rfl | rfl | rfl
  · exact drawn_1 a0 a1 a2 a b _ a4 w hsz ha1 hb1 HK HA HB (HT1 1 (Or.inl rfl)) (HT2 1 (Or.inl rfl))
  · exact drawn_2 a0 a1 a2 a b _ a4 w hsz ha1 hb1 HK HA HB (HT1 2 (Or.inr (Or.inl rfl))) (HT2 2 (Or.inr (Or.inl rfl)))
  · exact drawn_3 a0 a1 a2 a b _ a4 w hsz ha1 hb1 HK HA HB (HT1 3 (Or.inr (Or.inr (Or.inl rfl)))) (HT2 3 (Or.inr (Or.inr (Or.inl rfl))))
  · exact drawn_4 a0 a1 a2 a b _ a4 w hsz ha1 hb1 HK HA HB (HT1 4 (Or.inr (Or.inr (Or.inr rfl)))) (HT2 4 (Or.inr (Or.inr (Or.inr rfl))))

/-! ### The row's step -/
set_option maxRecDepth 100000 in
theorem lifted (os : Os) (started : os.Started) (H : Type) (enc : TypeId × Value → H) :
    ReturnsInHanded {} Try.checked os 3 .any (Rows.drawnSpec.pre6 enc Try.prog Try.f3 Rows.drawnRow.domain false) (Rows.drawnSpec.post enc Try.prog Try.f3 false true false false) := by
  refine returnsInHanded_of_change (C := Try.checked) own started (by kernel_rfl) Try.func3
    (ChangeSpec.witness6 (enc := enc) (C := Try.checked) false ⟨#[], #[.int .i64 0, .int .i64 0, .int .i64 0, .slice none 0 0, .string ByteArray.empty], []⟩ 8 (by kernel_rfl) (by kernel_rfl) (by kernel_rfl) (by kernel_rfl)) ?_
  intro W base args ds gs before hval0 hW hcnd _
  have hval : ∀ (j : Nat) t v, Try.f3.params[j]? = some t → args[j]? = some v → Value.okWide Try.prog W .any base t v := hval0
  have hW' := hW
  obtain ⟨p, q, hA0, hV, rfl, hfz, hnd⟩ := hW
  have hA : DataW.TrodAll enc Try.prog W 0 (fun _ => true) true Try.f3.params.toList args.toList ds p := hA0
  rw [Try.params3] at hA hval
  obtain ⟨v0, vs0, d0, ds0, p0, q0, hargs, rfl, rfl, h0, r0⟩ := trodAll_cons hA
  obtain ⟨v1, vs1, d1, ds1, p1, q1, rfl, rfl, rfl, h1, r1⟩ := trodAll_cons r0
  obtain ⟨v2, vs2, d2, ds2, p2, q2, rfl, rfl, rfl, h2, r2⟩ := trodAll_cons r1
  obtain ⟨v3, vs3, d3, ds3, p3, q3, rfl, rfl, rfl, h3, r3⟩ := trodAll_cons r2
  obtain ⟨v4, vs4, d4, ds4, p4, q4, rfl, rfl, rfl, h4, r4⟩ := trodAll_cons r3
  obtain ⟨rfl, rfl, rfl⟩ := trodAll_nil r4
  obtain rfl : args = #[v0, v1, v2, v3, v4] := by cases args; simp_all
  obtain ⟨rfl, rfl⟩ := trodVars_none hV
  obtain ⟨a0, rfl, rfl, rfl, w0⟩ := open_int Try.underlying3 (hval 0 3 v0 rfl rfl) h0
  obtain ⟨a1, rfl, rfl, rfl, w1⟩ := open_int Try.underlying3 (hval 1 3 v1 rfl rfl) h1
  obtain ⟨a2, rfl, rfl, rfl, w2⟩ := open_int Try.underlying3 (hval 2 3 v2 rfl rfl) h2
  obtain ⟨a3, len3, cap3, rfl⟩ := okWide_slice Try.underlying22 (hval 3 22 v3 rfl rfl)
  have k3 := h3
  have lt3 : ∀ x ∈ p3, x.block < W.heap.size := by obtain ⟨m, hm⟩ := k3; exact DataW.trod_lt m _ _ _ hm
  obtain ⟨z3, w3⟩ : ∃ zs, IsRow .i64 W a3 len3 cap3 zs := by
    obtain ⟨fuel, hf⟩ := h3
    rcases open_ints Try.underlying22 Try.underlying3 (by kernel_rfl) hf with ⟨hcs, _⟩ | ⟨x, l, c, zs, hcs, _, hl, hm, hz, _, hcell, hwz⟩
    · simp [Value.cells] at hcs
      obtain ⟨rfl, rfl, rfl⟩ := hcs
      exact ⟨[], .inl ⟨rfl, rfl, rfl, rfl⟩⟩
    · simp [Value.cells] at hcs
      obtain ⟨rfl, rfl, rfl⟩ := hcs
      exact ⟨zs, .inr ⟨_, rfl, hl, hm, by simpa using hz, hcell, hwz⟩⟩
  obtain ⟨a4, rfl, rfl, rfl, w4⟩ := open_string Try.underlying9 (hval 4 9 v4 rfl rfl) h4
  clear hA0 hval0
  refine (walk a0 a1 a2 a3 len3 cap3 z3 a4 W w0 w1 w2 w3 w4).mono fun e W' ⟨he, bel⟩ => ?_
  subst he
  exact ⟨_, rfl, _, _, _, [], _, [], hW', trodAll_mk1 (shut_bool Try.underlying4 _), (trodAll_cons_mk (shut_int Try.underlying3 w0) (trodAll_cons_mk (shut_int Try.underlying3 w1) (trodAll_cons_mk (shut_int Try.underlying3 w2) (trodAll_cons_mk (Below.trod laidOut (by kernel_rfl) (of_decide_eq_true (by kernel_rfl)) k3 bel lt3) (trodAll_cons_mk (shut_string Try.underlying9 w4) trodAll_mk0))))), rfl, bel.frame _, fun h => by cases h⟩

theorem over : Rows.drawnRow.holds Try.pinned (OpenSpec.ofChange Rows.drawnSpec) :=
  OpenClaim.holds_of_wide 3 Try.f3 rfl rfl rfl rfl rfl rfl rfl ⟨rfl, rfl, rfl, rfl, rfl⟩ rfl rfl rfl rfl rfl (by kernel_rfl) Try.func3 (by kernel_rfl)
    (of_decide_eq_true (by kernel_rfl)) (by unfold Func.isWrapper; first | (rw [if_pos (by decide +kernel)]; kernel_rfl) | (rw [if_neg (by decide +kernel)]; exact ⟨rfl, rfl⟩))
    (fun os started H enc _ => lifted os started H enc)

end Go.Proofs.Ytfollcnmobhggaa.drawn

namespace Go.Proofs.Ytfollcnmobhggaa
/-- The statement. -/
theorem drawn_holds : Rows.DrawnSaid := drawn.over
#print axioms drawn_holds
end Go.Proofs.Ytfollcnmobhggaa
