/-
  The proof of 'Rows.EvenSaid': the frame as the guide's program writes it, for walks that make memory; the walk is filled in.
-/
import Derived.Test.YtfollcnmobhggaaRows
import Derived.Test.YtfollcnmobhggaaEvenA
import Derived.Test.YtfollcnmobhggaaEvenB
import Derived.Test.YtfollcnmobhggaaEvenC
import Derived.Test.YtfollcnmobhggaaEvenD
import Derived.WalkKit
import Derived.ProofKit
import Derived.OpenShut
import Derived.ShutString
import Derived.ChangeOld
import Derived.Below
namespace Go.Proofs.Ytfollcnmobhggaa.even
open Go.ChangeShapes Go.WideShapes Go.ChangeAt Go.RowKit
open Go.ChangeMaps (open_string shut_string)
set_option linter.unusedVariables false

theorem own : ownKnob Try.prog.godebug = none := by kernel_rfl

/-- The walk: whatever the input, true; nothing that was there is written. -/
theorem walk (a0 : Int) (a1 : Int) (w : World) (w0 : (Lit.int .i64 a0).wf = true) (w1 : (Lit.int .i64 a1).wf = true) :
    Calls Try.prog 4 #[.int .i64 a0, .int .i64 a1] w fun e w' => e = .returned (.bool true) ∧ Below w.heap.size w w' := by
  have b0 := bounds_i64 w0
  have b1 := bounds_i64 w1
  obtain ⟨k, hk, hk2⟩ := pk_nat a0 2 (by omega)
  have HK : ∀ w, Calls Try.prog 5 #[.int .i64 a0, .int .i64 2] w fun e w' => e = .returned (.int .i64 k) ∧ w = w' := fun w => (pick_any a0 2 w b0.1 b0.2 (by omega) (by omega)).mono fun e w' h => ⟨h.1.trans (ret_int hk), h.2.symm⟩
  have hkk : k = 0 ∨ k = 1 := by omega
  rcases hkk with rfl | rfl
  · obtain ⟨n, hn, hn8⟩ := pk_nat a1 8 (by omega)
    have HL : ∀ w, Calls Try.prog 5 #[.int .i64 a1, .int .i64 8] w fun e w' => e = .returned (.int .i64 n) ∧ w = w' := fun w => (pick_any a1 8 w b1.1 b1.2 (by omega) (by omega)).mono fun e w' h => ⟨h.1.trans (ret_int hn), h.2.symm⟩
    have hnn : n = 0 ∨ n = 1 ∨ n = 2 ∨ n = 3 ∨ n = 4 ∨ n = 5 ∨ n = 6 ∨ n = 7 := by omega
    rcases hnn with rfl | rfl | rfl | rfl | rfl | rfl | rfl | rfl
    · exact even_walk_1_2 a0 a1 w HK HL
    · exact even_walk_1_3 a0 a1 w HK HL
    · exact even_walk_1_4 a0 a1 w HK HL
    · exact even_walk_1_5 a0 a1 w HK HL
    · exact even_walk_1_6 a0 a1 w HK HL
    · exact even_walk_1_7 a0 a1 w HK HL
    · exact even_walk_1_8 a0 a1 w HK HL
    · exact even_walk_1_9 a0 a1 w HK HL
  · obtain ⟨n, hn, hn8⟩ := pk_nat a1 6 (by omega)
    have HL : ∀ w, Calls Try.prog 5 #[.int .i64 a1, .int .i64 6] w fun e w' => e = .returned (.int .i64 n) ∧ w = w' := fun w => (pick_any a1 6 w b1.1 b1.2 (by omega) (by omega)).mono fun e w' h => ⟨h.1.trans (ret_int hn), h.2.symm⟩
    have hnn : n = 0 ∨ n = 1 ∨ n = 2 ∨ n = 3 ∨ n = 4 ∨ n = 5 := by omega
    rcases hnn with rfl | rfl | rfl | rfl | rfl | rfl
    · exact even_walk_2_4 a0 a1 w HK HL
    · exact even_walk_2_5 a0 a1 w HK HL
    · exact even_walk_2_6 a0 a1 w HK HL
    · exact even_walk_2_7 a0 a1 w HK HL
    · exact even_walk_2_8 a0 a1 w HK HL
    · exact even_walk_2_9 a0 a1 w HK HL

/-! ### The row's step -/
set_option maxRecDepth 100000 in
theorem lifted (os : Os) (started : os.Started) (H : Type) (enc : TypeId × Value → H) :
    ReturnsInHanded {} Try.checked os 4 .any (Rows.evenSpec.pre6 enc Try.prog Try.f4 Rows.evenRow.domain false) (Rows.evenSpec.post enc Try.prog Try.f4 false true false false) := by
  refine returnsInHanded_of_change (C := Try.checked) own started (by kernel_rfl) Try.func4
    (ChangeSpec.witness6 (enc := enc) (C := Try.checked) false ⟨#[], #[.int .i64 0, .int .i64 0], []⟩ 8 (by kernel_rfl) (by kernel_rfl) (by kernel_rfl) (by kernel_rfl)) ?_
  intro W base args ds gs before hval0 hW hcnd _
  have hval : ∀ (j : Nat) t v, Try.f4.params[j]? = some t → args[j]? = some v → Value.okWide Try.prog W .any base t v := hval0
  have hW' := hW
  obtain ⟨p, q, hA0, hV, rfl, hfz, hnd⟩ := hW
  have hA : DataW.TrodAll enc Try.prog W 0 (fun _ => true) true Try.f4.params.toList args.toList ds p := hA0
  rw [Try.params4] at hA hval
  obtain ⟨v0, vs0, d0, ds0, p0, q0, hargs, rfl, rfl, h0, r0⟩ := trodAll_cons hA
  obtain ⟨v1, vs1, d1, ds1, p1, q1, rfl, rfl, rfl, h1, r1⟩ := trodAll_cons r0
  obtain ⟨rfl, rfl, rfl⟩ := trodAll_nil r1
  obtain rfl : args = #[v0, v1] := by cases args; simp_all
  obtain ⟨rfl, rfl⟩ := trodVars_none hV
  obtain ⟨a0, rfl, rfl, rfl, w0⟩ := open_int Try.underlying3 (hval 0 3 v0 rfl rfl) h0
  obtain ⟨a1, rfl, rfl, rfl, w1⟩ := open_int Try.underlying3 (hval 1 3 v1 rfl rfl) h1
  clear hA0 hval0
  refine (walk a0 a1 W w0 w1).mono fun e W' ⟨he, bel⟩ => ?_
  subst he
  exact ⟨_, rfl, _, _, _, [], _, [], hW', trodAll_mk1 (shut_bool Try.underlying4 _), (trodAll_cons_mk (shut_int Try.underlying3 w0) (trodAll_cons_mk (shut_int Try.underlying3 w1) trodAll_mk0)), rfl, bel.frame _, fun h => by cases h⟩

theorem over : Rows.evenRow.holds Try.pinned (OpenSpec.ofChange Rows.evenSpec) :=
  OpenClaim.holds_of_wide 4 Try.f4 rfl rfl rfl rfl rfl rfl rfl ⟨rfl, rfl, rfl, rfl, rfl⟩ rfl rfl rfl rfl rfl (by kernel_rfl) Try.func4 (by kernel_rfl)
    (of_decide_eq_true (by kernel_rfl)) (by unfold Func.isWrapper; first | (rw [if_pos (by decide +kernel)]; kernel_rfl) | (rw [if_neg (by decide +kernel)]; exact ⟨rfl, rfl⟩))
    (fun os started H enc _ => lifted os started H enc)

end Go.Proofs.Ytfollcnmobhggaa.even

namespace Go.Proofs.Ytfollcnmobhggaa
/-- The statement. -/
theorem even_holds : Rows.EvenSaid := even.over
#print axioms even_holds
end Go.Proofs.Ytfollcnmobhggaa
