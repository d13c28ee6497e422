/-
  A row of numbers that the call has made.
-/
import Derived.Test.YtfollcnmobhggaaTrials
import Derived.Test.YtfollcnmobhggaaCount
namespace Go.Proofs.Ytfollcnmobhggaa
open Go.RowKit

/-- The block B holds the 41 numbers f, and may be written. -/
def Row (B : Nat) (f : Nat → Nat) (w : World) : Prop := B < w.heap.size ∧ ∀ i, i < 41 → w.cell? ⟨B, i, none⟩ = some (.int .i64 (f i : Int)) ∧ w.frozen? ⟨B, i, none⟩ = false
theorem Row.below {B : Nat} {f : Nat → Nat} {w w' : World} (h : Row B f w) (hb : Below w.heap.size w w') : Row B f w' := by
  refine ⟨Nat.lt_of_lt_of_le h.1 hb.size, fun i hi => ?_⟩
  rw [(bcell hb).1 B i h.1, (bcell hb).2 B i h.1]
  exact h.2 i hi
theorem Row.ext {B : Nat} {f g : Nat → Nat} {w : World} (h : Row B f w) (e : ∀ i, g i = f i) : Row B g w := by
  refine ⟨h.1, fun i hi => ?_⟩
  rw [e i]
  exact h.2 i hi
theorem Row.set {B : Nat} {f g : Nat → Nat} {w : World} (h : Row B f w) (d : Nat) (hd : d < 41) (e1 : g d = f d + 1) (e2 : ∀ i, i ≠ d → g i = f i) :
    Row B g (w.setCell ⟨B, d, none⟩ (.int .i64 ((f d : Int) + 1))) := by
  refine ⟨by rw [World.size_setCell]; exact h.1, fun i hi => ?_⟩
  refine ⟨?_, by rw [World.frozen?_setCell]; exact (h.2 i hi).2⟩
  by_cases e : i = d
  · subst e
    rw [World.cell?_setCell_same _ _ _ (h.2 i hi).1, e1]
    rfl
  · rw [World.cell?_setCell_other _ _ _ _ (by intro h; cases h; exact e rfl), e2 i e]
    exact (h.2 i hi).1

theorem made_row (w : World) : Row w.heap.size (fun _ => 0) (w.alloc (.cells (Array.replicate 41 (.int .i64 0)) 3)) := by
  refine ⟨by simp, fun i hi => ⟨?_, ?_⟩⟩
  · rw [World.cell?_alloc_mark]
    simp [hi]
  · rw [World.frozen?_alloc_mark]
    simp

theorem mk41 (w : World) : (Instr.makeSlice 22 (.int .i64 41) (.int .i64 41)).run Try.prog w = .ok (.slice (some ⟨w.heap.size, 0, none⟩) 41 41) (w.alloc (.cells (Array.replicate 41 (.int .i64 0)) 3)) := by kernel_rfl

end Go.Proofs.Ytfollcnmobhggaa
