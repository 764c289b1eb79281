/-
  A row that the call has just made.
-/
import Derived.Test.YtdffpkmabehfbaaDoorBase2
namespace Go.Proofs.YtdffpkmabehfbaaDoor
open Go.RowKit

theorem own_new {W : World} {base e g n : Nat} {C : Array Value} (hg : g = W.heap.size) (hb : base ≤ g) (hn : n = C.size) (hm : n ≤ maxLen) :
    (W.alloc (.cells C e)).ownsRow base e 1 (.slice (some ⟨g, 0, none⟩) n n) n C.toList := by
  subst hg
  subst hn
  exact ⟨by simp, Or.inr ⟨_, _, C, rfl, hb, heap_alloc_new W _, Nat.le_refl _, hm, by simp, List.take_of_length_le (by simp)⟩⟩

theorem if_cases (V A B : Int) : (0 ≤ V ∧ 0 ≤ A ∧ Hid (Ref.toOk V [A, B] = decide (0 ≤ B))) ∨ (0 ≤ V ∧ ¬ 0 ≤ A ∧ Hid (Ref.toOk V [A, B] = false)) ∨ (¬ 0 ≤ V ∧ Hid (Ref.toOk V [A, B] = false)) := by
  by_cases h1 : 0 ≤ V
  · by_cases h2 : 0 ≤ A
    · exact Or.inl ⟨h1, h2, by simp [Hid, Ref.toOk, h1, h2]⟩
    · refine Or.inr (Or.inl ⟨h1, h2, ?_⟩)
      unfold Hid Ref.toOk
      rw [List.all_cons, decide_eq_false h2]; simp
  · refine Or.inr (Or.inr ⟨h1, ?_⟩)
    unfold Hid Ref.toOk
    rw [decide_eq_false h1]; rfl

/-- A value of a function as it lies in four cells: its list is a row of its own. -/
def valCells (x : Ref.RVal) (a : Value) : Array Value := #[.int .i64 x.V, .string (bs x.Op), .int .i64 x.N, a]

theorem size_set (w : World) (a : Addr) (v : Value) : (w.setCell a v).heap.size = w.heap.size := by simp [World.setCell]

end Go.Proofs.YtdffpkmabehfbaaDoor
