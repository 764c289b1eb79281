/-
  More small facts on worlds.
-/
import Derived.Test.YtdffpkmabehfbaaDoorBase
import Derived.Test.YtdffpkmabehfbaaDoorPlain
namespace Go.Proofs.YtdffpkmabehfbaaDoor
open Go.RowKit

theorem below_set0 {a w : World} (h : Below a.heap.size a w) (o : Nat) (v : Value) : Below a.heap.size a (w.setCell ⟨a.heap.size, o, none⟩ v) := h.setCell (Nat.le_refl _) v

theorem below_set {a w : World} (h : Below a.heap.size a w) {b : Nat} (hb : a.heap.size ≤ b) (o : Nat) (v : Value) : Below a.heap.size a (w.setCell ⟨b, o, none⟩ v) := h.setCell hb v

theorem own_slice {w : World} {base e size n : Nat} {v : Value} {xs : List Value} (h : w.ownsRow base e size v n xs) : ∃ p c, v = .slice p n c := by
  rcases h.2 with ⟨rfl, rfl⟩ | ⟨g, cap, cur, rfl, _⟩
  · exact ⟨_, _, rfl⟩
  · exact ⟨_, _, rfl⟩

theorem own_set4 {w : World} {base e size n : Nat} {v : Value} {xs : List Value} (h : w.ownsRow base e size v n xs) {b : Nat} {C : Array Value} {T : TypeId} {z : Nat × Nat} {u0 u1 u2 u3 : Value}
    (hb : w.heap[b]? = some (.cells C T z)) (hT : T ≠ e) : ((((w.setCell ⟨b, 0, none⟩ u0).setCell ⟨b, 1, none⟩ u1).setCell ⟨b, 2, none⟩ u2).setCell ⟨b, 3, none⟩ u3).ownsRow base e size v n xs :=
  own_set (own_set (own_set (own_set h hb hT) (set_block hb) hT) (set_block (set_block hb)) hT) (set_block (set_block (set_block hb))) hT

theorem op_cases (a0 op : List UInt8) (n : Nat) : (0 ≤ Ref.vnum a0 ∧ 0 < Ref.arity op ∧ ((n : Int) == 3 + Ref.arity op) = true ∧ Hid (Ref.opOk a0 op n = true)) ∨ (0 ≤ Ref.vnum a0 ∧ 0 < Ref.arity op ∧ ((n : Int) == 3 + Ref.arity op) = false ∧ Hid (Ref.opOk a0 op n = false)) ∨
    (0 ≤ Ref.vnum a0 ∧ ¬ 0 < Ref.arity op ∧ True ∧ Hid (Ref.opOk a0 op n = false)) ∨ (¬ 0 ≤ Ref.vnum a0 ∧ True ∧ True ∧ Hid (Ref.opOk a0 op n = false)) := by
  by_cases h1 : 0 ≤ Ref.vnum a0
  · by_cases h2 : 0 < Ref.arity op
    · cases h3 : ((n : Int) == 3 + Ref.arity op)
      · exact Or.inr (Or.inl ⟨h1, h2, rfl, Ref.opOk_no (Or.inr (Or.inr (beq_eq_false_iff_ne.1 h3)))⟩)
      · exact Or.inl ⟨h1, h2, rfl, Ref.opOk_yes h1 h2 (beq_iff_eq.1 h3)⟩
    · exact Or.inr (Or.inr (Or.inl ⟨h1, h2, trivial, Ref.opOk_no (Or.inr (Or.inl h2))⟩))
  · exact Or.inr (Or.inr (Or.inr ⟨h1, trivial, trivial, Ref.opOk_no (Or.inl h1)⟩))

theorem phi_cases (a0 : List UInt8) (phis : Bool) : (0 ≤ Ref.vnum a0 ∧ Hid (Ref.phiOk a0 phis = phis)) ∨ (¬ 0 ≤ Ref.vnum a0 ∧ Hid (Ref.phiOk a0 phis = false)) := by
  by_cases h1 : 0 ≤ Ref.vnum a0
  · exact Or.inl ⟨h1, Ref.phiOk_yes h1⟩
  · exact Or.inr ⟨h1, Ref.phiOk_no h1⟩

theorem own_drew {w : World} {base e size n : Nat} {v : Value} {xs : List Value} (h : w.ownsRow base e size v n xs) : w.drew.ownsRow base e size v n xs := h

theorem vAll_snoc (b : Bool) (r : List (List UInt8)) (k : Nat) (h : k < r.length) : Ref.vAll b (r.take (k + 1)) = (Ref.vAll b (r.take k) && decide (0 ≤ Ref.vnum r[k])) := by
  have e : r.take (k + 1) = r.take k ++ [r[k]] := by rw [List.take_add_one, List.getElem?_eq_getElem h]; rfl
  unfold Ref.vAll
  rw [e, List.map_append, List.all_append, ← Bool.and_assoc]
  simp

theorem vnum_snoc (r : List (List UInt8)) (k : Nat) (h : k < r.length) : (r.take (k + 1)).map Ref.vnum = (r.take k).map Ref.vnum ++ [Ref.vnum r[k]] := by
  have e : r.take (k + 1) = r.take k ++ [r[k]] := by rw [List.take_add_one, List.getElem?_eq_getElem h]; rfl
  rw [e, List.map_append]; rfl

end Go.Proofs.YtdffpkmabehfbaaDoor
