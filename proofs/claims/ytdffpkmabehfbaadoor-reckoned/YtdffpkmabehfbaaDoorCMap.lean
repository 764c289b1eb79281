/-
  The map of edges: what it says of each edge.
-/
import Derived.Test.YtdffpkmabehfbaaDoorCSet3
import Derived.Maps.Own
import Derived.Maps.OwnOps
import Derived.Maps.Views
import Derived.DeepKeys4
namespace Go.Proofs.YtdffpkmabehfbaaDoor
open Go.RowKit

theorem laidOutP : laidOutB Tryd.prog = true := by kernel_rfl
theorem rowEdge : (80 : TypeId) < Tryd.prog.types.size := of_decide_eq_true (by kernel_rfl)
theorem wideEdge : (match Tryd.prog.underlying 80 with | some (.array _ _) | some (.struct _) => true | _ => false) = true := by kernel_rfl
set_option maxRecDepth 100000 in
theorem lawEdge : WideMaps.KeyLaw Tryd.prog 80 := deep_law_laid laidOutP (m := 2) (by omega) rowEdge (by kernel_rfl) wideEdge
theorem keyedEdge : Maps.Keyed Tryd.prog 80 := Maps.Keyed.of_law lawEdge

/-- An edge, as a value. -/
def edgeV (x y : Nat) : Value := .agg #[.int .i64 (x : Nat), .int .i64 (y : Nat)]

theorem edgeV_inj {x y x' y' : Nat} (h : edgeV x y = edgeV x' y') : x = x' ∧ y = y' := by
  simp [edgeV] at h
  omega

theorem edge_key (x y : Nat) (hx : x < 8) (hy : y < 2) : ∃ kl, keyOf Tryd.prog 80 (edgeV x y) = some kl := by
  have h : (keyOf Tryd.prog 80 (edgeV x y)).isSome = true := by
    match x, y, hx, hy with
    | 0, 0, _, _ =>
      show _ = _
      kernel_rfl
    | 0, 1, _, _ =>
      show _ = _
      kernel_rfl
    | 1, 0, _, _ =>
      show _ = _
      kernel_rfl
    | 1, 1, _, _ =>
      show _ = _
      kernel_rfl
    | 2, 0, _, _ =>
      show _ = _
      kernel_rfl
    | 2, 1, _, _ =>
      show _ = _
      kernel_rfl
    | 3, 0, _, _ =>
      show _ = _
      kernel_rfl
    | 3, 1, _, _ =>
      show _ = _
      kernel_rfl
    | 4, 0, _, _ =>
      show _ = _
      kernel_rfl
    | 4, 1, _, _ =>
      show _ = _
      kernel_rfl
    | 5, 0, _, _ =>
      show _ = _
      kernel_rfl
    | 5, 1, _, _ =>
      show _ = _
      kernel_rfl
    | 6, 0, _, _ =>
      show _ = _
      kernel_rfl
    | 6, 1, _, _ =>
      show _ = _
      kernel_rfl
    | 7, 0, _, _ =>
      show _ = _
      kernel_rfl
    | 7, 1, _, _ =>
      show _ = _
      kernel_rfl
  exact Option.isSome_iff_exists.1 h

/-- A map of edges: what it says of each. -/
def EMap (w : World) (b n : Nat) (m : Nat → Nat → Nat) : Prop :=
  ∃ D : DataW Unit, w.ownsMap Tryd.prog 80 (plainElem Tryd.prog 3) b n D ∧ Maps.IsMap D ∧
    ∀ x y, x < 8 → y < 2 → ∀ kl, keyOf Tryd.prog 80 (edgeV x y) = some kl → D.atKey kl (.lit (.int .i64 0)) = .lit (.int .i64 (m x y : Nat))

def put2 (m : Nat → Nat → Nat) (x y v : Nat) : Nat → Nat → Nat := fun a b => if a = x ∧ b = y then v else m a b

theorem EMap.made (w : World) : EMap (w.alloc (.map #[] 0)) w.heap.size 0 (fun _ _ => 0) :=
  ⟨.map [], World.ownsMap_made w _ _ _, ⟨[], rfl⟩, fun _ _ _ _ _ _ => rfl⟩

theorem EMap.kept {w w' : World} {b n : Nat} {m : Nat → Nat → Nat} {row : Option Nat} (h : EMap w b n m) (hg : w.grownBy w' row) (hne : some b ≠ row) : EMap w' b n m := by
  obtain ⟨D, h1, h2, h3⟩ := h
  exact ⟨D, h1.kept hg hne, h2, h3⟩

theorem EMap.lt {w : World} {b n : Nat} {m : Nat → Nat → Nat} (h : EMap w b n m) : b < w.heap.size := by
  obtain ⟨D, h1, _⟩ := h
  exact h1.lt

theorem EMap.below {w w' : World} {b n : Nat} {m : Nat → Nat → Nat} (h : EMap w b n m) (hb : Below w.heap.size w w') : EMap w' b n m :=
  h.kept (row := none) ⟨hb.os, hb.tape, hb.output, hb.size, fun k hk _ => hb.block k hk⟩ (by simp)

theorem nat_wf (n : Nat) (h : n ≤ 1000000) : (Lit.int .i64 (n : Nat)).wf = true := by
  have hmin : IntKind.i64.min = -9223372036854775808 := rfl
  have hmax : IntKind.i64.max = 9223372036854775807 := rfl
  simp only [Lit.wf, Bool.and_eq_true, decide_eq_true_eq]; omega

theorem zeroInt (w : World) : (zeroValue 3).run Tryd.prog w = .ok (.int .i64 0) w := by kernel_rfl

/-- What is found: 'm[k]'. -/
theorem EMap.look {w : World} {b n : Nat} {m : Nat → Nat → Nat} (h : EMap w b n m) (x y : Nat) (hx : x < 8) (hy : y < 2) :
    (Instr.lookup 65 (.map (some b)) (edgeV x y) false).run Tryd.prog w = .ok (.int .i64 (m x y : Nat)) w := by
  obtain ⟨D, h1, h2, h3⟩ := h
  obtain ⟨kl, hk⟩ := edge_key x y hx hy
  obtain ⟨c, g1, g2, _⟩ := h1.lookup_int keyedEdge Tryd.underlying65 Tryd.underlying3 (zeroInt w) hk
  have := h3 x y hx hy kl hk
  rw [g2] at this
  simp only [DataW.lit.injEq, Lit.int.injEq, true_and] at this
  rw [g1, this]

/-- 'm[k] = v'. -/
theorem EMap.put {w : World} {b n : Nat} {m : Nat → Nat → Nat} (h : EMap w b n m) (hn : n ≤ 1000) (x y v : Nat) (hx : x < 8) (hy : y < 2) (hv : v ≤ 1000000) :
    ∃ w', (Instr.mapUpdate 65 (.map (some b)) (edgeV x y) (.int .i64 (v : Nat))).run Tryd.prog w = .ok () w' ∧ EMap w' b (n + 1) (put2 m x y v) ∧ w.grownBy w' (some b) := by
  obtain ⟨D, h1, h2, h3⟩ := h
  obtain ⟨kl, hk⟩ := edge_key x y hx hy
  obtain ⟨w', g1, g2, g3⟩ := h1.update keyedEdge Tryd.underlying65 (by unfold maxLen; omega) hk (plainElem_int Tryd.underlying3 (nat_wf v hv))
  refine ⟨w', g1, ⟨_, g2, ?_, fun x' y' hx' hy' kl' hk' => ?_⟩, g3⟩
  · obtain ⟨es, rfl⟩ := h2
    exact ⟨_, rfl⟩
  · unfold put2
    by_cases he : x' = x ∧ y' = y
    · obtain ⟨rfl, rfl⟩ := he
      rw [hk] at hk'
      cases hk'
      rw [Maps.atKey_put_same h2 (keyedEdge.key hk)]
      simp
    · rw [if_neg he, Maps.atKey_put_other (fun e => he ?_)]
      · exact h3 x' y' hx' hy' kl' hk'
      · subst e
        exact edgeV_inj (keyedEdge.inj hk' hk)
end Go.Proofs.YtdffpkmabehfbaaDoor
