/-
  From what the program's text lays to the table of operations.
-/
import Derived.Test.YtdffpkmabehfbaaDoorTie
import Derived.Test.YtdffpkmabehfbaaDoorCWorks
import Derived.ProofKit
import Derived.OpenShut
import Derived.Lay
import Derived.MakeChecks
import Derived.SevenTiedAt
import Derived.Stop.Joined
namespace Go.Proofs.YtdffpkmabehfbaaDoor
open Go.ChangeShapes Go.WideShapes Go.ChangeAt Go.RowKit

theorem ownK : ownKnob Tryd.prog.godebug = none := by kernel_rfl

theorem three_of {α : Type} : ∀ {l : List α}, l.length = 3 → ∃ a b c, l = [a, b, c]
  | [a, b, c], _ => ⟨a, b, c, rfl⟩
  | [], h => by cases h
  | [_], h => by cases h
  | [_, _], h => by cases h
  | _ :: _ :: _ :: _ :: _, h => by simp only [List.length_cons] at h; omega

theorem row_cells {W : World} {n : Nat} {c : List Value} {a : List UInt8} {b d : Int} {p : List MemPlace}
    (h : DataW.trod (fun _ => ()) Tryd.prog W 0 (fun _ => true) false n 138 c = some (.agg [.lit (.string a), .lit (.int .i64 b), .lit (.int .i64 d)], p)) : c = [.string (bs a), .int .i64 b, .int .i64 d] := by
  obtain ⟨ys, m, _, ex, hl, hy, hf⟩ := DataW.trod_struct Tryd.underlying138 h
  have h3 : Tryd.prog.cellsOf 138 = 3 := by kernel_rfl
  have hs1 : Tryd.prog.cellsOf 9 = 1 := by kernel_rfl
  have hi1 : Tryd.prog.cellsOf 3 = 1 := by kernel_rfl
  rw [h3] at hl
  obtain ⟨c0, c1, c2, rfl⟩ := three_of hl
  obtain ⟨y0, y1, y2, rfl⟩ := three_of (show ys.length = 3 from hy)
  have h0 : DataW.trod (fun _ => ()) Tryd.prog W 0 (fun _ => true) false m 9 (([c0, c1, c2].drop 0).take (Tryd.prog.cellsOf 9)) = some y0 := hf 0 _ rfl
  have h1 : DataW.trod (fun _ => ()) Tryd.prog W 0 (fun _ => true) false m 3 (([c0, c1, c2].drop 1).take (Tryd.prog.cellsOf 3)) = some y1 := hf 1 _ rfl
  have h2 : DataW.trod (fun _ => ()) Tryd.prog W 0 (fun _ => true) false m 3 (([c0, c1, c2].drop 2).take (Tryd.prog.cellsOf 3)) = some y2 := hf 2 _ rfl
  rw [hs1] at h0
  rw [hi1] at h1 h2
  obtain ⟨s, e0, f0, _⟩ := DataW.trod_string Tryd.underlying9 h0
  obtain ⟨x, e1, f1, _⟩ := DataW.trod_int Tryd.underlying3 h1
  obtain ⟨z, e2, f2, _⟩ := DataW.trod_int Tryd.underlying3 h2
  have ex1 := (Prod.mk.inj ex).1
  simp only [List.map_cons, List.map_nil, DataW.agg.injEq, List.cons.injEq, and_true] at ex1
  obtain ⟨g0, g1, g2⟩ := ex1
  rw [f0] at g0
  rw [f1] at g1
  rw [f2] at g2
  simp only [DataW.lit.injEq, Lit.string.injEq, Lit.int.injEq, true_and] at g0 g1 g2
  have k0 : c0 = .string s := by simpa using e0
  have k1 : c1 = .int .i64 x := by simpa using e1
  have k2 : c2 = .int .i64 z := by simpa using e2
  subst g1 g2
  rw [k0, k1, k2, g0]
  rfl

theorem tab_of_laid {W : World} (h : laidMetH Tryd.prog [("chisel/code.opTable", Rows.laid_chisel_code_opTable)] W) : Tab W := by
  rw [MakeChecks.laidMetH_plain _ _ _ (by kernel_rfl)] at h
  obtain ⟨ps, ⟨g, t, cs, fuel, p, q, hg, ht, hv, hd, _, _⟩, _, _⟩ := h
  obtain rfl := Option.some.inj ((show Tryd.prog.globalNamed "chisel/code.opTable" = some 0 by kernel_rfl).symm.trans hg)
  obtain rfl := Option.some.inj ((show (Tryd.prog.globals[0]?).map (·.type) = some 139 by kernel_rfl).symm.trans ht)
  obtain ⟨xs, m, _, ex, hcl, hl, hel⟩ := DataW.trod_array Tryd.underlying139 hd
  have h3 : Tryd.prog.cellsOf 138 = 3 := by kernel_rfl
  have h39 : Tryd.prog.cellsOf 139 = 39 := by kernel_rfl
  rw [h39] at hcl
  have e3 : (xs.map (·.1)) = _ := (DataW.agg.inj (Prod.mk.inj ex).1).symm
  have key : ∀ i, i < 13 → (cs.toList.drop (i * 3)).take 3 = (opCells.drop (i * 3)).take 3 := by
    intro i hi
    have hE := hel i hi
    rw [h3, List.getElem?_eq_getElem (by omega)] at hE
    have e4 : (xs.map (·.1))[i]? = some (xs[i]'(by omega)).1 := by rw [List.getElem?_map, List.getElem?_eq_getElem (by omega)]; rfl
    rw [e3] at e4
    generalize xs[i]'(by omega) = y at hE e4
    obtain ⟨yd, yp⟩ := y
    match i, hi with
    | 0, _ | 1, _ | 2, _ | 3, _ | 4, _ | 5, _ | 6, _ | 7, _ | 8, _ | 9, _ | 10, _ | 11, _ | 12, _ =>
      have e5 := Option.some.inj e4
      subst e5
      rw [row_cells hE]
      rfl
  intro j v hj
  rw [Nat.zero_add, World.var?_cell hg hv j]
  have hj39 : j < 39 := by
    have := (List.getElem?_eq_some_iff.1 hj).1
    exact this
  have hk := congrArg (fun l => l[j % 3]?) (key (j / 3) (by omega))
  simp only [List.getElem?_take, List.getElem?_drop, if_pos (Nat.mod_lt j (by omega : 3 > 0))] at hk
  rw [show j / 3 * 3 + j % 3 = j by omega, hj] at hk
  simpa using hk
end Go.Proofs.YtdffpkmabehfbaaDoor
