/-
  Sets held against each other; a row of sets.
-/
import Derived.Test.YtdffpkmabehfbaaDoorCPhis
import Derived.Laws.StructEq
namespace Go.Proofs.YtdffpkmabehfbaaDoor
open Go.RowKit

theorem all_beq : ∀ (X Y : List Bool), X.length = Y.length → ((List.range X.length).all fun i => X.getD i false == Y.getD i false) = (X == Y)
  | [], [], _ => rfl
  | x :: X, y :: Y, h => by
    have ih := all_beq X Y (by simpa using h)
    rw [List.length_cons, List.range_succ_eq_map, List.all_cons, List.all_map]
    simp only [List.getD_cons_zero, Function.comp_def, List.getD_cons_succ, ih, List.cons_beq_cons]
  | [], _ :: _, h => by simp at h
  | _ :: _, [], h => by simp at h

theorem sizeBool (w : World) : (sizeOf 4).run Tryd.prog w = .ok 1 w := by kernel_rfl

theorem equal_sets (X Y : List Bool) (hX : X.length = 60) (hY : Y.length = 60) (d : Nat) (w : World) : (Op.equalIn (d + 2) 108 (.agg (setA X)) (.agg (setA Y))).run Tryd.prog w = .ok (X == Y) w := by
  rw [← all_beq X Y (hX.trans hY.symm), hX, List.range_eq_range', Op.equalIn]
  simp only [Sem.run_bind, run_underlying Tryd.underlying108, Result.andThen_ok, sizeBool, Std.Legacy.Range.forIn_eq_forIn_range', Std.Legacy.Range.size, Nat.sub_zero, Nat.add_sub_cancel, Nat.div_one]
  have hl : ∀ i ∈ List.range' 0 60 1, i < 60 := fun i hi => by simpa using (List.mem_range'_1.1 hi).2
  generalize List.range' 0 60 1 = l at hl ⊢
  induction l with
  | nil => simp
  | cons i l ih =>
    have hi : i < 60 := hl i (by simp)
    have pa : ∀ Z : List Bool, Z.length = 60 → (part 4 (setA Z) (i * 1)).run Tryd.prog w = .ok (.bool (Z.getD i false)) w := fun Z hZ => by
      simp [part, isAgg, run_underlying Tryd.underlying4, setA, setL, List.getElem?_eq_getElem (show i < Z.length by omega)]
    have pe : ∀ a b : Bool, (Op.equalIn (d + 1) 4 (.bool a) (.bool b)).run Tryd.prog w = .ok (a == b) w := fun a b => by
      rw [Op.equalIn]
      simp [run_underlying Tryd.underlying4]
    simp only [List.forIn_cons, Sem.run_bind, pa X hX, pa Y hY, pe, Result.andThen_ok, List.all_cons]
    cases hb : (X.getD i false == Y.getD i false)
    · simp
    · simp only [Bool.not_true, Bool.false_eq_true, if_false, Sem.run_pure, Result.andThen_ok, Bool.true_and]
      exact ih fun j hj => hl j (by simp [hj])

theorem neq_sets (X Y : List Bool) (hX : X.length = 60) (hY : Y.length = 60) (w : World) : (binOp .neq 108 (.agg (setA X)) (.agg (setA Y))).run Tryd.prog w = .ok (.bool (!(X == Y))) w := by
  have h := equal_sets X Y hX hY 9998 w
  show ((do pure (Value.bool (!(← Op.equal 108 (.agg (setA X)) (.agg (setA Y))))) : Sem Value)).run Tryd.prog w = _
  rw [Sem.run_bind, Op.equal, show Op.maxDepth = 9998 + 2 from rfl, h]
  rfl

theorem setA_get (R : List Bool) (x : Nat) : (setA R)[x]? = (R[x]?).map Value.bool := by simp only [setA, setL, List.getElem?_toArray, List.getElem?_map]

theorem setA_size (R : List Bool) : (setA R).size = R.length := by simp only [setA, List.size_toArray, setL_length]

theorem noNumber_get (r : Nat) (hr : r < 60) : noNumber[r]? = some false := by simp only [noNumber, List.getElem?_replicate, if_pos hr]

def All60 (A : List (List Bool)) : Prop := ∀ R ∈ A, R.length = 60

theorem All60.set {A : List (List Bool)} (h : All60 A) (i : Nat) {R : List Bool} (hR : R.length = 60) : All60 (A.set i R) := by
  intro x hx
  rcases List.mem_or_eq_of_mem_set hx with hx | rfl
  · exact h x hx
  · exact hR

theorem flat_get : ∀ (A : List (List Bool)), All60 A → ∀ q r, r < 60 → A.flatten[q * 60 + r]? = (A[q]?).bind (·[r]?)
  | [], _, q, r, _ => by simp
  | R :: A, h, q, r, hr => by
    have hR : R.length = 60 := h R (List.mem_cons_self ..)
    have hA : All60 A := fun x hx => h x (List.mem_cons_of_mem _ hx)
    rw [List.flatten_cons]
    cases q with
    | zero =>
      rw [List.getElem?_append_left (by omega)]
      simp
    | succ q =>
      rw [List.getElem?_append_right (by omega), hR, show (q + 1) * 60 + r - 60 = q * 60 + r by omega, flat_get A hA q r hr]
      simp

theorem flat_length : ∀ (A : List (List Bool)), All60 A → A.flatten.length = A.length * 60
  | [], _ => rfl
  | R :: A, h => by
    have hR : R.length = 60 := h R (List.mem_cons_self ..)
    rw [List.flatten_cons, List.length_append, flat_length A (fun x hx => h x (List.mem_cons_of_mem _ hx)), hR]
    simp; omega

/-- Sets in a row. -/
def setsRow (w : World) (g : Nat) (A : List (List Bool)) : Prop := w.heap[g]? = some (.cells (setA A.flatten) 108)

theorem setsRow.range {w : World} {g : Nat} {A : List (List Bool)} (h : setsRow w g A) (h6 : All60 A) (i : Nat) (hi : i < A.length) : w.rangeAt g (i * 60) (setL A[i]) := by
  intro j v hv
  have hj : j < 60 := by
    have := (List.getElem?_eq_some_iff.1 hv).1
    rw [setL_length, h6 A[i] (List.getElem_mem hi)] at this
    exact this
  refine blk_cell h _ v ?_
  simp only [setA, setL, List.getElem?_toArray, List.getElem?_map] at hv ⊢
  rw [flat_get A h6 i j hj, List.getElem?_eq_getElem hi]
  exact hv

theorem setsRow.there {w : World} {g : Nat} {A : List (List Bool)} (h : setsRow w g A) (h6 : All60 A) (i : Nat) (hi : i < A.length) : w.there g (i * 60) 60 := by
  intro j hj
  refine ⟨?_, blk_froz h _⟩
  have hl : j < (A[i]).length := by rw [h6 A[i] (List.getElem_mem hi)]; exact hj
  rw [h.range h6 i hi j (.bool (A[i])[j]) (by simp [setL, hl])]; rfl

theorem setsRow.put {w : World} {g : Nat} {A : List (List Bool)} (h : setsRow w g A) (h6 : All60 A) (i : Nat) (hi : i < A.length) (R : List Bool) (hR : R.length = 60) : setsRow (w.setCells g (i * 60) (setL R)) g (A.set i R) := by
  have hfl := flat_length A h6
  have h6' := h6.set i hR
  have hfl' := flat_length (A.set i R) h6'
  have hmul : (i + 1) * 60 ≤ A.length * 60 := Nat.mul_le_mul_right 60 hi
  obtain ⟨C', h1, h2, h3, h4, h5⟩ := setCells_block g (setL R) (i * 60) w _ h (by rw [setL_length, hR, setA_size, hfl]; omega)
  unfold setsRow
  rw [h1]
  congr 2
  apply Array.ext_getElem?
  intro x
  have hL : (setL R).length = 60 := by rw [setL_length, hR]
  have hxx : x / 60 * 60 + x % 60 = x := by omega
  have hx6 : x % 60 < 60 := Nat.mod_lt _ (by omega)
  have hnew : (setA (A.set i R).flatten)[x]? = (((A.set i R)[x / 60]?).bind (·[x % 60]?)).map Value.bool := by
    rw [← flat_get (A.set i R) h6' (x / 60) (x % 60) hx6, hxx, setA_get]
  have hold : (setA A.flatten)[x]? = ((A[x / 60]?).bind (·[x % 60]?)).map Value.bool := by
    rw [← flat_get A h6 (x / 60) (x % 60) hx6, hxx, setA_get]
  rw [hnew]
  by_cases hq : x / 60 = i
  · have hx1 : x = i * 60 + x % 60 := by omega
    rw [hq, List.getElem?_set_self hi]
    have := h4 (x % 60) (by omega)
    rw [← hx1] at this
    rw [this]
    simp [setL]
  · rw [List.getElem?_set_ne (fun e => hq e.symm), ← hold]
    by_cases hlt : x < i * 60
    · exact h3 x hlt
    · exact h5 x (by omega)

theorem infoSet : (Tryd.prog.info? 108).map (fun i => (i.zero, i.size, i.bytes)) = some (some (.agg (setA noNumber)), 60, 60) := by kernel_rfl

theorem setsRow_made {w : World} {base g n : Nat} (h : w.ownsRow base 108 60 (.slice (some ⟨g, 0, none⟩) n n) n (madeCells (Value.agg (setA noNumber)).cells (n * 60)).toList) : setsRow w g (List.replicate n noNumber) := by
  rcases h.2 with ⟨h0, _⟩ | ⟨g', cap, cur, hv, _, hg, _, _, hs, ht⟩
  · cases h0
  · simp only [Value.slice.injEq, Option.some.injEq, Addr.mk.injEq] at hv
    obtain ⟨⟨rfl, _⟩, _, rfl⟩ := hv
    unfold setsRow
    rw [hg]
    congr 2
    apply Array.toList_inj.1
    rw [← List.take_of_length_le (l := cur.toList) (i := n * 60) (by simp [hs]), ht]
    have h6 : All60 (List.replicate n noNumber) := fun R hR => by rw [List.eq_of_mem_replicate hR]; rfl
    apply List.ext_getElem?
    intro x
    have hx6 : x % 60 < 60 := Nat.mod_lt _ (by omega)
    have hxx : x / 60 * 60 + x % 60 = x := by omega
    have hold : (setA (List.replicate n noNumber).flatten).toList[x]? = (((List.replicate n noNumber)[x / 60]?).bind (·[x % 60]?)).map Value.bool := by
      rw [← flat_get _ h6 (x / 60) (x % 60) hx6, hxx, ← setA_get, Array.getElem?_toList]
    rw [hold]
    by_cases hx : x < n * 60
    · have hd : x / 60 < n := Nat.div_lt_of_lt_mul (by omega)
      have hz : ∀ r, r < 60 → (setA noNumber)[r]! = .bool false := fun r hr => by
        have : (setA noNumber)[r]? = some (.bool false) := by rw [setA_get, noNumber_get r hr]; rfl
        rw [Array.getElem!_eq_getD, Array.getD_eq_getD_getElem?, this]; rfl
      have hs60 : (setA noNumber).size = 60 := rfl
      simp only [madeCells, Value.cells, Array.toList_map, List.getElem?_map, Array.toList_range, List.getElem?_range hx, Option.map_some, hs60]
      rw [hz _ hx6, List.getElem?_replicate, if_pos hd, Option.bind_some, noNumber_get _ hx6]; rfl
    · have hd : ¬ x / 60 < n := fun h => hx (by omega)
      rw [List.getElem?_eq_none (by simp [madeCells]; omega), List.getElem?_eq_none (by simp; omega)]
      rfl
end Go.Proofs.YtdffpkmabehfbaaDoor
