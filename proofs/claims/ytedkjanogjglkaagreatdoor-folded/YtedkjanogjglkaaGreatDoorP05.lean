/-
  Parts of the proof: CAhead, CAhead2.
-/
import Derived.Test.YtedkjanogjglkaaGreatDoorP04
import Derived.Laws.StructEq
namespace Go.Proofs.YtedkjanogjglkaaGreatDoor
open Go.RowKit
theorem all_beq : ∀ (X Y : List Bool), X.length = Y.length -> ((List.range X.length).all fun i => X.getD i false == Y.getD i false) = (X == Y)
 | [], [], _ => rfl
 | x :: X, y :: Y, h => by
  have ih := all_beq X Y (by simpa using h)
  rw [List.length_cons, List.range_succ_eq_map, List.all_cons, List.all_map]
  simp only [List.getD_cons_zero, Function.comp_def, List.getD_cons_succ, ih, List.cons_beq_cons]
 | [], _ :: _, h => by simp at h
 | _ :: _, [], h => by simp at h
theorem sizeBool (w : World) : (sizeOf 4).run Tryz.prog w = .ok 1 w := by kernel_rfl
theorem equal_sets (X Y : List Bool) (hX : X.length = 60) (hY : Y.length = 60) (d : Nat) (w : World) : (Op.equalIn (d + 2) 281 (.agg (setA X)) (.agg (setA Y))).run Tryz.prog w = .ok (X == Y) w := by
 rw [<- all_beq X Y (hX.trans hY.symm), hX, List.range_eq_range', Op.equalIn]
 simp only [Sem.run_bind, run_underlying Tryz.underlying281, Result.andThen_ok, sizeBool, Std.Legacy.Range.forIn_eq_forIn_range', Std.Legacy.Range.size, Nat.sub_zero, Nat.add_sub_cancel, Nat.div_one]
 have hl : ∀ i ∈ List.range' 0 60 1, i < 60 := fun i hi => by simpa using (List.mem_range'_1.1 hi).2
 generalize List.range' 0 60 1 = l at hl ⊢
 induction l with
 | nil => simp
 | cons i l ih =>
  have hi : i < 60 := hl i (by simp)
  have pa : ∀ Z : List Bool, Z.length = 60 -> (part 4 (setA Z) (i * 1)).run Tryz.prog w = .ok (.bool (Z.getD i false)) w := fun Z hZ => by
   simp [part, isAgg, run_underlying Tryz.underlying4, setA, setL, List.getElem?_eq_getElem (show i < Z.length by omega)]
  have pe : ∀ a b : Bool, (Op.equalIn (d + 1) 4 (.bool a) (.bool b)).run Tryz.prog w = .ok (a == b) w := fun a b => by
   rw [Op.equalIn]
   simp [run_underlying Tryz.underlying4]
  simp only [List.forIn_cons, Sem.run_bind, pa X hX, pa Y hY, pe, Result.andThen_ok, List.all_cons]
  cases hb : (X.getD i false == Y.getD i false)
  ·simp
  ·simp only [Bool.not_true, Bool.false_eq_true, if_false, Sem.run_pure, Result.andThen_ok, Bool.true_and]
   exact ih fun j hj => hl j (by simp [hj])
theorem neq_sets (X Y : List Bool) (hX : X.length = 60) (hY : Y.length = 60) (w : World) : (binOp .neq 281 (.agg (setA X)) (.agg (setA Y))).run Tryz.prog w = .ok (.bool (!(X == Y))) w := by
 have h := equal_sets X Y hX hY 9998 w
 show ((do pure (Value.bool (!(<- Op.equal 281 (.agg (setA X)) (.agg (setA Y))))) : Sem Value)).run Tryz.prog w = _
 rw [Sem.run_bind, Op.equal, show Op.maxDepth = 9998 + 2 from rfl, h]
 rfl
theorem setA_get (R : List Bool) (x : Nat) : (setA R)[x]? = (R[x]?).map Value.bool := by simp only [setA, setL, List.getElem?_toArray, List.getElem?_map]
theorem setA_size (R : List Bool) : (setA R).size = R.length := by simp only [setA, List.size_toArray, setL_length]
theorem noNumber_get (r : Nat) (hr : r < 60) : noNumber[r]? = some false := by simp only [noNumber, List.getElem?_replicate, if_pos hr]
def All60 (A : List (List Bool)) : Prop := ∀ R ∈ A, R.length = 60
theorem All60.set {A : List (List Bool)} (h : All60 A) (i : Nat) {R : List Bool} (hR : R.length = 60) : All60 (A.set i R) := by
 intro x hx
 rcases List.mem_or_eq_of_mem_set hx with hx | rfl
 ·exact h x hx
 ·exact hR
theorem flat_get : ∀ (A : List (List Bool)), All60 A -> ∀ q r, r < 60 -> A.flatten[q * 60 + r]? = (A[q]?).bind (·[r]?)
 | [], _, q, r, _ => by simp
 | R :: A, h, q, r, hr => by
  have hR : R.length = 60 := h R (List.mem_cons_self ..)
  have hA : All60 A := fun x hx => h x (List.mem_cons_of_mem _ hx)
  rw [List.flatten_cons]
  cases q with
  | zero =>
   rw [List.getElem?_append_left (by omega)]
   simp
  | succ q =>
   rw [List.getElem?_append_right (by omega), hR, show (q + 1) * 60 + r - 60 = q * 60 + r by omega, flat_get A hA q r hr]
   simp
theorem flat_length : ∀ (A : List (List Bool)), All60 A -> A.flatten.length = A.length * 60
 | [], _ => rfl
 | R :: A, h => by
  have hR : R.length = 60 := h R (List.mem_cons_self ..)
  rw [List.flatten_cons, List.length_append, flat_length A (fun x hx => h x (List.mem_cons_of_mem _ hx)), hR]
  simp; omega
def setsRow (w : World) (g : Nat) (A : List (List Bool)) : Prop := w.heap[g]? = some (.cells (setA A.flatten) 281)
theorem setsRow.range {w : World} {g : Nat} {A : List (List Bool)} (h : setsRow w g A) (h6 : All60 A) (i : Nat) (hi : i < A.length) : w.rangeAt g (i * 60) (setL A[i]) := by
 intro j v hv
 have hj : j < 60 := by
  have := (List.getElem?_eq_some_iff.1 hv).1
  rw [setL_length, h6 A[i] (List.getElem_mem hi)] at this
  exact this
 refine blk_cell h _ v ?_
 simp only [setA, setL, List.getElem?_toArray, List.getElem?_map] at hv ⊢
 rw [flat_get A h6 i j hj, List.getElem?_eq_getElem hi]
 exact hv
theorem setsRow.there {w : World} {g : Nat} {A : List (List Bool)} (h : setsRow w g A) (h6 : All60 A) (i : Nat) (hi : i < A.length) : w.there g (i * 60) 60 := by
 intro j hj
 refine ⟨?_, blk_froz h _⟩
 have hl : j < (A[i]).length := by rw [h6 A[i] (List.getElem_mem hi)]; exact hj
 rw [h.range h6 i hi j (.bool (A[i])[j]) (by simp [setL, hl])]; rfl
theorem setsRow.put {w : World} {g : Nat} {A : List (List Bool)} (h : setsRow w g A) (h6 : All60 A) (i : Nat) (hi : i < A.length) (R : List Bool) (hR : R.length = 60) : setsRow (w.setCells g (i * 60) (setL R)) g (A.set i R) := by
 have hfl := flat_length A h6
 have h6' := h6.set i hR
 have hfl' := flat_length (A.set i R) h6'
 have hmul : (i + 1) * 60 <= A.length * 60 := Nat.mul_le_mul_right 60 hi
 obtain ⟨C', h1, h2, h3, h4, h5⟩ := setCells_block g (setL R) (i * 60) w _ h (by rw [setL_length, hR, setA_size, hfl]; omega)
 unfold setsRow
 rw [h1]
 congr 2
 apply Array.ext_getElem?
 intro x
 have hL : (setL R).length = 60 := by rw [setL_length, hR]
 have hxx : x / 60 * 60 + x % 60 = x := by omega
 have hx6 : x % 60 < 60 := Nat.mod_lt _ (by omega)
 have hnew : (setA (A.set i R).flatten)[x]? = (((A.set i R)[x / 60]?).bind (·[x % 60]?)).map Value.bool := by
  rw [<- flat_get (A.set i R) h6' (x / 60) (x % 60) hx6, hxx, setA_get]
 have hold : (setA A.flatten)[x]? = ((A[x / 60]?).bind (·[x % 60]?)).map Value.bool := by
  rw [<- flat_get A h6 (x / 60) (x % 60) hx6, hxx, setA_get]
 rw [hnew]
 by_cases hq : x / 60 = i
 ·have hx1 : x = i * 60 + x % 60 := by omega
  rw [hq, List.getElem?_set_self hi]
  have := h4 (x % 60) (by omega)
  rw [<- hx1] at this
  rw [this]
  simp [setL]
 ·rw [List.getElem?_set_ne (fun e => hq e.symm), <- hold]
  by_cases hlt : x < i * 60
  ·exact h3 x hlt
  ·exact h5 x (by omega)
theorem infoSet : (Tryz.prog.info? 281).map (fun i => (i.zero, i.size, i.bytes)) = some (some (.agg (setA noNumber)), 60, 60) := by kernel_rfl
theorem setsRow_made {w : World} {base g n : Nat} (h : w.ownsRow base 281 60 (.slice (some ⟨g, 0, none⟩) n n) n (madeCells (Value.agg (setA noNumber)).cells (n * 60)).toList) : setsRow w g (List.replicate n noNumber) := by
 rcases h.2 with ⟨h0, _⟩ | ⟨g', cap, cur, hv, _, hg, _, _, hs, ht⟩
 ·cases h0
 ·simp only [Value.slice.injEq, Option.some.injEq, Addr.mk.injEq] at hv
  obtain ⟨⟨rfl, _⟩, _, rfl⟩ := hv
  unfold setsRow
  rw [hg]
  congr 2
  apply Array.toList_inj.1
  rw [<- List.take_of_length_le (l := cur.toList) (i := n * 60) (by simp [hs]), ht]
  have h6 : All60 (List.replicate n noNumber) := fun R hR => by rw [List.eq_of_mem_replicate hR]; rfl
  apply List.ext_getElem?
  intro x
  have hx6 : x % 60 < 60 := Nat.mod_lt _ (by omega)
  have hxx : x / 60 * 60 + x % 60 = x := by omega
  have hold : (setA (List.replicate n noNumber).flatten).toList[x]? = (((List.replicate n noNumber)[x / 60]?).bind (·[x % 60]?)).map Value.bool := by
   rw [<- flat_get _ h6 (x / 60) (x % 60) hx6, hxx, <- setA_get, Array.getElem?_toList]
  rw [hold]
  by_cases hx : x < n * 60
  ·have hd : x / 60 < n := Nat.div_lt_of_lt_mul (by omega)
   have hz : ∀ r, r < 60 -> (setA noNumber)[r]! = .bool false := fun r hr => by
    have : (setA noNumber)[r]? = some (.bool false) := by rw [setA_get, noNumber_get r hr]; rfl
    rw [Array.getElem!_eq_getD, Array.getD_eq_getD_getElem?, this]; rfl
   have hs60 : (setA noNumber).size = 60 := rfl
   simp only [madeCells, Value.cells, Array.toList_map, List.getElem?_map, Array.toList_range, List.getElem?_range hx, Option.map_some, hs60]
   rw [hz _ hx6, List.getElem?_replicate, if_pos hd, Option.bind_some, noNumber_get _ hx6]; rfl
  ·have hd : ¬ x / 60 < n := fun h => hx (by omega)
   rw [List.getElem?_eq_none (by simp [madeCells]; omega), List.getElem?_eq_none (by simp; omega)]
   rfl
namespace Code
abbrev Sets := List (List Bool)
def stepT (e : List Bool) (st : Sets × Bool) (t : Nat) : Sets × Bool :=
 (st.1.set t (both (st.1.getD t []) e), st.2 || !(both (st.1.getD t []) e == st.1.getD t []))
def stepB (st : Sets × Bool) (j : Nat) (b : Blk) : Sets × Bool := (tg b.last).foldl (stepT (addAll (st.1.getD j []) b.values)) st
def passGo : List Blk -> Nat -> Sets × Bool -> Sets × Bool
 | [], _, st => st
 | b :: r, j, st => passGo r (j + 1) (stepB st j b)
def pass (bks : List Blk) (A : Sets) : Sets × Bool := passGo bks 0 (A, false)
inductive Iter (bks : List Blk) : Sets -> Sets -> Prop
 | done {A : Sets} : (pass bks A).2 = false -> Iter bks A (pass bks A).1
 | more {A B : Sets} : (pass bks A).2 = true -> Iter bks (pass bks A).1 B -> Iter bks A B
theorem Iter.det {bks : List Blk} {A B B' : Sets} (h : Iter bks A B) (h' : Iter bks A B') : B = B' := by
 induction h generalizing B' with
 | done h1 => cases h' with
  | done _ => rfl
  | more g1 _ => rw [h1] at g1; cases g1
 | more h1 _ ih => cases h' with
  | done g1 => rw [h1] at g1; cases g1
  | more _ g2 => exact ih g2
def everyNumber : List Bool := List.replicate 60 true
def startTo (n k : Nat) : Sets := (List.range n).map fun i => if 1 <= i /\ i < k then everyNumber else noNumber
theorem startTo_length (n k : Nat) : (startTo n k).length = n := by simp [startTo]
theorem startTo_one (n : Nat) : startTo n 1 = List.replicate n noNumber := by
 apply List.ext_getElem
 ·simp [startTo]
 ·intro i h1 h2
  have h : ¬ (1 <= i /\ i < 1) := by omega
  simp only [startTo, List.getElem_map, List.getElem_range, if_neg h, List.getElem_replicate]
theorem startTo_set (n k : Nat) (h : 1 <= k) : (startTo n k).set k everyNumber = startTo n (k + 1) := by
 apply List.ext_getElem
 ·simp [startTo]
 ·intro i h1 h2
  simp only [List.length_set, startTo, List.length_map, List.length_range] at h1
  rw [List.getElem_set]
  simp only [startTo, List.getElem_map, List.getElem_range]
  by_cases hi : k = i
  ·subst hi
   have h3 : 1 <= k /\ k < k + 1 := by omega
   simp only [if_true, if_pos h3]
  ·by_cases h4 : 1 <= i /\ i < k
   ·have h5 : 1 <= i /\ i < k + 1 := by omega
    simp only [if_neg hi, if_pos h4, if_pos h5]
   ·have h5 : ¬ (1 <= i /\ i < k + 1) := by omega
    simp only [if_neg hi, if_neg h4, if_neg h5]
def trues (A : Sets) : Nat := A.flatten.countP id
theorem trues_both : ∀ (R S : List Bool), R.length = S.length -> (both R S).countP id <= R.countP id /\ (both R S ≠ R -> (both R S).countP id < R.countP id)
 | [], [], _ => ⟨Nat.le_refl _, fun h => absurd rfl h⟩
 | r :: R, s :: S, h => by
  have ih := trues_both R S (by simpa using h)
  unfold both at *
  simp only [List.zipWith_cons_cons, List.countP_cons]
  cases r <;> cases s
  ·simp only [Bool.and_false, id]
   refine ⟨by simpa using ih.1, fun hn => ?_⟩
   have := ih.2 (fun e => hn (by rw [e]))
   simpa using this
  ·simp only [Bool.and_true, id]
   refine ⟨by simpa using ih.1, fun hn => ?_⟩
   have := ih.2 (fun e => hn (by rw [e]))
   simpa using this
  ·simp only [Bool.and_false, id]
   have := ih.1
   refine ⟨by simp; omega, fun _ => by simp; omega⟩
  ·simp only [Bool.and_true, id]
   refine ⟨by simpa using ih.1, fun hn => ?_⟩
   have := ih.2 (fun e => hn (by rw [e]))
   simpa using this
 | [], _ :: _, h => by simp at h
 | _ :: _, [], h => by simp at h
theorem trues_set : ∀ (A : Sets) (t : Nat) (h : t < A.length) (R : List Bool), trues (A.set t R) + A[t].countP id = trues A + R.countP id
 | X :: A, 0, _, R => by simp only [trues, List.set_cons_zero, List.flatten_cons, List.countP_append, List.getElem_cons_zero]; omega
 | X :: A, t + 1, h, R => by
  have ih := trues_set A t (by simpa using h) R
  simp only [trues, List.set_cons_succ, List.flatten_cons, List.countP_append, List.getElem_cons_succ] at ih ⊢
  omega
structure Along (n : Nat) (A : Sets) (st : Sets × Bool) : Prop where
 len : st.1.length = n
 all : All60 st.1
 le : trues st.1 <= trues A
 lt : st.2 = true -> trues st.1 < trues A
theorem Along.step {n : Nat} {A : Sets} {st : Sets × Bool} (h : Along n A st) {e : List Bool} (he : e.length = 60) {t : Nat} (ht : t < n) : Along n A (stepT e st t) := by
 have htl : t < st.1.length := by rw [h.len]; exact ht
 have hg : st.1.getD t [] = st.1[t] := by rw [List.getD_eq_getElem?_getD, List.getElem?_eq_getElem htl]; rfl
 have h60 := h.all st.1[t] (List.getElem_mem htl)
 have hb := trues_both st.1[t] e (by omega)
 have hs := trues_set st.1 t htl (both st.1[t] e)
 have hle := h.le
 refine ⟨by simp [stepT, h.len], h.all.set t (by rw [hg]; exact both_length h60 he), ?_, ?_⟩
 ·simp only [stepT, hg]; omega
 ·simp only [stepT, hg]
  intro hc
  rcases Bool.or_eq_true_iff.1 hc with h1 | h1
  ·have := h.lt h1; omega
  ·have hne : both st.1[t] e ≠ st.1[t] := by
    intro e'
    rw [e'] at h1
    simp at h1
   have := hb.2 hne
   omega
end Code
def wtrues (w : World) (g : Nat) : Nat := match w.heap[g]? with
 | some (.cells C _ _) => C.toList.countP fun v => match v with | .bool b => b | _ => false
 | _ => 0
theorem wtrues_row {w : World} {g : Nat} {A : Code.Sets} (h : setsRow w g A) : wtrues w g = Code.trues A := by
 unfold setsRow at h
 simp only [wtrues, h, setA, setL, Code.trues, List.countP_map]
 rfl
end Go.Proofs.YtedkjanogjglkaaGreatDoor
