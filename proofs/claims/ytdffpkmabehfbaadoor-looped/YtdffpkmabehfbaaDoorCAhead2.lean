/-
  What is made ahead of each block: the mathematics.
-/
import Derived.Test.YtdffpkmabehfbaaDoorCAhead
namespace Go.Proofs.YtdffpkmabehfbaaDoor
open Go.RowKit

namespace Code
abbrev Sets := List (List Bool)

def stepT (e : List Bool) (st : Sets × Bool) (t : Nat) : Sets × Bool :=
  (st.1.set t (both (st.1.getD t []) e), st.2 || !(both (st.1.getD t []) e == st.1.getD t []))

def stepB (st : Sets × Bool) (j : Nat) (b : Blk) : Sets × Bool := (tg b.last).foldl (stepT (addAll (st.1.getD j []) b.values)) st

def passGo : List Blk → Nat → Sets × Bool → Sets × Bool
  | [], _, st => st
  | b :: r, j, st => passGo r (j + 1) (stepB st j b)

/-- Once over all blocks: what is left, and whether something went. -/
def pass (bks : List Blk) (A : Sets) : Sets × Bool := passGo bks 0 (A, false)

/-- Again and again, till nothing goes. -/
inductive Iter (bks : List Blk) : Sets → Sets → Prop
  | done {A : Sets} : (pass bks A).2 = false → Iter bks A (pass bks A).1
  | more {A B : Sets} : (pass bks A).2 = true → Iter bks (pass bks A).1 B → Iter bks A B

theorem Iter.det {bks : List Blk} {A B B' : Sets} (h : Iter bks A B) (h' : Iter bks A B') : B = B' := by
  induction h generalizing B' with
  | done h1 => cases h' with
    | done _ => rfl
    | more g1 _ => rw [h1] at g1; cases g1
  | more h1 _ ih => cases h' with
    | done g1 => rw [h1] at g1; cases g1
    | more _ g2 => exact ih g2

def everyNumber : List Bool := List.replicate 60 true

/-- What it begins with: all, but nothing ahead of the first block. -/
def startTo (n k : Nat) : Sets := (List.range n).map fun i => if 1 ≤ i ∧ i < k then everyNumber else noNumber

theorem startTo_length (n k : Nat) : (startTo n k).length = n := by simp [startTo]

theorem startTo_one (n : Nat) : startTo n 1 = List.replicate n noNumber := by
  apply List.ext_getElem
  · simp [startTo]
  · intro i h1 h2
    have h : ¬ (1 ≤ i ∧ i < 1) := by omega
    simp only [startTo, List.getElem_map, List.getElem_range, if_neg h, List.getElem_replicate]

theorem startTo_set (n k : Nat) (h : 1 ≤ k) : (startTo n k).set k everyNumber = startTo n (k + 1) := by
  apply List.ext_getElem
  · simp [startTo]
  · intro i h1 h2
    simp only [List.length_set, startTo, List.length_map, List.length_range] at h1
    rw [List.getElem_set]
    simp only [startTo, List.getElem_map, List.getElem_range]
    by_cases hi : k = i
    · subst hi
      have h3 : 1 ≤ k ∧ k < k + 1 := by omega
      simp only [if_true, if_pos h3]
    · by_cases h4 : 1 ≤ i ∧ i < k
      · have h5 : 1 ≤ i ∧ i < k + 1 := by omega
        simp only [if_neg hi, if_pos h4, if_pos h5]
      · have h5 : ¬ (1 ≤ i ∧ i < k + 1) := by omega
        simp only [if_neg hi, if_neg h4, if_neg h5]

def trues (A : Sets) : Nat := A.flatten.countP id

theorem trues_both : ∀ (R S : List Bool), R.length = S.length → (both R S).countP id ≤ R.countP id ∧ (both R S ≠ R → (both R S).countP id < R.countP id)
  | [], [], _ => ⟨Nat.le_refl _, fun h => absurd rfl h⟩
  | r :: R, s :: S, h => by
    have ih := trues_both R S (by simpa using h)
    unfold both at *
    simp only [List.zipWith_cons_cons, List.countP_cons]
    cases r <;> cases s
    · simp only [Bool.and_false, id]
      refine ⟨by simpa using ih.1, fun hn => ?_⟩
      have := ih.2 (fun e => hn (by rw [e]))
      simpa using this
    · simp only [Bool.and_true, id]
      refine ⟨by simpa using ih.1, fun hn => ?_⟩
      have := ih.2 (fun e => hn (by rw [e]))
      simpa using this
    · simp only [Bool.and_false, id]
      have := ih.1
      refine ⟨by simp; omega, fun _ => by simp; omega⟩
    · simp only [Bool.and_true, id]
      refine ⟨by simpa using ih.1, fun hn => ?_⟩
      have := ih.2 (fun e => hn (by rw [e]))
      simpa using this
  | [], _ :: _, h => by simp at h
  | _ :: _, [], h => by simp at h

theorem trues_set : ∀ (A : Sets) (t : Nat) (h : t < A.length) (R : List Bool), trues (A.set t R) + A[t].countP id = trues A + R.countP id
  | X :: A, 0, _, R => by simp only [trues, List.set_cons_zero, List.flatten_cons, List.countP_append, List.getElem_cons_zero]; omega
  | X :: A, t + 1, h, R => by
    have ih := trues_set A t (by simpa using h) R
    simp only [trues, List.set_cons_succ, List.flatten_cons, List.countP_append, List.getElem_cons_succ] at ih ⊢
    omega

/-- What holds along a pass that began with A: so many sets of sixty; nothing has come, and if it says so something has gone. -/
structure Along (n : Nat) (A : Sets) (st : Sets × Bool) : Prop where
  len : st.1.length = n
  all : All60 st.1
  le : trues st.1 ≤ trues A
  lt : st.2 = true → trues st.1 < trues A

theorem Along.step {n : Nat} {A : Sets} {st : Sets × Bool} (h : Along n A st) {e : List Bool} (he : e.length = 60) {t : Nat} (ht : t < n) : Along n A (stepT e st t) := by
  have htl : t < st.1.length := by rw [h.len]; exact ht
  have hg : st.1.getD t [] = st.1[t] := by rw [List.getD_eq_getElem?_getD, List.getElem?_eq_getElem htl]; rfl
  have h60 := h.all st.1[t] (List.getElem_mem htl)
  have hb := trues_both st.1[t] e (by omega)
  have hs := trues_set st.1 t htl (both st.1[t] e)
  have hle := h.le
  refine ⟨by simp [stepT, h.len], h.all.set t (by rw [hg]; exact both_length h60 he), ?_, ?_⟩
  · simp only [stepT, hg]; omega
  · simp only [stepT, hg]
    intro hc
    rcases Bool.or_eq_true_iff.1 hc with h1 | h1
    · have := h.lt h1; omega
    · have hne : both st.1[t] e ≠ st.1[t] := by
        intro e'
        rw [e'] at h1
        simp at h1
      have := hb.2 hne
      omega
end Code

/-- How many cells of a block are true. -/
def wtrues (w : World) (g : Nat) : Nat := match w.heap[g]? with
  | some (.cells C _ _) => C.toList.countP fun v => match v with | .bool b => b | _ => false
  | _ => 0

theorem wtrues_row {w : World} {g : Nat} {A : Code.Sets} (h : setsRow w g A) : wtrues w g = Code.trues A := by
  unfold setsRow at h
  simp only [wtrues, h, setA, setL, Code.trues, List.countP_map]
  rfl
end Go.Proofs.YtdffpkmabehfbaaDoor
