/-
  How the functions of 'works' and 'Looped' run.
-/
import Derived.Test.YtdffpkmabehfbaaDoorCTexts
namespace Go.Proofs.YtdffpkmabehfbaaDoor
open Go.RowKit
namespace Code

theorem Ends.det {args : List Int} {bks : List Blk} {fu at_ place : Nat} {V : List Int} {st : Nat} {r : Int} {n : Nat} {e : Int} {r' : Int} {n' : Nat} {e' : Int}
    (h : Ends args bks fu at_ place V st r n e) (h' : Ends args bks fu at_ place V st r' n' e') : r = r' ∧ n = n' ∧ e = e' := by
  induction h generalizing r' n' e' with
  | fuelV h1 h2 => cases h' <;> simp_all
  | trap h1 h2 => cases h' <;> simp_all
  | fuelL h1 h2 h3 => cases h' <;> simp_all <;> omega
  | ret h1 h2 h3 h4 => cases h' <;> simp_all <;> omega
  | jump h1 h2 h3 h4 h5 ih => cases h' <;> simp_all <;> first | omega | exact ih (by assumption)
  | yes h1 h2 h3 h4 h5 h6 ih => cases h' <;> simp_all <;> first | omega | exact ih (by assumption)
  | no h1 h2 h3 h4 h5 h6 ih => cases h' <;> simp_all <;> first | omega | exact ih (by assumption)

theorem gs_eq (V : List Int) (x : Nat) (n : Int) (h : x < V.length) : (V.set x n).getD x 0 = n := by
  rw [List.getD_eq_getElem?_getD, List.getElem?_set_self h]; rfl

theorem gs_ne (V : List Int) (x y : Nat) (n : Int) (h : x ≠ y) : (V.set x n).getD y 0 = V.getD y 0 := by
  rw [List.getD_eq_getElem?_getD, List.getD_eq_getElem?_getD, List.getElem?_set_ne h]

theorem wrap_in (x : Int) (h : -2147483648 ≤ x) (h' : x < 2147483648) : wrap32 x = x := by unfold wrap32; omega

theorem places1 : (edges fnL1.blocks).places 0 0 = 0 ∧ (edges fnL1.blocks).places 1 0 = 0 ∧ (edges fnL1.blocks).places 1 1 = 0 ∧ (edges fnL1.blocks).places 2 0 = 1 := ⟨by decide, by decide, by decide, by decide⟩
theorem places2 : (edges fnL2.blocks).places 0 0 = 0 ∧ (edges fnL2.blocks).places 1 0 = 0 ∧ (edges fnL2.blocks).places 1 1 = 0 ∧ (edges fnL2.blocks).places 2 0 = 1 := ⟨by decide, by decide, by decide, by decide⟩

/-- The sum 1 + .. + i. -/
def tri : Nat → Int
  | 0 => 0
  | i + 1 => tri i + (i + 1)

theorem tri_le : ∀ i : Nat, 0 ≤ tri i ∧ tri i ≤ 1000 * i → i ≤ 1000 → True := fun _ _ _ => trivial

theorem loop1 (args : List Int) : ∀ (i : Nat) (s : Int) (V : List Int) (st place : Nat), V.length = 60 → V.getD 2 0 = -1 → V.getD (([0, 5] : List Nat).getD place 0) 0 = i → V.getD (([1, 6] : List Nat).getD place 0) 0 = s → i ≤ 1000 → 0 ≤ s → s + 1000 * i ≤ 1100000 → st + 6 * i + 4 ≤ 100000 →
    Ends args fnL1.blocks 100000 1 place V st (s + tri i) (st + 6 * i + 4) 0 := by
  intro i
  induction i with
  | zero =>
    intro s V st place hV h2 hi hs _ _ _ hst
    have hrv : runVals args V place 100000 [⟨3, .phi [0, 5]⟩, ⟨4, .phi [1, 6]⟩] V st = .ok ((V.set 3 0).set 4 s) (st + 1 + 1) := by
      rw [runVals_on (n := 0) (by omega) (by simp only [comes]; rw [hi]; rfl), runVals_on (n := s) (by omega) (by simp only [comes]; rw [hs])]
      rfl
    refine Ends.no (b := ⟨[⟨3, .phi [0, 5]⟩, ⟨4, .phi [1, 6]⟩], .ifs 3 2 3⟩) rfl hrv (by omega) rfl (by rw [gs_ne _ _ _ _ (by omega), gs_eq _ _ _ (by omega)]) ?_
    have hfin : Ends args fnL1.blocks 100000 3 ((edges fnL1.blocks).places 1 1) ((V.set 3 0).set 4 s) (st + 1 + 1 + 1) (((V.set 3 0).set 4 s).getD 4 0) (st + 1 + 1 + 1 + 1) 0 := Ends.ret (b := ⟨[], .ret 4⟩) rfl rfl (by omega) rfl
    rw [gs_eq _ _ _ (by simp; omega)] at hfin
    simpa [tri] using hfin
  | succ i ih =>
    intro s V st place hV h2 hi hs hil hs0 hsb hst
    have hrv : runVals args V place 100000 [⟨3, .phi [0, 5]⟩, ⟨4, .phi [1, 6]⟩] V st = .ok ((V.set 3 ((i + 1 : Nat) : Int)).set 4 s) (st + 1 + 1) := by
      rw [runVals_on (n := ((i + 1 : Nat) : Int)) (by omega) (by simp only [comes]; rw [hi]), runVals_on (n := s) (by omega) (by simp only [comes]; rw [hs])]
      rfl
    refine Ends.yes (b := ⟨[⟨3, .phi [0, 5]⟩, ⟨4, .phi [1, 6]⟩], .ifs 3 2 3⟩) rfl hrv (by omega) rfl (by rw [gs_ne _ _ _ _ (by omega), gs_eq _ _ _ (by omega)]; omega) ?_
    have hV' : ((V.set 3 ((i + 1 : Nat) : Int)).set 4 s).length = 60 := by simp [hV]
    have e3 : ((V.set 3 ((i + 1 : Nat) : Int)).set 4 s).getD 3 0 = ((i + 1 : Nat) : Int) := by rw [gs_ne _ _ _ _ (by omega), gs_eq _ _ _ (by omega)]
    have e4 : ((V.set 3 ((i + 1 : Nat) : Int)).set 4 s).getD 4 0 = s := by rw [gs_eq _ _ _ (by simp; omega)]
    have e2 : ((V.set 3 ((i + 1 : Nat) : Int)).set 4 s).getD 2 0 = -1 := by rw [gs_ne _ _ _ _ (by omega), gs_ne _ _ _ _ (by omega)]; exact h2
    generalize (V.set 3 ((i + 1 : Nat) : Int)).set 4 s = W at *
    rw [places1.2.1]
    have hrw : runVals args W 0 100000 [⟨5, .apply 0 [3, 2]⟩, ⟨6, .apply 0 [4, 3]⟩] W (st + 1 + 1 + 1) = .ok ((W.set 5 (i : Int)).set 6 (s + ((i + 1 : Nat) : Int))) (st + 1 + 1 + 1 + 1 + 1) := by
      have c1 : comes args W W 0 (.apply 0 [3, 2]) = some (i : Int) := by
        show some (wrap32 (W.getD 3 0 + W.getD 2 0)) = _
        rw [e3, e2, wrap_in _ (by omega) (by omega)]
        congr 1; omega
      have c2 : comes args W (W.set 5 (i : Int)) 0 (.apply 0 [4, 3]) = some (s + ((i + 1 : Nat) : Int)) := by
        show some (wrap32 ((W.set 5 (i : Int)).getD 4 0 + (W.set 5 (i : Int)).getD 3 0)) = _
        rw [gs_ne _ _ _ _ (by omega), gs_ne _ _ _ _ (by omega), e4, e3, wrap_in _ (by omega) (by omega)]
      rw [runVals_on (by omega) c1, runVals_on (by omega) c2]
      rfl
    refine Ends.jump (b := ⟨[⟨5, .apply 0 [3, 2]⟩, ⟨6, .apply 0 [4, 3]⟩], .jump 1⟩) rfl hrw (by omega) rfl ?_
    rw [places1.2.2.2]
    have hh := ih (s + ((i + 1 : Nat) : Int)) ((W.set 5 (i : Int)).set 6 (s + ((i + 1 : Nat) : Int))) (st + 1 + 1 + 1 + 1 + 1 + 1) 1 (by simp [hV']) (by rw [gs_ne _ _ _ _ (by omega), gs_ne _ _ _ _ (by omega)]; exact e2)
      (by show ((W.set 5 (i : Int)).set 6 _).getD 5 0 = _; rw [gs_ne _ _ _ _ (by omega), gs_eq _ _ _ (by omega)]) (by show ((W.set 5 (i : Int)).set 6 _).getD 6 0 = _; rw [gs_eq _ _ _ (by simp; omega)]) (by omega) (by omega) (by omega) (by omega)
    have er : s + ((i + 1 : Nat) : Int) + tri i = s + tri (i + 1) := by simp only [tri]; omega
    have en : st + 1 + 1 + 1 + 1 + 1 + 1 + 6 * i + 4 = st + 6 * (i + 1) + 4 := by omega
    rw [er, en] at hh
    exact hh

theorem loop2 (args : List Int) : ∀ (i : Nat) (a b : Int) (V : List Int) (st place : Nat), V.length = 60 → V.getD 8 0 = -1 → V.getD (([0, 6] : List Nat).getD place 0) 0 = i → V.getD (([1, 5] : List Nat).getD place 0) 0 = a → V.getD (([2, 4] : List Nat).getD place 0) 0 = b → i ≤ 1000 → st + 6 * i + 5 ≤ 100000 →
    Ends args fnL2.blocks 100000 1 place V st (if i % 2 = 1 then b else a) (st + 6 * i + 5) 0 := by
  intro i
  induction i with
  | zero =>
    intro a b V st place hV h8 hi ha hb _ hst
    have hrv : runVals args V place 100000 [⟨3, .phi [0, 6]⟩, ⟨4, .phi [1, 5]⟩, ⟨5, .phi [2, 4]⟩] V st = .ok (((V.set 3 0).set 4 a).set 5 b) (st + 1 + 1 + 1) := by
      rw [runVals_on (n := 0) (by omega) (by simp only [comes]; rw [hi]; rfl), runVals_on (n := a) (by omega) (by simp only [comes]; rw [ha]), runVals_on (n := b) (by omega) (by simp only [comes]; rw [hb])]
      rfl
    refine Ends.no (b := ⟨[⟨3, .phi [0, 6]⟩, ⟨4, .phi [1, 5]⟩, ⟨5, .phi [2, 4]⟩], .ifs 3 2 3⟩) rfl hrv (by omega) rfl (by rw [gs_ne _ _ _ _ (by omega), gs_ne _ _ _ _ (by omega), gs_eq _ _ _ (by omega)]) ?_
    have hfin : Ends args fnL2.blocks 100000 3 ((edges fnL2.blocks).places 1 1) (((V.set 3 0).set 4 a).set 5 b) (st + 1 + 1 + 1 + 1) ((((V.set 3 0).set 4 a).set 5 b).getD 4 0) (st + 1 + 1 + 1 + 1 + 1) 0 := Ends.ret (b := ⟨[], .ret 4⟩) rfl rfl (by omega) rfl
    rw [gs_ne _ _ _ _ (by omega), gs_eq _ _ _ (by simp; omega)] at hfin
    simpa using hfin
  | succ i ih =>
    intro a b V st place hV h8 hi ha hb hil hst
    have hrv : runVals args V place 100000 [⟨3, .phi [0, 6]⟩, ⟨4, .phi [1, 5]⟩, ⟨5, .phi [2, 4]⟩] V st = .ok (((V.set 3 ((i + 1 : Nat) : Int)).set 4 a).set 5 b) (st + 1 + 1 + 1) := by
      rw [runVals_on (n := ((i + 1 : Nat) : Int)) (by omega) (by simp only [comes]; rw [hi]), runVals_on (n := a) (by omega) (by simp only [comes]; rw [ha]), runVals_on (n := b) (by omega) (by simp only [comes]; rw [hb])]
      rfl
    refine Ends.yes (b := ⟨[⟨3, .phi [0, 6]⟩, ⟨4, .phi [1, 5]⟩, ⟨5, .phi [2, 4]⟩], .ifs 3 2 3⟩) rfl hrv (by omega) rfl (by rw [gs_ne _ _ _ _ (by omega), gs_ne _ _ _ _ (by omega), gs_eq _ _ _ (by omega)]; omega) ?_
    have hV' : (((V.set 3 ((i + 1 : Nat) : Int)).set 4 a).set 5 b).length = 60 := by simp [hV]
    have e3 : (((V.set 3 ((i + 1 : Nat) : Int)).set 4 a).set 5 b).getD 3 0 = ((i + 1 : Nat) : Int) := by rw [gs_ne _ _ _ _ (by omega), gs_ne _ _ _ _ (by omega), gs_eq _ _ _ (by omega)]
    have e4 : (((V.set 3 ((i + 1 : Nat) : Int)).set 4 a).set 5 b).getD 4 0 = a := by rw [gs_ne _ _ _ _ (by omega), gs_eq _ _ _ (by simp; omega)]
    have e5 : (((V.set 3 ((i + 1 : Nat) : Int)).set 4 a).set 5 b).getD 5 0 = b := by rw [gs_eq _ _ _ (by simp; omega)]
    have e8 : (((V.set 3 ((i + 1 : Nat) : Int)).set 4 a).set 5 b).getD 8 0 = -1 := by rw [gs_ne _ _ _ _ (by omega), gs_ne _ _ _ _ (by omega), gs_ne _ _ _ _ (by omega)]; exact h8
    generalize ((V.set 3 ((i + 1 : Nat) : Int)).set 4 a).set 5 b = W at *
    rw [places2.2.1]
    have hrw : runVals args W 0 100000 [⟨6, .apply 0 [3, 8]⟩] W (st + 1 + 1 + 1 + 1) = .ok (W.set 6 (i : Int)) (st + 1 + 1 + 1 + 1 + 1) := by
      have c1 : comes args W W 0 (.apply 0 [3, 8]) = some (i : Int) := by
        show some (wrap32 (W.getD 3 0 + W.getD 8 0)) = _
        rw [e3, e8, wrap_in _ (by omega) (by omega)]
        congr 1; omega
      rw [runVals_on (by omega) c1]
      rfl
    refine Ends.jump (b := ⟨[⟨6, .apply 0 [3, 8]⟩], .jump 1⟩) rfl hrw (by omega) rfl ?_
    rw [places2.2.2.2]
    have hh := ih b a (W.set 6 (i : Int)) (st + 1 + 1 + 1 + 1 + 1 + 1) 1 (by simp [hV']) (by rw [gs_ne _ _ _ _ (by omega)]; exact e8)
      (by show (W.set 6 (i : Int)).getD 6 0 = _; rw [gs_eq _ _ _ (by omega)]) (by show (W.set 6 (i : Int)).getD 5 0 = _; rw [gs_ne _ _ _ _ (by omega)]; exact e5) (by show (W.set 6 (i : Int)).getD 4 0 = _; rw [gs_ne _ _ _ _ (by omega)]; exact e4) (by omega) (by omega)
    have er : (if i % 2 = 1 then a else b) = (if (i + 1) % 2 = 1 then b else a) := by
      by_cases h : i % 2 = 1
      · rw [if_pos h, if_neg (by omega)]
      · rw [if_neg h, if_pos (by omega)]
    have en : st + 1 + 1 + 1 + 1 + 1 + 1 + 6 * i + 5 = st + 6 * (i + 1) + 5 := by omega
    rw [er, en] at hh
    exact hh
end Code
end Go.Proofs.YtdffpkmabehfbaaDoor
