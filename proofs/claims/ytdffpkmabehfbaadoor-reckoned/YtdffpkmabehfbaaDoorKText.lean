/-
  Numbers as they are written are read as they are.
-/
import Derived.Test.YtdffpkmabehfbaaDoorPlain
import Derived.Test.YtdffpkmabehfbaaDoorCPlain
namespace Go.Proofs.YtdffpkmabehfbaaDoor.Code
open Go.Proofs.YtdffpkmabehfbaaDoor.Ref (dec ch digits)

theorem ch_toNat (k : Nat) (h : k < 10) : (ch k).toNat = 48 + k := by
  match k, h with
  | 0, _ | 1, _ | 2, _ | 3, _ | 4, _ | 5, _ | 6, _ | 7, _ | 8, _ | 9, _ => rfl

theorem ch_in (k : Nat) (h : k < 10) : isIn 48 57 (ch k) = true := by
  match k, h with
  | 0, _ | 1, _ | 2, _ | 3, _ | 4, _ | 5, _ | 6, _ | 7, _ | 8, _ | 9, _ => rfl

theorem dec_in (n : Nat) : ∀ c ∈ dec n, isIn 48 57 c = true := by
  induction n using Nat.strongRecOn with
  | _ n ih =>
    intro c hc
    by_cases h : 10 ≤ n
    · rw [Ref.dec_big h] at hc
      rcases List.mem_append.1 hc with hc | hc
      · exact ih (n / 10) (by omega) c hc
      · rw [List.mem_singleton.1 hc]; exact ch_in _ (by omega)
    · rw [Ref.dec_small (by omega)] at hc
      rw [List.mem_singleton.1 hc]; exact ch_in _ (by omega)

theorem dec_fold (n : Nat) : numFold 0 (dec n) = n := by
  induction n using Nat.strongRecOn with
  | _ n ih =>
    by_cases h : 10 ≤ n
    · rw [Ref.dec_big h, numFold_snoc, ih (n / 10) (by omega), ch_toNat _ (by omega)]; omega
    · rw [Ref.dec_small (by omega)]
      show 10 * 0 + ((ch (n % 10)).toNat - 48) = n
      rw [ch_toNat _ (by omega)]; omega

theorem dec_len (n k : Nat) (hk : 0 < k) (h : n < 10 ^ k) : (dec n).length ≤ k := by
  induction n using Nat.strongRecOn generalizing k with
  | _ n ih =>
    by_cases h10 : 10 ≤ n
    · cases k with
      | zero => omega
      | succ k =>
        have hk2 : 0 < k := by
          cases k with
          | zero => omega
          | succ k => omega
        rw [Nat.pow_succ] at h
        have := ih (n / 10) (by omega) k hk2 (by omega)
        rw [Ref.dec_big h10, List.length_append]
        simpa using this
    · rw [Ref.dec_small (by omega)]; exact hk

theorem dec_pos (n : Nat) : dec n ≠ [] := by
  by_cases h : 10 ≤ n
  · rw [Ref.dec_big h]; simp
  · rw [Ref.dec_small (by omega)]; simp

theorem dec_head (n : Nat) (h : 0 < n) : ∃ c r, dec n = c :: r ∧ 49 ≤ c.toNat := by
  induction n using Nat.strongRecOn with
  | _ n ih =>
    by_cases h10 : 10 ≤ n
    · obtain ⟨c, r, e, hc⟩ := ih (n / 10) (by omega) (by omega)
      exact ⟨c, r ++ [ch (n % 10)], by rw [Ref.dec_big h10, e]; rfl, hc⟩
    · exact ⟨ch (n % 10), [], Ref.dec_small (by omega), by rw [ch_toNat _ (by omega)]; omega⟩

theorem dec_good (n : Nat) (h : n < 10 ^ 10) : ¬ badDigits (dec n) := by
  rintro (hb | hb | ⟨hb, hb'⟩)
  · exact dec_pos n hb
  · have := dec_len n 10 (by omega) h
    omega
  · by_cases h0 : 0 < n
    · obtain ⟨c, r, e, hc⟩ := dec_head n h0
      rw [e] at hb
      simp only [List.head?_cons, Option.some.injEq] at hb
      subst hb
      revert hc; decide
    · obtain rfl : n = 0 := by omega
      exact hb' rfl

/-- The text does not go on with a digit. -/
def Stop (r : List UInt8) : Prop := r.takeWhile (isIn 48 57) = []

theorem stop_cons {c : UInt8} {r : List UInt8} (h : isIn 48 57 c = false) : Stop (c :: r) := by
  unfold Stop; rw [List.takeWhile_cons_of_neg (by rw [h]; simp)]

theorem dropWhile_of_stop {r : List UInt8} (h : Stop r) : r.dropWhile (isIn 48 57) = r := by
  have := run_rest 48 57 r
  unfold run rest at this
  rw [h] at this
  exact this

theorem number_dec (n : Nat) (r : List UInt8) (h : n < 10 ^ 10) (hr : Stop r) : number (dec n ++ r) = some (n, r) := by
  have e1 : run 48 57 (dec n ++ r) = dec n := by
    unfold run
    rw [List.takeWhile_append_of_pos (dec_in n), hr, List.append_nil]
  have e2 : rest 48 57 (dec n ++ r) = r := by
    unfold rest
    rw [List.dropWhile_append_of_pos (dec_in n), dropWhile_of_stop hr]
  unfold number
  rw [e1, e2, if_neg (dec_good n h), dec_fold]

theorem value_dec (n : Nat) (r : List UInt8) (h : n < 60) (hr : Stop r) : value (118 :: (dec n ++ r)) = some (n, r) := by
  have e : cut [118] (118 :: (dec n ++ r)) = some (dec n ++ r) := cut_app [118] _
  unfold value
  rw [e, Option.bind_some]
  unfold below
  rw [number_dec n r (by omega) hr, Option.bind_some, if_pos (by show (n : Int) < 60; omega)]

theorem cut_not {c d : UInt8} {r : List UInt8} (h : c ≠ d) : cut [d] (c :: r) = none := by
  apply cut_none_of
  simp only [List.length_cons, List.length_nil, List.take_succ_cons, List.take_zero]
  intro hh
  exact h (List.cons.inj hh).1

theorem signed_digits (n : Int) (r : List UInt8) (h : -2147483648 ≤ n) (h' : n < 2147483648) (hr : Stop r) : signed (digits n ++ r) = some (n, r) := by
  unfold digits
  by_cases hn : n < 0
  · rw [if_pos hn]
    have e : cut [45] (45 :: dec (-n).toNat ++ r) = some (dec (-n).toNat ++ r) := cut_app [45] _
    unfold signed
    rw [e]
    show (number _).bind _ = _
    rw [number_dec _ r (by omega) hr, Option.bind_some]
    unfold signedOf
    rw [if_neg (by rintro ⟨_, h0⟩; simp only at h0; omega)]
    simp only [if_true]
    have e2 : -(((-n).toNat : Nat) : Int) = n := by omega
    rw [e2, if_neg (by omega)]
  · rw [if_neg hn]
    have e : cut [45] (dec n.toNat ++ r) = none := by
      cases hd : dec n.toNat with
      | nil => exact absurd hd (dec_pos _)
      | cons c t =>
        have hc := dec_in n.toNat c (by rw [hd]; exact List.mem_cons_self)
        refine cut_not (r := t ++ r) ?_
        rintro rfl
        revert hc; decide
    unfold signed
    rw [e]
    show (number _).bind _ = _
    rw [number_dec _ r (by omega) hr, Option.bind_some]
    unfold signedOf
    rw [if_neg (by rintro ⟨h0, _⟩; cases h0)]
    have e2 : ((n.toNat : Nat) : Int) = n := by omega
    simp only [Bool.false_eq_true, if_false]
    rw [e2, if_neg (by omega)]
end Go.Proofs.YtdffpkmabehfbaaDoor.Code
