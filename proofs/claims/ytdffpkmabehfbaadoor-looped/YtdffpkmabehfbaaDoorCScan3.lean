/-
  Walks: scan.Reader: Number, Below, Signed.
-/
import Derived.Test.YtdffpkmabehfbaaDoorCScan2
namespace Go.Proofs.YtdffpkmabehfbaaDoor
open Go.RowKit

theorem digit_at (d : List UInt8) (h : ∀ c ∈ d, Code.isIn 48 57 c = true) (k : Nat) (hk : k < (bs d).size) : 48 ≤ (((bs d)[k]'hk).toNat : Int) ∧ (((bs d)[k]'hk).toNat : Int) ≤ 57 := by
  have h1 : k < d.length := by rw [bs_size] at hk; exact hk
  rw [bs_get d k h1]
  have := h d[k] (List.getElem_mem h1)
  simp [Code.isIn] at this
  omega

theorem numFold_snoc_at (d : List UInt8) (k : Nat) (hk : k < (bs d).size) : Code.numFold 0 (d.take (k + 1)) = 10 * Code.numFold 0 (d.take k) + (((bs d)[k]'hk).toNat - 48) := by
  have h1 : k < d.length := by rw [bs_size] at hk; exact hk
  rw [bs_get d k h1, List.take_add_one, List.getElem?_eq_getElem h1]
  exact Code.numFold_snoc _ _ _

theorem numFold_take_lt' (d : List UInt8) (h : ∀ c ∈ d, Code.isIn 48 57 c = true) (k : Nat) (h2 : d.length ≤ 10) : (Code.numFold 0 (d.take k) : Int) < 10000000000 := by
  have hb := Code.numFold_lt (d.take k) (fun c hc => h c (List.mem_of_mem_take hc))
  have h3 : (d.take k).length ≤ 10 := by have := List.length_take_le' k d; omega
  have h4 : 10 ^ (d.take k).length ≤ 10 ^ 10 := Nat.pow_le_pow_right (by omega) h3
  have h5 : (10 : Nat) ^ 10 = 10000000000 := by decide
  omega

set_option maxRecDepth 100000 in
set_option maxHeartbeats 1000000 in
theorem number_yes (rb : Nat) (T : TypeId) (s : List UInt8) (l why : Int) (X : List Value) (w : World) (hr : Rd w rb T s l why X) (hs : s.length ≤ 3000) (hb : ¬ Code.badDigits (Code.run 48 57 s)) :
    Calls Tryd.prog 40 #[.pointer (some ⟨rb, 0, none⟩)] w fun e w' =>
      e = .returned (.int .i64 (Code.numFold 0 (Code.run 48 57 s) : Nat)) ∧ Rd w' rb T (Code.rest 48 57 s) l why X ∧ w.grownBy w' (some rb) := by
  have hall := Code.run_all s
  have hrun := run_any rb T s 48 57 l why X w hr hs
  generalize Code.run 48 57 s = d at *
  generalize Code.rest 48 57 s = t at *
  unfold Code.badDigits at hb
  have b1 : ¬ d = [] := fun h => hb (Or.inl h)
  have b2 : d.length ≤ 10 := by
    have : ¬ 10 < d.length := fun h => hb (Or.inr (Or.inl h))
    omega
  have e1 := bs_size d
  have b3 : 0 < d.length := List.length_pos_iff.2 b1
  have b4 : 0 < (bs d).size := by omega
  have q1 : ((bs d).toList == []) = false := toList_no (by rw [bl_bs]; exact b1)
  have hz : ((((bs d)[0]'b4).toNat : Int) = 48 ∧ ((bs d).toList == [48]) = true) ∨ (¬ (((bs d)[0]'b4).toNat : Int) = 48 ∧ True) := by
    by_cases h : ((bs d)[0]'b4).toNat = 48
    · refine Or.inl ⟨by omega, ?_⟩
      have h48 : d.head? = some 48 := by
        rw [bs_get d 0 b3] at h
        rw [List.head?_eq_getElem?, List.getElem?_eq_getElem b3]
        exact congrArg some (UInt8.toNat_inj.1 h)
      have : d = [48] := Classical.byContradiction fun hn => hb (Or.inr (Or.inr ⟨h48, hn⟩))
      exact toList_yes (by rw [bl_bs]; exact this)
    · exact Or.inr ⟨by omega, trivial⟩
  have HALL := hide hall
  have HD := hide (digit_at d hall)
  have HL := hide (numFold_take_lt' d hall)
  clear hall hb b1
  rcases hz with ⟨z1, z2⟩ | ⟨z1, z2⟩
  all_goals
    go_enter Tryd.func40, Tryd.ntmps40
    go_wp2_with fail
    refine hrun.mono ?_
    rintro e w' ⟨rfl, hr', hg⟩
    go_wp2
    go_loop [4, 28] (fun n i => ∃ k : Nat, k ≤ d.length ∧ i = .int .i64 k ∧ n = .int .i64 (Code.numFold 0 (d.take k) : Nat)) (fun _ i => d.length - (intOf i).toNat)
    case atStart => exact ⟨0, Nat.zero_le _, rfl, rfl⟩
    case round =>
      obtain ⟨k, hk, rfl, rfl⟩ := hrel
      clear z1 z2 q1
      have hb := HL.out k b2
      by_cases hlt : k < d.length
      · have hlt' : k < (bs d).size := by omega
        have HSN := hide (numFold_snoc_at d k hlt')
        have h1 := HD.out k hlt'
        generalize Code.numFold 0 (d.take k) = m at *
        obtain ⟨h1, h2⟩ := h1
        go_wp2
        refine ⟨⟨k + 1, by omega, by go_num, ?_⟩, by simp [intOf]; omega⟩
        rw [HSN.out]; congr 1; omega
      · have HT := hide (show d.take k = d from List.take_of_length_le (by omega))
        go_wp2
        go_ret
        exact ⟨ret_int (by rw [HT.out]), hr', hg⟩

set_option maxHeartbeats 1000000 in
theorem number_no (rb : Nat) (T : TypeId) (s : List UInt8) (l why : Int) (X : List Value) (w : World) (hr : Rd w rb T s l why X) (hs : s.length ≤ 3000) (hb : Code.badDigits (Code.run 48 57 s)) :
    Calls Tryd.prog 40 #[.pointer (some ⟨rb, 0, none⟩)] w fun e w' => Fails w rb why e w' := by
  have hrun := run_any rb T s 48 57 l why X w hr hs
  have hlen := Code.run_length 48 57 s
  generalize Code.run 48 57 s = d at *
  generalize Code.rest 48 57 s = t at *
  have e1 := bs_size d
  have hz : (((bs d).toList == []) = true ∧ True ∧ True) ∨ (((bs d).toList == []) = false ∧ 10 < (d.length : Int) ∧ True) ∨
      (∃ b4 : 0 < (bs d).size, ((bs d).toList == []) = false ∧ ¬ 10 < (d.length : Int) ∧ (((bs d)[0]'b4).toNat : Int) = 48 ∧ ((bs d).toList == [48]) = false) := by
    by_cases b1 : d = []
    · exact Or.inl ⟨toList_yes (by rw [bl_bs]; exact b1), trivial, trivial⟩
    · have q1 : ((bs d).toList == []) = false := toList_no (by rw [bl_bs]; exact b1)
      by_cases b2 : 10 < d.length
      · exact Or.inr (Or.inl ⟨q1, by omega, trivial⟩)
      · rcases hb with h | h | ⟨h, h'⟩
        · exact absurd h b1
        · exact absurd h b2
        · have b3 : 0 < d.length := List.length_pos_iff.2 b1
          refine Or.inr (Or.inr ⟨by omega, q1, by omega, ?_, toList_no (by rw [bl_bs]; exact h')⟩)
          rw [bs_get d 0 b3]
          rw [List.head?_eq_getElem?, List.getElem?_eq_getElem b3] at h
          exact congrArg (fun c : UInt8 => (c.toNat : Int)) (Option.some.inj h)
  clear hb
  rcases hz with ⟨q1, q2, q3⟩ | ⟨q1, q2, q3⟩ | ⟨b4, q1, q2, q3, q4⟩
  all_goals
    go_enter Tryd.func40, Tryd.ntmps40
    go_wp2_with fail
    refine hrun.mono ?_
    rintro e w' ⟨rfl, hr', hg⟩
    go_wp2_with fail
    refine (fail_any rb T _ l why X w' hr').mono ?_
    rintro e w'' ⟨⟨l', rfl⟩, hg'⟩
    go_wp2
    exact ⟨rfl, ⟨l', rfl⟩, grown_trans hg hg'⟩

theorem number_any (rb : Nat) (T : TypeId) (s : List UInt8) (l why : Int) (X : List Value) (w : World) (hr : Rd w rb T s l why X) (hs : s.length ≤ 3000) :
    Calls Tryd.prog 40 #[.pointer (some ⟨rb, 0, none⟩)] w fun e w' =>
      (∃ n t, Code.number s = some (n, t) ∧ e = .returned (.int .i64 (n : Nat)) ∧ Rd w' rb T t l why X ∧ w.grownBy w' (some rb)) ∨ (Code.number s = none ∧ Fails w rb why e w') := by
  by_cases hb : Code.badDigits (Code.run 48 57 s)
  · refine (number_no rb T s l why X w hr hs hb).mono ?_
    intro e w' h
    exact Or.inr ⟨by simp [Code.number, hb], h⟩
  · refine (number_yes rb T s l why X w hr hs hb).mono ?_
    rintro e w' ⟨rfl, h, hg⟩
    exact Or.inl ⟨_, _, by simp only [Code.number, if_neg hb], rfl, h, hg⟩

set_option maxHeartbeats 1000000 in
theorem below_any (rb : Nat) (T : TypeId) (s : List UInt8) (l why lim : Int) (X : List Value) (w : World) (hr : Rd w rb T s l why X) (hs : s.length ≤ 3000) :
    Calls Tryd.prog 29 #[.pointer (some ⟨rb, 0, none⟩), .int .i64 lim] w fun e w' =>
      (∃ n t, Code.below lim s = some (n, t) ∧ e = .returned (.int .i64 (n : Nat)) ∧ Rd w' rb T t l why X ∧ w.grownBy w' (some rb)) ∨ (Code.below lim s = none ∧ Fails w rb why e w') := by
  go_enter Tryd.func29, Tryd.ntmps29
  go_wp2_with fail
  refine (number_any rb T s l why X w hr hs).mono ?_
  rintro e w' (⟨n, t, hn, rfl, hr', hg⟩ | ⟨hn, ⟨l', rfl⟩, hg⟩)
  · have hb := (Code.number_some hn).1
    have HN := hide hn
    clear hn
    by_cases hlt : (n : Int) < lim
    · have HB : Hid (Code.below lim s = some (n, t)) := by simp [Hid, Code.below, HN.out, hlt]
      go_wp2
      go_ret
      exact Or.inl ⟨n, t, HB.out, rfl, hr', hg⟩
    · have HB : Hid (Code.below lim s = none) := by simp [Hid, Code.below, HN.out, hlt]
      go_wp2_with fail
      refine (fail_any rb T _ l why X w' hr').mono ?_
      rintro e w'' ⟨⟨l', rfl⟩, hg'⟩
      go_wp2
      exact ⟨rfl, Or.inr ⟨HB.out, ⟨l', rfl⟩, grown_trans hg hg'⟩⟩
  · go_wp2
    exact ⟨rfl, Or.inr ⟨by simp [Code.below, hn], ⟨l', rfl⟩, hg⟩⟩
end Go.Proofs.YtdffpkmabehfbaaDoor
