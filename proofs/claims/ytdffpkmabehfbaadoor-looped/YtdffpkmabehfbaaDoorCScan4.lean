/-
  Walk: scan.Reader.Signed.
-/
import Derived.Test.YtdffpkmabehfbaaDoorCScan3
namespace Go.Proofs.YtdffpkmabehfbaaDoor
open Go.RowKit

namespace Code
/-- What a number with or without a minus is; no number of 32 bits: none. -/
theorem signedOf_zero {p : Nat × List UInt8} (h : p.1 = 0) : signedOf true p = none := by simp [signedOf, h]
theorem signedOf_minus {n : Nat} {t : List UInt8} (h : 0 < n) (h' : n ≤ 2147483648) : signedOf true (n, t) = some (-(n : Int), t) := by
  have h1 : ¬ n = 0 := by omega
  have h2 : ¬ (-(n : Int) < -2147483648 ∨ 2147483647 < -(n : Int)) := by omega
  simp only [signedOf, h1, and_false, if_false, if_true, if_neg h2]
theorem signedOf_minus_big {n : Nat} {t : List UInt8} (h' : 2147483648 < n) : signedOf true (n, t) = none := by
  have h1 : ¬ n = 0 := by omega
  have h2 : (-(n : Int) < -2147483648 ∨ 2147483647 < -(n : Int)) := by omega
  simp only [signedOf, h1, and_false, if_false, if_true, if_pos h2]
theorem signedOf_plus {n : Nat} {t : List UInt8} (h' : n ≤ 2147483647) : signedOf false (n, t) = some ((n : Int), t) := by
  have h2 : ¬ ((n : Int) < -2147483648 ∨ 2147483647 < (n : Int)) := by omega
  simp only [signedOf, Bool.false_eq_true, false_and, if_false, if_neg h2]
theorem signedOf_plus_big {n : Nat} {t : List UInt8} (h' : 2147483647 < n) : signedOf false (n, t) = none := by
  have h2 : ((n : Int) < -2147483648 ∨ 2147483647 < (n : Int)) := by omega
  simp only [signedOf, Bool.false_eq_true, false_and, if_false, if_pos h2]
end Code

set_option maxHeartbeats 1000000 in
theorem signed_any (rb : Nat) (T : TypeId) (s : List UInt8) (l why : Int) (X : List Value) (w : World) (hr : Rd w rb T s l why X) (hs : s.length ≤ 3000) :
    Calls Tryd.prog 69 #[.pointer (some ⟨rb, 0, none⟩)] w fun e w' =>
      (∃ n t, Code.signed s = some (n, t) ∧ e = .returned (.int .i32 n) ∧ Rd w' rb T t l why X ∧ w.grownBy w' (some rb)) ∨ (Code.signed s = none ∧ Fails w rb why e w') := by
  cases hc : Code.cut [45] s with
  | none =>
    have HC := hide hc
    have HS : Hid (Code.signed s = (Code.number s).bind (Code.signedOf false)) := by simp [Hid, Code.signed, hc]
    clear hc
    go_enter Tryd.func69, Tryd.ntmps69
    go_wp2_with fail
    refine (skip_any rb T s [45] l why X w hr hs (by simp)).mono ?_
    rw [HC.out]
    rintro e w1 ⟨rfl, hr1, hg1⟩
    go_wp2_with fail
    refine (number_any rb T s l why X w1 hr1 hs).mono ?_
    rintro e w2 (⟨n, t, hn, rfl, hr2, hg2⟩ | ⟨hn, ⟨l', rfl⟩, hg2⟩)
    · have hb := (Code.number_some hn).1
      have HN := hide hn
      clear hn
      by_cases hbig : (2147483647 : Int) < (n : Int)
      · have HB : Hid (Code.signed s = none) := by rw [HS.out, HN.out]; exact Code.signedOf_plus_big (by omega)
        go_wp2_with fail
        refine (fail_any rb T _ l why X w2 hr2).mono ?_
        rintro e w3 ⟨⟨l', rfl⟩, hg3⟩
        go_wp2
        exact ⟨rfl, Or.inr ⟨HB.out, ⟨l', rfl⟩, grown_trans hg1 (grown_trans hg2 hg3)⟩⟩
      · have HB : Hid (Code.signed s = some ((n : Int), t)) := by rw [HS.out, HN.out]; exact Code.signedOf_plus (by omega)
        go_wp2
        go_ret
        exact Or.inl ⟨n, t, HB.out, rfl, hr2, grown_trans hg1 hg2⟩
    · go_wp2
      exact ⟨rfl, Or.inr ⟨by rw [HS.out, hn]; rfl, ⟨l', rfl⟩, grown_trans hg1 hg2⟩⟩
  | some r =>
    have HC := hide hc
    have HS : Hid (Code.signed s = (Code.number r).bind (Code.signedOf true)) := by simp [Hid, Code.signed, hc]
    have hrl : r.length ≤ 3000 := by rw [Code.cut_some hc] at hs; simp at hs; omega
    clear hc
    go_enter Tryd.func69, Tryd.ntmps69
    go_wp2_with fail
    refine (skip_any rb T s [45] l why X w hr hs (by simp)).mono ?_
    rw [HC.out]
    rintro e w1 ⟨rfl, hr1, hg1⟩
    go_wp2_with fail
    refine (number_any rb T r l why X w1 hr1 hrl).mono ?_
    rintro e w2 (⟨n, t, hn, rfl, hr2, hg2⟩ | ⟨hn, ⟨l', rfl⟩, hg2⟩)
    · have hb := (Code.number_some hn).1
      have HN := hide hn
      clear hn
      by_cases hz : n = 0
      · have HB : Hid (Code.signed s = none) := by rw [HS.out, HN.out]; exact Code.signedOf_zero hz
        have hz' : ((n : Int) == 0) = true := by simp [hz]
        clear hz
        go_wp2_with fail
        refine (fail_any rb T _ l why X w2 hr2).mono ?_
        rintro e w3 ⟨⟨l', rfl⟩, hg3⟩
        go_wp2
        exact ⟨rfl, Or.inr ⟨HB.out, ⟨l', rfl⟩, grown_trans hg1 (grown_trans hg2 hg3)⟩⟩
      · have hz' : ((n : Int) == 0) = false := beq_eq_false_iff_ne.2 (by omega)
        by_cases hbig : 2147483648 < n
        · have HB : Hid (Code.signed s = none) := by rw [HS.out, HN.out]; exact Code.signedOf_minus_big hbig
          have hq : -(n : Int) < -2147483648 := by omega
          clear hz hbig
          go_wp2_with fail
          refine (fail_any rb T _ l why X w2 hr2).mono ?_
          rintro e w3 ⟨⟨l', rfl⟩, hg3⟩
          go_wp2
          exact ⟨rfl, Or.inr ⟨HB.out, ⟨l', rfl⟩, grown_trans hg1 (grown_trans hg2 hg3)⟩⟩
        · have HB : Hid (Code.signed s = some (-(n : Int), t)) := by rw [HS.out, HN.out]; exact Code.signedOf_minus (by omega) (by omega)
          have hq : ¬ -(n : Int) < -2147483648 := by omega
          have hq' : ¬ 2147483647 < -(n : Int) := by omega
          clear hz
          go_wp2
          go_ret
          exact Or.inl ⟨_, t, HB.out, rfl, hr2, grown_trans hg1 hg2⟩
    · go_wp2
      exact ⟨rfl, Or.inr ⟨by rw [HS.out, hn]; rfl, ⟨l', rfl⟩, grown_trans hg1 hg2⟩⟩
end Go.Proofs.YtdffpkmabehfbaaDoor
