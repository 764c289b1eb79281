/-
  Walks: scan.Reader: Skip, Take, Fail, GiveUp.
-/
import Derived.Test.YtdffpkmabehfbaaDoorCBase
namespace Go.Proofs.YtdffpkmabehfbaaDoor
open Go.RowKit

theorem cut_eq (p s : List UInt8) : (((bs s).extract 0 p.length).toList == (bs p).toList) = (Code.cut p s).isSome := by
  rw [ByteArray.toList_eq, ByteArray.toList_eq]
  show (bl ((bs s).extract 0 p.length) == bl (bs p)) = _
  rw [bl_extract, bl_bs, bl_bs, List.drop_zero, Nat.sub_zero]
  cases h : Code.cut p s with
  | none => exact beq_eq_false_iff_ne.2 (Code.cut_none h)
  | some r => rw [Code.cut_some h]; simp

set_option maxHeartbeats 400000 in
theorem hasPrefix_any (s p : List UInt8) (w : World) (_hs : s.length ≤ 3000) (_hp : p.length ≤ 3000) :
    Calls Tryd.prog 67 #[.string (bs s), .string (bs p)] w fun e w' => e = .returned (.bool (Code.cut p s).isSome) ∧ w' = w := by
  have e1 := bs_size s
  have e2 := bs_size p
  by_cases h1 : s.length < p.length
  · have HF := hide (Code.cut_none_of (word := p) (s := s) (by intro h; have := congrArg List.length h; simp at this; omega))
    go_enter Tryd.func67, Tryd.ntmps67
    go_wp2
    go_ret
    exact ⟨ret_bool (by rw [HF.out]; rfl), rfl⟩
  · go_enter Tryd.func67, Tryd.ntmps67
    go_wp2
    go_ret
    exact ⟨ret_bool (cut_eq p s), rfl⟩

set_option maxHeartbeats 400000 in
theorem hasPrefix2_any (s p : List UInt8) (w : World) (hs : s.length ≤ 3000) (hp : p.length ≤ 3000) :
    Calls Tryd.prog 55 #[.string (bs s), .string (bs p)] w fun e w' => e = .returned (.bool (Code.cut p s).isSome) ∧ w' = w := by
  go_enter Tryd.func55, Tryd.ntmps55
  go_wp2_with fail
  refine (hasPrefix_any s p w hs hp).mono ?_
  rintro e w' ⟨rfl, rfl⟩
  go_wp2
  go_ret
  exact ⟨rfl, rfl⟩

set_option maxHeartbeats 400000 in
theorem cutPrefix_any (s p : List UInt8) (w : World) (hs : s.length ≤ 3000) (hp : p.length ≤ 3000) :
    Calls Tryd.prog 66 #[.string (bs s), .string (bs p)] w fun e w' =>
      e = .returned (.tuple #[.string (bs ((Code.cut p s).getD s)), .bool (Code.cut p s).isSome]) ∧ w' = w := by
  have e1 := bs_size s
  have e2 := bs_size p
  cases hc : Code.cut p s with
  | none =>
    have HC := hide hc
    clear hc
    go_enter Tryd.func66, Tryd.ntmps66
    go_wp2_with fail
    refine (hasPrefix_any s p w hs hp).mono ?_
    rintro e w' ⟨rfl, rfl⟩
    rw [HC.out]
    go_wp2
    go_ret2
    exact ⟨rfl, rfl⟩
  | some r =>
    have HC := hide hc
    have hl : p.length ≤ s.length := by rw [Code.cut_some hc]; simp
    have HX : Hid ((bs s).extract p.length s.length = bs r) := by
      refine hide (bl_inj ?_)
      rw [bl_extract, bl_bs, bl_bs, List.take_of_length_le (by simp)]
      rw [Code.cut_some hc]; simp
    clear hc
    go_enter Tryd.func66, Tryd.ntmps66
    go_wp2_with fail
    refine (hasPrefix_any s p w hs hp).mono ?_
    rintro e w' ⟨rfl, rfl⟩
    rw [HC.out]
    go_wp2
    go_ret2
    exact ⟨by rw [HX.out]; rfl, rfl⟩

set_option maxHeartbeats 400000 in
theorem cutPrefix2_any (s p : List UInt8) (w : World) (hs : s.length ≤ 3000) (hp : p.length ≤ 3000) :
    Calls Tryd.prog 52 #[.string (bs s), .string (bs p)] w fun e w' =>
      e = .returned (.tuple #[.string (bs ((Code.cut p s).getD s)), .bool (Code.cut p s).isSome]) ∧ w' = w := by
  go_enter Tryd.func52, Tryd.ntmps52
  go_wp2_with fail
  refine (cutPrefix_any s p w hs hp).mono ?_
  rintro e w' ⟨rfl, rfl⟩
  go_wp2
  go_ret2
  exact ⟨rfl, rfl⟩

set_option maxHeartbeats 400000 in
theorem giveUp_any (rb : Nat) (T : TypeId) (s : List UInt8) (l why a : Int) (X : List Value) (w : World) (hr : Rd w rb T s l why X) :
    Calls Tryd.prog 53 #[.pointer (some ⟨rb, 0, none⟩), .int .i64 a] w fun e w' => Fails w rb a e w' := by
  have c1 := hr.c1
  go_enter Tryd.func53, Tryd.ntmps53
  go_wp2
  exact ⟨rfl, ⟨l, rfl⟩, grown_refl _ _⟩

set_option maxHeartbeats 400000 in
theorem fail_any (rb : Nat) (T : TypeId) (s : List UInt8) (l why : Int) (X : List Value) (w : World) (hr : Rd w rb T s l why X) :
    Calls Tryd.prog 39 #[.pointer (some ⟨rb, 0, none⟩)] w fun e w' => Fails w rb why e w' := by
  have c1 := hr.c1
  have c2 := hr.c2
  go_enter Tryd.func39, Tryd.ntmps39
  go_wp2_with fail
  refine (giveUp_any rb T s l why why X w hr).mono ?_
  rintro e w' ⟨⟨l', rfl⟩, hg⟩
  go_wp2
  exact ⟨rfl, ⟨l', rfl⟩, hg⟩

set_option maxHeartbeats 400000 in
theorem skip_any (rb : Nat) (T : TypeId) (s p : List UInt8) (l why : Int) (X : List Value) (w : World) (hr : Rd w rb T s l why X) (hs : s.length ≤ 3000) (hp : p.length ≤ 3000) :
    Calls Tryd.prog 38 #[.pointer (some ⟨rb, 0, none⟩), .string (bs p)] w fun e w' =>
      e = .returned (.bool (Code.cut p s).isSome) ∧ Rd w' rb T ((Code.cut p s).getD s) l why X ∧ w.grownBy w' (some rb) := by
  have c0 := hr.c0
  have f0 := hr.fz 0
  go_enter Tryd.func38, Tryd.ntmps38
  go_wp2_with fail
  refine (cutPrefix2_any s p w hs hp).mono ?_
  rintro e w' ⟨rfl, rfl⟩
  go_wp2
  go_ret
  exact ⟨rfl, hr.set0 _, grown_set _ _ _ _⟩

set_option maxHeartbeats 400000 in
theorem take_any (rb : Nat) (T : TypeId) (s p : List UInt8) (l why : Int) (X : List Value) (w : World) (hr : Rd w rb T s l why X) (hs : s.length ≤ 3000) (hp : p.length ≤ 3000) :
    Calls Tryd.prog 28 #[.pointer (some ⟨rb, 0, none⟩), .string (bs p)] w fun e w' =>
      (∃ r, Code.cut p s = some r ∧ e = .returned (.tuple #[]) ∧ Rd w' rb T r l why X ∧ w.grownBy w' (some rb)) ∨ (Code.cut p s = none ∧ Fails w rb why e w') := by
  cases hc : Code.cut p s with
  | none =>
    have HC := hide hc
    clear hc
    go_enter Tryd.func28, Tryd.ntmps28
    go_wp2_with fail
    refine (skip_any rb T s p l why X w hr hs hp).mono ?_
    rw [HC.out]
    rintro e w' ⟨rfl, hr', hg⟩
    go_wp2_with fail
    refine (fail_any rb T _ l why X w' hr').mono ?_
    rintro e w'' ⟨⟨l', rfl⟩, hg'⟩
    go_wp2
    exact ⟨rfl, Or.inr ⟨by simp, ⟨l', rfl⟩, grown_trans hg hg'⟩⟩
  | some r =>
    have HC := hide hc
    clear hc
    go_enter Tryd.func28, Tryd.ntmps28
    go_wp2_with fail
    refine (skip_any rb T s p l why X w hr hs hp).mono ?_
    rw [HC.out]
    rintro e w' ⟨rfl, hr', hg⟩
    go_wp2
    go_end0
    exact Or.inl ⟨r, rfl, rfl, hr', hg⟩
end Go.Proofs.YtdffpkmabehfbaaDoor
