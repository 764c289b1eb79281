/-
  Walks: scan.Reader: Skip, Take, Fail, GiveUp.
-/
import Derived.Test.YtdffpkmabehfbaaDoorCBase
namespace Go.Proofs.YtdffpkmabehfbaaDoor
open Go.RowKit

theorem cut_eq (p s : List UInt8) : (((bs s).extract 0 p.length).toList == (bs p).toList) = (Code.cut p s).isSome := by
  rw [ByteArray.toList_eq, ByteArray.toList_eq]
  show (bl ((bs s).extract 0 p.length) == bl (bs p)) = _
  rw [bl_extract, bl_bs, bl_bs, List.drop_zero, Nat.sub_zero]
  cases h : Code.cut p s with
  | none => exact beq_eq_false_iff_ne.2 (Code.cut_none h)
  | some r => rw [Code.cut_some h]; simp

set_option maxHeartbeats 400000 in
theorem hasPrefix_any (s p : List UInt8) (w : World) (_hs : s.length ≤ 3000) (_hp : p.length ≤ 3000) :
    Calls Tryd.prog 67 #[.string (bs s), .string (bs p)] w fun e w' => e = .returned (.bool (Code.cut p s).isSome) ∧ w' = w := by
  have e1 := bs_size s
  have e2 := bs_size p
  by_cases h1 : s.length < p.length
  · have HF := hide (Code.cut_none_of (word := p) (s := s) (by intro h; have := congrArg List.length h; simp at this; omega))
    go_enter Tryd.func67, Tryd.ntmps67
    go_wp2
    go_ret
    exact ⟨ret_bool (by rw [HF.out]; rfl), rfl⟩
  · go_enter Tryd.func67, Tryd.ntmps67
    go_wp2
    go_ret
    exact ⟨ret_bool (cut_eq p s), rfl⟩

set_option maxHeartbeats 400000 in
theorem hasPrefix2_any (s p : List UInt8) (w : World) (hs : s.length ≤ 3000) (hp : p.length ≤ 3000) :
    Calls Tryd.prog 55 #[.string (bs s), .string (bs p)] w fun e w' => e = .returned (.bool (Code.cut p s).isSome) ∧ w' = w := by
  go_enter Tryd.func55, Tryd.ntmps55
  go_wp2_with fail
  refine (hasPrefix_any s p w hs hp).mono ?_
  rintro e w' ⟨rfl, rfl⟩
  go_wp2
  go_ret
  exact ⟨rfl, rfl⟩

set_option maxHeartbeats 400000 in
theorem cutPrefix_any (s p : List UInt8) (w : World) (hs : s.length ≤ 3000) (hp : p.length ≤ 3000) :
    Calls Tryd.prog 66 #[.string (bs s), .string (bs p)] w fun e w' =>
      e = .returned (.tuple #[.string (bs ((Code.cut p s).getD s)), .bool (Code.cut p s).isSome]) ∧ w' = w := by
  have e1 := bs_size s
  have e2 := bs_size p
  cases hc : Code.cut p s with
  | none =>
    have HC := hide hc
    clear hc
    go_enter Tryd.func66, Tryd.ntmps66
    go_wp2_with fail
    refine (hasPrefix_any s p w hs hp).mono ?_
    rintro e w' ⟨rfl, rfl⟩
    rw [HC.out]
    go_wp2
    go_ret2
    exact ⟨rfl, rfl⟩
  | some r =>
    have HC := hide hc
    have hl : p.length ≤ s.length := by rw [Code.cut_some hc]; simp
    have HX : Hid ((bs s).extract p.length s.length = bs r) := by
      refine hide (bl_inj ?_)
      rw [bl_extract, bl_bs, bl_bs, List.take_of_length_le (by simp)]
      rw [Code.cut_some hc]; simp
    clear hc
    go_enter Tryd.func66, Tryd.ntmps66
    go_wp2_with fail
    refine (hasPrefix_any s p w hs hp).mono ?_
    rintro e w' ⟨rfl, rfl⟩
    rw [HC.out]
    go_wp2
    go_ret2
    exact ⟨by rw [HX.out]; rfl, rfl⟩

set_option maxHeartbeats 400000 in
theorem cutPrefix2_any (s p : List UInt8) (w : World) (hs : s.length ≤ 3000) (hp : p.length ≤ 3000) :
    Calls Tryd.prog 52 #[.string (bs s), .string (bs p)] w fun e w' =>
      e = .returned (.tuple #[.string (bs ((Code.cut p s).getD s)), .bool (Code.cut p s).isSome]) ∧ w' = w := by
  go_enter Tryd.func52, Tryd.ntmps52
  go_wp2_with fail
  refine (cutPrefix_any s p w hs hp).mono ?_
  rintro e w' ⟨rfl, rfl⟩
  go_wp2
  go_ret2
  exact ⟨rfl, rfl⟩

set_option maxHeartbeats 400000 in
theorem giveUp_any (rb : Nat) (T : TypeId) (s : List UInt8) (l why a : Int) (X : List Value) (w : World) (hr : Rd w rb T s l why X) :
    Calls Tryd.prog 53 #[.pointer (some ⟨rb, 0, none⟩), .int .i64 a] w fun e w' => Fails w rb a e w' := by
  have c1 := hr.c1
  go_enter Tryd.func53, Tryd.ntmps53
  go_wp2
  exact ⟨rfl, ⟨l, rfl⟩, grown_refl _ _⟩

set_option maxHeartbeats 400000 in
theorem fail_any (rb : Nat) (T : TypeId) (s : List UInt8) (l why : Int) (X : List Value) (w : World) (hr : Rd w rb T s l why X) :
    Calls Tryd.prog 39 #[.pointer (some ⟨rb, 0, none⟩)] w fun e w' => Fails w rb why e w' := by
  have c1 := hr.c1
  have c2 := hr.c2
  go_enter Tryd.func39, Tryd.ntmps39
  go_wp2_with fail
  refine (giveUp_any rb T s l why why X w hr).mono ?_
  rintro e w' ⟨⟨l', rfl⟩, hg⟩
  go_wp2
  exact ⟨rfl, ⟨l', rfl⟩, hg⟩

set_option maxHeartbeats 400000 in
theorem skip_any (rb : Nat) (T : TypeId) (s p : List UInt8) (l why : Int) (X : List Value) (w : World) (hr : Rd w rb T s l why X) (hs : s.length ≤ 3000) (hp : p.length ≤ 3000) :
    Calls Tryd.prog 38 #[.pointer (some ⟨rb, 0, none⟩), .string (bs p)] w fun e w' =>
      e = .returned (.bool (Code.cut p s).isSome) ∧ Rd w' rb T ((Code.cut p s).getD s) l why X ∧ w.grownBy w' (some rb) := by
  have c0 := hr.c0
  have f0 := hr.fz 0
  go_enter Tryd.func38, Tryd.ntmps38
  go_wp2_with fail
  refine (cutPrefix2_any s p w hs hp).mono ?_
  rintro e w' ⟨rfl, rfl⟩
  go_wp2
  go_ret
  exact ⟨rfl, hr.set0 _, grown_set _ _ _ _⟩

set_option maxHeartbeats 400000 in
theorem take_any (rb : Nat) (T : TypeId) (s p : List UInt8) (l why : Int) (X : List Value) (w : World) (hr : Rd w rb T s l why X) (hs : s.length ≤ 3000) (hp : p.length ≤ 3000) :
    Calls Tryd.prog 28 #[.pointer (some ⟨rb, 0, none⟩), .string (bs p)] w fun e w' =>
      (∃ r, Code.cut p s = some r ∧ e = .returned (.tuple #[]) ∧ Rd w' rb T r l why X ∧ w.grownBy w' (some rb)) ∨ (Code.cut p s = none ∧ Fails w rb why e w') := by
  cases hc : Code.cut p s with
  | none =>
    have HC := hide hc
    clear hc
    go_enter Tryd.func28, Tryd.ntmps28
    go_wp2_with fail
    refine (skip_any rb T s p l why X w hr hs hp).mono ?_
    rw [HC.out]
    rintro e w' ⟨rfl, hr', hg⟩
    go_wp2_with fail
    refine (fail_any rb T _ l why X w' hr').mono ?_
    rintro e w'' ⟨⟨l', rfl⟩, hg'⟩
    go_wp2
    exact ⟨rfl, Or.inr ⟨by simp, ⟨l', rfl⟩, grown_trans hg hg'⟩⟩
  | some r =>
    have HC := hide hc
    clear hc
    go_enter Tryd.func28, Tryd.ntmps28
    go_wp2_with fail
    refine (skip_any rb T s p l why X w hr hs hp).mono ?_
    rw [HC.out]
    rintro e w' ⟨rfl, hr', hg⟩
    go_wp2
    go_end0
    exact Or.inl ⟨r, rfl, rfl, hr', hg⟩
end Go.Proofs.YtdffpkmabehfbaaDoor

/-
  Walks: scan.Reader: run, Letters, Number, Below.
-/
namespace Go.Proofs.YtdffpkmabehfbaaDoor
open Go.RowKit

namespace Code
theorem takeWhile_take (p : UInt8 → Bool) (s : List UInt8) (k : Nat) (h : (s.take k).all p = true) (hk : k ≤ s.length) (he : ∀ c, s[k]? = some c → p c = false) :
    s.takeWhile p = s.take k ∧ s.dropWhile p = s.drop k := by
  induction s generalizing k with
  | nil => simp
  | cons c t ih =>
    cases k with
    | zero =>
      have := he c rfl
      simp [List.takeWhile, List.dropWhile, this]
    | succ k =>
      simp only [List.take_succ_cons, List.all_cons, Bool.and_eq_true] at h
      have := ih k h.2 (by simp at hk; omega) (fun d hd => he d (by simpa using hd))
      simp [List.takeWhile, List.dropWhile, h.1, this.1, this.2]
end Code

theorem bs_get (s : List UInt8) (k : Nat) (_h : k < s.length) (hk : k < (bs s).size) : (bs s)[k]'hk = s[k] := by
  simp [bs]; rfl

theorem ret_str {a b : ByteArray} (h : a = b) : Ending.returned (.string a) = .returned (.string b) := by rw [h]

theorem isIn_yes {lo hi c : UInt8} (h : (lo.toNat : Int) ≤ (c.toNat : Int)) (h' : (c.toNat : Int) ≤ (hi.toNat : Int)) : Code.isIn lo hi c = true := by
  simp [Code.isIn]; omega

theorem isIn_no {lo hi c : UInt8} (h : ¬ ((lo.toNat : Int) ≤ (c.toNat : Int) ∧ (c.toNat : Int) ≤ (hi.toNat : Int))) : Code.isIn lo hi c = false := by
  have : ¬ (lo.toNat ≤ c.toNat ∧ c.toNat ≤ hi.toNat) := by omega
  simp only [Code.isIn, Bool.and_eq_false_iff, decide_eq_false_iff_not]
  omega

set_option maxRecDepth 100000 in
set_option maxHeartbeats 1000000 in
theorem run_any (rb : Nat) (T : TypeId) (s : List UInt8) (lo hi : UInt8) (l why : Int) (X : List Value) (w : World) (hr : Rd w rb T s l why X) (hs : s.length ≤ 3000) :
    Calls Tryd.prog 54 #[.pointer (some ⟨rb, 0, none⟩), .int .u8 lo.toNat, .int .u8 hi.toNat] w fun e w' =>
      e = .returned (.string (bs (Code.run lo hi s))) ∧ Rd w' rb T (Code.rest lo hi s) l why X ∧ w.grownBy w' (some rb) := by
  have c0 := hr.c0
  have f0 := hr.fz 0
  have e1 := bs_size s
  go_enter Tryd.func54, Tryd.ntmps54
  go_wp2
  go_loop [7] (fun n => ∃ k : Nat, k ≤ s.length ∧ n = .int .i64 k ∧ Hid ((s.take k).all (Code.isIn lo hi) = true)) (fun n => s.length - (intOf n).toNat)
  case atStart => exact ⟨0, Nat.zero_le _, rfl, by simp [Hid]⟩
  case round =>
    obtain ⟨k, hk, rfl, hall⟩ := hrel
    by_cases hlt : k < s.length
    · have hlt' : k < (bs s).size := by omega
      have HG := hide (bs_get s k hlt hlt')
      have HN : Hid (Code.isIn lo hi s[k] = false → Code.run lo hi s = s.take k ∧ Code.rest lo hi s = s.drop k) := hide fun h =>
        Code.takeWhile_take _ s k hall.out hk (fun c hc => by rw [List.getElem?_eq_getElem hlt] at hc; rw [← Option.some.inj hc]; exact h)
      have HT : Hid (Code.isIn lo hi s[k] = true → (s.take (k + 1)).all (Code.isIn lo hi) = true) := hide fun h => by
        rw [List.take_add_one, List.getElem?_eq_getElem hlt, List.all_append, hall.out]
        show (true && (Code.isIn lo hi s[k] && true)) = true
        rw [h]; rfl
      have hin : Code.isIn lo hi s[k] = Code.isIn lo hi ((bs s)[k]'hlt') := by rw [HG.out]
      rw [hin] at HN HT
      clear HG hin
      by_cases h1 : (lo.toNat : Int) ≤ (((bs s)[k]'hlt').toNat : Int)
      · by_cases h2 : (((bs s)[k]'hlt').toNat : Int) ≤ (hi.toNat : Int)
        · go_wp2
          exact ⟨⟨k + 1, by omega, by go_num, HT.out (isIn_yes h1 h2)⟩, by simp [intOf]; omega⟩
        · obtain ⟨g1, g2⟩ := HN.out (isIn_no (fun h => h2 h.2))
          have HG1 := hide g1
          have HG2 := hide g2
          clear g1 g2
          go_wp2
          have g1 := HG1.out
          have g2 := HG2.out
          go_ret
          refine ⟨?_, ?_, grown_set _ _ _ _⟩
          · rw [g1, bs_extract, bl_bs]; simp
          · rw [g2, show (bs s).extract k s.length = bs (s.drop k) by rw [← e1]; exact bl_inj (by rw [bl_extract_end, bl_bs, bl_bs])]
            exact hr.set0 _
      · obtain ⟨g1, g2⟩ := HN.out (isIn_no (fun h => h1 h.1))
        have HG1 := hide g1
        have HG2 := hide g2
        clear g1 g2
        go_wp2
        have g1 := HG1.out
        have g2 := HG2.out
        go_ret
        refine ⟨?_, ?_, grown_set _ _ _ _⟩
        · rw [g1, bs_extract, bl_bs]; simp
        · rw [g2, show (bs s).extract k s.length = bs (s.drop k) by rw [← e1]; exact bl_inj (by rw [bl_extract_end, bl_bs, bl_bs])]
          exact hr.set0 _
    · have hks : k = s.length := by omega
      have HN := hide (Code.takeWhile_take (Code.isIn lo hi) s k hall.out hk (fun c hc => by rw [List.getElem?_eq_none (by omega)] at hc; cases hc))
      go_wp2
      obtain ⟨g1, g2⟩ := HN.out
      go_ret
      refine ⟨ret_str ?_, ?_, grown_set _ _ _ _⟩
      · show (bs s).extract 0 s.length = bs (s.takeWhile _)
        rw [g1, List.take_of_length_le (by omega), bs_extract, bl_bs]; simp
      · show Rd _ _ _ (s.dropWhile _) _ _ _
        rw [g2, List.drop_of_length_le (by omega)]
        exact hr.set0 _

set_option maxHeartbeats 400000 in
theorem letters_any (rb : Nat) (T : TypeId) (s : List UInt8) (l why : Int) (X : List Value) (w : World) (hr : Rd w rb T s l why X) (hs : s.length ≤ 3000) :
    Calls Tryd.prog 58 #[.pointer (some ⟨rb, 0, none⟩)] w fun e w' =>
      e = .returned (.string (bs (Code.word s))) ∧ Rd w' rb T (Code.behind s) l why X ∧ w.grownBy w' (some rb) := by
  go_enter Tryd.func58, Tryd.ntmps58
  go_wp2_with fail
  refine (run_any rb T s 97 122 l why X w hr hs).mono ?_
  rintro e w' ⟨rfl, hr', hg⟩
  go_wp2
  go_ret
  exact ⟨rfl, hr', hg⟩

namespace Code
theorem numFold_lt (l : List UInt8) (h : ∀ c ∈ l, isIn 48 57 c = true) : numFold 0 l < 10 ^ l.length := by
  have key : ∀ (l : List UInt8) (n : Nat), (∀ c ∈ l, isIn 48 57 c = true) → numFold n l < (n + 1) * 10 ^ l.length := by
    intro l
    induction l with
    | nil => intro n _; simp [numFold]
    | cons c t ih =>
      intro n hc
      have h1 := ih (10 * n + (c.toNat - 48)) (fun c hm => hc c (List.mem_cons_of_mem _ hm))
      have h2 : c.toNat ≤ 57 := by have := hc c (List.mem_cons_self ..); simp [isIn] at this; omega
      have h3 : numFold n (c :: t) = numFold (10 * n + (c.toNat - 48)) t := rfl
      rw [h3]
      refine Nat.lt_of_lt_of_le h1 ?_
      rw [List.length_cons, Nat.pow_succ, Nat.mul_comm (10 ^ t.length) 10, ← Nat.mul_assoc]
      exact Nat.mul_le_mul_right _ (by omega)
  simpa using key l 0 h

theorem run_all (s : List UInt8) : ∀ c ∈ run 48 57 s, isIn 48 57 c = true := by
  intro c hc
  exact List.all_eq_true.1 List.all_takeWhile c hc

theorem run_length (lo hi : UInt8) (s : List UInt8) : (run lo hi s).length ≤ s.length := by
  have := congrArg List.length (run_rest lo hi s)
  simp at this; omega

theorem rest_length (lo hi : UInt8) (s : List UInt8) : (rest lo hi s).length ≤ s.length := by
  have := congrArg List.length (run_rest lo hi s)
  simp at this; omega

theorem number_some {s t : List UInt8} {n : Nat} (h : number s = some (n, t)) : n < 10000000000 ∧ t.length < s.length := by
  unfold number at h
  split at h
  · cases h
  · rename_i hb
    simp only [Option.some.injEq, Prod.mk.injEq] at h
    obtain ⟨rfl, rfl⟩ := h
    have hb := numFold_lt _ (run_all s)
    have h1 : ¬ run 48 57 s = [] := fun e => (by assumption : ¬ badDigits _) (Or.inl e)
    have h2 : ¬ 10 < (run 48 57 s).length := fun e => (by assumption : ¬ badDigits _) (Or.inr (Or.inl e))
    have h4 : 10 ^ (run 48 57 s).length ≤ 10 ^ 10 := Nat.pow_le_pow_right (by omega) (by omega)
    have h5 : (10 : Nat) ^ 10 = 10000000000 := by decide
    have h6 := congrArg List.length (run_rest 48 57 s)
    have h7 := List.length_pos_iff.2 h1
    simp at h6
    omega
end Code
end Go.Proofs.YtdffpkmabehfbaaDoor

/-
  Walks: scan.Reader: Number, Below, Signed.
-/
namespace Go.Proofs.YtdffpkmabehfbaaDoor
open Go.RowKit

theorem digit_at (d : List UInt8) (h : ∀ c ∈ d, Code.isIn 48 57 c = true) (k : Nat) (hk : k < (bs d).size) : 48 ≤ (((bs d)[k]'hk).toNat : Int) ∧ (((bs d)[k]'hk).toNat : Int) ≤ 57 := by
  have h1 : k < d.length := by rw [bs_size] at hk; exact hk
  rw [bs_get d k h1]
  have := h d[k] (List.getElem_mem h1)
  simp [Code.isIn] at this
  omega

theorem numFold_snoc_at (d : List UInt8) (k : Nat) (hk : k < (bs d).size) : Code.numFold 0 (d.take (k + 1)) = 10 * Code.numFold 0 (d.take k) + (((bs d)[k]'hk).toNat - 48) := by
  have h1 : k < d.length := by rw [bs_size] at hk; exact hk
  rw [bs_get d k h1, List.take_add_one, List.getElem?_eq_getElem h1]
  exact Code.numFold_snoc _ _ _

theorem numFold_take_lt' (d : List UInt8) (h : ∀ c ∈ d, Code.isIn 48 57 c = true) (k : Nat) (h2 : d.length ≤ 10) : (Code.numFold 0 (d.take k) : Int) < 10000000000 := by
  have hb := Code.numFold_lt (d.take k) (fun c hc => h c (List.mem_of_mem_take hc))
  have h3 : (d.take k).length ≤ 10 := by have := List.length_take_le' k d; omega
  have h4 : 10 ^ (d.take k).length ≤ 10 ^ 10 := Nat.pow_le_pow_right (by omega) h3
  have h5 : (10 : Nat) ^ 10 = 10000000000 := by decide
  omega

set_option maxRecDepth 100000 in
set_option maxHeartbeats 1000000 in
theorem number_yes (rb : Nat) (T : TypeId) (s : List UInt8) (l why : Int) (X : List Value) (w : World) (hr : Rd w rb T s l why X) (hs : s.length ≤ 3000) (hb : ¬ Code.badDigits (Code.run 48 57 s)) :
    Calls Tryd.prog 40 #[.pointer (some ⟨rb, 0, none⟩)] w fun e w' =>
      e = .returned (.int .i64 (Code.numFold 0 (Code.run 48 57 s) : Nat)) ∧ Rd w' rb T (Code.rest 48 57 s) l why X ∧ w.grownBy w' (some rb) := by
  have hall := Code.run_all s
  have hrun := run_any rb T s 48 57 l why X w hr hs
  generalize Code.run 48 57 s = d at *
  generalize Code.rest 48 57 s = t at *
  unfold Code.badDigits at hb
  have b1 : ¬ d = [] := fun h => hb (Or.inl h)
  have b2 : d.length ≤ 10 := by
    have : ¬ 10 < d.length := fun h => hb (Or.inr (Or.inl h))
    omega
  have e1 := bs_size d
  have b3 : 0 < d.length := List.length_pos_iff.2 b1
  have b4 : 0 < (bs d).size := by omega
  have q1 : ((bs d).toList == []) = false := toList_no (by rw [bl_bs]; exact b1)
  have hz : ((((bs d)[0]'b4).toNat : Int) = 48 ∧ ((bs d).toList == [48]) = true) ∨ (¬ (((bs d)[0]'b4).toNat : Int) = 48 ∧ True) := by
    by_cases h : ((bs d)[0]'b4).toNat = 48
    · refine Or.inl ⟨by omega, ?_⟩
      have h48 : d.head? = some 48 := by
        rw [bs_get d 0 b3] at h
        rw [List.head?_eq_getElem?, List.getElem?_eq_getElem b3]
        exact congrArg some (UInt8.toNat_inj.1 h)
      have : d = [48] := Classical.byContradiction fun hn => hb (Or.inr (Or.inr ⟨h48, hn⟩))
      exact toList_yes (by rw [bl_bs]; exact this)
    · exact Or.inr ⟨by omega, trivial⟩
  have HALL := hide hall
  have HD := hide (digit_at d hall)
  have HL := hide (numFold_take_lt' d hall)
  clear hall hb b1
  rcases hz with ⟨z1, z2⟩ | ⟨z1, z2⟩
  all_goals
    go_enter Tryd.func40, Tryd.ntmps40
    go_wp2_with fail
    refine hrun.mono ?_
    rintro e w' ⟨rfl, hr', hg⟩
    go_wp2
    go_loop [4, 28] (fun n i => ∃ k : Nat, k ≤ d.length ∧ i = .int .i64 k ∧ n = .int .i64 (Code.numFold 0 (d.take k) : Nat)) (fun _ i => d.length - (intOf i).toNat)
    case atStart => exact ⟨0, Nat.zero_le _, rfl, rfl⟩
    case round =>
      obtain ⟨k, hk, rfl, rfl⟩ := hrel
      clear z1 z2 q1
      have hb := HL.out k b2
      by_cases hlt : k < d.length
      · have hlt' : k < (bs d).size := by omega
        have HSN := hide (numFold_snoc_at d k hlt')
        have h1 := HD.out k hlt'
        generalize Code.numFold 0 (d.take k) = m at *
        obtain ⟨h1, h2⟩ := h1
        go_wp2
        refine ⟨⟨k + 1, by omega, by go_num, ?_⟩, by simp [intOf]; omega⟩
        rw [HSN.out]; congr 1; omega
      · have HT := hide (show d.take k = d from List.take_of_length_le (by omega))
        go_wp2
        go_ret
        exact ⟨ret_int (by rw [HT.out]), hr', hg⟩

set_option maxHeartbeats 1000000 in
theorem number_no (rb : Nat) (T : TypeId) (s : List UInt8) (l why : Int) (X : List Value) (w : World) (hr : Rd w rb T s l why X) (hs : s.length ≤ 3000) (hb : Code.badDigits (Code.run 48 57 s)) :
    Calls Tryd.prog 40 #[.pointer (some ⟨rb, 0, none⟩)] w fun e w' => Fails w rb why e w' := by
  have hrun := run_any rb T s 48 57 l why X w hr hs
  have hlen := Code.run_length 48 57 s
  generalize Code.run 48 57 s = d at *
  generalize Code.rest 48 57 s = t at *
  have e1 := bs_size d
  have hz : (((bs d).toList == []) = true ∧ True ∧ True) ∨ (((bs d).toList == []) = false ∧ 10 < (d.length : Int) ∧ True) ∨
      (∃ b4 : 0 < (bs d).size, ((bs d).toList == []) = false ∧ ¬ 10 < (d.length : Int) ∧ (((bs d)[0]'b4).toNat : Int) = 48 ∧ ((bs d).toList == [48]) = false) := by
    by_cases b1 : d = []
    · exact Or.inl ⟨toList_yes (by rw [bl_bs]; exact b1), trivial, trivial⟩
    · have q1 : ((bs d).toList == []) = false := toList_no (by rw [bl_bs]; exact b1)
      by_cases b2 : 10 < d.length
      · exact Or.inr (Or.inl ⟨q1, by omega, trivial⟩)
      · rcases hb with h | h | ⟨h, h'⟩
        · exact absurd h b1
        · exact absurd h b2
        · have b3 : 0 < d.length := List.length_pos_iff.2 b1
          refine Or.inr (Or.inr ⟨by omega, q1, by omega, ?_, toList_no (by rw [bl_bs]; exact h')⟩)
          rw [bs_get d 0 b3]
          rw [List.head?_eq_getElem?, List.getElem?_eq_getElem b3] at h
          exact congrArg (fun c : UInt8 => (c.toNat : Int)) (Option.some.inj h)
  clear hb
  rcases hz with ⟨q1, q2, q3⟩ | ⟨q1, q2, q3⟩ | ⟨b4, q1, q2, q3, q4⟩
  all_goals
    go_enter Tryd.func40, Tryd.ntmps40
    go_wp2_with fail
    refine hrun.mono ?_
    rintro e w' ⟨rfl, hr', hg⟩
    go_wp2_with fail
    refine (fail_any rb T _ l why X w' hr').mono ?_
    rintro e w'' ⟨⟨l', rfl⟩, hg'⟩
    go_wp2
    exact ⟨rfl, ⟨l', rfl⟩, grown_trans hg hg'⟩

theorem number_any (rb : Nat) (T : TypeId) (s : List UInt8) (l why : Int) (X : List Value) (w : World) (hr : Rd w rb T s l why X) (hs : s.length ≤ 3000) :
    Calls Tryd.prog 40 #[.pointer (some ⟨rb, 0, none⟩)] w fun e w' =>
      (∃ n t, Code.number s = some (n, t) ∧ e = .returned (.int .i64 (n : Nat)) ∧ Rd w' rb T t l why X ∧ w.grownBy w' (some rb)) ∨ (Code.number s = none ∧ Fails w rb why e w') := by
  by_cases hb : Code.badDigits (Code.run 48 57 s)
  · refine (number_no rb T s l why X w hr hs hb).mono ?_
    intro e w' h
    exact Or.inr ⟨by simp [Code.number, hb], h⟩
  · refine (number_yes rb T s l why X w hr hs hb).mono ?_
    rintro e w' ⟨rfl, h, hg⟩
    exact Or.inl ⟨_, _, by simp only [Code.number, if_neg hb], rfl, h, hg⟩

set_option maxHeartbeats 1000000 in
theorem below_any (rb : Nat) (T : TypeId) (s : List UInt8) (l why lim : Int) (X : List Value) (w : World) (hr : Rd w rb T s l why X) (hs : s.length ≤ 3000) :
    Calls Tryd.prog 29 #[.pointer (some ⟨rb, 0, none⟩), .int .i64 lim] w fun e w' =>
      (∃ n t, Code.below lim s = some (n, t) ∧ e = .returned (.int .i64 (n : Nat)) ∧ Rd w' rb T t l why X ∧ w.grownBy w' (some rb)) ∨ (Code.below lim s = none ∧ Fails w rb why e w') := by
  go_enter Tryd.func29, Tryd.ntmps29
  go_wp2_with fail
  refine (number_any rb T s l why X w hr hs).mono ?_
  rintro e w' (⟨n, t, hn, rfl, hr', hg⟩ | ⟨hn, ⟨l', rfl⟩, hg⟩)
  · have hb := (Code.number_some hn).1
    have HN := hide hn
    clear hn
    by_cases hlt : (n : Int) < lim
    · have HB : Hid (Code.below lim s = some (n, t)) := by simp [Hid, Code.below, HN.out, hlt]
      go_wp2
      go_ret
      exact Or.inl ⟨n, t, HB.out, rfl, hr', hg⟩
    · have HB : Hid (Code.below lim s = none) := by simp [Hid, Code.below, HN.out, hlt]
      go_wp2_with fail
      refine (fail_any rb T _ l why X w' hr').mono ?_
      rintro e w'' ⟨⟨l', rfl⟩, hg'⟩
      go_wp2
      exact ⟨rfl, Or.inr ⟨HB.out, ⟨l', rfl⟩, grown_trans hg hg'⟩⟩
  · go_wp2
    exact ⟨rfl, Or.inr ⟨by simp [Code.below, hn], ⟨l', rfl⟩, hg⟩⟩
end Go.Proofs.YtdffpkmabehfbaaDoor

/-
  Walk: scan.Reader.Signed.
-/
namespace Go.Proofs.YtdffpkmabehfbaaDoor
open Go.RowKit

namespace Code
/-- What a number with or without a minus is; no number of 32 bits: none. -/
theorem signedOf_zero {p : Nat × List UInt8} (h : p.1 = 0) : signedOf true p = none := by simp [signedOf, h]
theorem signedOf_minus {n : Nat} {t : List UInt8} (h : 0 < n) (h' : n ≤ 2147483648) : signedOf true (n, t) = some (-(n : Int), t) := by
  have h1 : ¬ n = 0 := by omega
  have h2 : ¬ (-(n : Int) < -2147483648 ∨ 2147483647 < -(n : Int)) := by omega
  simp only [signedOf, h1, and_false, if_false, if_true, if_neg h2]
theorem signedOf_minus_big {n : Nat} {t : List UInt8} (h' : 2147483648 < n) : signedOf true (n, t) = none := by
  have h1 : ¬ n = 0 := by omega
  have h2 : (-(n : Int) < -2147483648 ∨ 2147483647 < -(n : Int)) := by omega
  simp only [signedOf, h1, and_false, if_false, if_true, if_pos h2]
theorem signedOf_plus {n : Nat} {t : List UInt8} (h' : n ≤ 2147483647) : signedOf false (n, t) = some ((n : Int), t) := by
  have h2 : ¬ ((n : Int) < -2147483648 ∨ 2147483647 < (n : Int)) := by omega
  simp only [signedOf, Bool.false_eq_true, false_and, if_false, if_neg h2]
theorem signedOf_plus_big {n : Nat} {t : List UInt8} (h' : 2147483647 < n) : signedOf false (n, t) = none := by
  have h2 : ((n : Int) < -2147483648 ∨ 2147483647 < (n : Int)) := by omega
  simp only [signedOf, Bool.false_eq_true, false_and, if_false, if_pos h2]
end Code

set_option maxHeartbeats 1000000 in
theorem signed_any (rb : Nat) (T : TypeId) (s : List UInt8) (l why : Int) (X : List Value) (w : World) (hr : Rd w rb T s l why X) (hs : s.length ≤ 3000) :
    Calls Tryd.prog 69 #[.pointer (some ⟨rb, 0, none⟩)] w fun e w' =>
      (∃ n t, Code.signed s = some (n, t) ∧ e = .returned (.int .i32 n) ∧ Rd w' rb T t l why X ∧ w.grownBy w' (some rb)) ∨ (Code.signed s = none ∧ Fails w rb why e w') := by
  cases hc : Code.cut [45] s with
  | none =>
    have HC := hide hc
    have HS : Hid (Code.signed s = (Code.number s).bind (Code.signedOf false)) := by simp [Hid, Code.signed, hc]
    clear hc
    go_enter Tryd.func69, Tryd.ntmps69
    go_wp2_with fail
    refine (skip_any rb T s [45] l why X w hr hs (by simp)).mono ?_
    rw [HC.out]
    rintro e w1 ⟨rfl, hr1, hg1⟩
    go_wp2_with fail
    refine (number_any rb T s l why X w1 hr1 hs).mono ?_
    rintro e w2 (⟨n, t, hn, rfl, hr2, hg2⟩ | ⟨hn, ⟨l', rfl⟩, hg2⟩)
    · have hb := (Code.number_some hn).1
      have HN := hide hn
      clear hn
      by_cases hbig : (2147483647 : Int) < (n : Int)
      · have HB : Hid (Code.signed s = none) := by rw [HS.out, HN.out]; exact Code.signedOf_plus_big (by omega)
        go_wp2_with fail
        refine (fail_any rb T _ l why X w2 hr2).mono ?_
        rintro e w3 ⟨⟨l', rfl⟩, hg3⟩
        go_wp2
        exact ⟨rfl, Or.inr ⟨HB.out, ⟨l', rfl⟩, grown_trans hg1 (grown_trans hg2 hg3)⟩⟩
      · have HB : Hid (Code.signed s = some ((n : Int), t)) := by rw [HS.out, HN.out]; exact Code.signedOf_plus (by omega)
        go_wp2
        go_ret
        exact Or.inl ⟨n, t, HB.out, rfl, hr2, grown_trans hg1 hg2⟩
    · go_wp2
      exact ⟨rfl, Or.inr ⟨by rw [HS.out, hn]; rfl, ⟨l', rfl⟩, grown_trans hg1 hg2⟩⟩
  | some r =>
    have HC := hide hc
    have HS : Hid (Code.signed s = (Code.number r).bind (Code.signedOf true)) := by simp [Hid, Code.signed, hc]
    have hrl : r.length ≤ 3000 := by rw [Code.cut_some hc] at hs; simp at hs; omega
    clear hc
    go_enter Tryd.func69, Tryd.ntmps69
    go_wp2_with fail
    refine (skip_any rb T s [45] l why X w hr hs (by simp)).mono ?_
    rw [HC.out]
    rintro e w1 ⟨rfl, hr1, hg1⟩
    go_wp2_with fail
    refine (number_any rb T r l why X w1 hr1 hrl).mono ?_
    rintro e w2 (⟨n, t, hn, rfl, hr2, hg2⟩ | ⟨hn, ⟨l', rfl⟩, hg2⟩)
    · have hb := (Code.number_some hn).1
      have HN := hide hn
      clear hn
      by_cases hz : n = 0
      · have HB : Hid (Code.signed s = none) := by rw [HS.out, HN.out]; exact Code.signedOf_zero hz
        have hz' : ((n : Int) == 0) = true := by simp [hz]
        clear hz
        go_wp2_with fail
        refine (fail_any rb T _ l why X w2 hr2).mono ?_
        rintro e w3 ⟨⟨l', rfl⟩, hg3⟩
        go_wp2
        exact ⟨rfl, Or.inr ⟨HB.out, ⟨l', rfl⟩, grown_trans hg1 (grown_trans hg2 hg3)⟩⟩
      · have hz' : ((n : Int) == 0) = false := beq_eq_false_iff_ne.2 (by omega)
        by_cases hbig : 2147483648 < n
        · have HB : Hid (Code.signed s = none) := by rw [HS.out, HN.out]; exact Code.signedOf_minus_big hbig
          have hq : -(n : Int) < -2147483648 := by omega
          clear hz hbig
          go_wp2_with fail
          refine (fail_any rb T _ l why X w2 hr2).mono ?_
          rintro e w3 ⟨⟨l', rfl⟩, hg3⟩
          go_wp2
          exact ⟨rfl, Or.inr ⟨HB.out, ⟨l', rfl⟩, grown_trans hg1 (grown_trans hg2 hg3)⟩⟩
        · have HB : Hid (Code.signed s = some (-(n : Int), t)) := by rw [HS.out, HN.out]; exact Code.signedOf_minus (by omega) (by omega)
          have hq : ¬ -(n : Int) < -2147483648 := by omega
          have hq' : ¬ 2147483647 < -(n : Int) := by omega
          clear hz
          go_wp2
          go_ret
          exact Or.inl ⟨_, t, HB.out, rfl, hr2, grown_trans hg1 hg2⟩
    · go_wp2
      exact ⟨rfl, Or.inr ⟨by rw [HS.out, hn]; rfl, ⟨l', rfl⟩, grown_trans hg1 hg2⟩⟩
end Go.Proofs.YtdffpkmabehfbaaDoor
