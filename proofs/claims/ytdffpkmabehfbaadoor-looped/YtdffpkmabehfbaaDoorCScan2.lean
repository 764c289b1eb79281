/-
  Walks: scan.Reader: run, Letters, Number, Below.
-/
import Derived.Test.YtdffpkmabehfbaaDoorCScan
namespace Go.Proofs.YtdffpkmabehfbaaDoor
open Go.RowKit

namespace Code
theorem takeWhile_take (p : UInt8 → Bool) (s : List UInt8) (k : Nat) (h : (s.take k).all p = true) (hk : k ≤ s.length) (he : ∀ c, s[k]? = some c → p c = false) :
    s.takeWhile p = s.take k ∧ s.dropWhile p = s.drop k := by
  induction s generalizing k with
  | nil => simp
  | cons c t ih =>
    cases k with
    | zero =>
      have := he c rfl
      simp [List.takeWhile, List.dropWhile, this]
    | succ k =>
      simp only [List.take_succ_cons, List.all_cons, Bool.and_eq_true] at h
      have := ih k h.2 (by simp at hk; omega) (fun d hd => he d (by simpa using hd))
      simp [List.takeWhile, List.dropWhile, h.1, this.1, this.2]
end Code

theorem bs_get (s : List UInt8) (k : Nat) (_h : k < s.length) (hk : k < (bs s).size) : (bs s)[k]'hk = s[k] := by
  simp [bs]; rfl

theorem ret_str {a b : ByteArray} (h : a = b) : Ending.returned (.string a) = .returned (.string b) := by rw [h]

theorem isIn_yes {lo hi c : UInt8} (h : (lo.toNat : Int) ≤ (c.toNat : Int)) (h' : (c.toNat : Int) ≤ (hi.toNat : Int)) : Code.isIn lo hi c = true := by
  simp [Code.isIn]; omega

theorem isIn_no {lo hi c : UInt8} (h : ¬ ((lo.toNat : Int) ≤ (c.toNat : Int) ∧ (c.toNat : Int) ≤ (hi.toNat : Int))) : Code.isIn lo hi c = false := by
  have : ¬ (lo.toNat ≤ c.toNat ∧ c.toNat ≤ hi.toNat) := by omega
  simp only [Code.isIn, Bool.and_eq_false_iff, decide_eq_false_iff_not]
  omega

set_option maxRecDepth 100000 in
set_option maxHeartbeats 1000000 in
theorem run_any (rb : Nat) (T : TypeId) (s : List UInt8) (lo hi : UInt8) (l why : Int) (X : List Value) (w : World) (hr : Rd w rb T s l why X) (hs : s.length ≤ 3000) :
    Calls Tryd.prog 54 #[.pointer (some ⟨rb, 0, none⟩), .int .u8 lo.toNat, .int .u8 hi.toNat] w fun e w' =>
      e = .returned (.string (bs (Code.run lo hi s))) ∧ Rd w' rb T (Code.rest lo hi s) l why X ∧ w.grownBy w' (some rb) := by
  have c0 := hr.c0
  have f0 := hr.fz 0
  have e1 := bs_size s
  go_enter Tryd.func54, Tryd.ntmps54
  go_wp2
  go_loop [7] (fun n => ∃ k : Nat, k ≤ s.length ∧ n = .int .i64 k ∧ Hid ((s.take k).all (Code.isIn lo hi) = true)) (fun n => s.length - (intOf n).toNat)
  case atStart => exact ⟨0, Nat.zero_le _, rfl, by simp [Hid]⟩
  case round =>
    obtain ⟨k, hk, rfl, hall⟩ := hrel
    by_cases hlt : k < s.length
    · have hlt' : k < (bs s).size := by omega
      have HG := hide (bs_get s k hlt hlt')
      have HN : Hid (Code.isIn lo hi s[k] = false → Code.run lo hi s = s.take k ∧ Code.rest lo hi s = s.drop k) := hide fun h =>
        Code.takeWhile_take _ s k hall.out hk (fun c hc => by rw [List.getElem?_eq_getElem hlt] at hc; rw [← Option.some.inj hc]; exact h)
      have HT : Hid (Code.isIn lo hi s[k] = true → (s.take (k + 1)).all (Code.isIn lo hi) = true) := hide fun h => by
        rw [List.take_add_one, List.getElem?_eq_getElem hlt, List.all_append, hall.out]
        show (true && (Code.isIn lo hi s[k] && true)) = true
        rw [h]; rfl
      have hin : Code.isIn lo hi s[k] = Code.isIn lo hi ((bs s)[k]'hlt') := by rw [HG.out]
      rw [hin] at HN HT
      clear HG hin
      by_cases h1 : (lo.toNat : Int) ≤ (((bs s)[k]'hlt').toNat : Int)
      · by_cases h2 : (((bs s)[k]'hlt').toNat : Int) ≤ (hi.toNat : Int)
        · go_wp2
          exact ⟨⟨k + 1, by omega, by go_num, HT.out (isIn_yes h1 h2)⟩, by simp [intOf]; omega⟩
        · obtain ⟨g1, g2⟩ := HN.out (isIn_no (fun h => h2 h.2))
          have HG1 := hide g1
          have HG2 := hide g2
          clear g1 g2
          go_wp2
          have g1 := HG1.out
          have g2 := HG2.out
          go_ret
          refine ⟨?_, ?_, grown_set _ _ _ _⟩
          · rw [g1, bs_extract, bl_bs]; simp
          · rw [g2, show (bs s).extract k s.length = bs (s.drop k) by rw [← e1]; exact bl_inj (by rw [bl_extract_end, bl_bs, bl_bs])]
            exact hr.set0 _
      · obtain ⟨g1, g2⟩ := HN.out (isIn_no (fun h => h1 h.1))
        have HG1 := hide g1
        have HG2 := hide g2
        clear g1 g2
        go_wp2
        have g1 := HG1.out
        have g2 := HG2.out
        go_ret
        refine ⟨?_, ?_, grown_set _ _ _ _⟩
        · rw [g1, bs_extract, bl_bs]; simp
        · rw [g2, show (bs s).extract k s.length = bs (s.drop k) by rw [← e1]; exact bl_inj (by rw [bl_extract_end, bl_bs, bl_bs])]
          exact hr.set0 _
    · have hks : k = s.length := by omega
      have HN := hide (Code.takeWhile_take (Code.isIn lo hi) s k hall.out hk (fun c hc => by rw [List.getElem?_eq_none (by omega)] at hc; cases hc))
      go_wp2
      obtain ⟨g1, g2⟩ := HN.out
      go_ret
      refine ⟨ret_str ?_, ?_, grown_set _ _ _ _⟩
      · show (bs s).extract 0 s.length = bs (s.takeWhile _)
        rw [g1, List.take_of_length_le (by omega), bs_extract, bl_bs]; simp
      · show Rd _ _ _ (s.dropWhile _) _ _ _
        rw [g2, List.drop_of_length_le (by omega)]
        exact hr.set0 _

set_option maxHeartbeats 400000 in
theorem letters_any (rb : Nat) (T : TypeId) (s : List UInt8) (l why : Int) (X : List Value) (w : World) (hr : Rd w rb T s l why X) (hs : s.length ≤ 3000) :
    Calls Tryd.prog 58 #[.pointer (some ⟨rb, 0, none⟩)] w fun e w' =>
      e = .returned (.string (bs (Code.word s))) ∧ Rd w' rb T (Code.behind s) l why X ∧ w.grownBy w' (some rb) := by
  go_enter Tryd.func58, Tryd.ntmps58
  go_wp2_with fail
  refine (run_any rb T s 97 122 l why X w hr hs).mono ?_
  rintro e w' ⟨rfl, hr', hg⟩
  go_wp2
  go_ret
  exact ⟨rfl, hr', hg⟩

namespace Code
theorem numFold_lt (l : List UInt8) (h : ∀ c ∈ l, isIn 48 57 c = true) : numFold 0 l < 10 ^ l.length := by
  have key : ∀ (l : List UInt8) (n : Nat), (∀ c ∈ l, isIn 48 57 c = true) → numFold n l < (n + 1) * 10 ^ l.length := by
    intro l
    induction l with
    | nil => intro n _; simp [numFold]
    | cons c t ih =>
      intro n hc
      have h1 := ih (10 * n + (c.toNat - 48)) (fun c hm => hc c (List.mem_cons_of_mem _ hm))
      have h2 : c.toNat ≤ 57 := by have := hc c (List.mem_cons_self ..); simp [isIn] at this; omega
      have h3 : numFold n (c :: t) = numFold (10 * n + (c.toNat - 48)) t := rfl
      rw [h3]
      refine Nat.lt_of_lt_of_le h1 ?_
      rw [List.length_cons, Nat.pow_succ, Nat.mul_comm (10 ^ t.length) 10, ← Nat.mul_assoc]
      exact Nat.mul_le_mul_right _ (by omega)
  simpa using key l 0 h

theorem run_all (s : List UInt8) : ∀ c ∈ run 48 57 s, isIn 48 57 c = true := by
  intro c hc
  exact List.all_eq_true.1 List.all_takeWhile c hc

theorem run_length (lo hi : UInt8) (s : List UInt8) : (run lo hi s).length ≤ s.length := by
  have := congrArg List.length (run_rest lo hi s)
  simp at this; omega

theorem rest_length (lo hi : UInt8) (s : List UInt8) : (rest lo hi s).length ≤ s.length := by
  have := congrArg List.length (run_rest lo hi s)
  simp at this; omega

theorem number_some {s t : List UInt8} {n : Nat} (h : number s = some (n, t)) : n < 10000000000 ∧ t.length < s.length := by
  unfold number at h
  split at h
  · cases h
  · rename_i hb
    simp only [Option.some.injEq, Prod.mk.injEq] at h
    obtain ⟨rfl, rfl⟩ := h
    have hb := numFold_lt _ (run_all s)
    have h1 : ¬ run 48 57 s = [] := fun e => (by assumption : ¬ badDigits _) (Or.inl e)
    have h2 : ¬ 10 < (run 48 57 s).length := fun e => (by assumption : ¬ badDigits _) (Or.inr (Or.inl e))
    have h4 : 10 ^ (run 48 57 s).length ≤ 10 ^ 10 := Nat.pow_le_pow_right (by omega) (by omega)
    have h5 : (10 : Nat) ^ 10 = 10000000000 := by decide
    have h6 := congrArg List.length (run_rest 48 57 s)
    have h7 := List.length_pos_iff.2 h1
    simp at h6
    omega
end Code
end Go.Proofs.YtdffpkmabehfbaaDoor
