/-
  Walk: chiselkeep.digits, long.
-/
import Derived.Test.YtdffpkmabehfbaaDoorBase
import Derived.Test.YtdffpkmabehfbaaDoorPlain
import Derived.Test.YtdffpkmabehfbaaDoorCPlain
namespace Go.Proofs.YtdffpkmabehfbaaDoor
open Go.RowKit

theorem ch_byteOf (m : Nat) : Ref.ch (m % 10) = byteOf (48 + (m : Int) % 10) := by
  unfold Ref.ch byteOf
  congr 1

set_option maxRecDepth 100000 in
set_option maxHeartbeats 1000000 in
theorem kdigits_nat (n : Nat) (w : World) (hn : n < 4611686018427387904) :
    Calls Tryd.prog 11 #[.int .i64 n] w fun e w' => e = .returned (.string (bs (Ref.dec n))) ∧ Below w.heap.size w w' := by
  have hcv := conv1
  have hb1 : ∀ x, (bs [x]).size = 1 := fun x => bs_size [x]
  go_enter Tryd.func11, Tryd.ntmps11
  go_wp2
  go_loopw [0, 3] (fun a b wr => ∃ (m : Nat) (q : List UInt8), m ≤ n ∧ a = .int .i64 m ∧ b = .string (bs (Ref.ch (m % 10) :: q)) ∧ q.length + m ≤ n ∧ Below w.heap.size w wr ∧ Hid (Ref.dec m ++ q = Ref.dec n))
    (fun a _ _ => (intOf a).toNat)
  case atStart => exact ⟨n, [], by omega, rfl, by rw [ch_byteOf], by simp, (Below.refl _ _).alloc (Nat.le_refl _) _, by simp [Hid]⟩
  case round =>
    obtain ⟨m, q, hm, rfl, rfl, hq, hbel, hsp⟩ := hrel
    have hsz := hbel.size
    have hbz := bs_size (Ref.ch (m % 10) :: q)
    simp only [List.length_cons] at hbz
    by_cases h10 : 10 ≤ m
    · have HS : Hid (Ref.dec (m / 10) ++ (Ref.ch (m % 10) :: q) = Ref.dec n) := by
        rw [← hsp.out, Ref.dec_big h10, List.append_assoc]; rfl
      clear hsp
      generalize hb : bs (Ref.ch (m % 10) :: q) = t at *
      have HB := hide hb
      clear hb
      have hts : t.size ≤ 9223372036854775000 := by omega
      clear hbz
      go_wp2
      refine ⟨⟨m / 10, Ref.ch (m % 10) :: q, by omega, by go_num, ?_, by simp; omega, hbel.alloc hsz _, HS⟩, by simp [intOf]; omega⟩
      rw [← HB.out, bs_append, ch_byteOf]; rfl
    · have HS : Hid (Ref.ch (m % 10) :: q = Ref.dec n) := by
        rw [← hsp.out, Ref.dec_small (by omega)]; rfl
      clear hsp
      rw [HS.out]
      go_wp2
      go_ret
      exact ⟨rfl, hbel⟩

set_option maxRecDepth 100000 in
set_option maxHeartbeats 1000000 in
theorem kdigits_any (n : Int) (w : World) (hn : -4611686018427387904 < n ∧ n < 4611686018427387904) :
    Calls Tryd.prog 11 #[.int .i64 n] w fun e w' => e = .returned (.string (bs (Ref.digits n))) ∧ Below w.heap.size w w' := by
  obtain ⟨hn1, hn2⟩ := hn
  by_cases h : n < 0
  · have HF : Hid (Ref.digits n = 45 :: Ref.dec (-n).toNat) := by simp only [Hid, Ref.digits, if_pos h]
    have hm : ((-n).toNat : Int) = -n := by omega
    have hsz := Ref.dec_length (-n).toNat (by omega)
    go_enter Tryd.func11, Tryd.ntmps11
    go_wp2_with fail
    rw [← hm]
    refine (kdigits_nat (-n).toNat w (by omega)).mono ?_
    rintro e w' ⟨rfl, hb⟩
    have hbz := bs_size (Ref.dec (-n).toNat)
    clear hm
    generalize hT : bs (Ref.dec (-n).toNat) = t at *
    have HT := hide hT
    clear hT
    go_wp2
    go_ret
    exact ⟨congrArg (fun x => Ending.returned (.string x)) (by rw [HF.out, ← HT.out]; exact bs_append [45] _), hb⟩
  · have HF : Hid (Ref.digits n = Ref.dec n.toNat) := by simp only [Hid, Ref.digits, if_neg h]
    have hm : (n.toNat : Int) = n := by omega
    have h2 := kdigits_nat n.toNat w (by omega)
    rw [hm] at h2
    rw [HF.out]
    exact h2

theorem long_any (n : Int) (w : World) :
    Calls Tryd.prog 6 #[.int .i64 n] w fun e w' => e = .returned (.int .i64 (wrap32 n)) ∧ w' = w := by
  have h : wrap64 (wrap32 n) = wrap32 n := by unfold wrap64 wrap32; omega
  go_enter Tryd.func6, Tryd.ntmps6
  go_wp2
  go_ret
  exact ⟨congrArg (fun x => Ending.returned (.int .i64 x)) h, rfl⟩
end Go.Proofs.YtdffpkmabehfbaaDoor

/-
  Bits of 64 and of 32: they come to the same in 32.
-/
namespace Go.Proofs.YtdffpkmabehfbaaDoor
open Go.RowKit

theorem w64_32 (x : Int) : wrap64 (wrap32 x) = wrap32 x := by unfold wrap64 wrap32; omega
theorem w32_64 (x : Int) : wrap32 (wrap64 x) = wrap32 x := by unfold wrap64 wrap32; omega
theorem w32_in (x : Int) (h : -2147483648 ≤ x) (h' : x < 2147483648) : wrap32 x = x := by unfold wrap32; omega

theorem wrap_is64 (x : Int) : IntKind.i64.wrap x = wrap64 x := by rw [IntKind.wrap_i64]; unfold wrap64; omega
theorem wrap_is32 (x : Int) : IntKind.i32.wrap x = wrap32 x := by rw [IntKind.wrap_i32]; unfold wrap32; omega

theorem w32_mod {x y : Nat} (h : x % 2 ^ 32 = y % 2 ^ 32) : wrap32 (x : Int) = wrap32 (y : Int) := by unfold wrap32; omega

theorem low32 (a : Int) : (BitVec.ofInt 64 a).toNat % 2 ^ 32 = (BitVec.ofInt 32 a).toNat := by
  rw [BitVec.toNat_ofInt, BitVec.toNat_ofInt]; omega

theorem low32' (a : Int) : (BitVec.ofInt 32 a).toNat % 2 ^ 32 = (BitVec.ofInt 32 a).toNat := Nat.mod_eq_of_lt (BitVec.isLt _)

theorem w32_and (a b : Int) : wrap32 (bits .and .i64 a b) = bits .and .i32 a b := by
  have h1 : bits .and .i64 a b = IntKind.i64.wrap (((BitVec.ofInt 64 a).toNat &&& (BitVec.ofInt 64 b).toNat : Nat) : Int) := rfl
  have h2 : bits .and .i32 a b = IntKind.i32.wrap (((BitVec.ofInt 32 a).toNat &&& (BitVec.ofInt 32 b).toNat : Nat) : Int) := rfl
  rw [h1, h2, wrap_is64, wrap_is32, w32_64]
  apply w32_mod
  rw [Nat.and_mod_two_pow, Nat.and_mod_two_pow, low32, low32, low32', low32']

theorem w32_or (a b : Int) : wrap32 (bits .or .i64 a b) = bits .or .i32 a b := by
  have h1 : bits .or .i64 a b = IntKind.i64.wrap (((BitVec.ofInt 64 a).toNat ||| (BitVec.ofInt 64 b).toNat : Nat) : Int) := rfl
  have h2 : bits .or .i32 a b = IntKind.i32.wrap (((BitVec.ofInt 32 a).toNat ||| (BitVec.ofInt 32 b).toNat : Nat) : Int) := rfl
  rw [h1, h2, wrap_is64, wrap_is32, w32_64]
  apply w32_mod
  rw [Nat.or_mod_two_pow, Nat.or_mod_two_pow, low32, low32, low32', low32']

theorem w32_xor (a b : Int) : wrap32 (bits .xor .i64 a b) = bits .xor .i32 a b := by
  have h1 : bits .xor .i64 a b = IntKind.i64.wrap (((BitVec.ofInt 64 a).toNat ^^^ (BitVec.ofInt 64 b).toNat : Nat) : Int) := rfl
  have h2 : bits .xor .i32 a b = IntKind.i32.wrap (((BitVec.ofInt 32 a).toNat ^^^ (BitVec.ofInt 32 b).toNat : Nat) : Int) := rfl
  rw [h1, h2, wrap_is64, wrap_is32, w32_64]
  apply w32_mod
  rw [Nat.xor_mod_two_pow, Nat.xor_mod_two_pow, low32, low32, low32', low32']

theorem not_is (a : Int) (h : -2147483648 ≤ a) (h' : a < 2147483648) : bits .xor .i32 (-1) a = -1 - a := by
  have h2 : bits .xor .i32 (-1) a = IntKind.i32.wrap (((BitVec.ofInt 32 (-1)).toNat ^^^ (BitVec.ofInt 32 a).toNat : Nat) : Int) := rfl
  have h3 : BitVec.ofInt 32 (-1) = BitVec.allOnes 32 := by decide
  rw [h2, ← BitVec.toNat_xor, h3, BitVec.xor_comm, BitVec.xor_allOnes, BitVec.toNat_not, BitVec.toNat_ofInt, IntKind.wrap_i32]
  omega

/-- The lowest five bits of a number are its rest by 32. -/
theorem i64_and31 (n : Int) : bits .and .i64 n 31 = n % 32 := by
  have low : ∀ m : Nat, m &&& 31 = m % 32 := fun m => Nat.and_two_pow_sub_one_eq_mod m 5
  have said : bits .and .i64 n 31 = IntKind.i64.wrap (((BitVec.ofInt 64 n).toNat &&& 31 : Nat) : Int) := rfl
  rw [said, low, BitVec.toNat_ofInt, IntKind.wrap_i64]
  omega
end Go.Proofs.YtdffpkmabehfbaaDoor

/-
  Walk: chiselkeep.reckon.
-/
namespace Go.Proofs.YtdffpkmabehfbaaDoor
open Go.RowKit

theorem ret_i64 {v v' : Int} (h : v = v') : Ending.returned (.int .i64 v) = .returned (.int .i64 v') := by rw [h]

set_option maxRecDepth 100000 in
set_option maxHeartbeats 1000000 in
theorem kr0 (a b : Int) (w : World) (_ha : -2147483648 ≤ a) (_ha' : a < 2147483648) (_hb : -2147483648 ≤ b) (_hb' : b < 2147483648) :
    Calls Tryd.prog 13 #[.int .i64 0, .int .i64 a, .int .i64 b] w fun e w' => e = .returned (.int .i64 (wrap32 (a + b))) ∧ w' = w := by
  go_enter Tryd.func13, Tryd.ntmps13
  go_wp2_with fail
  refine (long_any _ _).mono ?_
  rintro e w' ⟨rfl, rfl⟩
  go_wp2_with fail
  go_ret
  exact ⟨ret_i64 (rfl), rfl⟩

set_option maxRecDepth 100000 in
set_option maxHeartbeats 1000000 in
theorem kr1 (a b : Int) (w : World) (_ha : -2147483648 ≤ a) (_ha' : a < 2147483648) (_hb : -2147483648 ≤ b) (_hb' : b < 2147483648) :
    Calls Tryd.prog 13 #[.int .i64 1, .int .i64 a, .int .i64 b] w fun e w' => e = .returned (.int .i64 (wrap32 (a - b))) ∧ w' = w := by
  go_enter Tryd.func13, Tryd.ntmps13
  go_wp2_with fail
  refine (long_any _ _).mono ?_
  rintro e w' ⟨rfl, rfl⟩
  go_wp2_with fail
  go_ret
  exact ⟨ret_i64 (rfl), rfl⟩

set_option maxRecDepth 100000 in
set_option maxHeartbeats 1000000 in
theorem kr2 (a b : Int) (w : World) (_ha : -2147483648 ≤ a) (_ha' : a < 2147483648) (_hb : -2147483648 ≤ b) (_hb' : b < 2147483648) :
    Calls Tryd.prog 13 #[.int .i64 2, .int .i64 a, .int .i64 b] w fun e w' => e = .returned (.int .i64 (wrap32 (a * b))) ∧ w' = w := by
  go_enter Tryd.func13, Tryd.ntmps13
  go_wp2_with fail
  refine (long_any _ _).mono ?_
  rintro e w' ⟨rfl, rfl⟩
  go_wp2_with fail
  go_ret
  exact ⟨ret_i64 (w32_64 _), rfl⟩

set_option maxRecDepth 100000 in
set_option maxHeartbeats 1000000 in
theorem kr3 (a b : Int) (w : World) (_ha : -2147483648 ≤ a) (_ha' : a < 2147483648) (_hb : -2147483648 ≤ b) (_hb' : b < 2147483648) :
    Calls Tryd.prog 13 #[.int .i64 3, .int .i64 a, .int .i64 b] w fun e w' => e = .returned (.int .i64 (bits .and .i32 a b)) ∧ w' = w := by
  go_enter Tryd.func13, Tryd.ntmps13
  go_wp2_with fail
  refine (long_any _ _).mono ?_
  rintro e w' ⟨rfl, rfl⟩
  go_wp2_with fail
  go_ret
  exact ⟨ret_i64 (w32_and a b), rfl⟩

set_option maxRecDepth 100000 in
set_option maxHeartbeats 1000000 in
theorem kr4 (a b : Int) (w : World) (_ha : -2147483648 ≤ a) (_ha' : a < 2147483648) (_hb : -2147483648 ≤ b) (_hb' : b < 2147483648) :
    Calls Tryd.prog 13 #[.int .i64 4, .int .i64 a, .int .i64 b] w fun e w' => e = .returned (.int .i64 (bits .or .i32 a b)) ∧ w' = w := by
  go_enter Tryd.func13, Tryd.ntmps13
  go_wp2_with fail
  refine (long_any _ _).mono ?_
  rintro e w' ⟨rfl, rfl⟩
  go_wp2_with fail
  go_ret
  exact ⟨ret_i64 (w32_or a b), rfl⟩

set_option maxRecDepth 100000 in
set_option maxHeartbeats 1000000 in
theorem kr5 (a b : Int) (w : World) (_ha : -2147483648 ≤ a) (_ha' : a < 2147483648) (_hb : -2147483648 ≤ b) (_hb' : b < 2147483648) :
    Calls Tryd.prog 13 #[.int .i64 5, .int .i64 a, .int .i64 b] w fun e w' => e = .returned (.int .i64 (bits .xor .i32 a b)) ∧ w' = w := by
  go_enter Tryd.func13, Tryd.ntmps13
  go_wp2_with fail
  refine (long_any _ _).mono ?_
  rintro e w' ⟨rfl, rfl⟩
  go_wp2_with fail
  go_ret
  exact ⟨ret_i64 (w32_xor a b), rfl⟩

set_option maxRecDepth 100000 in
set_option maxHeartbeats 1000000 in
theorem kr6 (a b : Int) (w : World) (_ha : -2147483648 ≤ a) (_ha' : a < 2147483648) (_hb : -2147483648 ≤ b) (_hb' : b < 2147483648) :
    Calls Tryd.prog 13 #[.int .i64 6, .int .i64 a, .int .i64 b] w fun e w' => e = .returned (.int .i64 (wrap32 (a * 2 ^ (b % 32).toNat))) ∧ w' = w := by
  have h31 := i64_and31 b
  go_enter Tryd.func13, Tryd.ntmps13
  go_wp2_with fail
  refine (long_any _ _).mono ?_
  rintro e w' ⟨rfl, rfl⟩
  go_wp2_with fail
  go_ret
  exact ⟨ret_i64 (w32_64 _), rfl⟩

set_option maxRecDepth 100000 in
set_option maxHeartbeats 1000000 in
theorem kr7 (a b : Int) (w : World) (_ha : -2147483648 ≤ a) (_ha' : a < 2147483648) (_hb : -2147483648 ≤ b) (_hb' : b < 2147483648) :
    Calls Tryd.prog 13 #[.int .i64 7, .int .i64 a, .int .i64 b] w fun e w' => e = .returned (.int .i64 (a / 2 ^ (b % 32).toNat)) ∧ w' = w := by
  have hsr : -2147483648 ≤ a / 2 ^ (b % 32).toNat ∧ a / 2 ^ (b % 32).toNat < 2147483648 := by
    have hp : (0 : Int) < 2 ^ (b % 32).toNat := Int.pow_pos (by omega)
    generalize (2 : Int) ^ (b % 32).toNat = p at hp
    exact ⟨(Int.le_ediv_iff_mul_le hp).2 (by omega), Int.ediv_lt_of_lt_mul hp (by omega)⟩
  have h31 := i64_and31 b
  go_enter Tryd.func13, Tryd.ntmps13
  go_wp2_with fail
  refine (long_any _ _).mono ?_
  rintro e w' ⟨rfl, rfl⟩
  go_wp2_with fail
  go_ret
  exact ⟨ret_i64 (w32_in _ hsr.1 hsr.2), rfl⟩

set_option maxRecDepth 100000 in
set_option maxHeartbeats 1000000 in
theorem kr8 (a b : Int) (w : World) (_ha : -2147483648 ≤ a) (_ha' : a < 2147483648) (_hb : -2147483648 ≤ b) (_hb' : b < 2147483648) :
    Calls Tryd.prog 13 #[.int .i64 8, .int .i64 a, .int .i64 b] w fun e w' => e = .returned (.int .i64 (if a = b then 1 else 0)) ∧ w' = w := by
  by_cases h : a = b
  · rw [if_pos h]
    go_enter Tryd.func13, Tryd.ntmps13
    go_wp2_with fail
    go_ret
    exact ⟨rfl, rfl⟩
  · rw [if_neg h]
    go_enter Tryd.func13, Tryd.ntmps13
    go_wp2_with fail
    go_ret
    exact ⟨rfl, rfl⟩

set_option maxRecDepth 100000 in
set_option maxHeartbeats 1000000 in
theorem kr9 (a b : Int) (w : World) (_ha : -2147483648 ≤ a) (_ha' : a < 2147483648) (_hb : -2147483648 ≤ b) (_hb' : b < 2147483648) :
    Calls Tryd.prog 13 #[.int .i64 9, .int .i64 a, .int .i64 b] w fun e w' => e = .returned (.int .i64 (if a < b then 1 else 0)) ∧ w' = w := by
  by_cases h : a < b
  · rw [if_pos h]
    go_enter Tryd.func13, Tryd.ntmps13
    go_wp2_with fail
    go_ret
    exact ⟨rfl, rfl⟩
  · rw [if_neg h]
    go_enter Tryd.func13, Tryd.ntmps13
    go_wp2_with fail
    go_ret
    exact ⟨rfl, rfl⟩

set_option maxRecDepth 100000 in
set_option maxHeartbeats 1000000 in
theorem kr10 (a b : Int) (w : World) (_ha : -2147483648 ≤ a) (_ha' : a < 2147483648) (_hb : -2147483648 ≤ b) (_hb' : b < 2147483648) :
    Calls Tryd.prog 13 #[.int .i64 10, .int .i64 a, .int .i64 b] w fun e w' => e = .returned (.int .i64 (wrap32 (-a))) ∧ w' = w := by
  go_enter Tryd.func13, Tryd.ntmps13
  go_wp2_with fail
  refine (long_any _ _).mono ?_
  rintro e w' ⟨rfl, rfl⟩
  go_wp2_with fail
  go_ret
  exact ⟨ret_i64 (rfl), rfl⟩

set_option maxRecDepth 100000 in
set_option maxHeartbeats 1000000 in
theorem kr11 (a b : Int) (w : World) (_ha : -2147483648 ≤ a) (_ha' : a < 2147483648) (_hb : -2147483648 ≤ b) (_hb' : b < 2147483648) :
    Calls Tryd.prog 13 #[.int .i64 11, .int .i64 a, .int .i64 b] w fun e w' => e = .returned (.int .i64 (bits .xor .i32 (-1) a)) ∧ w' = w := by
  go_enter Tryd.func13, Tryd.ntmps13
  go_wp2_with fail
  refine (long_any _ _).mono ?_
  rintro e w' ⟨rfl, rfl⟩
  go_wp2_with fail
  go_ret
  exact ⟨ret_i64 ((w32_in _ (by omega) (by omega)).trans (not_is a _ha _ha').symm), rfl⟩
end Go.Proofs.YtdffpkmabehfbaaDoor
