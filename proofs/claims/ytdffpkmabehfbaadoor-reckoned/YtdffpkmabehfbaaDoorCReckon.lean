/-
  Walk: code.Op.Reckon: what an operation comes to.
-/
import Derived.Test.YtdffpkmabehfbaaDoorCIr
namespace Go.Proofs.YtdffpkmabehfbaaDoor
open Go.RowKit

namespace Code
def truth (b : Bool) : Int := if b then 1 else 0

/-- What an operation comes to of two numbers; none, if it traps. -/
def reckon : Nat → Int → Int → Option Int
  | 0, a, b => some (wrap32 (a + b))
  | 1, a, b => some (wrap32 (a - b))
  | 2, a, b => some (wrap32 (a * b))
  | 3, a, b => if b = 0 then none else some (wrap32 (a.tdiv b))
  | 4, a, b => some (bits .and .i32 a b)
  | 5, a, b => some (bits .or .i32 a b)
  | 6, a, b => some (bits .xor .i32 a b)
  | 7, a, b => some (wrap32 (a * 2 ^ (b % 32).toNat))
  | 8, a, b => some (a / 2 ^ (b % 32).toNat)
  | 9, a, b => some (truth (a == b))
  | 10, a, b => some (truth (decide (a < b)))
  | 11, a, _ => some (wrap32 (-a))
  | _, a, _ => some (bits .xor .i32 (-1) a)
end Code

/-- The lowest five bits of a number are its rest by 32. -/
theorem u32_and31 (n : Int) : bits .and .u32 n 31 = n % 32 := by
  have low : ∀ m : Nat, m &&& 31 = m % 32 := fun m => Nat.and_two_pow_sub_one_eq_mod m 5
  have said : bits .and .u32 n 31 = IntKind.u32.wrap (((BitVec.ofInt 32 n).toNat &&& 31 : Nat) : Int) := rfl
  rw [said, low, BitVec.toNat_ofInt]
  have : IntKind.u32.wrap ((((n % ((2 ^ 32 : Nat) : Int)).toNat % 32 : Nat)) : Int) = ((((n % ((2 ^ 32 : Nat) : Int)).toNat % 32 : Nat)) : Int) := by
    show (((((n % ((2 ^ 32 : Nat) : Int)).toNat % 32 : Nat)) : Int)) % 4294967296 = _
    omega
  rw [this]
  omega

theorem ret_ib32 {v v' : Int} {b : Bool} (h : v = v') : Ending.returned (.tuple #[.int .i32 v, .bool b]) = .returned (.tuple #[.int .i32 v', .bool b]) := by rw [h]

set_option maxRecDepth 100000 in
set_option maxHeartbeats 1000000 in
theorem op0 (a b : Int) (w : World) (_ha : -2147483648 ≤ a) (_ha' : a < 2147483648) (_hb : -2147483648 ≤ b) (_hb' : b < 2147483648) :
    Calls Tryd.prog 51 #[.int .i64 0, .int .i32 a, .int .i32 b] w fun e w' => e = .returned (.tuple #[.int .i32 (wrap32 (a + b)), .bool true]) ∧ w' = w := by
  go_enter Tryd.func51, Tryd.ntmps51
  go_wp2
  go_ret2
  exact ⟨rfl, rfl⟩

set_option maxRecDepth 100000 in
set_option maxHeartbeats 1000000 in
theorem op1 (a b : Int) (w : World) (_ha : -2147483648 ≤ a) (_ha' : a < 2147483648) (_hb : -2147483648 ≤ b) (_hb' : b < 2147483648) :
    Calls Tryd.prog 51 #[.int .i64 1, .int .i32 a, .int .i32 b] w fun e w' => e = .returned (.tuple #[.int .i32 (wrap32 (a - b)), .bool true]) ∧ w' = w := by
  go_enter Tryd.func51, Tryd.ntmps51
  go_wp2
  go_ret2
  exact ⟨rfl, rfl⟩

set_option maxRecDepth 100000 in
set_option maxHeartbeats 1000000 in
theorem op2 (a b : Int) (w : World) (_ha : -2147483648 ≤ a) (_ha' : a < 2147483648) (_hb : -2147483648 ≤ b) (_hb' : b < 2147483648) :
    Calls Tryd.prog 51 #[.int .i64 2, .int .i32 a, .int .i32 b] w fun e w' => e = .returned (.tuple #[.int .i32 (wrap32 (a * b)), .bool true]) ∧ w' = w := by
  go_enter Tryd.func51, Tryd.ntmps51
  go_wp2
  go_ret2
  exact ⟨rfl, rfl⟩

set_option maxRecDepth 100000 in
set_option maxHeartbeats 1000000 in
theorem op3 (a b : Int) (w : World) (_ha : -2147483648 ≤ a) (_ha' : a < 2147483648) (_hb : -2147483648 ≤ b) (_hb' : b < 2147483648) (hz : ¬ b = 0) :
    Calls Tryd.prog 51 #[.int .i64 3, .int .i32 a, .int .i32 b] w fun e w' => e = .returned (.tuple #[.int .i32 (wrap32 (a.tdiv b)), .bool true]) ∧ w' = w := by
  go_enter Tryd.func51, Tryd.ntmps51
  go_wp2
  go_ret2
  exact ⟨rfl, rfl⟩

set_option maxRecDepth 100000 in
set_option maxHeartbeats 1000000 in
theorem op3z (a : Int) (w : World) :
    Calls Tryd.prog 51 #[.int .i64 3, .int .i32 a, .int .i32 0] w fun e w' => e = .returned (.tuple #[.int .i32 0, .bool false]) ∧ w' = w := by
  go_enter Tryd.func51, Tryd.ntmps51
  go_wp2
  go_ret2
  exact ⟨rfl, rfl⟩

set_option maxRecDepth 100000 in
set_option maxHeartbeats 1000000 in
theorem op4 (a b : Int) (w : World) (_ha : -2147483648 ≤ a) (_ha' : a < 2147483648) (_hb : -2147483648 ≤ b) (_hb' : b < 2147483648) :
    Calls Tryd.prog 51 #[.int .i64 4, .int .i32 a, .int .i32 b] w fun e w' => e = .returned (.tuple #[.int .i32 (bits .and .i32 a b), .bool true]) ∧ w' = w := by
  go_enter Tryd.func51, Tryd.ntmps51
  go_wp2
  go_ret2
  exact ⟨rfl, rfl⟩

set_option maxRecDepth 100000 in
set_option maxHeartbeats 1000000 in
theorem op5 (a b : Int) (w : World) (_ha : -2147483648 ≤ a) (_ha' : a < 2147483648) (_hb : -2147483648 ≤ b) (_hb' : b < 2147483648) :
    Calls Tryd.prog 51 #[.int .i64 5, .int .i32 a, .int .i32 b] w fun e w' => e = .returned (.tuple #[.int .i32 (bits .or .i32 a b), .bool true]) ∧ w' = w := by
  go_enter Tryd.func51, Tryd.ntmps51
  go_wp2
  go_ret2
  exact ⟨rfl, rfl⟩

set_option maxRecDepth 100000 in
set_option maxHeartbeats 1000000 in
theorem op6 (a b : Int) (w : World) (_ha : -2147483648 ≤ a) (_ha' : a < 2147483648) (_hb : -2147483648 ≤ b) (_hb' : b < 2147483648) :
    Calls Tryd.prog 51 #[.int .i64 6, .int .i32 a, .int .i32 b] w fun e w' => e = .returned (.tuple #[.int .i32 (bits .xor .i32 a b), .bool true]) ∧ w' = w := by
  go_enter Tryd.func51, Tryd.ntmps51
  go_wp2
  go_ret2
  exact ⟨rfl, rfl⟩

set_option maxRecDepth 100000 in
set_option maxHeartbeats 1000000 in
theorem op7 (a b : Int) (w : World) (_ha : -2147483648 ≤ a) (_ha' : a < 2147483648) (_hb : -2147483648 ≤ b) (_hb' : b < 2147483648) :
    Calls Tryd.prog 51 #[.int .i64 7, .int .i32 a, .int .i32 b] w fun e w' => e = .returned (.tuple #[.int .i32 (wrap32 (a * 2 ^ (b % 32).toNat)), .bool true]) ∧ w' = w := by
  have h31 := u32_and31 (b % 4294967296)
  rw [show b % 4294967296 % 32 = b % 32 by omega] at h31
  obtain ⟨c, hc⟩ : ∃ c : Nat, b % 32 = (c : Int) := ⟨(b % 32).toNat, by omega⟩
  have hc2 : c < 32 := by omega
  rw [hc] at h31 ⊢
  rw [Int.toNat_natCast]
  clear hc
  go_enter Tryd.func51, Tryd.ntmps51
  go_wp2
  go_ret2
  exact ⟨rfl, rfl⟩

set_option maxRecDepth 100000 in
set_option maxHeartbeats 1000000 in
theorem op8 (a b : Int) (w : World) (_ha : -2147483648 ≤ a) (_ha' : a < 2147483648) (_hb : -2147483648 ≤ b) (_hb' : b < 2147483648) :
    Calls Tryd.prog 51 #[.int .i64 8, .int .i32 a, .int .i32 b] w fun e w' => e = .returned (.tuple #[.int .i32 (a / 2 ^ (b % 32).toNat), .bool true]) ∧ w' = w := by
  have h31 := u32_and31 (b % 4294967296)
  rw [show b % 4294967296 % 32 = b % 32 by omega] at h31
  obtain ⟨c, hc⟩ : ∃ c : Nat, b % 32 = (c : Int) := ⟨(b % 32).toNat, by omega⟩
  have hc2 : c < 32 := by omega
  rw [hc] at h31 ⊢
  rw [Int.toNat_natCast]
  clear hc
  go_enter Tryd.func51, Tryd.ntmps51
  go_wp2
  go_ret2
  exact ⟨rfl, rfl⟩

set_option maxRecDepth 100000 in
set_option maxHeartbeats 1000000 in
theorem op9 (a b : Int) (w : World) (_ha : -2147483648 ≤ a) (_ha' : a < 2147483648) (_hb : -2147483648 ≤ b) (_hb' : b < 2147483648) :
    Calls Tryd.prog 51 #[.int .i64 9, .int .i32 a, .int .i32 b] w fun e w' => e = .returned (.tuple #[.int .i32 (Code.truth (a == b)), .bool true]) ∧ w' = w := by
  cases hq : (a == b)
  all_goals
    go_enter Tryd.func51, Tryd.ntmps51
    go_wp2
    go_ret2
    exact ⟨by simp [Code.truth], rfl⟩

set_option maxRecDepth 100000 in
set_option maxHeartbeats 1000000 in
theorem op10 (a b : Int) (w : World) (_ha : -2147483648 ≤ a) (_ha' : a < 2147483648) (_hb : -2147483648 ≤ b) (_hb' : b < 2147483648) :
    Calls Tryd.prog 51 #[.int .i64 10, .int .i32 a, .int .i32 b] w fun e w' => e = .returned (.tuple #[.int .i32 (Code.truth (decide (a < b))), .bool true]) ∧ w' = w := by
  by_cases hq : a < b
  all_goals
    go_enter Tryd.func51, Tryd.ntmps51
    go_wp2
    go_ret2
    exact ⟨by simp [Code.truth, hq], rfl⟩

set_option maxRecDepth 100000 in
set_option maxHeartbeats 1000000 in
theorem op11 (a b : Int) (w : World) (_ha : -2147483648 ≤ a) (_ha' : a < 2147483648) (_hb : -2147483648 ≤ b) (_hb' : b < 2147483648) :
    Calls Tryd.prog 51 #[.int .i64 11, .int .i32 a, .int .i32 b] w fun e w' => e = .returned (.tuple #[.int .i32 (wrap32 (-a)), .bool true]) ∧ w' = w := by
  go_enter Tryd.func51, Tryd.ntmps51
  go_wp2
  go_ret2
  exact ⟨rfl, rfl⟩

set_option maxRecDepth 100000 in
set_option maxHeartbeats 1000000 in
theorem op12 (a b : Int) (w : World) (_ha : -2147483648 ≤ a) (_ha' : a < 2147483648) (_hb : -2147483648 ≤ b) (_hb' : b < 2147483648) :
    Calls Tryd.prog 51 #[.int .i64 12, .int .i32 a, .int .i32 b] w fun e w' => e = .returned (.tuple #[.int .i32 (bits .xor .i32 (-1) a), .bool true]) ∧ w' = w := by
  go_enter Tryd.func51, Tryd.ntmps51
  go_wp2
  go_ret2
  exact ⟨rfl, rfl⟩

theorem reckon_any (k : Nat) (hk : k < 13) (a b : Int) (w : World) (ha : -2147483648 ≤ a) (ha' : a < 2147483648) (hb : -2147483648 ≤ b) (hb' : b < 2147483648) :
    Calls Tryd.prog 51 #[.int .i64 (k : Nat), .int .i32 a, .int .i32 b] w fun e w' =>
      ((∃ n, Code.reckon k a b = some n ∧ e = .returned (.tuple #[.int .i32 n, .bool true])) ∨ (Code.reckon k a b = none ∧ e = .returned (.tuple #[.int .i32 0, .bool false]))) ∧ w' = w := by
  match k, hk with
  | 0, _ => exact (op0 a b w ha ha' hb hb').mono fun e w' h => ⟨Or.inl ⟨_, rfl, h.1⟩, h.2⟩
  | 1, _ => exact (op1 a b w ha ha' hb hb').mono fun e w' h => ⟨Or.inl ⟨_, rfl, h.1⟩, h.2⟩
  | 2, _ => exact (op2 a b w ha ha' hb hb').mono fun e w' h => ⟨Or.inl ⟨_, rfl, h.1⟩, h.2⟩
  | 4, _ => exact (op4 a b w ha ha' hb hb').mono fun e w' h => ⟨Or.inl ⟨_, rfl, h.1⟩, h.2⟩
  | 5, _ => exact (op5 a b w ha ha' hb hb').mono fun e w' h => ⟨Or.inl ⟨_, rfl, h.1⟩, h.2⟩
  | 6, _ => exact (op6 a b w ha ha' hb hb').mono fun e w' h => ⟨Or.inl ⟨_, rfl, h.1⟩, h.2⟩
  | 7, _ => exact (op7 a b w ha ha' hb hb').mono fun e w' h => ⟨Or.inl ⟨_, rfl, h.1⟩, h.2⟩
  | 8, _ => exact (op8 a b w ha ha' hb hb').mono fun e w' h => ⟨Or.inl ⟨_, rfl, h.1⟩, h.2⟩
  | 9, _ => exact (op9 a b w ha ha' hb hb').mono fun e w' h => ⟨Or.inl ⟨_, rfl, h.1⟩, h.2⟩
  | 10, _ => exact (op10 a b w ha ha' hb hb').mono fun e w' h => ⟨Or.inl ⟨_, rfl, h.1⟩, h.2⟩
  | 11, _ => exact (op11 a b w ha ha' hb hb').mono fun e w' h => ⟨Or.inl ⟨_, rfl, h.1⟩, h.2⟩
  | 12, _ => exact (op12 a b w ha ha' hb hb').mono fun e w' h => ⟨Or.inl ⟨_, rfl, h.1⟩, h.2⟩
  | 3, _ =>
    by_cases hz : b = 0
    · subst hz
      exact (op3z a w).mono fun e w' h => ⟨Or.inr ⟨rfl, h.1⟩, h.2⟩
    · exact (op3 a b w ha ha' hb hb' hz).mono fun e w' h => ⟨Or.inl ⟨_, by simp [Code.reckon, hz], h.1⟩, h.2⟩
end Go.Proofs.YtdffpkmabehfbaaDoor
