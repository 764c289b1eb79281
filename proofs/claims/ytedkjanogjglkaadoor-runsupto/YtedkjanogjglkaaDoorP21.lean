/-
  Walks: chiselref.truth and reckon: what an operation comes to.
  Bits of 64 and of 32: they come to the same in 32.
  The document's machine: how it lies in memory; walks: chiselref.Machine.step and make1.
  Walk: chiselref.Machine.make1 of an operationof one value.
-/
import Derived.Test.YtedkjanogjglkaaDoorP01
import Derived.Test.YtedkjanogjglkaaDoorP20
import Derived.Test.YtedkjanogjglkaaDoorP12
import Derived.Test.YtedkjanogjglkaaDoorP08
import Derived.BigQuiet

namespace Go.Proofs.YtedkjanogjglkaaDoor.D
open Go.RowKit

namespace Ref
open Go.Proofs.YtedkjanogjglkaaDoor.Ref
def truth (b : Bool) : Int := if b then 1 else 0

def opVals (a b : Int) : List (List UInt8 × Int) := [
  ([97, 100, 100], wrap32 (a + b)),
  ([115, 117, 98], wrap32 (a - b)),
  ([109, 117, 108], wrap32 (a * b)),
  ([100, 105, 118], wrap32 (a.tdiv b)),
  ([97, 110, 100], wrap32 (bits .and .i64 a b)),
  ([111, 114], wrap32 (bits .or .i64 a b)),
  ([120, 111, 114], wrap32 (bits .xor .i64 a b)),
  ([115, 104, 108], wrap32 (a * 2 ^ (b % 32).toNat)),
  ([115, 104, 114], wrap32 (a / 2 ^ (b % 32).toNat)),
  ([101, 113], truth (a == b)),
  ([108, 116], truth (decide (a < b))),
  ([110, 101, 103], wrap32 (-a)),
  ([110, 111, 116], wrap32 (-1 - a))]

/-- What an operation comes to of two numbers. -/
def reckon (op : List UInt8) (a b : Int) : Int := ((opVals a b).lookup op).getD 0
end Ref

/-- The lowest five bits of a number are its rest by 32. -/
theorem i64_and31 (n : Int) : bits .and .i64 n 31 = n % 32 := by
  have low : ∀ m : Nat, m &&& 31 = m % 32 := fun m => Nat.and_two_pow_sub_one_eq_mod m 5
  have said : bits .and .i64 n 31 = IntKind.i64.wrap (((BitVec.ofInt 64 n).toNat &&& 31 : Nat) : Int) := rfl
  rw [said, low, BitVec.toNat_ofInt, IntKind.wrap_i64]
  omega

theorem wrap64_32 (x : Int) : wrap64 (wrap32 x) = wrap32 x := by unfold wrap64 wrap32; omega

theorem wrap32_64 (x : Int) : wrap32 (wrap64 x) = wrap32 x := by unfold wrap64 wrap32; omega

theorem wrap32_in (x : Int) (h : -2147483648 ≤ x) (h' : x < 2147483648) : wrap32 x = x := by unfold wrap32; omega

theorem wrap32_bounds (x : Int) : -2147483648 ≤ wrap32 x ∧ wrap32 x < 2147483648 := by unfold wrap32; omega

theorem truth_any (b : Bool) (w : World) :
    Calls Tryd.prog 88 #[.bool b] w fun e w' => e = .returned (.int .i64 (Ref.truth b)) ∧ w' = w := by
  cases b
  · go_enter Tryd.func88, Tryd.ntmps88
    go_wp2
    go_ret
    exact ⟨rfl, rfl⟩
  · go_enter Tryd.func88, Tryd.ntmps88
    go_wp2
    go_ret
    exact ⟨rfl, rfl⟩

theorem truth_range (b : Bool) : 0 ≤ Ref.truth b ∧ Ref.truth b ≤ 1 := by cases b <;> decide

set_option maxRecDepth 100000 in
set_option maxHeartbeats 1000000 in
theorem rk_add (a b : Int) (w : World) (_ha : -2147483648 ≤ a) (_ha' : a < 2147483648) (_hb : -2147483648 ≤ b) (_hb' : b < 2147483648) :
    Calls Tryd.prog 73 #[.string ⟨([97, 100, 100] : List UInt8).toArray⟩, .int .i64 a, .int .i64 b] w fun e w' => e = .returned (.int .i64 (wrap32 (a + b))) ∧ w' = w := by
  go_enter Tryd.func73, Tryd.ntmps73
  go_wp2_with fail
  go_ret
  exact ⟨ret_int (wrap64_32 _), rfl⟩

set_option maxRecDepth 100000 in
set_option maxHeartbeats 1000000 in
theorem rk_sub (a b : Int) (w : World) (_ha : -2147483648 ≤ a) (_ha' : a < 2147483648) (_hb : -2147483648 ≤ b) (_hb' : b < 2147483648) :
    Calls Tryd.prog 73 #[.string ⟨([115, 117, 98] : List UInt8).toArray⟩, .int .i64 a, .int .i64 b] w fun e w' => e = .returned (.int .i64 (wrap32 (a - b))) ∧ w' = w := by
  go_enter Tryd.func73, Tryd.ntmps73
  go_wp2_with fail
  go_ret
  exact ⟨ret_int (wrap64_32 _), rfl⟩

set_option maxRecDepth 100000 in
set_option maxHeartbeats 1000000 in
theorem rk_mul (a b : Int) (w : World) (_ha : -2147483648 ≤ a) (_ha' : a < 2147483648) (_hb : -2147483648 ≤ b) (_hb' : b < 2147483648) :
    Calls Tryd.prog 73 #[.string ⟨([109, 117, 108] : List UInt8).toArray⟩, .int .i64 a, .int .i64 b] w fun e w' => e = .returned (.int .i64 (wrap32 (a * b))) ∧ w' = w := by
  go_enter Tryd.func73, Tryd.ntmps73
  go_wp2_with fail
  go_ret
  exact ⟨ret_int ((wrap64_32 _).trans (wrap32_64 _)), rfl⟩

set_option maxRecDepth 100000 in
set_option maxHeartbeats 1000000 in
theorem rk_div (a b : Int) (w : World) (_ha : -2147483648 ≤ a) (_ha' : a < 2147483648) (_hb : -2147483648 ≤ b) (_hb' : b < 2147483648) (hz : ¬ b = 0) :
    Calls Tryd.prog 73 #[.string ⟨([100, 105, 118] : List UInt8).toArray⟩, .int .i64 a, .int .i64 b] w fun e w' => e = .returned (.int .i64 (wrap32 (a.tdiv b))) ∧ w' = w := by
  go_enter Tryd.func73, Tryd.ntmps73
  go_wp2_with fail
  go_ret
  exact ⟨ret_int ((wrap64_32 _).trans (wrap32_64 _)), rfl⟩

set_option maxRecDepth 100000 in
set_option maxHeartbeats 1000000 in
theorem rk_and (a b : Int) (w : World) (_ha : -2147483648 ≤ a) (_ha' : a < 2147483648) (_hb : -2147483648 ≤ b) (_hb' : b < 2147483648) :
    Calls Tryd.prog 73 #[.string ⟨([97, 110, 100] : List UInt8).toArray⟩, .int .i64 a, .int .i64 b] w fun e w' => e = .returned (.int .i64 (wrap32 (bits .and .i64 a b))) ∧ w' = w := by
  go_enter Tryd.func73, Tryd.ntmps73
  go_wp2_with fail
  go_ret
  exact ⟨ret_int (wrap64_32 _), rfl⟩

set_option maxRecDepth 100000 in
set_option maxHeartbeats 1000000 in
theorem rk_or (a b : Int) (w : World) (_ha : -2147483648 ≤ a) (_ha' : a < 2147483648) (_hb : -2147483648 ≤ b) (_hb' : b < 2147483648) :
    Calls Tryd.prog 73 #[.string ⟨([111, 114] : List UInt8).toArray⟩, .int .i64 a, .int .i64 b] w fun e w' => e = .returned (.int .i64 (wrap32 (bits .or .i64 a b))) ∧ w' = w := by
  go_enter Tryd.func73, Tryd.ntmps73
  go_wp2_with fail
  go_ret
  exact ⟨ret_int (wrap64_32 _), rfl⟩

set_option maxRecDepth 100000 in
set_option maxHeartbeats 1000000 in
theorem rk_xor (a b : Int) (w : World) (_ha : -2147483648 ≤ a) (_ha' : a < 2147483648) (_hb : -2147483648 ≤ b) (_hb' : b < 2147483648) :
    Calls Tryd.prog 73 #[.string ⟨([120, 111, 114] : List UInt8).toArray⟩, .int .i64 a, .int .i64 b] w fun e w' => e = .returned (.int .i64 (wrap32 (bits .xor .i64 a b))) ∧ w' = w := by
  go_enter Tryd.func73, Tryd.ntmps73
  go_wp2_with fail
  go_ret
  exact ⟨ret_int (wrap64_32 _), rfl⟩

set_option maxRecDepth 100000 in
set_option maxHeartbeats 1000000 in
theorem rk_shl (a b : Int) (w : World) (_ha : -2147483648 ≤ a) (_ha' : a < 2147483648) (_hb : -2147483648 ≤ b) (_hb' : b < 2147483648) :
    Calls Tryd.prog 73 #[.string ⟨([115, 104, 108] : List UInt8).toArray⟩, .int .i64 a, .int .i64 b] w fun e w' => e = .returned (.int .i64 (wrap32 (a * 2 ^ (b % 32).toNat))) ∧ w' = w := by
  have h31 := i64_and31 b
  obtain ⟨c, hc⟩ : ∃ c : Nat, b % 32 = (c : Int) := ⟨(b % 32).toNat, by omega⟩
  have hc2 : c < 32 := by omega
  rw [hc] at h31 ⊢
  rw [Int.toNat_natCast]
  clear hc
  go_enter Tryd.func73, Tryd.ntmps73
  go_wp2_with fail
  go_ret
  exact ⟨ret_int ((wrap64_32 _).trans (wrap32_64 _)), rfl⟩

set_option maxRecDepth 100000 in
set_option maxHeartbeats 1000000 in
theorem rk_shr (a b : Int) (w : World) (_ha : -2147483648 ≤ a) (_ha' : a < 2147483648) (_hb : -2147483648 ≤ b) (_hb' : b < 2147483648) :
    Calls Tryd.prog 73 #[.string ⟨([115, 104, 114] : List UInt8).toArray⟩, .int .i64 a, .int .i64 b] w fun e w' => e = .returned (.int .i64 (wrap32 (a / 2 ^ (b % 32).toNat))) ∧ w' = w := by
  have h31 := i64_and31 b
  obtain ⟨c, hc⟩ : ∃ c : Nat, b % 32 = (c : Int) := ⟨(b % 32).toNat, by omega⟩
  have hc2 : c < 32 := by omega
  rw [hc] at h31 ⊢
  rw [Int.toNat_natCast]
  clear hc
  go_enter Tryd.func73, Tryd.ntmps73
  go_wp2_with fail
  go_ret
  exact ⟨ret_int (wrap64_32 _), rfl⟩

set_option maxRecDepth 100000 in
set_option maxHeartbeats 1000000 in
theorem rk_eq (a b : Int) (w : World) (_ha : -2147483648 ≤ a) (_ha' : a < 2147483648) (_hb : -2147483648 ≤ b) (_hb' : b < 2147483648) :
    Calls Tryd.prog 73 #[.string ⟨([101, 113] : List UInt8).toArray⟩, .int .i64 a, .int .i64 b] w fun e w' => e = .returned (.int .i64 (Ref.truth (a == b))) ∧ w' = w := by
  go_enter Tryd.func73, Tryd.ntmps73
  go_wp2_with fail
  refine (truth_any (a == b) _).mono ?_
  rintro e w' ⟨rfl, rfl⟩
  have hr := truth_range (a == b)
  generalize hT : Ref.truth (a == b) = t at *
  have HT := hide hT
  clear hT
  obtain ⟨hr0, hr1⟩ := hr
  go_wp2
  go_ret
  exact ⟨ret_int HT.out.symm, rfl⟩

set_option maxRecDepth 100000 in
set_option maxHeartbeats 1000000 in
theorem rk_lt (a b : Int) (w : World) (_ha : -2147483648 ≤ a) (_ha' : a < 2147483648) (_hb : -2147483648 ≤ b) (_hb' : b < 2147483648) :
    Calls Tryd.prog 73 #[.string ⟨([108, 116] : List UInt8).toArray⟩, .int .i64 a, .int .i64 b] w fun e w' => e = .returned (.int .i64 (Ref.truth (decide (a < b)))) ∧ w' = w := by
  go_enter Tryd.func73, Tryd.ntmps73
  go_wp2_with fail
  refine (truth_any (decide (a < b)) _).mono ?_
  rintro e w' ⟨rfl, rfl⟩
  have hr := truth_range (decide (a < b))
  generalize hT : Ref.truth (decide (a < b)) = t at *
  have HT := hide hT
  clear hT
  obtain ⟨hr0, hr1⟩ := hr
  go_wp2
  go_ret
  exact ⟨ret_int HT.out.symm, rfl⟩

set_option maxRecDepth 100000 in
set_option maxHeartbeats 1000000 in
theorem rk_neg (a b : Int) (w : World) (_ha : -2147483648 ≤ a) (_ha' : a < 2147483648) (_hb : -2147483648 ≤ b) (_hb' : b < 2147483648) :
    Calls Tryd.prog 73 #[.string ⟨([110, 101, 103] : List UInt8).toArray⟩, .int .i64 a, .int .i64 b] w fun e w' => e = .returned (.int .i64 (wrap32 (-a))) ∧ w' = w := by
  go_enter Tryd.func73, Tryd.ntmps73
  go_wp2_with fail
  go_ret
  exact ⟨ret_int (wrap64_32 _), rfl⟩

set_option maxRecDepth 100000 in
set_option maxHeartbeats 1000000 in
theorem rk_not (a b : Int) (w : World) (_ha : -2147483648 ≤ a) (_ha' : a < 2147483648) (_hb : -2147483648 ≤ b) (_hb' : b < 2147483648) :
    Calls Tryd.prog 73 #[.string ⟨([110, 111, 116] : List UInt8).toArray⟩, .int .i64 a, .int .i64 b] w fun e w' => e = .returned (.int .i64 (wrap32 (-1 - a))) ∧ w' = w := by
  go_enter Tryd.func73, Tryd.ntmps73
  go_wp2_with fail
  go_ret
  exact ⟨ret_int ((wrap32_in _ (by omega) (by omega)).symm), rfl⟩

/-- The reckoning of every operation. -/
theorem reckon_any (op : List UInt8) (hop : op ∈ Ref.twos ++ Ref.ones) (a b : Int) (w : World) (ha : -2147483648 ≤ a) (ha' : a < 2147483648) (hb : -2147483648 ≤ b) (hb' : b < 2147483648) (hz : op = [100, 105, 118] → ¬ b = 0) :
    Calls Tryd.prog 73 #[.string (bs op), .int .i64 a, .int .i64 b] w fun e w' => e = .returned (.int .i64 (Ref.reckon op a b)) ∧ w' = w := by
  simp only [Ref.twos, Ref.ones, List.cons_append, List.nil_append, List.mem_cons, List.not_mem_nil, or_false] at hop
  rcases hop with rfl | rfl | rfl | rfl | rfl | rfl | rfl | rfl | rfl | rfl | rfl | rfl | rfl
  · exact rk_add a b w ha ha' hb hb'
  · exact rk_sub a b w ha ha' hb hb'
  · exact rk_mul a b w ha ha' hb hb'
  · exact rk_div a b w ha ha' hb hb' (hz rfl)
  · exact rk_and a b w ha ha' hb hb'
  · exact rk_or a b w ha ha' hb hb'
  · exact rk_xor a b w ha ha' hb hb'
  · exact rk_shl a b w ha ha' hb hb'
  · exact rk_shr a b w ha ha' hb hb'
  · exact rk_eq a b w ha ha' hb hb'
  · exact rk_lt a b w ha ha' hb hb'
  · exact rk_neg a b w ha ha' hb hb'
  · exact rk_not a b w ha ha' hb hb'

end Go.Proofs.YtedkjanogjglkaaDoor.D


namespace Go.Proofs.YtedkjanogjglkaaDoor
open Go.RowKit

theorem w64_32 (x : Int) : wrap64 (wrap32 x) = wrap32 x := by unfold wrap64 wrap32; omega
theorem w32_64 (x : Int) : wrap32 (wrap64 x) = wrap32 x := by unfold wrap64 wrap32; omega
theorem w32_in (x : Int) (h : -2147483648 ≤ x) (h' : x < 2147483648) : wrap32 x = x := by unfold wrap32; omega

theorem wrap_is64 (x : Int) : IntKind.i64.wrap x = wrap64 x := by rw [IntKind.wrap_i64]; unfold wrap64; omega
theorem wrap_is32 (x : Int) : IntKind.i32.wrap x = wrap32 x := by rw [IntKind.wrap_i32]; unfold wrap32; omega

theorem w32_mod {x y : Nat} (h : x % 2 ^ 32 = y % 2 ^ 32) : wrap32 (x : Int) = wrap32 (y : Int) := by unfold wrap32; omega

theorem low32 (a : Int) : (BitVec.ofInt 64 a).toNat % 2 ^ 32 = (BitVec.ofInt 32 a).toNat := by
  rw [BitVec.toNat_ofInt, BitVec.toNat_ofInt]; omega

theorem low32' (a : Int) : (BitVec.ofInt 32 a).toNat % 2 ^ 32 = (BitVec.ofInt 32 a).toNat := Nat.mod_eq_of_lt (BitVec.isLt _)

theorem w32_and (a b : Int) : wrap32 (bits .and .i64 a b) = bits .and .i32 a b := by
  have h1 : bits .and .i64 a b = IntKind.i64.wrap (((BitVec.ofInt 64 a).toNat &&& (BitVec.ofInt 64 b).toNat : Nat) : Int) := rfl
  have h2 : bits .and .i32 a b = IntKind.i32.wrap (((BitVec.ofInt 32 a).toNat &&& (BitVec.ofInt 32 b).toNat : Nat) : Int) := rfl
  rw [h1, h2, wrap_is64, wrap_is32, w32_64]
  apply w32_mod
  rw [Nat.and_mod_two_pow, Nat.and_mod_two_pow, low32, low32, low32', low32']

theorem w32_or (a b : Int) : wrap32 (bits .or .i64 a b) = bits .or .i32 a b := by
  have h1 : bits .or .i64 a b = IntKind.i64.wrap (((BitVec.ofInt 64 a).toNat ||| (BitVec.ofInt 64 b).toNat : Nat) : Int) := rfl
  have h2 : bits .or .i32 a b = IntKind.i32.wrap (((BitVec.ofInt 32 a).toNat ||| (BitVec.ofInt 32 b).toNat : Nat) : Int) := rfl
  rw [h1, h2, wrap_is64, wrap_is32, w32_64]
  apply w32_mod
  rw [Nat.or_mod_two_pow, Nat.or_mod_two_pow, low32, low32, low32', low32']

theorem w32_xor (a b : Int) : wrap32 (bits .xor .i64 a b) = bits .xor .i32 a b := by
  have h1 : bits .xor .i64 a b = IntKind.i64.wrap (((BitVec.ofInt 64 a).toNat ^^^ (BitVec.ofInt 64 b).toNat : Nat) : Int) := rfl
  have h2 : bits .xor .i32 a b = IntKind.i32.wrap (((BitVec.ofInt 32 a).toNat ^^^ (BitVec.ofInt 32 b).toNat : Nat) : Int) := rfl
  rw [h1, h2, wrap_is64, wrap_is32, w32_64]
  apply w32_mod
  rw [Nat.xor_mod_two_pow, Nat.xor_mod_two_pow, low32, low32, low32', low32']

theorem not_is (a : Int) (h : -2147483648 ≤ a) (h' : a < 2147483648) : bits .xor .i32 (-1) a = -1 - a := by
  have h2 : bits .xor .i32 (-1) a = IntKind.i32.wrap (((BitVec.ofInt 32 (-1)).toNat ^^^ (BitVec.ofInt 32 a).toNat : Nat) : Int) := rfl
  have h3 : BitVec.ofInt 32 (-1) = BitVec.allOnes 32 := by decide
  rw [h2, ← BitVec.toNat_xor, h3, BitVec.xor_comm, BitVec.xor_allOnes, BitVec.toNat_not, BitVec.toNat_ofInt, IntKind.wrap_i32]
  omega

/-- The lowest five bits of a number are its rest by 32. -/
theorem i64_and31 (n : Int) : bits .and .i64 n 31 = n % 32 := by
  have low : ∀ m : Nat, m &&& 31 = m % 32 := fun m => Nat.and_two_pow_sub_one_eq_mod m 5
  have said : bits .and .i64 n 31 = IntKind.i64.wrap (((BitVec.ofInt 64 n).toNat &&& 31 : Nat) : Int) := rfl
  rw [said, low, BitVec.toNat_ofInt, IntKind.wrap_i64]
  omega
end Go.Proofs.YtedkjanogjglkaaDoor


namespace Go.Proofs.YtedkjanogjglkaaDoor.D
open Go.RowKit
open Go.Proofs.YtedkjanogjglkaaDoor.D.Ref (toF toB toV toL)
open Go.Proofs.YtedkjanogjglkaaDoor.Code (nameOf WFT)

def machRL (fb : Nat) (av : Value) (V : List Int) (st fu : Nat) (E : Int) : List Value := .pointer (some ⟨fb, 0, none⟩) :: (ints V ++ [av, .int .i64 (st : Nat), .int .i64 (fu : Nat), .int .i64 E])

def MachR (w : World) (mb fb : Nat) (av : Value) (V : List Int) (st fu : Nat) (E : Int) : Prop := w.heap[mb]? = some (.cells (machRL fb av V st fu E).toArray 98)

section
variable {w : World} {mb fb : Nat} {av : Value} {V : List Int} {st fu : Nat} {E : Int}

theorem MachR.fn (h : MachR w mb fb av V st fu E) : w.cell? ⟨mb, 0, none⟩ = some (.pointer (some ⟨fb, 0, none⟩)) := blk_cell h 0 _ rfl

theorem MachR.val (h : MachR w mb fb av V st fu E) (x : Nat) (hx : x < V.length) : w.cell? ⟨mb, 1 + x, none⟩ = some (.int .i64 V[x]) := by
  refine blk_cell h (1 + x) _ ?_
  rw [Nat.add_comm 1 x]
  simp [machRL, ints, List.getElem?_append, hx]

theorem MachR.tail (h : MachR w mb fb av V st fu E) (hV : V.length = 60) (k : Nat) (v : Value) (hv : [av, Value.int .i64 (st : Nat), .int .i64 (fu : Nat), .int .i64 E][k]? = some v) : w.cell? ⟨mb, 61 + k, none⟩ = some v := by
  refine blk_cell h (61 + k) _ ?_
  have e : 61 + k = (60 + k) + 1 := by omega
  rw [e]
  simp only [machRL, List.getElem?_toArray, List.getElem?_cons_succ]
  rw [List.getElem?_append_right (by simp [ints, hV]), ints_length, hV, Nat.add_sub_cancel_left]
  exact hv

theorem MachR.args (h : MachR w mb fb av V st fu E) (hV : V.length = 60) : w.cell? ⟨mb, 61, none⟩ = some av := h.tail hV 0 _ rfl
theorem MachR.steps (h : MachR w mb fb av V st fu E) (hV : V.length = 60) : w.cell? ⟨mb, 62, none⟩ = some (.int .i64 (st : Nat)) := h.tail hV 1 _ rfl
theorem MachR.fuel (h : MachR w mb fb av V st fu E) (hV : V.length = 60) : w.cell? ⟨mb, 63, none⟩ = some (.int .i64 (fu : Nat)) := h.tail hV 2 _ rfl
theorem MachR.err (h : MachR w mb fb av V st fu E) (hV : V.length = 60) : w.cell? ⟨mb, 64, none⟩ = some (.int .i64 E) := h.tail hV 3 _ rfl

theorem MachR.setVal (h : MachR w mb fb av V st fu E) (x : Nat) (hx : x < V.length) (n : Int) : MachR (w.setCell ⟨mb, 1 + x, none⟩ (.int .i64 n)) mb fb av (V.set x n) st fu E := by
  have := set_block (o := 1 + x) (v := .int .i64 n) h
  unfold MachR
  rw [this, Nat.add_comm 1 x]
  simp [machRL, ints, hx, List.map_set]

theorem MachR.setTail (h : MachR w mb fb av V st fu E) (hV : V.length = 60) (k : Nat) (v : Value) : (w.setCell ⟨mb, 61 + k, none⟩ v).heap[mb]? = some (.cells (Value.pointer (some ⟨fb, 0, none⟩) :: (ints V ++ [av, Value.int .i64 (st : Nat), .int .i64 (fu : Nat), .int .i64 E].set k v)).toArray 98) := by
  have := set_block (o := 61 + k) (v := v) h
  rw [this]
  have e : 61 + k = (60 + k) + 1 := by omega
  rw [e]
  simp only [machRL, List.setIfInBounds_toArray, List.set_cons_succ]
  rw [List.set_append_right _ _ (by simp [ints, hV]), ints_length, hV, Nat.add_sub_cancel_left]

theorem MachR.setSteps (h : MachR w mb fb av V st fu E) (hV : V.length = 60) (st' : Nat) : MachR (w.setCell ⟨mb, 62, none⟩ (.int .i64 (st' : Nat))) mb fb av V st' fu E := h.setTail hV 1 _
theorem MachR.setErr (h : MachR w mb fb av V st fu E) (hV : V.length = 60) (E' : Int) : MachR (w.setCell ⟨mb, 64, none⟩ (.int .i64 E')) mb fb av V st fu E' := h.setTail hV 3 _
end

theorem step_any (mb fb : Nat) (av : Value) (V : List Int) (st fu : Nat) (E : Int) (w : World) (hm : MachR w mb fb av V st fu E) (hV : V.length = 60) (hf : fu ≤ 100000) :
    Calls Tryd.prog 56 #[.pointer (some ⟨mb, 0, none⟩)] w fun e w' =>
      w.grownBy w' (some mb) ∧ ((st < fu ∧ e = .returned (.bool true) ∧ MachR w' mb fb av V (st + 1) fu E) ∨ (fu ≤ st ∧ e = .returned (.bool false) ∧ MachR w' mb fb av V st fu 5)) := by
  have c1 := hm.steps hV
  have c2 := hm.fuel hV
  have c3 := hm.err hV
  have z1 := blk_froz hm 62
  have z3 := blk_froz hm 64
  by_cases h : st < fu
  · have h' : ¬ (fu : Int) ≤ (st : Int) := by omega
    go_enter Tryd.func56, Tryd.ntmps56
    go_wp2_with fail
    go_quiet (fail)
    go_wp2
    go_ret
    have e1 : (st : Int) + 1 = ((st + 1 : Nat) : Int) := by omega
    rw [e1]
    exact ⟨grown_trans (grownN (grown_refl w _) _) (grown_set _ _ _ _), Or.inl ⟨h, rfl, MachR.setSteps (w := w.drewN _) hm hV (st + 1)⟩⟩
  · have h' : (fu : Int) ≤ (st : Int) := by omega
    go_enter Tryd.func56, Tryd.ntmps56
    go_wp2_with fail
    go_quiet (fail)
    go_wp2
    go_ret
    exact ⟨grown_trans (grownN (grown_refl w _) _) (grown_set _ _ _ _), Or.inr ⟨by omega, rfl, MachR.setErr (w := w.drewN _) hm hV 5⟩⟩

/-- Numbers that lie one behind the other, wherever. -/
def IntsAt (w : World) (p : Option Addr) (l : List Int) : Prop := ∀ i (h : i < l.length), ∃ g o, p = some ⟨g, o, none⟩ ∧ g < w.heap.size ∧ w.cell? ⟨g, o + i, none⟩ = some (.int .i64 l[i])

theorem IntsAt.below {w w' : World} {p : Option Addr} {l : List Int} (h : IntsAt w p l) (hb : Below w.heap.size w w') : IntsAt w' p l := fun i hi => by
  obtain ⟨g, o, h1, h2, h3⟩ := h i hi
  exact ⟨g, o, h1, Nat.lt_of_lt_of_le h2 hb.size, bcell' hb g _ h2 _ h3⟩

/-- What the two reckon is the same. -/
theorem reckon_same (k : Nat) (hk : k < 11) (a b : Int) (ha : -2147483648 ≤ a ∧ a < 2147483648) :
    (¬ (k = 3 ∧ b = 0) → Code.reckon k a b = some (Ref.reckon (nameOf k) a b)) ∧ (k = 3 ∧ b = 0 → Code.reckon k a b = none) := by
  match k, hk with
  | 0, _ => exact ⟨fun _ => rfl, fun h => absurd h.1 (by decide)⟩
  | 1, _ => exact ⟨fun _ => rfl, fun h => absurd h.1 (by decide)⟩
  | 2, _ => exact ⟨fun _ => rfl, fun h => absurd h.1 (by decide)⟩
  | 3, _ =>
    refine ⟨fun h => ?_, fun h => ?_⟩
    · have hb0 : ¬ b = 0 := fun e => h ⟨rfl, e⟩
      show (if b = 0 then none else some (wrap32 (a.tdiv b))) = _
      rw [if_neg hb0]; rfl
    · show (if b = 0 then none else some (wrap32 (a.tdiv b))) = _
      rw [if_pos h.2]
  | 4, _ => exact ⟨fun _ => congrArg some (w32_and a b).symm, fun h => absurd h.1 (by decide)⟩
  | 5, _ => exact ⟨fun _ => congrArg some (w32_or a b).symm, fun h => absurd h.1 (by decide)⟩
  | 6, _ => exact ⟨fun _ => congrArg some (w32_xor a b).symm, fun h => absurd h.1 (by decide)⟩
  | 7, _ => exact ⟨fun _ => rfl, fun h => absurd h.1 (by decide)⟩
  | 8, _ =>
    refine ⟨fun _ => ?_, fun h => absurd h.1 (by decide)⟩
    have := shr_in32 a (b % 32).toNat ha
    exact congrArg some (w32_in _ this.1 this.2).symm
  | 9, _ => exact ⟨fun _ => rfl, fun h => absurd h.1 (by decide)⟩
  | 10, _ => exact ⟨fun _ => rfl, fun h => absurd h.1 (by decide)⟩

theorem reckon_one (k : Nat) (hk : k < 13) (hk' : 11 ≤ k) (a b : Int) (ha : -2147483648 ≤ a ∧ a < 2147483648) : Code.reckon k a b = some (Ref.reckon (nameOf k) a 0) := by
  match k, hk, hk' with
  | 11, _, _ => rfl
  | 12, _, _ =>
    show some (bits .xor .i32 (-1) a) = some (wrap32 (-1 - a))
    rw [not_is a ha.1 ha.2, w32_in _ (by omega) (by omega)]

theorem name_op (k : Nat) (hk : k < 13) : nameOf k ∈ Go.Proofs.YtedkjanogjglkaaDoor.Ref.twos ++ Go.Proofs.YtedkjanogjglkaaDoor.Ref.ones := by
  match k, hk with
  | 0, _ | 1, _ | 2, _ | 3, _ | 4, _ | 5, _ | 6, _ | 7, _ | 8, _ | 9, _ | 10, _ | 11, _ | 12, _ => decide

/-- What a value that is no phi comes to. -/
def Made1 (args V : List Int) (st fu : Nat) (v : Code.Val) (V' : List Int) (st' : Nat) (E : Int) : Prop :=
  (fu ≤ st ∧ V' = V ∧ st' = st ∧ E = 5) ∨ (st < fu ∧ st' = st + 1 ∧ ((∃ n, Code.comes args [] V 0 v.thing = some n ∧ -2147483648 ≤ n ∧ n < 2147483648 ∧ V' = V.set v.num n ∧ E = 0) ∨ (Code.comes args [] V 0 v.thing = none ∧ V' = V ∧ E = 4)))

set_option maxHeartbeats 4000000 in
theorem make1_fuel (mb fb : Nat) (av : Value) (V : List Int) (st fu : Nat) (x : Ref.RVal) (pa : Option Addr) (ca : Nat) (w : World) (hm : MachR w mb fb av V st fu 0) (hV : V.length = 60) (hf : fu ≤ 100000) (hst : fu ≤ st) :
    Calls Tryd.prog 57 #[.pointer (some ⟨mb, 0, none⟩), .agg #[.int .i64 x.V, .string (bs x.Op), .int .i64 x.N, .slice pa x.Args.length ca]] w fun e w' => e = .returned (.tuple #[]) ∧ w.grownBy w' (some mb) ∧ MachR w' mb fb av V st fu 5 := by
  go_enter Tryd.func57, Tryd.ntmps57
  go_wp2_with fail
  generalize hw0 : w.alloc _ = w0
  have hm0 : MachR w0 mb fb av V st fu 0 := by rw [← hw0]; exact stay_alloc hm
  have hg0 : w.grownBy w0 (some mb) := by rw [← hw0]; exact grown_alloc _ _ _
  clear hw0
  refine (step_any mb fb av V st fu 0 w0 hm0 hV hf).mono ?_
  rintro e w1 ⟨hg1, ⟨h, _⟩ | ⟨_, rfl, hm1⟩⟩
  case inl => omega
  go_wp2
  refine bodyPost_ret (results_none rfl _ _ _) rfl ?_
  exact ⟨rfl, grown_trans hg0 hg1, hm1⟩

set_option maxHeartbeats 4000000 in
theorem make1_const (mb fb : Nat) (av : Value) (V : List Int) (st fu : Nat) (num : Nat) (c : Int) (pa : Option Addr) (ca : Nat) (w : World) (hm : MachR w mb fb av V st fu 0) (hV : V.length = 60) (hf : fu ≤ 100000) (hst : st < fu) (hn : num < 60) :
    Calls Tryd.prog 57 #[.pointer (some ⟨mb, 0, none⟩), .agg #[.int .i64 (num : Nat), .string (bs Go.Proofs.YtedkjanogjglkaaDoor.Ref.sConst), .int .i64 c, .slice pa 0 ca]] w fun e w' => e = .returned (.tuple #[]) ∧ w.grownBy w' (some mb) ∧ MachR w' mb fb av (V.set num c) (st + 1) fu 0 := by
  have hq : ((bs Go.Proofs.YtedkjanogjglkaaDoor.Ref.sConst).toList == [99, 111, 110, 115, 116]) = true := toList_yes (by rw [bl_bs]; rfl)
  generalize bs Go.Proofs.YtedkjanogjglkaaDoor.Ref.sConst = op at *
  go_enter Tryd.func57, Tryd.ntmps57
  go_wp2_with fail
  generalize hw0 : w.alloc _ = w0
  have hm0 : MachR w0 mb fb av V st fu 0 := by rw [← hw0]; exact stay_alloc hm
  have hg0 : w.grownBy w0 (some mb) := by rw [← hw0]; exact grown_alloc _ _ _
  have hx0 : w0.heap[w.heap.size]? = some (.cells #[.int .i64 (num : Nat), .string op, .int .i64 c, .slice pa 0 ca] 58) := by rw [← hw0]; exact heap_alloc_new w _
  have hne : w.heap.size ≠ mb := by have := lt_of_block hm; omega
  clear hw0
  refine (step_any mb fb av V st fu 0 w0 hm0 hV hf).mono ?_
  rintro e w1 ⟨hg1, ⟨_, rfl, hm1⟩ | ⟨h, _⟩⟩
  case inr => omega
  have hx1 := kept_block hx0 hg1 hne
  generalize hxb : w.heap.size = xb at *
  have c1 := blk_cell hx1 1 _ rfl
  have hn' : (num : Int) < 60 := by omega
  go_wp2_with fail
  clear c1
  refine wp_region_held_drew (S := fun w' => w'.heap[xb]? = some (.cells #[.int .i64 (num : Nat), .string op, .int .i64 c, .slice pa 0 ca] 58)) (by kernel_rfl) hx1 (fun hHeld => ?_)
  have hmd : MachR w1.drew mb fb av V (st + 1) fu 0 := hm1
  have hgd : w.grownBy w1.drew (some mb) := grown_trans hg0 (grown_drew hg1)
  generalize w1.drew = wd at hmd hgd hHeld ⊢
  have c3 := hmd.val num (by omega)
  have z3 := blk_froz hmd (1 + num)
  refine wpAnyH_take (i := 0) (v := .pointer (some ⟨mb, 0, none⟩)) rfl (by kernel_rfl) (by kernel_rfl) (by kernel_rfl) (fun _ _ _ h => h) (Or.inl ⟨by rfl, fun w' h => by  go_simp⟩) hHeld ?_
  try simp only [Act.put, List.getElem_toArray, List.getElem_cons_zero, List.setIfInBounds_toArray, List.set_cons_zero, List.set_cons_succ]
  refine wpAnyH_take (i := 1) (v := .pointer (some ⟨xb, 0, none⟩)) rfl (by kernel_rfl) (by kernel_rfl) (by kernel_rfl) (fun _ _ _ h => h) (Or.inl ⟨by rfl, fun w' h => by  go_simp⟩) hHeld ?_
  try simp only [Act.put, List.getElem_toArray, List.getElem_cons_zero, List.getElem_cons_succ, List.setIfInBounds_toArray, List.set_cons_zero, List.set_cons_succ]
  refine wpAnyH_take (i := 2) (v := .int .i64 (num : Nat)) rfl (by kernel_rfl) (by kernel_rfl) (by kernel_rfl) (fun _ _ _ h => h) (Or.inl ⟨by rfl, fun w' h => by have r0 := blk_cell h 0 _ rfl; go_simp⟩) hHeld ?_
  try simp only [Act.put, List.getElem_toArray, List.getElem_cons_zero, List.getElem_cons_succ, List.setIfInBounds_toArray, List.set_cons_zero, List.set_cons_succ]
  refine wpAnyH_take (i := 3) (v := .pointer (some ⟨xb, 2, none⟩)) rfl (by kernel_rfl) (by kernel_rfl) (by kernel_rfl) (fun _ _ _ h => h) (Or.inl ⟨by rfl, fun w' h => by  go_simp⟩) hHeld ?_
  try simp only [Act.put, List.getElem_toArray, List.getElem_cons_zero, List.getElem_cons_succ, List.setIfInBounds_toArray, List.set_cons_zero, List.set_cons_succ]
  refine wpAnyH_take (i := 4) (v := .int .i64 c) rfl (by kernel_rfl) (by kernel_rfl) (by kernel_rfl) (fun _ _ _ h => h) (Or.inl ⟨by rfl, fun w' h => by have r2 := blk_cell h 2 _ rfl; go_simp⟩) hHeld ?_
  try simp only [Act.put, List.getElem_toArray, List.getElem_cons_zero, List.getElem_cons_succ, List.setIfInBounds_toArray, List.set_cons_zero, List.set_cons_succ]
  refine wpAnyH_take (i := 5) (v := .pointer (some ⟨mb, 0, none⟩)) rfl (by kernel_rfl) (by kernel_rfl) (by kernel_rfl) (fun _ _ _ h => h) (Or.inl ⟨by rfl, fun w' h => by  go_simp⟩) hHeld ?_
  try simp only [Act.put, List.getElem_toArray, List.getElem_cons_zero, List.getElem_cons_succ, List.setIfInBounds_toArray, List.set_cons_zero, List.set_cons_succ]
  refine wpAnyH_take (i := 6) (v := .pointer (some ⟨mb, 1, none⟩)) rfl (by kernel_rfl) (by kernel_rfl) (by kernel_rfl) (fun _ _ _ h => h) (Or.inl ⟨by rfl, fun w' h => by  go_simp⟩) hHeld ?_
  try simp only [Act.put, List.getElem_toArray, List.getElem_cons_zero, List.getElem_cons_succ, List.setIfInBounds_toArray, List.set_cons_zero, List.set_cons_succ]
  refine wpAnyH_take (i := 7) (v := .pointer (some ⟨mb, 1 + num, none⟩)) rfl (by kernel_rfl) (by kernel_rfl) (by kernel_rfl) (fun _ _ _ h => h) (Or.inl ⟨by rfl, fun w' h => by  go_simp⟩) hHeld ?_
  try simp only [Act.put, List.getElem_toArray, List.getElem_cons_zero, List.getElem_cons_succ, List.setIfInBounds_toArray, List.set_cons_zero, List.set_cons_succ]
  have hH2 := hHeld
  refine wpAnyH_ready (rs := [8]) (by kernel_rfl) (by simp) ?_
  refine AllReadyH.cons rfl (fun K hK => ?_) AllReadyH.nil
  rw [if_pos (by rfl)]
  go_wp2_with fail
  refine hK.out _ _ (stay_set hH2 hne) (fun hHeld => ?_)
  clear hK K
  try simp only [Act.put, List.getElem_toArray, List.getElem_cons_zero, List.getElem_cons_succ, List.setIfInBounds_toArray, List.set_cons_zero, List.set_cons_succ]
  refine wpAnyH_done (by kernel_rfl) ?_ _
  go_wp2
  refine bodyPost_ret (results_none rfl _ _ _) rfl ?_
  exact ⟨rfl, grown_trans hgd (grown_set _ _ _ _), hmd.setVal num (by omega) c⟩

set_option maxHeartbeats 4000000 in
theorem make1_arg (mb fb : Nat) (args : List Int) (pr : Option Addr) (cr : Nat) (V : List Int) (st fu : Nat) (num : Nat) (n : Nat) (pa : Option Addr) (ca : Nat) (w : World) (hm : MachR w mb fb (.slice pr args.length cr) V st fu 0) (hV : V.length = 60) (hf : fu ≤ 100000) (hst : st < fu) (hn : num < 60) (hna : n < args.length)
    (har : ∀ w', w.grownBy w' (some mb) → IntsAt w' pr args) :
    Calls Tryd.prog 57 #[.pointer (some ⟨mb, 0, none⟩), .agg #[.int .i64 (num : Nat), .string (bs Go.Proofs.YtedkjanogjglkaaDoor.Ref.sArg), .int .i64 (n : Nat), .slice pa 0 ca]] w fun e w' => e = .returned (.tuple #[]) ∧ w.grownBy w' (some mb) ∧ MachR w' mb fb (.slice pr args.length cr) (V.set num args[n]) (st + 1) fu 0 := by
  have hq0 : ((bs Go.Proofs.YtedkjanogjglkaaDoor.Ref.sArg).toList == [99, 111, 110, 115, 116]) = false := toList_no (by rw [bl_bs]; decide)
  have hq : ((bs Go.Proofs.YtedkjanogjglkaaDoor.Ref.sArg).toList == [97, 114, 103]) = true := toList_yes (by rw [bl_bs]; rfl)
  generalize bs Go.Proofs.YtedkjanogjglkaaDoor.Ref.sArg = op at *
  have HAR := hide har
  clear har
  go_enter Tryd.func57, Tryd.ntmps57
  go_wp2_with fail
  generalize hw0 : w.alloc _ = w0
  have hm0 : MachR w0 mb fb (.slice pr args.length cr) V st fu 0 := by rw [← hw0]; exact stay_alloc hm
  have hg0 : w.grownBy w0 (some mb) := by rw [← hw0]; exact grown_alloc _ _ _
  have hx0 : w0.heap[w.heap.size]? = some (.cells #[.int .i64 (num : Nat), .string op, .int .i64 (n : Nat), .slice pa 0 ca] 58) := by rw [← hw0]; exact heap_alloc_new w _
  have hne : w.heap.size ≠ mb := by have := lt_of_block hm; omega
  clear hw0
  refine (step_any mb fb _ V st fu 0 w0 hm0 hV hf).mono ?_
  rintro e w1 ⟨hg1, ⟨_, rfl, hm1⟩ | ⟨h, _⟩⟩
  case inr => omega
  have hx1 := kept_block hx0 hg1 hne
  generalize hxb : w.heap.size = xb at *
  have c1 := blk_cell hx1 1 _ rfl
  have hn' : (num : Int) < 60 := by omega
  have hna' : (n : Int) < (args.length : Int) := by omega
  obtain ⟨gr, o, rfl, _, _⟩ := HAR.out _ (grown_trans hg0 hg1) n hna
  go_wp2_with fail
  clear c1
  have hS0 : w1.drew.heap[xb]? = some (.cells #[.int .i64 (num : Nat), .string op, .int .i64 (n : Nat), .slice pa 0 ca] 58) ∧ w1.drew.cell? ⟨mb, 61, none⟩ = some (.slice (some ⟨gr, o, none⟩) args.length cr) ∧ w.grownBy w1.drew (some mb) := ⟨hx1, hm1.args hV, grown_trans hg0 (grown_drew hg1)⟩
  refine wp_region_held_drew (S := fun w' => w'.heap[xb]? = some (.cells #[.int .i64 (num : Nat), .string op, .int .i64 (n : Nat), .slice pa 0 ca] 58) ∧ w'.cell? ⟨mb, 61, none⟩ = some (.slice (some ⟨gr, o, none⟩) args.length cr) ∧ w.grownBy w' (some mb)) (by kernel_rfl) hS0 (fun hHeld => ?_)
  have hmd : MachR w1.drew mb fb (.slice (some ⟨gr, o, none⟩) args.length cr) V (st + 1) fu 0 := hm1
  generalize w1.drew = wd at hmd hHeld ⊢
  have c3 := hmd.val num (by omega)
  have z3 := blk_froz hmd (1 + num)
  have hld : ∀ w', w.grownBy w' (some mb) → w'.cell? ⟨gr, o + n, none⟩ = some (.int .i64 args[n]) := fun w' hg => by
    obtain ⟨g', o', e, _, h⟩ := HAR.out w' hg n hna
    simp only [Option.some.injEq, Addr.mk.injEq] at e
    obtain ⟨rfl, rfl, _⟩ := e
    exact h
  refine wpAnyH_take (i := 0) (v := .pointer (some ⟨mb, 0, none⟩)) rfl (by kernel_rfl) (by kernel_rfl) (by kernel_rfl) (fun _ _ _ h => h) (Or.inl ⟨by rfl, fun w' h => by  go_simp⟩) hHeld ?_
  try simp only [Act.put, List.getElem_toArray, List.getElem_cons_zero, List.setIfInBounds_toArray, List.set_cons_zero, List.set_cons_succ]
  refine wpAnyH_take (i := 1) (v := .pointer (some ⟨xb, 0, none⟩)) rfl (by kernel_rfl) (by kernel_rfl) (by kernel_rfl) (fun _ _ _ h => h) (Or.inl ⟨by rfl, fun w' h => by  go_simp⟩) hHeld ?_
  try simp only [Act.put, List.getElem_toArray, List.getElem_cons_zero, List.getElem_cons_succ, List.setIfInBounds_toArray, List.set_cons_zero, List.set_cons_succ]
  refine wpAnyH_take (i := 2) (v := .int .i64 (num : Nat)) rfl (by kernel_rfl) (by kernel_rfl) (by kernel_rfl) (fun _ _ _ h => h) (Or.inl ⟨by rfl, fun w' h => by have r0 := blk_cell h.1 0 _ rfl; go_simp⟩) hHeld ?_
  try simp only [Act.put, List.getElem_toArray, List.getElem_cons_zero, List.getElem_cons_succ, List.setIfInBounds_toArray, List.set_cons_zero, List.set_cons_succ]
  refine wpAnyH_take (i := 3) (v := .pointer (some ⟨mb, 0, none⟩)) rfl (by kernel_rfl) (by kernel_rfl) (by kernel_rfl) (fun _ _ _ h => h) (Or.inl ⟨by rfl, fun w' h => by  go_simp⟩) hHeld ?_
  try simp only [Act.put, List.getElem_toArray, List.getElem_cons_zero, List.getElem_cons_succ, List.setIfInBounds_toArray, List.set_cons_zero, List.set_cons_succ]
  refine wpAnyH_take (i := 4) (v := .pointer (some ⟨mb, 0, none⟩)) rfl (by kernel_rfl) (by kernel_rfl) (by kernel_rfl) (fun _ _ _ h => h) (Or.inl ⟨by rfl, fun w' h => by  go_simp⟩) hHeld ?_
  try simp only [Act.put, List.getElem_toArray, List.getElem_cons_zero, List.getElem_cons_succ, List.setIfInBounds_toArray, List.set_cons_zero, List.set_cons_succ]
  refine wpAnyH_take (i := 5) (v := .pointer (some ⟨mb, 61, none⟩)) rfl (by kernel_rfl) (by kernel_rfl) (by kernel_rfl) (fun _ _ _ h => h) (Or.inl ⟨by rfl, fun w' h => by  go_simp⟩) hHeld ?_
  try simp only [Act.put, List.getElem_toArray, List.getElem_cons_zero, List.getElem_cons_succ, List.setIfInBounds_toArray, List.set_cons_zero, List.set_cons_succ]
  refine wpAnyH_take (i := 6) (v := .slice (some ⟨gr, o, none⟩) args.length cr) rfl (by kernel_rfl) (by kernel_rfl) (by kernel_rfl) (fun _ _ _ h => h) (Or.inl ⟨by rfl, fun w' h => by have r1 := h.2.1; go_simp⟩) hHeld ?_
  try simp only [Act.put, List.getElem_toArray, List.getElem_cons_zero, List.getElem_cons_succ, List.setIfInBounds_toArray, List.set_cons_zero, List.set_cons_succ]
  refine wpAnyH_take (i := 7) (v := .pointer (some ⟨xb, 2, none⟩)) rfl (by kernel_rfl) (by kernel_rfl) (by kernel_rfl) (fun _ _ _ h => h) (Or.inl ⟨by rfl, fun w' h => by  go_simp⟩) hHeld ?_
  try simp only [Act.put, List.getElem_toArray, List.getElem_cons_zero, List.getElem_cons_succ, List.setIfInBounds_toArray, List.set_cons_zero, List.set_cons_succ]
  refine wpAnyH_take (i := 8) (v := .int .i64 (n : Nat)) rfl (by kernel_rfl) (by kernel_rfl) (by kernel_rfl) (fun _ _ _ h => h) (Or.inl ⟨by rfl, fun w' h => by have r2 := blk_cell h.1 2 _ rfl; go_simp⟩) hHeld ?_
  try simp only [Act.put, List.getElem_toArray, List.getElem_cons_zero, List.getElem_cons_succ, List.setIfInBounds_toArray, List.set_cons_zero, List.set_cons_succ]
  refine wpAnyH_take (i := 9) (v := .pointer (some ⟨gr, o + n, none⟩)) rfl (by kernel_rfl) (by kernel_rfl) (by kernel_rfl) (fun _ _ _ h => h) (Or.inl ⟨by rfl, fun w' h => by  go_simp⟩) hHeld ?_
  try simp only [Act.put, List.getElem_toArray, List.getElem_cons_zero, List.getElem_cons_succ, List.setIfInBounds_toArray, List.set_cons_zero, List.set_cons_succ]
  refine wpAnyH_take (i := 10) (v := .int .i64 args[n]) rfl (by kernel_rfl) (by kernel_rfl) (by kernel_rfl) (fun _ _ _ h => h) (Or.inl ⟨by rfl, fun w' h => by have r3 := hld w' h.2.2; go_simp⟩) hHeld ?_
  try simp only [Act.put, List.getElem_toArray, List.getElem_cons_zero, List.getElem_cons_succ, List.setIfInBounds_toArray, List.set_cons_zero, List.set_cons_succ]
  refine wpAnyH_take (i := 11) (v := .pointer (some ⟨mb, 0, none⟩)) rfl (by kernel_rfl) (by kernel_rfl) (by kernel_rfl) (fun _ _ _ h => h) (Or.inl ⟨by rfl, fun w' h => by  go_simp⟩) hHeld ?_
  try simp only [Act.put, List.getElem_toArray, List.getElem_cons_zero, List.getElem_cons_succ, List.setIfInBounds_toArray, List.set_cons_zero, List.set_cons_succ]
  refine wpAnyH_take (i := 12) (v := .pointer (some ⟨mb, 1, none⟩)) rfl (by kernel_rfl) (by kernel_rfl) (by kernel_rfl) (fun _ _ _ h => h) (Or.inl ⟨by rfl, fun w' h => by  go_simp⟩) hHeld ?_
  try simp only [Act.put, List.getElem_toArray, List.getElem_cons_zero, List.getElem_cons_succ, List.setIfInBounds_toArray, List.set_cons_zero, List.set_cons_succ]
  refine wpAnyH_take (i := 13) (v := .pointer (some ⟨mb, 1 + num, none⟩)) rfl (by kernel_rfl) (by kernel_rfl) (by kernel_rfl) (fun _ _ _ h => h) (Or.inl ⟨by rfl, fun w' h => by  go_simp⟩) hHeld ?_
  try simp only [Act.put, List.getElem_toArray, List.getElem_cons_zero, List.getElem_cons_succ, List.setIfInBounds_toArray, List.set_cons_zero, List.set_cons_succ]
  have hH2 := hHeld
  have hset := hmd.setVal num (by omega) args[n]
  refine wpAnyH_ready (rs := [14]) (by kernel_rfl) (by simp) ?_
  refine AllReadyH.cons rfl (fun K hK => ?_) AllReadyH.nil
  rw [if_pos (by rfl)]
  go_wp2_with fail
  refine hK.out _ _ ⟨stay_set hH2.1 hne, hset.args (by simp [hV]), grown_trans hH2.2.2 (grown_set _ _ _ _)⟩ (fun hHeld => ?_)
  clear hK K
  try simp only [Act.put, List.getElem_toArray, List.getElem_cons_zero, List.getElem_cons_succ, List.setIfInBounds_toArray, List.set_cons_zero, List.set_cons_succ]
  refine wpAnyH_done (by kernel_rfl) ?_ _
  go_wp2
  refine bodyPost_ret (results_none rfl _ _ _) rfl ?_
  exact ⟨rfl, grown_trans hH2.2.2 (grown_set _ _ _ _), hset⟩
end Go.Proofs.YtedkjanogjglkaaDoor.D


namespace Go.Proofs.YtedkjanogjglkaaDoor.D
open Go.RowKit
open Go.Proofs.YtedkjanogjglkaaDoor.D.Ref (toF toB toV toL)
open Go.Proofs.YtedkjanogjglkaaDoor.Code (nameOf WFT)

theorem arity_two (k : Nat) (hk : k < 11) : Code.opOf k = 2 := by
  match k, hk with
  | 0, _ | 1, _ | 2, _ | 3, _ | 4, _ | 5, _ | 6, _ | 7, _ | 8, _ | 9, _ | 10, _ => rfl
theorem arity_one (k : Nat) (hk : k < 13) (hk' : 11 ≤ k) : Code.opOf k = 1 := by
  match k, hk, hk' with
  | 11, _, _ | 12, _, _ => rfl

def casts (of : List Nat) : List Int := of.map fun (x : Nat) => (x : Int)

theorem div_is (k : Nat) (hk : k < 13) : ((bs (nameOf k)).toList == [100, 105, 118]) = decide (k = 3) := by
  have key : nameOf k = [100, 105, 118] ↔ k = 3 := by
    match k, hk with
    | 0, _ | 1, _ | 2, _ | 3, _ | 4, _ | 5, _ | 6, _ | 7, _ | 8, _ | 9, _ | 10, _ | 11, _ | 12, _ => decide
  by_cases h : k = 3
  · rw [toList_yes (by rw [bl_bs]; exact key.2 h), decide_eq_true h]
  · rw [toList_no (by rw [bl_bs]; exact fun e => h (key.1 e)), decide_eq_false h]

set_option maxRecDepth 100000 in
set_option maxHeartbeats 8000000 in
theorem make1_one (mb fb : Nat) (av : Value) (V : List Int) (st fu : Nat) (num k x0 : Nat) (pa : Option Addr) (ca : Nat) (w : World) (hm : MachR w mb fb av V st fu 0) (hV : V.length = 60) (h32 : In32 V) (hf : fu ≤ 100000) (hst : st < fu) (hn : num < 60) (hk : k < 13) (hk' : 11 ≤ k) (hx : x0 < 60)
    (har : ∀ w', w.grownBy w' (some mb) → IntsAt w' pa [(x0 : Int)]) :
    Calls Tryd.prog 57 #[.pointer (some ⟨mb, 0, none⟩), .agg #[.int .i64 (num : Nat), .string (bs (nameOf k)), .int .i64 0, .slice pa 1 ca]] w fun e w' => e = .returned (.tuple #[]) ∧ w.grownBy w' (some mb) ∧ MachR w' mb fb av (V.set num (Ref.reckon (nameOf k) (V.getD x0 0) 0)) (st + 1) fu 0 := by
  obtain ⟨_, _, n1, n2, _⟩ := Ref.arity_name k hk
  have hq0 : ((bs (nameOf k)).toList == [99, 111, 110, 115, 116]) = false := toList_no (by rw [bl_bs]; exact n1)
  have hq1 : ((bs (nameOf k)).toList == [97, 114, 103]) = false := toList_no (by rw [bl_bs]; exact n2)
  have hq2 : ((bs (nameOf k)).toList == [100, 105, 118]) = false := by rw [div_is k hk]; exact decide_eq_false (by omega)
  have hva := h32.getD x0
  have HR := hide fun w' => reckon_any (nameOf k) (name_op k hk) (V.getD x0 0) 0 w' hva.1 hva.2 (by decide) (by decide) (fun e => by
    have := div_is k hk
    rw [toList_yes (by rw [bl_bs]; exact e)] at this
    have := of_decide_eq_true this.symm
    omega)
  have hgx : V.getD x0 0 = V[x0]'(by omega) := by rw [List.getD_eq_getElem?_getD, List.getElem?_eq_getElem (by omega)]; rfl
  generalize Ref.reckon (nameOf k) (V.getD x0 0) 0 = rr at *
  generalize bs (nameOf k) = op at *
  have HAR := hide har
  clear har n1 n2
  go_enter Tryd.func57, Tryd.ntmps57
  go_wp2_with fail
  generalize hw0 : w.alloc _ = w0
  have hm0 : MachR w0 mb fb av V st fu 0 := by rw [← hw0]; exact stay_alloc hm
  have hg0 : w.grownBy w0 (some mb) := by rw [← hw0]; exact grown_alloc _ _ _
  have hx0 : w0.heap[w.heap.size]? = some (.cells #[.int .i64 (num : Nat), .string op, .int .i64 0, .slice pa 1 ca] 58) := by rw [← hw0]; exact heap_alloc_new w _
  have hne : w.heap.size ≠ mb := by have := lt_of_block hm; omega
  clear hw0
  refine (step_any mb fb _ V st fu 0 w0 hm0 hV hf).mono ?_
  rintro e w1 ⟨hg1, ⟨_, rfl, hm1⟩ | ⟨h, _⟩⟩
  case inr => omega
  have hx1 := kept_block hx0 hg1 hne
  have hgw1 := grown_trans hg0 hg1
  generalize hxb : w.heap.size = xb at *
  have c1 := blk_cell hx1 1 _ rfl
  have c3 := blk_cell hx1 3 _ rfl
  have cv := hm1.val x0 (by omega)
  rw [← hgx] at cv
  clear hgx hva
  generalize V.getD x0 0 = a at *
  have hn' : (num : Int) < 60 := by omega
  have hx' : (x0 : Int) < 60 := by omega
  obtain ⟨gr, o, rfl, hgl, ca0⟩ := HAR.out _ hgw1 0 (by simp)
  simp only [List.getElem_cons_zero, Nat.add_zero] at ca0
  go_wp2_with fail
  go_quiet (fail)
  generalize hwd : World.drewN _ _ = wd
  have hmd : MachR wd mb fb av V (st + 1) fu 0 := by rw [← hwd]; exact hm1
  have hxd : wd.heap[xb]? = some (.cells #[.int .i64 (num : Nat), .string op, .int .i64 0, .slice (some ⟨gr, o, none⟩) 1 ca] 58) := by rw [← hwd]; exact hx1
  have hgd : w.grownBy wd (some mb) := by rw [← hwd]; exact grownN hgw1 _
  clear hwd c1 c3 cv ca0
  have d1 := blk_cell hxd 1 _ rfl
  have d3 := blk_cell hxd 3 _ rfl
  go_wp2_with fail
  clear d1 d3
  refine wp_region_held_drew (S := fun w' => w'.heap[xb]? = some (.cells #[.int .i64 (num : Nat), .string op, .int .i64 0, .slice (some ⟨gr, o, none⟩) 1 ca] 58)) (by kernel_rfl) hxd (fun hHeld => ?_)
  have hmd2 : MachR wd.drew mb fb av V (st + 1) fu 0 := hmd
  have hgd2 : w.grownBy wd.drew (some mb) := grown_drew hgd
  generalize wd.drew = we at hmd2 hgd2 hHeld ⊢
  have q3 := hmd2.val num (by omega)
  have z3 := blk_froz hmd2 (1 + num)
  refine wpAnyH_take (i := 0) (v := .pointer (some ⟨mb, 0, none⟩)) rfl (by kernel_rfl) (by kernel_rfl) (by kernel_rfl) (fun _ _ _ h => h) (Or.inl ⟨by rfl, fun w' h => by  go_simp⟩) hHeld ?_
  try simp only [Act.put, List.getElem_toArray, List.getElem_cons_zero, List.setIfInBounds_toArray, List.set_cons_zero, List.set_cons_succ]
  refine wpAnyH_take (i := 1) (v := .pointer (some ⟨xb, 0, none⟩)) rfl (by kernel_rfl) (by kernel_rfl) (by kernel_rfl) (fun _ _ _ h => h) (Or.inl ⟨by rfl, fun w' h => by  go_simp⟩) hHeld ?_
  try simp only [Act.put, List.getElem_toArray, List.getElem_cons_zero, List.getElem_cons_succ, List.setIfInBounds_toArray, List.set_cons_zero, List.set_cons_succ]
  refine wpAnyH_take (i := 2) (v := .int .i64 (num : Nat)) rfl (by kernel_rfl) (by kernel_rfl) (by kernel_rfl) (fun _ _ _ h => h) (Or.inl ⟨by rfl, fun w' h => by have r0 := blk_cell h 0 _ rfl; go_simp⟩) hHeld ?_
  try simp only [Act.put, List.getElem_toArray, List.getElem_cons_zero, List.getElem_cons_succ, List.setIfInBounds_toArray, List.set_cons_zero, List.set_cons_succ]
  refine wpAnyH_take (i := 3) (v := .pointer (some ⟨xb, 1, none⟩)) rfl (by kernel_rfl) (by kernel_rfl) (by kernel_rfl) (fun _ _ _ h => h) (Or.inl ⟨by rfl, fun w' h => by  go_simp⟩) hHeld ?_
  try simp only [Act.put, List.getElem_toArray, List.getElem_cons_zero, List.getElem_cons_succ, List.setIfInBounds_toArray, List.set_cons_zero, List.set_cons_succ]
  refine wpAnyH_take (i := 4) (v := .string op) rfl (by kernel_rfl) (by kernel_rfl) (by kernel_rfl) (fun _ _ _ h => h) (Or.inl ⟨by rfl, fun w' h => by have r1 := blk_cell h 1 _ rfl; go_simp⟩) hHeld ?_
  try simp only [Act.put, List.getElem_toArray, List.getElem_cons_zero, List.getElem_cons_succ, List.setIfInBounds_toArray, List.set_cons_zero, List.set_cons_succ]
  refine wpAnyH_take (i := 5) (v := .int .i64 a) rfl (by kernel_rfl) (by kernel_rfl) (by kernel_rfl) (fun _ _ _ h => h) (Or.inl ⟨by rfl, fun w' h => by  go_simp⟩) hHeld ?_
  try simp only [Act.put, List.getElem_toArray, List.getElem_cons_zero, List.getElem_cons_succ, List.setIfInBounds_toArray, List.set_cons_zero, List.set_cons_succ]
  refine wpAnyH_take (i := 6) (v := .int .i64 0) rfl (by kernel_rfl) (by kernel_rfl) (by kernel_rfl) (fun _ _ _ h => h) (Or.inl ⟨by rfl, fun w' h => by  go_simp⟩) hHeld ?_
  try simp only [Act.put, List.getElem_toArray, List.getElem_cons_zero, List.getElem_cons_succ, List.setIfInBounds_toArray, List.set_cons_zero, List.set_cons_succ]
  refine wpAnyH_take (i := 8) (v := .pointer (some ⟨mb, 0, none⟩)) rfl (by kernel_rfl) (by kernel_rfl) (by kernel_rfl) (fun _ _ _ h => h) (Or.inl ⟨by rfl, fun w' h => by  go_simp⟩) hHeld ?_
  try simp only [Act.put, List.getElem_toArray, List.getElem_cons_zero, List.getElem_cons_succ, List.setIfInBounds_toArray, List.set_cons_zero, List.set_cons_succ]
  refine wpAnyH_take (i := 9) (v := .pointer (some ⟨mb, 1, none⟩)) rfl (by kernel_rfl) (by kernel_rfl) (by kernel_rfl) (fun _ _ _ h => h) (Or.inl ⟨by rfl, fun w' h => by  go_simp⟩) hHeld ?_
  try simp only [Act.put, List.getElem_toArray, List.getElem_cons_zero, List.getElem_cons_succ, List.setIfInBounds_toArray, List.set_cons_zero, List.set_cons_succ]
  have hH2 := hHeld
  have hset := hmd2.setVal num (by omega) rr
  refine wpAnyH_ready (rs := [7]) (by kernel_rfl) (by simp) ?_
  refine AllReadyH.cons rfl (fun K hK => ?_) AllReadyH.nil
  rw [if_pos (by rfl)]
  go_wp2_with fail
  refine (HR.out _).mono ?_
  rintro e we ⟨rfl, rfl⟩
  refine hK.out _ _ hH2 (fun hHeld => ?_)
  clear hK K
  try simp only [Act.put, List.getElem_toArray, List.getElem_cons_zero, List.getElem_cons_succ, List.setIfInBounds_toArray, List.set_cons_zero, List.set_cons_succ]
  refine wpAnyH_take (i := 10) (v := .pointer (some ⟨mb, 1 + num, none⟩)) rfl (by kernel_rfl) (by kernel_rfl) (by kernel_rfl) (fun _ _ _ h => h) (Or.inl ⟨by rfl, fun w' h => by  go_simp⟩) hH2 ?_
  try simp only [Act.put, List.getElem_toArray, List.getElem_cons_zero, List.getElem_cons_succ, List.setIfInBounds_toArray, List.set_cons_zero, List.set_cons_succ]
  refine wpAnyH_ready (rs := [11]) (by kernel_rfl) (by simp) ?_
  refine AllReadyH.cons rfl (fun K hK => ?_) AllReadyH.nil
  rw [if_pos (by rfl)]
  go_wp2_with fail
  refine hK.out _ _ (stay_set hH2 hne) (fun hHeld => ?_)
  clear hK K
  try simp only [Act.put, List.getElem_toArray, List.getElem_cons_zero, List.getElem_cons_succ, List.setIfInBounds_toArray, List.set_cons_zero, List.set_cons_succ]
  refine wpAnyH_done (by kernel_rfl) ?_ _
  go_wp2
  go_end0
  exact ⟨rfl, grown_trans hgd2 (grown_set _ _ _ _), hset⟩

end Go.Proofs.YtedkjanogjglkaaDoor.D
