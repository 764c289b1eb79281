/-
  Walks: chiselkeep.pick, works, Looped.
-/
import Derived.Test.YtdffpkmabehfbaaDoorCEnds
namespace Go.Proofs.YtdffpkmabehfbaaDoor
open Go.RowKit

theorem own_ints1 (W : World) (x : Int) {base g : Nat} (hg : g = W.heap.size) (hb : base ≤ g) : (W.alloc (.cells #[.int .i64 x] 3)).ownsRow base 3 1 (.slice (some ⟨g, 0, none⟩) 1 1) 1 (ints [x]) := by
  subst hg
  exact ⟨by simp [ints], Or.inr ⟨_, _, _, rfl, hb, heap_alloc_new W _, Nat.le_refl _, by decide, by simp, rfl⟩⟩

theorem own_none (W : World) {base : Nat} : W.ownsRow base 3 1 (.slice none 0 0) 0 (ints []) := ⟨rfl, Or.inl ⟨rfl, rfl⟩⟩

/-- Which of 1000 things a raw number speaks of. -/
def picked (n : Int) : Nat := if n < 0 then ((-(n + 1)) % 1000).toNat else (n % 1000).toNat

theorem picked_lt (n : Int) : picked n < 1000 := by
  unfold picked
  split <;> omega

set_option maxHeartbeats 1000000 in
theorem pick_any (n : Int) (hn : -9223372036854775808 ≤ n) (hn' : n ≤ 9223372036854775807) (w : World) :
    Calls Tryd.prog 10 #[.int .i64 n, .int .i64 1000] w fun e w' => e = .returned (.int .i64 (picked n : Nat)) ∧ w' = w := by
  by_cases h0 : n < 0
  · have hp : ((picked n : Nat) : Int) = -(n + 1).tmod 1000 := by
      unfold picked
      rw [if_pos h0, Int.toNat_of_nonneg (by omega), ← Int.neg_tmod, Int.tmod_eq_emod_of_nonneg (by omega)]
    rw [hp]
    go_enter Tryd.func10, Tryd.ntmps10
    go_wp2
    go_ret
    exact ⟨rfl, rfl⟩
  · have hp : ((picked n : Nat) : Int) = n % 1000 := by
      unfold picked
      rw [if_neg h0, Int.toNat_of_nonneg (by omega)]
    rw [hp]
    go_enter Tryd.func10, Tryd.ntmps10
    go_wp2
    go_ret
    exact ⟨rfl, rfl⟩

theorem runW1 (av : Value) (w : World) (ht : Tab w) (hav : w.ownsRow 0 3 1 av 1 (ints [5])) :
    Calls Tryd.prog 9 #[.string (bs Code.textW1), av, .int .i64 100] w fun e w' => e = .returned (.tuple #[.int .i64 40, .int .i64 4, .int .i64 0]) ∧ Below w.heap.size w w' :=
  irRun_at Code.textW1 Code.fnW1 av [5] 100 w 40 4 0 (by decide) ht Code.isW1 Code.rightW1 hav rfl (fun x hx => by rw [List.mem_singleton.1 hx]; omega) (by decide) (by omega) (Code.runsW1 [5] rfl) Code.endsW1

theorem runW2 (w : World) (ht : Tab w) :
    Calls Tryd.prog 9 #[.string (bs Code.textW2), .slice none 0 0, .int .i64 9] w fun e w' => e = .returned (.tuple #[.int .i64 0, .int .i64 2, .int .i64 4]) ∧ Below w.heap.size w w' :=
  irRun_at Code.textW2 Code.fnW2 (.slice none 0 0) [] 9 w 0 2 4 (by decide) ht Code.isW2 Code.rightW2 (own_none w) rfl (fun x hx => by cases hx) (by decide) (by omega) (Code.runsW2 [] rfl) Code.endsW2

theorem runL1 (av : Value) (k : Nat) (hk : k < 1000) (w : World) (ht : Tab w) (hav : w.ownsRow 0 3 1 av 1 (ints [(k : Int)])) :
    Calls Tryd.prog 9 #[.string (bs Code.textL1), av, .int .i64 100000] w fun e w' => e = .returned (.tuple #[.int .i64 (Code.tri k), .int .i64 ((8 + 6 * k : Nat) : Int), .int .i64 0]) ∧ Below w.heap.size w w' :=
  irRun_at Code.textL1 Code.fnL1 av [(k : Int)] 100000 w (Code.tri k) (8 + 6 * k) 0 (of_decide_eq_true (by kernel_rfl)) ht Code.isL1 Code.rightL1 hav rfl (fun x hx => by rw [List.mem_singleton.1 hx]; omega) (show 1 ≤ 100000 by omega) (by omega) (Code.runsL1 [(k : Int)] rfl) (Code.endsL1 k (by omega))

theorem runL2 (av : Value) (k : Nat) (hk : k < 1000) (w : World) (ht : Tab w) (hav : w.ownsRow 0 3 1 av 1 (ints [(k : Int)])) :
    Calls Tryd.prog 9 #[.string (bs Code.textL2), av, .int .i64 100000] w fun e w' => e = .returned (.tuple #[.int .i64 (if k % 2 = 1 then 9 else 7), .int .i64 ((10 + 6 * k : Nat) : Int), .int .i64 0]) ∧ Below w.heap.size w w' :=
  irRun_at Code.textL2 Code.fnL2 av [(k : Int)] 100000 w (if k % 2 = 1 then 9 else 7) (10 + 6 * k) 0 (of_decide_eq_true (by kernel_rfl)) ht Code.isL2 Code.rightL2 hav rfl (fun x hx => by rw [List.mem_singleton.1 hx]; omega) (show 1 ≤ 100000 by omega) (by omega) (Code.runsL2 [(k : Int)] rfl) (Code.endsL2 k (by omega))
end Go.Proofs.YtdffpkmabehfbaaDoor
