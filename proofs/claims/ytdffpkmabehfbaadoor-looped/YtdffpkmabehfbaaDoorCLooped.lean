/-
  Walk: chiselkeep.Looped.
-/
import Derived.Test.YtdffpkmabehfbaaDoorCWorks
namespace Go.Proofs.YtdffpkmabehfbaaDoor
open Go.RowKit

set_option maxRecDepth 100000 in
set_option maxHeartbeats 2000000 in
theorem looped_any (n : Int) (hn : -9223372036854775808 ≤ n) (hn' : n ≤ 9223372036854775807) (w : World) (ht : Tab w) :
    Calls Tryd.prog 4 #[.int .i64 n] w fun e w' => e = .returned (.bool true) ∧ Below w.heap.size w w' := by
  have HT := hide ht
  have HP := hide (pick_any n hn hn')
  have hk := picked_lt n
  generalize picked n = k at hk HP
  clear ht
  go_enter Tryd.func4, Tryd.ntmps4
  go_wp2_with fail
  refine (works_any w HT.out).mono ?_
  rintro e w1 ⟨rfl, hb1⟩
  go_wp2_with fail
  refine (HP.out w1).mono ?_
  rintro e w1 ⟨rfl, rfl⟩
  go_wp2_with fail
  have hb2 : Below w.heap.size w (w1.alloc (.cells #[.int .i64 (k : Nat)] 3)) := below_al hb1 _
  refine (runL1 _ k hk _ (HT.out.below hb2) (own_ints1 w1 _ rfl (Nat.zero_le _))).mono ?_
  rintro e w2 ⟨rfl, h2⟩
  have hb3 : Below w.heap.size w w2 := hb2.trans (h2.mono hb2.size)
  clear h2 hb2 hb1
  go_wp2_with fail
  have hb4 : Below w.heap.size w (w2.alloc (.cells #[.int .i64 (k : Nat)] 3)) := below_al hb3 _
  refine (runL2 _ k hk _ (HT.out.below hb4) (own_ints1 w2 _ rfl (Nat.zero_le _))).mono ?_
  rintro e w3 ⟨rfl, h3⟩
  have hb5 : Below w.heap.size w w3 := hb4.trans (h3.mono hb4.size)
  clear h3 hb4 hb3
  have h2t := Code.tri_two k
  have hm : (k : Int) * ((k : Int) + 1) ≤ 1001000 := by
    have := Int.mul_le_mul (a := (k : Int)) (b := (k : Int) + 1) (c := 1000) (d := 1001) (by omega) (by omega) (by omega) (by omega)
    omega
  have hm0 : 0 ≤ (k : Int) * ((k : Int) + 1) := Int.mul_nonneg (by omega) (by omega)
  generalize Code.tri k = t at *
  by_cases hodd : k % 2 = 1
  · rw [if_pos hodd]
    go_wp2
    go_ret
    exact ⟨rfl, hb5⟩
  · rw [if_neg hodd]
    go_wp2
    go_ret
    exact ⟨rfl, hb5⟩
end Go.Proofs.YtdffpkmabehfbaaDoor
