/-
  Walks: chiselkeep.works, Looped.
-/
import Derived.Test.YtdffpkmabehfbaaDoorCKeep
namespace Go.Proofs.YtdffpkmabehfbaaDoor
open Go.RowKit

set_option maxRecDepth 100000 in
set_option maxHeartbeats 2000000 in
theorem works_any (w : World) (ht : Tab w) :
    Calls Tryd.prog 5 #[] w fun e w' => e = .returned (.bool true) ∧ Below w.heap.size w w' := by
  have HT := hide ht
  clear ht
  go_enter Tryd.func5, Tryd.ntmps5
  go_wp2_with fail
  have hb1 : Below w.heap.size w (w.alloc (.cells #[.int .i64 5] 3)) := below_al (Below.refl _ _) _
  refine (runW1 _ _ (HT.out.below hb1) (own_ints1 w 5 rfl (Nat.zero_le _))).mono ?_
  rintro e w1 ⟨rfl, h1⟩
  have hb2 : Below w.heap.size w w1 := hb1.trans (h1.mono hb1.size)
  clear h1 hb1
  go_wp2_with fail
  refine (runW2 w1 (HT.out.below hb2)).mono ?_
  rintro e w2 ⟨rfl, h2⟩
  have hb3 : Below w.heap.size w w2 := hb2.trans (h2.mono hb2.size)
  clear h2 hb2
  go_wp2
  go_ret
  exact ⟨rfl, hb3⟩
end Go.Proofs.YtdffpkmabehfbaaDoor
