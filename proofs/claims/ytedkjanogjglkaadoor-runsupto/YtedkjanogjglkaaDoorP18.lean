/-
  Walk: chiselref.Func.value: a line that is a value.
  Walk: chiselref.last: a line that is a block's last.
  Walk: chiselref.last: a line that is a line that is no block's last.
  chiselref.Func.value and last, of every line.
  Walk: chiselref.digits.
  Values and blocks that are being made: rows that the call owns.
-/
import Derived.Test.YtedkjanogjglkaaDoorP01
import Derived.Test.YtedkjanogjglkaaDoorP17
import Derived.Deep.RegionHeld3
import Derived.BigRegion
import Derived.Test.YtedkjanogjglkaaDoorP10
import Derived.Test.YtedkjanogjglkaaDoorP12

namespace Go.Proofs.YtedkjanogjglkaaDoor.D
open Go.RowKit


set_option maxRecDepth 100000 in
set_option maxHeartbeats 2000000 in
theorem value_short (s : ByteArray) (phis : Bool) (f : Addr) (w : World) (hs : s.size ≤ 16777216) (ws : List (List UInt8)) (hws : Hid (Ref.words (bl s) = ws)) (hn : ws.length < 3) :
    Calls Tryd.prog 37 #[.pointer (some f), .string s, .bool phis] w fun e w' => ∃ a, e = .returned (.tuple #[.agg (valCells Ref.zeroVal a), .bool false]) ∧
      w'.ownsRow w.heap.size 3 1 a 0 [] ∧ Below w.heap.size w w' := by
  go_enter Tryd.func37, Tryd.ntmps37
  go_wp2_with fail
  refine (words_any s _ hs).mono ?_
  rintro e w1 ⟨v, rfl, hown, hbel⟩
  rw [hws.out] at hown
  obtain ⟨pv, cv, hvv⟩ := own_slice hown
  subst hvv
  obtain ⟨r0, r1, r2, r3, r4, r5, r6, r7⟩ := blk4 (kept_new hbel)
  have hbe := below_of_new hbel
  clear hown
  go_wp2_with fail
  refine bodyPost_ret (v := .tuple #[.agg #[.int .i64 0, .string { data := #[] }, .int .i64 0, .slice none 0 0], .bool false]) (by simp [results, Tryd.results37, go_sem, r0, r1, r2, r3]) rfl ⟨.slice none 0 0, rfl, World.ownsRow_nil _ _ _ _, ?_⟩
  repeat' (first | exact hbe | apply Below.drew | apply below_set0 | apply below_al)

set_option maxRecDepth 100000 in
set_option maxHeartbeats 2000000 in
theorem value_noeq (s : ByteArray) (phis : Bool) (f : Addr) (w : World) (hs : s.size ≤ 16777216) (a0 a1 a2 : List UInt8) (r : List (List UInt8)) (hws : Hid (Ref.words (bl s) = a0 :: a1 :: a2 :: r)) (hr : r.length ≤ 16777216) (h1 : a1 ≠ [61]) :
    Calls Tryd.prog 37 #[.pointer (some f), .string s, .bool phis] w fun e w' => ∃ a, e = .returned (.tuple #[.agg (valCells Ref.zeroVal a), .bool false]) ∧
      w'.ownsRow w.heap.size 3 1 a 0 [] ∧ Below w.heap.size w w' := by
  have e1 : ((bs a1).toList == [61]) = false := toList_no (by rw [bl_bs]; exact h1)
  clear h1
  go_enter Tryd.func37, Tryd.ntmps37
  go_wp2_with fail
  refine (words_any s _ hs).mono ?_
  rintro e w1 ⟨v, rfl, hown, hbel⟩
  rw [hws.out] at hown
  obtain ⟨g, cap, rfl, hg1, hg2, hc⟩ := row_open hown (by simp)
  have c1 := hc 1 _ (strs_get (a0 :: a1 :: a2 :: r) 1 (by simp))
  clear hc hown
  obtain ⟨r0, r1, r2, r3, r4, r5, r6, r7⟩ := blk4 (kept_new hbel)
  have hbe := below_of_new hbel
  simp only [List.getElem_cons_zero, List.getElem_cons_succ, List.length_cons] at c1 ⊢
  go_wp2_with fail
  refine bodyPost_ret (v := .tuple #[.agg #[.int .i64 0, .string { data := #[] }, .int .i64 0, .slice none 0 0], .bool false]) (by simp [results, Tryd.results37, go_sem, r0, r1, r2, r3]) rfl ⟨.slice none 0 0, rfl, World.ownsRow_nil _ _ _ _, ?_⟩
  repeat' (first | exact hbe | apply Below.drew | apply below_set0 | apply below_al)

set_option maxRecDepth 100000 in
set_option maxHeartbeats 2000000 in
theorem value_constL (s : ByteArray) (phis : Bool) (f : Addr) (w : World) (hs : s.size ≤ 16777216) (a0 : List UInt8) (r : List (List UInt8)) (hws : Hid (Ref.words (bl s) = a0 :: [61] :: Ref.sConst :: r)) (hl0 : a0.length ≤ 16777216) (hr : r.length ≤ 16777216) (h4 : ¬ r.length = 1) :
    Calls Tryd.prog 37 #[.pointer (some f), .string s, .bool phis] w fun e w' => ∃ a, e = .returned (.tuple #[.agg (valCells ⟨Ref.vnum a0, Ref.sConst, 0, []⟩ a), .bool false]) ∧
      w'.ownsRow w.heap.size 3 1 a 0 [] ∧ Below w.heap.size w w' := by
  have e1 : ((bs [61]).toList == [61]) = true := toList_yes (bl_bs _)
  have e2 : ((bs Ref.sConst).toList == [99, 111, 110, 115, 116]) = true := toList_yes (bl_bs _)
  go_enter Tryd.func37, Tryd.ntmps37
  go_wp2_with fail
  refine (words_any s _ hs).mono ?_
  rintro e w1 ⟨v, rfl, hown, hbel⟩
  rw [hws.out] at hown
  obtain ⟨g, cap, rfl, hg1, hg2, hc⟩ := row_open hown (by simp)
  have c0 := hc 0 _ (strs_get (a0 :: [61] :: Ref.sConst :: r) 0 (by simp))
  have c1 := hc 1 _ (strs_get (a0 :: [61] :: Ref.sConst :: r) 1 (by simp))
  have c2 := hc 2 _ (strs_get (a0 :: [61] :: Ref.sConst :: r) 2 (by simp))
  clear hc hown
  obtain ⟨r0, r1, r2, r3, r4, r5, r6, r7⟩ := blk4 (kept_new hbel)
  have hv := hide (fun W => v_bs a0 W hl0)
  have hz := hbel.size
  have hbe := below_of_new hbel
  simp only [World.size_alloc, List.getElem_cons_zero, List.getElem_cons_succ, List.length_cons] at hz hg1 c0 c1 c2 ⊢
  have hlen : r.length + 1 + 1 + 1 ≤ 16777219 := by omega
  have hlen2 : 3 ≤ r.length + 1 + 1 + 1 := by omega
  have hlen4 : ¬ r.length + 1 + 1 + 1 = 4 := by omega
  generalize r.length + 1 + 1 + 1 = n at *
  have q0 : (0 : Int) < (n : Int) := by omega
  have q2 : (2 : Int) < (n : Int) := by omega
  have q1 : 0 < n := by omega
  have q4 : ((n : Int) == 4) = false := beq_eq_false_iff_ne.2 (by omega)
  clear hlen4
  go_wp2_with fail
  have hz1 : w.heap.size < w1.heap.size := by omega
  have hz2 : ¬ w.heap.size = w1.heap.size := by omega
  have n0 := World.new_ne w1 ⟨g, 0, none⟩ c0
  go_region_held3 (fun w' => w'.cell? ⟨g, 0, none⟩ = some (.string (bs a0)) ∧ w'.cell? ⟨g, 2, none⟩ = some (.string (bs Ref.sConst))) (go_keep) (first | (go_at_call 47; refine (hv.out _).mono ?_; rintro e w' ⟨rfl, rfl⟩))
  all_goals
    rcases Classical.em (0 ≤ Ref.vnum a0) with hV | hV
    all_goals
      go_wp2_with fail

      all_goals
        refine bodyPost_ret (v := .tuple #[.agg #[.int .i64 (Ref.vnum a0), .string (bs Ref.sConst), .int .i64 0, .slice none 0 0], .bool false]) (by simp [results, Tryd.results37, go_sem, r0, r1, r2, r3, hz1]) rfl ⟨.slice none 0 0, rfl, World.ownsRow_nil _ _ _ _, ?_⟩
        repeat' (first | exact hbe | apply Below.drew | apply below_set0 | apply below_al)

set_option maxRecDepth 100000 in
set_option maxHeartbeats 2000000 in
theorem value_argL (s : ByteArray) (phis : Bool) (f : Addr) (w : World) (hs : s.size ≤ 16777216) (a0 : List UInt8) (r : List (List UInt8)) (hws : Hid (Ref.words (bl s) = a0 :: [61] :: Ref.sArg :: r)) (hl0 : a0.length ≤ 16777216) (hr : r.length ≤ 16777216) (h4 : ¬ r.length = 1) :
    Calls Tryd.prog 37 #[.pointer (some f), .string s, .bool phis] w fun e w' => ∃ a, e = .returned (.tuple #[.agg (valCells ⟨Ref.vnum a0, Ref.sArg, 0, []⟩ a), .bool false]) ∧
      w'.ownsRow w.heap.size 3 1 a 0 [] ∧ Below w.heap.size w w' := by
  have e1 : ((bs [61]).toList == [61]) = true := toList_yes (bl_bs _)
  have e2 : ((bs Ref.sArg).toList == [99, 111, 110, 115, 116]) = false := toList_no (by rw [bl_bs]; decide)
  have e3 : ((bs Ref.sArg).toList == [97, 114, 103]) = true := toList_yes (bl_bs _)
  go_enter Tryd.func37, Tryd.ntmps37
  go_wp2_with fail
  refine (words_any s _ hs).mono ?_
  rintro e w1 ⟨v, rfl, hown, hbel⟩
  rw [hws.out] at hown
  obtain ⟨g, cap, rfl, hg1, hg2, hc⟩ := row_open hown (by simp)
  have c0 := hc 0 _ (strs_get (a0 :: [61] :: Ref.sArg :: r) 0 (by simp))
  have c1 := hc 1 _ (strs_get (a0 :: [61] :: Ref.sArg :: r) 1 (by simp))
  have c2 := hc 2 _ (strs_get (a0 :: [61] :: Ref.sArg :: r) 2 (by simp))
  clear hc hown
  obtain ⟨r0, r1, r2, r3, r4, r5, r6, r7⟩ := blk4 (kept_new hbel)
  have hv := hide (fun W => v_bs a0 W hl0)
  have hz := hbel.size
  have hbe := below_of_new hbel
  simp only [World.size_alloc, List.getElem_cons_zero, List.getElem_cons_succ, List.length_cons] at hz hg1 c0 c1 c2 ⊢
  have hlen : r.length + 1 + 1 + 1 ≤ 16777219 := by omega
  have hlen2 : 3 ≤ r.length + 1 + 1 + 1 := by omega
  have hlen4 : ¬ r.length + 1 + 1 + 1 = 4 := by omega
  generalize r.length + 1 + 1 + 1 = n at *
  have q0 : (0 : Int) < (n : Int) := by omega
  have q2 : (2 : Int) < (n : Int) := by omega
  have q1 : 0 < n := by omega
  have q4 : ((n : Int) == 4) = false := beq_eq_false_iff_ne.2 (by omega)
  clear hlen4
  go_wp2_with fail
  have hz1 : w.heap.size < w1.heap.size := by omega
  have hz2 : ¬ w.heap.size = w1.heap.size := by omega
  have n0 := World.new_ne w1 ⟨g, 0, none⟩ c0
  go_region_held3 (fun w' => w'.cell? ⟨g, 0, none⟩ = some (.string (bs a0)) ∧ w'.cell? ⟨g, 2, none⟩ = some (.string (bs Ref.sArg))) (go_keep) (first | (go_at_call 47; refine (hv.out _).mono ?_; rintro e w' ⟨rfl, rfl⟩))
  all_goals
    rcases Classical.em (0 ≤ Ref.vnum a0) with hV | hV
    all_goals
      go_wp2_with fail
      go_region
      all_goals go_wp2_with fail
      all_goals
        refine bodyPost_ret (v := .tuple #[.agg #[.int .i64 (Ref.vnum a0), .string (bs Ref.sArg), .int .i64 0, .slice none 0 0], .bool false]) (by simp [results, Tryd.results37, go_sem, r0, r1, r2, r3, hz1]) rfl ⟨.slice none 0 0, rfl, World.ownsRow_nil _ _ _ _, ?_⟩
        repeat' (first | exact hbe | apply Below.drew | apply below_set0 | apply below_al)

end Go.Proofs.YtedkjanogjglkaaDoor.D


namespace Go.Proofs.YtedkjanogjglkaaDoor.D
open Go.RowKit

/-- A block's last as it lies in four cells: its values are none yet. -/
def lastCells (x : Ref.RLast) (a : Value) : Array Value := #[.slice none 0 0, .string (bs x.Last), .int .i64 x.V, a]

set_option maxRecDepth 100000 in
set_option maxHeartbeats 2000000 in
theorem last_ret (s : ByteArray) (w : World) (hs : s.size ≤ 16777216) (a1 : List UInt8) (hws : Hid (Ref.words (bl s) = [Ref.sRet, a1])) (hl1 : a1.length ≤ 16777216) :
    Calls Tryd.prog 38 #[.string s] w fun e w' => ∃ a, e = .returned (.tuple #[.agg (lastCells ⟨Ref.sRet, Ref.vnum a1, []⟩ a), .bool (Ref.toOk (Ref.vnum a1) [])]) ∧
      w'.ownsRow w.heap.size 3 1 a 0 (ints []) ∧ Below w.heap.size w w' := by
  have e1 : ((bs Ref.sRet).toList == [114, 101, 116]) = true := toList_yes (bl_bs _)
  go_enter Tryd.func38, Tryd.ntmps38
  go_wp2_with fail
  refine (words_any s _ hs).mono ?_
  rintro e w1 ⟨v, rfl, hown, hbel⟩
  rw [hws.out] at hown
  obtain ⟨g, cap, rfl, hg1, hg2, hc⟩ := row_open hown (by simp)
  have c0 := hc 0 _ (strs_get [Ref.sRet, a1] 0 (by simp))
  have c1 := hc 1 _ (strs_get [Ref.sRet, a1] 1 (by simp))
  clear hc hown
  obtain ⟨r0, r1, r2, r3, r4, r5, r6, r7⟩ := blk4 (kept_new hbel)
  have hz := hbel.size
  have hbe := below_of_new hbel
  simp only [World.size_alloc, List.getElem_cons_zero, List.getElem_cons_succ, List.length_cons, List.length_nil, Nat.zero_add, Nat.reduceAdd] at hz hg1 c0 c1 ⊢
  have hz1 : w.heap.size < w1.heap.size := by omega
  have hz2 : ¬ w.heap.size = w1.heap.size := by omega
  have n0 := World.new_ne w1 ⟨g, 0, none⟩ c0
  go_wp2_with fail
  refine (v_bs a1 _ hl1).mono ?_
  rintro e w' ⟨rfl, rfl⟩
  go_wp2_with fail
  refine wp_loop_rounds 1 ?_
  rw [rounds_succ]
  go_wp2_with fail
  refine bodyPost_ret (v := .tuple #[.agg #[.slice none 0 0, .string (bs Ref.sRet), .int .i64 (Ref.vnum a1), .slice none 0 0], .bool (decide (0 ≤ Ref.vnum a1))]) (by simp [results, Tryd.results38, go_sem, r0, r1, r2, r3, hz1]) rfl ⟨.slice none 0 0, ?_, World.ownsRow_nil _ _ _ _, ?_⟩
  · simp [lastCells, Ref.toOk]
  · repeat' (first | exact hbe | apply Below.drew | apply below_set0 | apply below_al)

set_option maxRecDepth 100000 in
set_option maxHeartbeats 2000000 in
theorem last_jump (s : ByteArray) (w : World) (hs : s.size ≤ 16777216) (a1 : List UInt8) (hws : Hid (Ref.words (bl s) = [Ref.sJump, a1])) (hl1 : a1.length ≤ 16777216) :
    Calls Tryd.prog 38 #[.string s] w fun e w' => ∃ a, e = .returned (.tuple #[.agg (lastCells ⟨Ref.sJump, 0, [Ref.after a1 98]⟩ a), .bool (Ref.toOk 0 [Ref.after a1 98])]) ∧
      w'.ownsRow w.heap.size 3 1 a 1 (ints [Ref.after a1 98]) ∧ Below w.heap.size w w' := by
  have e1 : ((bs Ref.sJump).toList == [114, 101, 116]) = false := toList_no (by rw [bl_bs]; decide)
  have e2 : ((bs Ref.sJump).toList == [106, 117, 109, 112]) = true := toList_yes (bl_bs _)
  go_enter Tryd.func38, Tryd.ntmps38
  go_wp2_with fail
  refine (words_any s _ hs).mono ?_
  rintro e w1 ⟨v, rfl, hown, hbel⟩
  rw [hws.out] at hown
  obtain ⟨g, cap, rfl, hg1, hg2, hc⟩ := row_open hown (by simp)
  have c0 := hc 0 _ (strs_get [Ref.sJump, a1] 0 (by simp))
  have c1 := hc 1 _ (strs_get [Ref.sJump, a1] 1 (by simp))
  clear hc hown
  obtain ⟨r0, r1, r2, r3, r4, r5, r6, r7⟩ := blk4 (kept_new hbel)
  have hz := hbel.size
  have hbe := below_of_new hbel
  simp only [World.size_alloc, List.getElem_cons_zero, List.getElem_cons_succ, List.length_cons, List.length_nil, Nat.zero_add, Nat.reduceAdd] at hz hg1 c0 c1 ⊢
  have hz1 : w.heap.size < w1.heap.size := by omega
  have hz2 : ¬ w.heap.size = w1.heap.size := by omega
  have n0 := World.new_ne w1 ⟨g, 0, none⟩ c0
  go_wp2_with fail
  refine (after_bs a1 98 _ hl1).mono ?_
  rintro e w' ⟨rfl, rfl⟩
  go_wp2_with fail
  refine wp_loop_rounds 2 ?_
  rw [rounds_succ]
  go_wp2_with fail
  rw [rounds_succ]
  go_wp2_with fail
  refine bodyPost_ret (v := .tuple #[.agg #[.slice none 0 0, .string (bs Ref.sJump), .int .i64 0, .slice (some ⟨w1.heap.size + 1, 0, none⟩) 1 1], .bool (decide (0 ≤ Ref.after a1 98))]) (by simp [results, Tryd.results38, go_sem, r0, r1, r2, r3, hz1]) rfl ⟨.slice (some ⟨w1.heap.size + 1, 0, none⟩) 1 1, ?_, ?_, ?_⟩
  · simp [lastCells, Ref.toOk]
  · exact own_new (by simp) (by omega) rfl (by decide)
  · repeat' (first | exact hbe | apply Below.drew | apply below_set0 | apply below_al)

set_option maxRecDepth 100000 in
set_option maxHeartbeats 2000000 in
theorem last_if (s : ByteArray) (w : World) (hs : s.size ≤ 16777216) (a1 a2 a3 : List UInt8) (hws : Hid (Ref.words (bl s) = [Ref.sIf, a1, a2, a3])) (hl1 : a1.length ≤ 16777216) (hl2 : a2.length ≤ 16777216) (hl3 : a3.length ≤ 16777216) :
    Calls Tryd.prog 38 #[.string s] w fun e w' => ∃ a, e = .returned (.tuple #[.agg (lastCells ⟨Ref.sIf, Ref.vnum a1, [Ref.after a2 98, Ref.after a3 98]⟩ a), .bool (Ref.toOk (Ref.vnum a1) [Ref.after a2 98, Ref.after a3 98])]) ∧
      w'.ownsRow w.heap.size 3 1 a 2 (ints [Ref.after a2 98, Ref.after a3 98]) ∧ Below w.heap.size w w' := by
  have e1 : ((bs Ref.sIf).toList == [114, 101, 116]) = false := toList_no (by rw [bl_bs]; decide)
  have e2 : ((bs Ref.sIf).toList == [106, 117, 109, 112]) = false := toList_no (by rw [bl_bs]; decide)
  have e3 : ((bs Ref.sIf).toList == [105, 102]) = true := toList_yes (bl_bs _)
  go_enter Tryd.func38, Tryd.ntmps38
  go_wp2_with fail
  refine (words_any s _ hs).mono ?_
  rintro e w1 ⟨v, rfl, hown, hbel⟩
  rw [hws.out] at hown
  obtain ⟨g, cap, rfl, hg1, hg2, hc⟩ := row_open hown (by simp)
  have c0 := hc 0 _ (strs_get [Ref.sIf, a1, a2, a3] 0 (by simp))
  have c1 := hc 1 _ (strs_get [Ref.sIf, a1, a2, a3] 1 (by simp))
  have c2 := hc 2 _ (strs_get [Ref.sIf, a1, a2, a3] 2 (by simp))
  have c3 := hc 3 _ (strs_get [Ref.sIf, a1, a2, a3] 3 (by simp))
  clear hc hown
  obtain ⟨r0, r1, r2, r3, r4, r5, r6, r7⟩ := blk4 (kept_new hbel)
  have hz := hbel.size
  have hbe := below_of_new hbel
  simp only [World.size_alloc, List.getElem_cons_zero, List.getElem_cons_succ, List.length_cons, List.length_nil, Nat.zero_add, Nat.reduceAdd] at hz hg1 c0 c1 c2 c3 ⊢
  have hz1 : w.heap.size < w1.heap.size := by omega
  have hz2 : ¬ w.heap.size = w1.heap.size := by omega
  have n0 := World.new_ne w1 ⟨g, 0, none⟩ c0
  go_wp2_with fail
  refine (v_bs a1 _ hl1).mono ?_
  rintro e w1 ⟨rfl, rfl⟩
  have h2 := hide (fun W => after_bs a2 98 W hl2)
  have h3 := hide (fun W => after_bs a3 98 W hl3)
  go_wp2_with fail
  go_region_held3 (fun w' => w'.cell? ⟨g, 2, none⟩ = some (.string (bs a2)) ∧ w'.cell? ⟨g, 3, none⟩ = some (.string (bs a3))) (go_keep) (first | (go_at_call_of 50 (Value.string (bs a2)); refine (h2.out _).mono ?_; rintro e w' ⟨rfl, rfl⟩) | (go_at_call_of 50 (Value.string (bs a3)); refine (h3.out _).mono ?_; rintro e w' ⟨rfl, rfl⟩))
  rcases if_cases (Ref.vnum a1) (Ref.after a2 98) (Ref.after a3 98) with ⟨hV, hA, HT⟩ | ⟨hV, hA, HT⟩ | ⟨hV, HT⟩
  · go_wp2_with fail
    refine wp_loop_rounds 3 ?_
    rw [rounds_succ]
    go_wp2_with fail
    rw [rounds_succ]
    go_wp2_with fail
    rw [rounds_succ]
    go_wp2_with fail
    refine bodyPost_ret (v := .tuple #[.agg #[.slice none 0 0, .string (bs Ref.sIf), .int .i64 (Ref.vnum a1), .slice (some ⟨w1.heap.size + 1, 0, none⟩) 2 2], .bool (decide (0 ≤ Ref.after a3 98))]) (by simp [results, Tryd.results38, go_sem, r0, r1, r2, r3, hz1]) rfl ⟨.slice (some ⟨w1.heap.size + 1, 0, none⟩) 2 2, ?_, ?_, ?_⟩
    · rw [HT.out]; rfl
    · exact own_new (by simp) (by omega) rfl (by decide)
    · repeat' (first | exact hbe | apply Below.drew | apply below_set0 | apply below_al)
  · go_wp2_with fail
    refine wp_loop_rounds 3 ?_
    rw [rounds_succ]
    go_wp2_with fail
    rw [rounds_succ]
    go_wp2_with fail
    rw [rounds_succ]
    go_wp2_with fail
    refine bodyPost_ret (v := .tuple #[.agg #[.slice none 0 0, .string (bs Ref.sIf), .int .i64 (Ref.vnum a1), .slice (some ⟨w1.heap.size + 1, 0, none⟩) 2 2], .bool false]) (by simp [results, Tryd.results38, go_sem, r0, r1, r2, r3, hz1]) rfl ⟨.slice (some ⟨w1.heap.size + 1, 0, none⟩) 2 2, ?_, ?_, ?_⟩
    · rw [HT.out]; rfl
    · exact own_new (by simp) (by omega) rfl (by decide)
    · repeat' (first | exact hbe | apply Below.drew | apply below_set0 | apply below_al)
  · go_wp2_with fail
    refine wp_loop_rounds 3 ?_
    rw [rounds_succ]
    go_wp2_with fail
    rw [rounds_succ]
    go_wp2_with fail
    rw [rounds_succ]
    go_wp2_with fail
    refine bodyPost_ret (v := .tuple #[.agg #[.slice none 0 0, .string (bs Ref.sIf), .int .i64 (Ref.vnum a1), .slice (some ⟨w1.heap.size + 1, 0, none⟩) 2 2], .bool false]) (by simp [results, Tryd.results38, go_sem, r0, r1, r2, r3, hz1]) rfl ⟨.slice (some ⟨w1.heap.size + 1, 0, none⟩) 2 2, ?_, ?_, ?_⟩
    · rw [HT.out]; rfl
    · exact own_new (by simp) (by omega) rfl (by decide)
    · repeat' (first | exact hbe | apply Below.drew | apply below_set0 | apply below_al)

end Go.Proofs.YtedkjanogjglkaaDoor.D


namespace Go.Proofs.YtedkjanogjglkaaDoor.D
open Go.RowKit

set_option maxRecDepth 100000 in
set_option maxHeartbeats 2000000 in
theorem last_no_ret (s : ByteArray) (w : World) (hs : s.size ≤ 16777216) (r : List (List UInt8)) (hws : Hid (Ref.words (bl s) = (Ref.sRet :: r))) (hr : r.length ≤ 16777216) (hn : ¬ r.length + 1 = 2) :
    Calls Tryd.prog 38 #[.string s] w fun e w' => ∃ a, e = .returned (.tuple #[.agg (lastCells ⟨Ref.sRet, 0, []⟩ a), .bool (false)]) ∧
      w'.ownsRow w.heap.size 3 1 a 0 (ints []) ∧ Below w.heap.size w w' := by
  have e1 : ((bs Ref.sRet).toList == [114, 101, 116]) = true := toList_yes (bl_bs _)
  have e2 : ((bs Ref.sRet).toList == [106, 117, 109, 112]) = false := toList_no (by rw [bl_bs]; decide)
  have e3 : ((bs Ref.sRet).toList == [105, 102]) = false := toList_no (by rw [bl_bs]; decide)
  go_enter Tryd.func38, Tryd.ntmps38
  go_wp2_with fail
  refine (words_any s _ hs).mono ?_
  rintro e w1 ⟨v, rfl, hown, hbel⟩
  rw [hws.out] at hown
  obtain ⟨g, cap, rfl, hg1, hg2, hc⟩ := row_open hown (by simp)
  have c0 := hc 0 _ (strs_get (Ref.sRet :: r) 0 (by simp))
  clear hc hown
  obtain ⟨r0, r1, r2, r3, r4, r5, r6, r7⟩ := blk4 (kept_new hbel)
  have hz := hbel.size
  have hbe := below_of_new hbel
  simp only [World.size_alloc, List.getElem_cons_zero, List.length_cons] at hz hg1 c0 ⊢
  have hz1 : w.heap.size < w1.heap.size := by omega
  have hz2 : ¬ w.heap.size = w1.heap.size := by omega
  have n0 := World.new_ne w1 ⟨g, 0, none⟩ c0
  have hlen : r.length + 1 ≤ 16777217 := by omega
  have hlen0 : 0 < r.length + 1 := by omega
  generalize r.length + 1 = n at *
  have q0 : (0 : Int) < (n : Int) := by omega
  have q2 : ((n : Int) == 2) = false := beq_eq_false_iff_ne.2 (by omega)
  clear hn
  go_wp2_with fail
  refine bodyPost_ret (v := .tuple #[.agg #[.slice none 0 0, .string (bs Ref.sRet), .int .i64 0, .slice none 0 0], .bool false]) (by simp [results, Tryd.results38, go_sem, r0, r1, r2, r3, hz1]) rfl ⟨.slice none 0 0, rfl, World.ownsRow_nil _ _ _ _, ?_⟩
  repeat' (first | exact hbe | apply Below.drew | apply below_set0 | apply below_al)

set_option maxRecDepth 100000 in
set_option maxHeartbeats 2000000 in
theorem last_no_jump (s : ByteArray) (w : World) (hs : s.size ≤ 16777216) (r : List (List UInt8)) (hws : Hid (Ref.words (bl s) = (Ref.sJump :: r))) (hr : r.length ≤ 16777216) (hn : ¬ r.length + 1 = 2) :
    Calls Tryd.prog 38 #[.string s] w fun e w' => ∃ a, e = .returned (.tuple #[.agg (lastCells ⟨Ref.sJump, 0, []⟩ a), .bool (false)]) ∧
      w'.ownsRow w.heap.size 3 1 a 0 (ints []) ∧ Below w.heap.size w w' := by
  have e1 : ((bs Ref.sJump).toList == [114, 101, 116]) = false := toList_no (by rw [bl_bs]; decide)
  have e2 : ((bs Ref.sJump).toList == [106, 117, 109, 112]) = true := toList_yes (bl_bs _)
  have e3 : ((bs Ref.sJump).toList == [105, 102]) = false := toList_no (by rw [bl_bs]; decide)
  go_enter Tryd.func38, Tryd.ntmps38
  go_wp2_with fail
  refine (words_any s _ hs).mono ?_
  rintro e w1 ⟨v, rfl, hown, hbel⟩
  rw [hws.out] at hown
  obtain ⟨g, cap, rfl, hg1, hg2, hc⟩ := row_open hown (by simp)
  have c0 := hc 0 _ (strs_get (Ref.sJump :: r) 0 (by simp))
  clear hc hown
  obtain ⟨r0, r1, r2, r3, r4, r5, r6, r7⟩ := blk4 (kept_new hbel)
  have hz := hbel.size
  have hbe := below_of_new hbel
  simp only [World.size_alloc, List.getElem_cons_zero, List.length_cons] at hz hg1 c0 ⊢
  have hz1 : w.heap.size < w1.heap.size := by omega
  have hz2 : ¬ w.heap.size = w1.heap.size := by omega
  have n0 := World.new_ne w1 ⟨g, 0, none⟩ c0
  have hlen : r.length + 1 ≤ 16777217 := by omega
  have hlen0 : 0 < r.length + 1 := by omega
  generalize r.length + 1 = n at *
  have q0 : (0 : Int) < (n : Int) := by omega
  have q2 : ((n : Int) == 2) = false := beq_eq_false_iff_ne.2 (by omega)
  clear hn
  go_wp2_with fail
  refine bodyPost_ret (v := .tuple #[.agg #[.slice none 0 0, .string (bs Ref.sJump), .int .i64 0, .slice none 0 0], .bool false]) (by simp [results, Tryd.results38, go_sem, r0, r1, r2, r3, hz1]) rfl ⟨.slice none 0 0, rfl, World.ownsRow_nil _ _ _ _, ?_⟩
  repeat' (first | exact hbe | apply Below.drew | apply below_set0 | apply below_al)

set_option maxRecDepth 100000 in
set_option maxHeartbeats 2000000 in
theorem last_no_if (s : ByteArray) (w : World) (hs : s.size ≤ 16777216) (r : List (List UInt8)) (hws : Hid (Ref.words (bl s) = (Ref.sIf :: r))) (hr : r.length ≤ 16777216) (hn : ¬ r.length + 1 = 4) :
    Calls Tryd.prog 38 #[.string s] w fun e w' => ∃ a, e = .returned (.tuple #[.agg (lastCells ⟨Ref.sIf, 0, []⟩ a), .bool (false)]) ∧
      w'.ownsRow w.heap.size 3 1 a 0 (ints []) ∧ Below w.heap.size w w' := by
  have e1 : ((bs Ref.sIf).toList == [114, 101, 116]) = false := toList_no (by rw [bl_bs]; decide)
  have e2 : ((bs Ref.sIf).toList == [106, 117, 109, 112]) = false := toList_no (by rw [bl_bs]; decide)
  have e3 : ((bs Ref.sIf).toList == [105, 102]) = true := toList_yes (bl_bs _)
  go_enter Tryd.func38, Tryd.ntmps38
  go_wp2_with fail
  refine (words_any s _ hs).mono ?_
  rintro e w1 ⟨v, rfl, hown, hbel⟩
  rw [hws.out] at hown
  obtain ⟨g, cap, rfl, hg1, hg2, hc⟩ := row_open hown (by simp)
  have c0 := hc 0 _ (strs_get (Ref.sIf :: r) 0 (by simp))
  clear hc hown
  obtain ⟨r0, r1, r2, r3, r4, r5, r6, r7⟩ := blk4 (kept_new hbel)
  have hz := hbel.size
  have hbe := below_of_new hbel
  simp only [World.size_alloc, List.getElem_cons_zero, List.length_cons] at hz hg1 c0 ⊢
  have hz1 : w.heap.size < w1.heap.size := by omega
  have hz2 : ¬ w.heap.size = w1.heap.size := by omega
  have n0 := World.new_ne w1 ⟨g, 0, none⟩ c0
  have hlen : r.length + 1 ≤ 16777217 := by omega
  have hlen0 : 0 < r.length + 1 := by omega
  generalize r.length + 1 = n at *
  have q0 : (0 : Int) < (n : Int) := by omega
  have q2 : ((n : Int) == 4) = false := beq_eq_false_iff_ne.2 (by omega)
  clear hn
  go_wp2_with fail
  refine bodyPost_ret (v := .tuple #[.agg #[.slice none 0 0, .string (bs Ref.sIf), .int .i64 0, .slice none 0 0], .bool false]) (by simp [results, Tryd.results38, go_sem, r0, r1, r2, r3, hz1]) rfl ⟨.slice none 0 0, rfl, World.ownsRow_nil _ _ _ _, ?_⟩
  repeat' (first | exact hbe | apply Below.drew | apply below_set0 | apply below_al)

set_option maxRecDepth 100000 in
set_option maxHeartbeats 2000000 in
theorem last_no_none (s : ByteArray) (w : World) (hs : s.size ≤ 16777216) (a0 : List UInt8) (r : List (List UInt8)) (hws : Hid (Ref.words (bl s) = (a0 :: r))) (hr : r.length ≤ 16777216) (ha : a0 ≠ Ref.sRet ∧ a0 ≠ Ref.sJump ∧ a0 ≠ Ref.sIf) :
    Calls Tryd.prog 38 #[.string s] w fun e w' => ∃ a, e = .returned (.tuple #[.agg (lastCells ⟨a0, 0, []⟩ a), .bool (false)]) ∧
      w'.ownsRow w.heap.size 3 1 a 0 (ints []) ∧ Below w.heap.size w w' := by
  have e1 : ((bs a0).toList == [114, 101, 116]) = false := toList_no (by rw [bl_bs]; exact ha.1)
  have e2 : ((bs a0).toList == [106, 117, 109, 112]) = false := toList_no (by rw [bl_bs]; exact ha.2.1)
  have e3 : ((bs a0).toList == [105, 102]) = false := toList_no (by rw [bl_bs]; exact ha.2.2)
  clear ha
  go_enter Tryd.func38, Tryd.ntmps38
  go_wp2_with fail
  refine (words_any s _ hs).mono ?_
  rintro e w1 ⟨v, rfl, hown, hbel⟩
  rw [hws.out] at hown
  obtain ⟨g, cap, rfl, hg1, hg2, hc⟩ := row_open hown (by simp)
  have c0 := hc 0 _ (strs_get (a0 :: r) 0 (by simp))
  clear hc hown
  obtain ⟨r0, r1, r2, r3, r4, r5, r6, r7⟩ := blk4 (kept_new hbel)
  have hz := hbel.size
  have hbe := below_of_new hbel
  simp only [World.size_alloc, List.getElem_cons_zero, List.length_cons] at hz hg1 c0 ⊢
  have hz1 : w.heap.size < w1.heap.size := by omega
  have hz2 : ¬ w.heap.size = w1.heap.size := by omega
  have n0 := World.new_ne w1 ⟨g, 0, none⟩ c0
  have hlen : r.length + 1 ≤ 16777217 := by omega
  have hlen0 : 0 < r.length + 1 := by omega
  generalize r.length + 1 = n at *
  have q0 : (0 : Int) < (n : Int) := by omega
  go_wp2_with fail
  refine bodyPost_ret (v := .tuple #[.agg #[.slice none 0 0, .string (bs a0), .int .i64 0, .slice none 0 0], .bool false]) (by simp [results, Tryd.results38, go_sem, r0, r1, r2, r3, hz1]) rfl ⟨.slice none 0 0, rfl, World.ownsRow_nil _ _ _ _, ?_⟩
  repeat' (first | exact hbe | apply Below.drew | apply below_set0 | apply below_al)

end Go.Proofs.YtedkjanogjglkaaDoor.D


namespace Go.Proofs.YtedkjanogjglkaaDoor.D
open Go.RowKit

namespace Ref
open Go.Proofs.YtedkjanogjglkaaDoor.Ref
theorem wordsGo_bound : ∀ (l cur : List UInt8), wordsGo l cur ≠ [] ∧ (wordsGo l cur).length ≤ l.length + 1 ∧ ∀ x ∈ wordsGo l cur, x.length ≤ l.length + cur.length := by
  intro l
  induction l with
  | nil => intro cur; simp [wordsGo]
  | cons c t ih =>
    intro cur
    unfold wordsGo
    split
    · have h := ih []
      refine ⟨by simp, by simp; omega, fun x hx => ?_⟩
      rcases List.mem_cons.1 hx with rfl | hx
      · simp
      · have := h.2.2 x hx
        simp at this ⊢; omega
    · have h := ih (cur ++ [c])
      refine ⟨h.1, by simp; omega, fun x hx => ?_⟩
      have := h.2.2 x hx
      simp at this ⊢; omega

theorem words_bound (l : List UInt8) : words l ≠ [] ∧ (words l).length ≤ l.length + 1 ∧ ∀ x ∈ words l, x.length ≤ l.length := by
  have h := wordsGo_bound l []
  exact ⟨h.1, h.2.1, fun x hx => by have := h.2.2 x hx; simpa using this⟩
end Ref

/-- What comes out of 'value': the cells, the list's row, the old memory as it was. -/
def ValPost (w : World) (p : Ref.RVal × Bool) (e : Ending) (w' : World) : Prop :=
  ∃ a, e = .returned (.tuple #[.agg (valCells p.1 a), .bool p.2]) ∧ w'.ownsRow w.heap.size 3 1 a p.1.Args.length (ints p.1.Args) ∧ Below w.heap.size w w'

theorem value_any (s : ByteArray) (phis : Bool) (fb : Nat) (fargs : Int) (w : World) (hs : s.size ≤ 16777000) (hf : fb < w.heap.size) (hfc : w.cell? ⟨fb, 0, none⟩ = some (.int .i64 fargs)) :
    Calls Tryd.prog 37 #[.pointer (some ⟨fb, 0, none⟩), .string s, .bool phis] w (ValPost w (Ref.value fargs phis (bl s))) := by
  obtain ⟨_, hlen, hwl⟩ := Ref.words_bound (bl s)
  rw [bl_length] at hlen
  have hwl' : ∀ x ∈ Ref.words (bl s), x.length ≤ 16777216 := fun x hx => by have := hwl x hx; rw [bl_length] at this; omega
  unfold Ref.value
  generalize hws : Ref.words (bl s) = ws at *
  have HWS := hide hws
  have hs' : s.size ≤ 16777216 := by omega
  match ws, HWS, hlen, hwl' with
  | [], HWS, _, _ =>
    refine (value_short s phis ⟨fb, 0, none⟩ w hs' [] HWS (by simp)).mono ?_
    rintro e w' ⟨a, rfl, h1, h2⟩
    exact ⟨a, rfl, h1, h2⟩
  | [a0], HWS, _, _ =>
    refine (value_short s phis ⟨fb, 0, none⟩ w hs' [a0] HWS (by simp)).mono ?_
    rintro e w' ⟨a, rfl, h1, h2⟩
    exact ⟨a, rfl, h1, h2⟩
  | [a0, a1], HWS, _, _ =>
    refine (value_short s phis ⟨fb, 0, none⟩ w hs' [a0, a1] HWS (by simp)).mono ?_
    rintro e w' ⟨a, rfl, h1, h2⟩
    exact ⟨a, rfl, h1, h2⟩
  | a0 :: a1 :: a2 :: r, HWS, hlen, hwl' =>
    have hr : r.length ≤ 16777216 := by simp at hlen; omega
    have hl0 : a0.length ≤ 16777216 := hwl' a0 (by simp)
    have hlr : ∀ j (h : j < r.length), r[j].length ≤ 16777216 := fun j h => hwl' _ (by simp)
    by_cases h1 : a1 = [61]
    · subst h1
      have e0 : ¬ ((a0 :: [61] :: a2 :: r).length < 3 ∨ (a0 :: [61] :: a2 :: r).getD 1 [] ≠ [61]) := by simp
      by_cases hc : a2 = Ref.sConst
      · subst hc
        by_cases h4 : r.length = 1
        · match r, h4, hwl', HWS with
          | [a3], _, hwl', HWS =>
            refine (value_const s phis ⟨fb, 0, none⟩ w hs' a0 a3 HWS hl0 (hwl' a3 (by simp))).mono ?_
            rintro e w' ⟨a, rfl, g1, g2⟩
            exact ⟨a, rfl, g1, g2⟩
        · refine (value_constL s phis ⟨fb, 0, none⟩ w hs' a0 r HWS hl0 hr h4).mono ?_
          rintro e w' ⟨a, rfl, g1, g2⟩
          have hv : Ref.valueOf fargs phis (a0 :: [61] :: Ref.sConst :: r) = (⟨Ref.vnum a0, Ref.sConst, 0, []⟩, false) := by
            unfold Ref.valueOf
            rw [if_neg e0]
            simp [h4]
          rw [hv]
          exact ⟨a, rfl, g1, g2⟩
      · by_cases ha : a2 = Ref.sArg
        · subst ha
          by_cases h4 : r.length = 1
          · match r, h4, hwl', HWS with
            | [a3], _, hwl', HWS =>
              by_cases hV : 0 ≤ Ref.vnum a0
              · by_cases hN : 0 ≤ Ref.number a3
                · refine (value_arg s phis fb fargs w hs' hf hfc a0 a3 HWS hl0 (hwl' a3 (by simp)) hV hN).mono ?_
                  rintro e w' ⟨a, rfl, g1, g2⟩
                  have hv : Ref.valueOf fargs phis [a0, [61], Ref.sArg, a3] = (⟨Ref.vnum a0, Ref.sArg, Ref.number a3, []⟩, decide (Ref.number a3 < fargs)) := by
                    unfold Ref.valueOf
                    simp [Ref.sArg, Ref.sConst, hV, hN]
                  rw [hv]
                  exact ⟨a, rfl, g1, g2⟩
                · refine (value_argN s phis fb fargs w hs' hf hfc a0 a3 HWS hl0 (hwl' a3 (by simp)) hV hN).mono ?_
                  rintro e w' ⟨a, rfl, g1, g2⟩
                  have hv : Ref.valueOf fargs phis [a0, [61], Ref.sArg, a3] = (⟨Ref.vnum a0, Ref.sArg, Ref.number a3, []⟩, false) := by
                    unfold Ref.valueOf
                    simp [Ref.sArg, Ref.sConst, hN]
                  rw [hv]
                  exact ⟨a, rfl, g1, g2⟩
              · refine (value_argV s phis fb fargs w hs' hf hfc a0 a3 HWS hl0 (hwl' a3 (by simp)) hV).mono ?_
                rintro e w' ⟨a, rfl, g1, g2⟩
                have hv : Ref.valueOf fargs phis [a0, [61], Ref.sArg, a3] = (⟨Ref.vnum a0, Ref.sArg, Ref.number a3, []⟩, false) := by
                  unfold Ref.valueOf
                  simp [Ref.sArg, Ref.sConst, hV]
                rw [hv]
                exact ⟨a, rfl, g1, g2⟩
          · refine (value_argL s phis ⟨fb, 0, none⟩ w hs' a0 r HWS hl0 hr h4).mono ?_
            rintro e w' ⟨a, rfl, g1, g2⟩
            have hv : Ref.valueOf fargs phis (a0 :: [61] :: Ref.sArg :: r) = (⟨Ref.vnum a0, Ref.sArg, 0, []⟩, false) := by
              unfold Ref.valueOf
              rw [if_neg e0]
              simp [Ref.sArg, Ref.sConst, h4]
            rw [hv]
            exact ⟨a, rfl, g1, g2⟩
        · by_cases hp : a2 = Ref.sPhi
          · subst hp
            refine (value_phi s phis ⟨fb, 0, none⟩ w hs' a0 r HWS hl0 hr hlr).mono ?_
            rintro e w' ⟨a, rfl, g1, g2⟩
            have hv : Ref.valueOf fargs phis (a0 :: [61] :: Ref.sPhi :: r) = (⟨Ref.vnum a0, Ref.sPhi, 0, r.map Ref.vnum⟩, Ref.vAll (Ref.phiOk a0 phis) r) := by
              unfold Ref.valueOf
              rw [if_neg e0]
              simp [Ref.sArg, Ref.sConst, Ref.sPhi]
            rw [hv]
            exact ⟨a, rfl, by simpa using g1, g2⟩
          · refine (value_op s phis ⟨fb, 0, none⟩ w hs' a0 a2 r HWS hl0 hr hlr ⟨hc, ha, hp⟩).mono ?_
            rintro e w' ⟨a, rfl, g1, g2⟩
            have hv : Ref.valueOf fargs phis (a0 :: [61] :: a2 :: r) = (⟨Ref.vnum a0, a2, 0, r.map Ref.vnum⟩, Ref.vAll (Ref.opOk a0 a2 (r.length + 1 + 1 + 1)) r) := by
              unfold Ref.valueOf
              rw [if_neg e0]
              simp [hc, ha, hp]
            rw [hv]
            exact ⟨a, rfl, by simpa using g1, g2⟩
    · refine (value_noeq s phis ⟨fb, 0, none⟩ w hs' a0 a1 a2 r HWS hr h1).mono ?_
      rintro e w' ⟨a, rfl, g1, g2⟩
      have hv : Ref.valueOf fargs phis (a0 :: a1 :: a2 :: r) = (Ref.zeroVal, false) := by
        unfold Ref.valueOf
        rw [if_pos (Or.inr (by simpa using h1))]
      rw [hv]
      exact ⟨a, rfl, g1, g2⟩

/-- What comes out of 'last'. -/
def LastPost (w : World) (p : Ref.RLast × Bool) (e : Ending) (w' : World) : Prop :=
  ∃ a, e = .returned (.tuple #[.agg (lastCells p.1 a), .bool p.2]) ∧ w'.ownsRow w.heap.size 3 1 a p.1.To.length (ints p.1.To) ∧ Below w.heap.size w w'

theorem last_any (s : ByteArray) (w : World) (hs : s.size ≤ 16777000) :
    Calls Tryd.prog 38 #[.string s] w (LastPost w (Ref.last (bl s))) := by
  obtain ⟨hne, hlen, hwl⟩ := Ref.words_bound (bl s)
  rw [bl_length] at hlen
  have hwl' : ∀ x ∈ Ref.words (bl s), x.length ≤ 16777216 := fun x hx => by have := hwl x hx; rw [bl_length] at this; omega
  unfold Ref.last
  generalize hws : Ref.words (bl s) = ws at *
  have HWS := hide hws
  have hs' : s.size ≤ 16777216 := by omega
  match ws, HWS, hlen, hwl', hne with
  | [], _, _, _, hne => exact absurd rfl hne
  | a0 :: r, HWS, hlen, hwl', _ =>
    have hr : r.length ≤ 16777216 := by simp at hlen; omega
    by_cases h1 : a0 = Ref.sRet
    · subst h1
      by_cases h2 : r.length + 1 = 2
      · match r, h2, hwl', HWS with
        | [a1], _, hwl', HWS =>
          refine (last_ret s w hs' a1 HWS (hwl' a1 (by simp))).mono ?_
          rintro e w' ⟨a, rfl, g1, g2⟩
          exact ⟨a, rfl, g1, g2⟩
      · refine (last_no_ret s w hs' r HWS hr h2).mono ?_
        rintro e w' ⟨a, rfl, g1, g2⟩
        have hv : Ref.lastOf (Ref.sRet :: r) = (⟨Ref.sRet, 0, []⟩, false) := by
          unfold Ref.lastOf
          simp only [List.length_cons, List.getD_cons_zero, h2, and_false, if_false]
          simp [Ref.sRet, Ref.sIf]
        rw [hv]
        exact ⟨a, rfl, g1, g2⟩
    · by_cases h2 : a0 = Ref.sJump
      · subst h2
        by_cases h3 : r.length + 1 = 2
        · match r, h3, hwl', HWS with
          | [a1], _, hwl', HWS =>
            refine (last_jump s w hs' a1 HWS (hwl' a1 (by simp))).mono ?_
            rintro e w' ⟨a, rfl, g1, g2⟩
            exact ⟨a, rfl, g1, g2⟩
        · refine (last_no_jump s w hs' r HWS hr h3).mono ?_
          rintro e w' ⟨a, rfl, g1, g2⟩
          have hv : Ref.lastOf (Ref.sJump :: r) = (⟨Ref.sJump, 0, []⟩, false) := by
            unfold Ref.lastOf
            simp only [List.length_cons, List.getD_cons_zero, h3, and_false, if_false]
            simp [Ref.sJump, Ref.sIf]
          rw [hv]
          exact ⟨a, rfl, g1, g2⟩
      · by_cases h3 : a0 = Ref.sIf
        · subst h3
          by_cases h4 : r.length + 1 = 4
          · match r, h4, hwl', HWS with
            | [a1, a2, a3], _, hwl', HWS =>
              refine (last_if s w hs' a1 a2 a3 HWS (hwl' a1 (by simp)) (hwl' a2 (by simp)) (hwl' a3 (by simp))).mono ?_
              rintro e w' ⟨a, rfl, g1, g2⟩
              exact ⟨a, rfl, g1, g2⟩
          · refine (last_no_if s w hs' r HWS hr h4).mono ?_
            rintro e w' ⟨a, rfl, g1, g2⟩
            have hv : Ref.lastOf (Ref.sIf :: r) = (⟨Ref.sIf, 0, []⟩, false) := by
              unfold Ref.lastOf
              simp only [List.length_cons, List.getD_cons_zero, h4, and_false, if_false]
              simp [Ref.sRet, Ref.sJump, Ref.sIf]
            rw [hv]
            exact ⟨a, rfl, g1, g2⟩
        · refine (last_no_none s w hs' a0 r HWS hr ⟨h1, h2, h3⟩).mono ?_
          rintro e w' ⟨a, rfl, g1, g2⟩
          have hv : Ref.lastOf (a0 :: r) = (⟨a0, 0, []⟩, false) := by
            unfold Ref.lastOf
            simp [h1, h2, h3]
          rw [hv]
          exact ⟨a, rfl, g1, g2⟩
end Go.Proofs.YtedkjanogjglkaaDoor.D


namespace Go.Proofs.YtedkjanogjglkaaDoor.D
open Go.RowKit

theorem ch_byteOf (m : Nat) : Ref.ch (m % 10) = byteOf (48 + (m : Int) % 10) := by
  unfold Ref.ch byteOf
  congr 1

set_option maxRecDepth 100000 in
set_option maxHeartbeats 1000000 in
theorem digits_nat (n : Nat) (w : World) (hn : n < 4611686018427387904) :
    Calls Tryd.prog 36 #[.int .i64 n] w fun e w' => e = .returned (.string (bs (Ref.dec n))) ∧ Below w.heap.size w w' := by
  have hcv := conv1
  have hb1 : ∀ x, (bs [x]).size = 1 := fun x => bs_size [x]
  go_enter Tryd.func36, Tryd.ntmps36
  go_wp2
  go_loopw [0, 3] (fun a b wr => ∃ (m : Nat) (q : List UInt8), m ≤ n ∧ a = .int .i64 m ∧ b = .string (bs (Ref.ch (m % 10) :: q)) ∧ q.length + m ≤ n ∧ Below w.heap.size w wr ∧ Hid (Ref.dec m ++ q = Ref.dec n))
    (fun a _ _ => (intOf a).toNat)
  case atStart => exact ⟨n, [], by omega, rfl, by rw [ch_byteOf], by simp, (Below.refl _ _).alloc (Nat.le_refl _) _, by simp [Hid]⟩
  case round =>
    obtain ⟨m, q, hm, rfl, rfl, hq, hbel, hsp⟩ := hrel
    have hsz := hbel.size
    have hbz := bs_size (Ref.ch (m % 10) :: q)
    simp only [List.length_cons] at hbz
    by_cases h10 : 10 ≤ m
    · have HS : Hid (Ref.dec (m / 10) ++ (Ref.ch (m % 10) :: q) = Ref.dec n) := by
        rw [← hsp.out, Ref.dec_big h10, List.append_assoc]; rfl
      clear hsp
      generalize hb : bs (Ref.ch (m % 10) :: q) = t at *
      have HB := hide hb
      clear hb
      have hts : t.size ≤ 9223372036854775000 := by omega
      clear hbz
      go_wp2
      refine ⟨⟨m / 10, Ref.ch (m % 10) :: q, by omega, by go_num, ?_, by simp; omega, hbel.alloc hsz _, HS⟩, by simp [intOf]; omega⟩
      rw [← HB.out, bs_append, ch_byteOf]; rfl
    · have HS : Hid (Ref.ch (m % 10) :: q = Ref.dec n) := by
        rw [← hsp.out, Ref.dec_small (by omega)]; rfl
      clear hsp
      rw [HS.out]
      go_wp2
      go_ret
      exact ⟨rfl, hbel⟩

set_option maxRecDepth 100000 in
set_option maxHeartbeats 1000000 in
theorem digits_any (n : Int) (w : World) (hn : -4611686018427387904 < n ∧ n < 4611686018427387904) :
    Calls Tryd.prog 36 #[.int .i64 n] w fun e w' => e = .returned (.string (bs (Ref.digits n))) ∧ Below w.heap.size w w' := by
  obtain ⟨hn1, hn2⟩ := hn
  by_cases h : n < 0
  · have HF : Hid (Ref.digits n = 45 :: Ref.dec (-n).toNat) := by simp only [Hid, Ref.digits, if_pos h]
    have hm : ((-n).toNat : Int) = -n := by omega
    have hsz := Ref.dec_length (-n).toNat (by omega)
    go_enter Tryd.func36, Tryd.ntmps36
    go_wp2_with fail
    rw [← hm]
    refine (digits_nat (-n).toNat w (by omega)).mono ?_
    rintro e w' ⟨rfl, hb⟩
    have hbz := bs_size (Ref.dec (-n).toNat)
    clear hm
    generalize hT : bs (Ref.dec (-n).toNat) = t at *
    have HT := hide hT
    clear hT
    go_wp2
    go_ret
    exact ⟨congrArg (fun x => Ending.returned (.string x)) (by rw [HF.out, ← HT.out]; exact bs_append [45] _), hb⟩
  · have HF : Hid (Ref.digits n = Ref.dec n.toNat) := by simp only [Hid, Ref.digits, if_neg h]
    have hm : (n.toNat : Int) = n := by omega
    have h2 := digits_nat n.toNat w (by omega)
    rw [hm] at h2
    rw [HF.out]
    exact h2
end Go.Proofs.YtedkjanogjglkaaDoor.D


namespace Go.Proofs.YtedkjanogjglkaaDoor.D
open Go.RowKit

def ValsB (w : World) (base : Nat) (v : Value) (l : List Ref.RVal) : Prop :=
  ∃ cs, w.ownsRow base 58 4 v l.length cs ∧ ∀ k (h : k < l.length), ∃ a, cs[k * 4]? = some (.int .i64 l[k].V) ∧ cs[k * 4 + 1]? = some (.string (bs l[k].Op)) ∧ cs[k * 4 + 2]? = some (.int .i64 l[k].N) ∧ cs[k * 4 + 3]? = some a ∧
    w.ownsRow base 3 1 a l[k].Args.length (ints l[k].Args)

def BlksB (w : World) (base : Nat) (v : Value) (l : List Ref.RBlk) : Prop :=
  ∃ cs, w.ownsRow base 55 4 v l.length cs ∧ ∀ i (h : i < l.length), ∃ vs to, cs[i * 4]? = some vs ∧ cs[i * 4 + 1]? = some (.string (bs l[i].Last)) ∧ cs[i * 4 + 2]? = some (.int .i64 l[i].V) ∧ cs[i * 4 + 3]? = some to ∧
    ValsB w base vs l[i].Values ∧ w.ownsRow base 3 1 to l[i].To.length (ints l[i].To)

theorem ValsB.rep {w : World} {base : Nat} {v : Value} {l : List Ref.RVal} (h : ValsB w base v l) : RepVals w v l := by
  obtain ⟨cs, h1, h2⟩ := h
  refine ⟨cs, own_base h1 (Nat.zero_le _), fun k hk => ?_⟩
  obtain ⟨a, g0, g1, g2, g3, g4⟩ := h2 k hk
  exact ⟨a, g0, g1, g2, g3, own_base g4 (Nat.zero_le _)⟩

theorem BlksB.rep {w : World} {base : Nat} {v : Value} {l : List Ref.RBlk} (h : BlksB w base v l) : RepBlks w v l := by
  obtain ⟨cs, h1, h2⟩ := h
  refine ⟨cs, own_base h1 (Nat.zero_le _), fun k hk => ?_⟩
  obtain ⟨a, b, g0, g1, g2, g3, g4, g5⟩ := h2 k hk
  exact ⟨a, b, g0, g1, g2, g3, g4.rep, own_base g5 (Nat.zero_le _)⟩

theorem ValsB.mono {w w' : World} {base base' : Nat} {v : Value} {l : List Ref.RVal} (h : ValsB w base v l) (hv : ∀ r n xs, w.ownsRow base 58 4 r n xs → w'.ownsRow base' 58 4 r n xs)
    (hk : ∀ r n xs, w.ownsRow base 3 1 r n xs → w'.ownsRow base' 3 1 r n xs) : ValsB w' base' v l := by
  obtain ⟨cs, h1, h2⟩ := h
  refine ⟨cs, hv _ _ _ h1, fun k hk' => ?_⟩
  obtain ⟨a, g0, g1, g2, g3, g4⟩ := h2 k hk'
  exact ⟨a, g0, g1, g2, g3, hk _ _ _ g4⟩

theorem BlksB.mono {w w' : World} {base base' : Nat} {v : Value} {l : List Ref.RBlk} (h : BlksB w base v l) (hb : ∀ r n xs, w.ownsRow base 55 4 r n xs → w'.ownsRow base' 55 4 r n xs)
    (hv : ∀ r n xs, w.ownsRow base 58 4 r n xs → w'.ownsRow base' 58 4 r n xs) (hk : ∀ r n xs, w.ownsRow base 3 1 r n xs → w'.ownsRow base' 3 1 r n xs) : BlksB w' base' v l := by
  obtain ⟨cs, h1, h2⟩ := h
  refine ⟨cs, hb _ _ _ h1, fun k hk' => ?_⟩
  obtain ⟨a, b, g0, g1, g2, g3, g4, g5⟩ := h2 k hk'
  exact ⟨a, b, g0, g1, g2, g3, g4.mono hv hk, hk _ _ _ g5⟩

theorem ValsB.below {w w' : World} {base : Nat} {v : Value} {l : List Ref.RVal} (h : ValsB w base v l) (hb : Below w.heap.size w w') : ValsB w' base v l :=
  h.mono (fun _ _ _ h => own_below h hb) (fun _ _ _ h => own_below h hb)

theorem BlksB.below {w w' : World} {base : Nat} {v : Value} {l : List Ref.RBlk} (h : BlksB w base v l) (hb : Below w.heap.size w w') : BlksB w' base v l :=
  h.mono (fun _ _ _ h => own_below h hb) (fun _ _ _ h => own_below h hb) (fun _ _ _ h => own_below h hb)

theorem ValsB.snoc {w w3 : World} {base : Nat} {v v' : Value} {l : List Ref.RVal} {cs : List Value} {y : Ref.RVal} {a : Value}
    (hown : w.ownsRow base 58 4 v l.length cs)
    (hcs : ∀ k (h : k < l.length), ∃ a, cs[k * 4]? = some (.int .i64 l[k].V) ∧ cs[k * 4 + 1]? = some (.string (bs l[k].Op)) ∧ cs[k * 4 + 2]? = some (.int .i64 l[k].N) ∧ cs[k * 4 + 3]? = some a ∧ w.ownsRow base 3 1 a l[k].Args.length (ints l[k].Args))
    (hown' : w3.ownsRow base 58 4 v' (l.length + 1) (cs ++ [.int .i64 y.V, .string (bs y.Op), .int .i64 y.N, a])) (ha : w.ownsRow base 3 1 a y.Args.length (ints y.Args)) (hg : w.grownBy w3 v.ownBlock) : ValsB w3 base v' (l ++ [y]) := by
  have hk : ∀ r n xs, w.ownsRow base 3 1 r n xs → w3.ownsRow base 3 1 r n xs := fun r n xs h => own_grown hown h (by decide) hg
  have hlen := own_len hown
  refine ⟨_, by simpa using hown', fun i hi => ?_⟩
  by_cases hlt : i < l.length
  · obtain ⟨t, g0, g1, g2, g3, g4⟩ := hcs i hlt
    rw [List.getElem_append_left hlt]
    refine ⟨t, ?_, ?_, ?_, ?_, hk _ _ _ g4⟩
    · rw [List.getElem?_append_left (by omega)]; exact g0
    · rw [List.getElem?_append_left (by omega)]; exact g1
    · rw [List.getElem?_append_left (by omega)]; exact g2
    · rw [List.getElem?_append_left (by omega)]; exact g3
  · have hi' : i = l.length := by simp at hi; omega
    subst hi'
    refine ⟨a, ?_, ?_, ?_, ?_, ?_⟩
    · rw [List.getElem?_append_right (by omega), hlen]; simp
    · rw [List.getElem?_append_right (by omega), hlen]; simp
    · rw [List.getElem?_append_right (by omega), hlen]; simp
    · rw [List.getElem?_append_right (by omega), hlen]; simp
    · simpa using hk _ _ _ ha

theorem BlksB.snoc {w w3 : World} {base : Nat} {v v' : Value} {l : List Ref.RBlk} {cs : List Value} {y : Ref.RBlk} {vs to : Value}
    (hown : w.ownsRow base 55 4 v l.length cs)
    (hcs : ∀ i (h : i < l.length), ∃ vs to, cs[i * 4]? = some vs ∧ cs[i * 4 + 1]? = some (.string (bs l[i].Last)) ∧ cs[i * 4 + 2]? = some (.int .i64 l[i].V) ∧ cs[i * 4 + 3]? = some to ∧ ValsB w base vs l[i].Values ∧ w.ownsRow base 3 1 to l[i].To.length (ints l[i].To))
    (hown' : w3.ownsRow base 55 4 v' (l.length + 1) (cs ++ [vs, .string (bs y.Last), .int .i64 y.V, to])) (hvs : ValsB w base vs y.Values) (hto : w.ownsRow base 3 1 to y.To.length (ints y.To)) (hg : w.grownBy w3 v.ownBlock) : BlksB w3 base v' (l ++ [y]) := by
  have hk : ∀ r n xs, w.ownsRow base 3 1 r n xs → w3.ownsRow base 3 1 r n xs := fun r n xs h => own_grown hown h (by decide) hg
  have hk2 : ∀ r n xs, w.ownsRow base 58 4 r n xs → w3.ownsRow base 58 4 r n xs := fun r n xs h => own_grown hown h (by decide) hg
  have hlen := own_len hown
  refine ⟨_, by simpa using hown', fun i hi => ?_⟩
  by_cases hlt : i < l.length
  · obtain ⟨t, u, g0, g1, g2, g3, g4, g5⟩ := hcs i hlt
    rw [List.getElem_append_left hlt]
    refine ⟨t, u, ?_, ?_, ?_, ?_, g4.mono hk2 hk, hk _ _ _ g5⟩
    · rw [List.getElem?_append_left (by omega)]; exact g0
    · rw [List.getElem?_append_left (by omega)]; exact g1
    · rw [List.getElem?_append_left (by omega)]; exact g2
    · rw [List.getElem?_append_left (by omega)]; exact g3
  · have hi' : i = l.length := by simp at hi; omega
    subst hi'
    refine ⟨vs, to, ?_, ?_, ?_, ?_, ?_, ?_⟩
    · rw [List.getElem?_append_right (by omega), hlen]; simp
    · rw [List.getElem?_append_right (by omega), hlen]; simp
    · rw [List.getElem?_append_right (by omega), hlen]; simp
    · rw [List.getElem?_append_right (by omega), hlen]; simp
    · simpa using hvs.mono hk2 hk
    · simpa using hk _ _ _ hto

theorem cells_new (w : World) (C : List Value) (t : TypeId) : ∀ j u, C[j]? = some u → (w.alloc (.cells C.toArray t)).cell? ((⟨w.heap.size, 0, none⟩ : Addr).add j) = some u := by
  intro j u hj
  rw [addr_add]
  exact blk_cell (heap_alloc_new w _) j u (by simpa using hj)

theorem infoRVal : (Tryd.prog.info? 58).map (fun i => (i.zero, i.size, i.bytes)) = some (some (.agg #[.int .i64 0, .string ByteArray.empty, .int .i64 0, .slice none 0 0]), 4, 56) := by kernel_rfl
theorem infoRBlk : (Tryd.prog.info? 55).map (fun i => (i.zero, i.size, i.bytes)) = some (some (.agg #[.slice none 0 0, .string ByteArray.empty, .int .i64 0, .slice none 0 0]), 4, 72) := by kernel_rfl
end Go.Proofs.YtedkjanogjglkaaDoor.D
