/-
  Parts of the proof: CMach, CVals, CWeight, RPlain, RPlain2, RState.
-/
import Derived.Test.YtedkjanogjglkaaGreatDoorP07
set_option maxRecDepth 100000
set_option maxHeartbeats 8000000
namespace Go.Proofs.YtedkjanogjglkaaGreatDoor
open Go.RowKit
def i32s (l : List Int) : List Value := l.map fun n => .int .i32 n
theorem i32s_length (l : List Int) : (i32s l).length = l.length := by simp [i32s]
def machL (av : Value) (V : List Int) (st fu : Nat) : List Value := av :: (i32s V ++ [.int .i64 (st : Nat), .int .i64 (fu : Nat)])
def Mach (w : World) (mb : Nat) (av : Value) (V : List Int) (st fu : Nat) : Prop := w.heap[mb]? = some (.cells (machL av V st fu).toArray 193)
theorem Mach.args {w : World} {mb : Nat} {av : Value} {V : List Int} {st fu : Nat} (h : Mach w mb av V st fu) : w.cell? ⟨mb, 0, none⟩ = some av := blk_cell h 0 _ (by simp [machL])
theorem Mach.val {w : World} {mb : Nat} {av : Value} {V : List Int} {st fu : Nat} (h : Mach w mb av V st fu) (x : Nat) (hx : x < V.length) : w.cell? ⟨mb, 1 + x, none⟩ = some (.int .i32 V[x]) := by
 refine blk_cell h _ _ ?_
 rw [Nat.add_comm, List.getElem?_toArray, machL, List.getElem?_cons_succ, List.getElem?_append_left (by rw [i32s_length]; exact hx)]
 simp [i32s, hx]
theorem Mach.steps {w : World} {mb : Nat} {av : Value} {V : List Int} {st fu : Nat} (h : Mach w mb av V st fu) (hV : V.length = 60) : w.cell? ⟨mb, 61, none⟩ = some (.int .i64 (st : Nat)) := by
 refine blk_cell h _ _ ?_
 rw [List.getElem?_toArray, machL, List.getElem?_cons_succ, List.getElem?_append_right (by rw [i32s_length]; omega), i32s_length, hV]
 rfl
theorem Mach.fuel {w : World} {mb : Nat} {av : Value} {V : List Int} {st fu : Nat} (h : Mach w mb av V st fu) (hV : V.length = 60) : w.cell? ⟨mb, 62, none⟩ = some (.int .i64 (fu : Nat)) := by
 refine blk_cell h _ _ ?_
 rw [List.getElem?_toArray, machL, List.getElem?_cons_succ, List.getElem?_append_right (by rw [i32s_length]; omega), i32s_length, hV]
 rfl
theorem Mach.setVal {w : World} {mb : Nat} {av : Value} {V : List Int} {st fu : Nat} (h : Mach w mb av V st fu) (x : Nat) (hx : x < V.length) (n : Int) : Mach (w.setCell ⟨mb, 1 + x, none⟩ (.int .i32 n)) mb av (V.set x n) st fu := by
 unfold Mach at *
 rw [set_block h, List.setIfInBounds_toArray]
 congr 3
 rw [Nat.add_comm, machL, machL, List.set_cons_succ, List.set_append_left _ _ (by rw [i32s_length]; exact hx)]
 simp [i32s, List.map_set]
theorem Mach.setSteps {w : World} {mb : Nat} {av : Value} {V : List Int} {st fu : Nat} (h : Mach w mb av V st fu) (hV : V.length = 60) (st' : Nat) : Mach (w.setCell ⟨mb, 61, none⟩ (.int .i64 (st' : Nat))) mb av V st' fu := by
 unfold Mach at *
 rw [set_block h, List.setIfInBounds_toArray]
 congr 3
 rw [machL, machL, List.set_cons_succ, List.set_append_right _ _ (by rw [i32s_length]; omega), i32s_length, hV]
 rfl
theorem grownN {w w' : World} {r : Option Nat} (h : w.grownBy w' r) (n : Nat) : w.grownBy (w'.drewN n) r := ⟨h.os, h.tape, h.output, h.size, h.block⟩
theorem step_any (mb : Nat) (av : Value) (V : List Int) (st fu : Nat) (w : World) (hm : Mach w mb av V st fu) (hV : V.length = 60) (hf : fu <= 100000) :
  Calls Tryz.prog 142 #[.pointer (some ⟨mb, 0, none⟩)] w fun e w' =>
   w.grownBy w' (some mb) /\ ((st < fu /\ e = .returned (.bool true) /\ Mach w' mb av V (st + 1) fu) \/ (fu <= st /\ e = .returned (.bool false) /\ Mach w' mb av V st fu)) := by
 have c61 := hm.steps hV
 have c62 := hm.fuel hV
 have fz := blk_froz hm 61
 by_cases hlt : st < fu
 ·have h1 : ¬ (fu : Int) <= (st : Int) := by omega
  go_enter Tryz.func142, Tryz.ntmps142
  go_wp2_with fail
  go_quiet (fail)
  go_wp2
  go_ret
  refine ⟨grown_trans (grownN (grown_refl _ _) _) (grown_set _ _ _ _), Or.inl ⟨hlt, rfl, ?_⟩⟩
  have h := Mach.setSteps (w := w.drewN nq) hm hV (st + 1)
  rw [show ((st + 1 : Nat) : Int) = (st : Int) + 1 by omega] at h
  exact h
 ·have h1 : (fu : Int) <= (st : Int) := by omega
  go_enter Tryz.func142, Tryz.ntmps142
  go_wp2_with fail
  go_quiet (fail)
  go_wp2
  go_ret
  exact ⟨grownN (grown_refl _ _) _, Or.inr ⟨by omega, rfl, hm⟩⟩
def In32 (V : List Int) : Prop := ∀ x ∈ V, -2147483648 <= x /\ x < 2147483648
theorem In32.get {V : List Int} (h : In32 V) (x : Nat) (hx : x < V.length) : -2147483648 <= V[x] /\ V[x] < 2147483648 := h _ (List.getElem_mem hx)
theorem mreckon_any (mb : Nat) (av : Value) (V : List Int) (st fu : Nat) (k : Nat) (of : List Nat) (v : Value) (base : Nat) (w : World) (hm : Mach w mb av V st fu) (hV : V.length = 60) (h32 : In32 V) (hk : k < 13) (ho : w.ownsRow base 3 1 v of.length (nats of)) (hl : 0 < of.length) (hl2 : of.length <= 100000) (h60 : ∀ x ∈ of, x < 60) :
  Calls Tryz.prog 181 #[.pointer (some ⟨mb, 0, none⟩), .agg #[.int .i64 (k : Nat), v]] w fun e w' =>
   Below w.heap.size w w' /\ ((∃ n, Code.reckon k (V.getD (of.getD 0 0) 0) (V.getD (of.getD (of.length - 1) 0) 0) = some n /\ e = .returned (.tuple #[.int .i32 n, .bool true])) \/
    (Code.reckon k (V.getD (of.getD 0 0) 0) (V.getD (of.getD (of.length - 1) 0) 0) = none /\ e = .returned (.tuple #[.int .i32 0, .bool false]))) := by
 obtain ⟨p, c, rfl, hval⟩ := nats_open ho
 obtain ⟨g, rfl, o0⟩ := hval 0 hl
 obtain ⟨g', hge, o1⟩ := hval (of.length - 1) (by omega)
 simp only [Option.some.injEq, Addr.mk.injEq, and_true] at hge
 subst hge
 have q0 : of[0] < 60 := h60 _ (List.getElem_mem hl)
 have hl1 : of.length - 1 < of.length := by omega
 have q1 : of[of.length - 1] < 60 := h60 _ (List.getElem_mem hl1)
 have m0 := hm.val of[0] (by omega)
 have m1 := hm.val of[of.length - 1] (by omega)
 have HR := hide (reckon_any k hk V[of[0]] V[of[of.length - 1]] · (h32.get _ _).1 (h32.get _ _).2 (h32.get _ _).1 (h32.get _ _).2)
 have e0 : V.getD (of.getD 0 0) 0 = V[of[0]] := by rw [List.getD_eq_getElem?_getD, List.getD_eq_getElem?_getD, List.getElem?_eq_getElem hl, Option.getD_some, List.getElem?_eq_getElem (by omega), Option.getD_some]
 have e1 : V.getD (of.getD (of.length - 1) 0) 0 = V[of[of.length - 1]] := by rw [List.getD_eq_getElem?_getD, List.getD_eq_getElem?_getD, List.getElem?_eq_getElem hl1, Option.getD_some, List.getElem?_eq_getElem (by omega), Option.getD_some]
 rw [e0, e1]
 clear e0 e1 hval
 have hgl : g < w.heap.size := by
  cases hh : w.heap[g]? with
  | none => simp [World.cell?, hh] at o0
  | some o => exact lt_of_block hh
 have hml := lt_of_block hm
 have q0' : ((of[0] : Nat) : Int) < 60 := by omega
 have q1' : ((of[of.length - 1] : Nat) : Int) < 60 := by omega
 generalize V[of[0]] = a at *
 generalize V[of[of.length - 1]] = b at *
 generalize of[0] = x0 at *
 generalize of[of.length - 1] = x1 at *
 generalize of.length = n at *
 have hn1 : (0 : Int) < (n : Int) := by omega
 have hn2 : (n : Int) - 1 < (n : Int) := by omega
 have hn3 : (0 : Int) <= (n : Int) - 1 := by omega
 have hn4 : ((n : Int) - 1).toNat = n - 1 := by omega
 go_enter Tryz.func181, Tryz.ntmps181
 go_wp2_with fail
 go_quiet (fail)
 go_wp2_with fail
 go_quiet (fail)
 go_wp2_with fail
 generalize hw1 : World.drewN _ _ = w1
 have hb1 : Below w.heap.size w w1 := by rw [<- hw1]; exact belowN (below_al (Below.refl _ _) _) _
 clear hw1
 refine (HR.out w1).mono ?_
 rintro e w1 ⟨⟨r, hc, rfl⟩ | ⟨hc, rfl⟩, rfl⟩
 ·have HC := hide hc
  clear hc
  go_wp2
  go_ret2
  exact ⟨hb1, Or.inl ⟨r, HC.out, rfl⟩⟩
 ·have HC := hide hc
  clear hc
  go_wp2
  go_ret2
  exact ⟨hb1, Or.inr ⟨HC.out, rfl⟩⟩
namespace Code
def comes (args V0 V : List Int) (place : Nat) : Thing -> Option Int
 | .phi of => some (V0.getD (of.getD place 0) 0)
 | .arg n => some (wrap32 (args.getD n 0))
 | .const n => some n
 | .apply k of => reckon k (V.getD (of.getD 0 0) 0) (V.getD (of.getD (of.length - 1) 0) 0)
inductive Out where
 | ok (V : List Int) (st : Nat)
 | fuel (V : List Int) (st : Nat)
 | trap (V : List Int) (st : Nat)
def runVals (args V0 : List Int) (place fu : Nat) : List Val -> List Int -> Nat -> Out
 | [], V, st => .ok V st
 | v :: l, V, st => if st < fu then (match comes args V0 V place v.thing with
  | some n => runVals args V0 place fu l (V.set v.num n) (st + 1)
  | none => .trap V (st + 1)) else .fuel V st
theorem runVals_fuel {args V0 : List Int} {place fu : Nat} {v : Val} {l : List Val} {V : List Int} {st : Nat} (h : fu <= st) : runVals args V0 place fu (v :: l) V st = .fuel V st := by
 have : ¬ st < fu := by omega
 simp only [runVals, if_neg this]
theorem runVals_on {args V0 : List Int} {place fu : Nat} {v : Val} {l : List Val} {V : List Int} {st : Nat} {n : Int} (h : st < fu) (hc : comes args V0 V place v.thing = some n) :
  runVals args V0 place fu (v :: l) V st = runVals args V0 place fu l (V.set v.num n) (st + 1) := by
 simp only [runVals, if_pos h, hc]
theorem runVals_trap {args V0 : List Int} {place fu : Nat} {v : Val} {l : List Val} {V : List Int} {st : Nat} (h : st < fu) (hc : comes args V0 V place v.thing = none) : runVals args V0 place fu (v :: l) V st = .trap V (st + 1) := by
 simp only [runVals, if_pos h, hc]
def Fits (args : List Int) (place : Nat) (v : Val) : Prop := v.num < 60 /\ match v.thing with
 | .phi of => ∃ h : place < of.length, of[place] < 60
 | .arg n => n < args.length
 | .const n => -2147483648 <= n /\ n < 2147483648
 | .apply k of => k < 13 /\ 0 < of.length /\ of.length <= 100000 /\ ∀ x ∈ of, x < 60
end Code
theorem ints_open {w : World} {base : Nat} {v : Value} {l : List Int} (h : w.ownsRow base 3 1 v l.length (ints l)) :
  ∃ p cap, v = .slice p l.length cap /\ ∀ k (h : k < l.length), ∃ g, p = some ⟨g, 0, none⟩ /\ w.cell? ⟨g, k, none⟩ = some (.int .i64 l[k]) := by
 obtain ⟨p, cap, hv⟩ := own_slice h
 refine ⟨p, cap, hv, fun k hk => ?_⟩
 obtain ⟨g, cap', hv', _, _, hc⟩ := row_open h (by omega)
 rw [hv] at hv'
 simp only [Value.slice.injEq] at hv'
 exact ⟨g, hv'.1, hc _ _ (ints_get l k hk)⟩
theorem In32.getD {V : List Int} (h : In32 V) (x : Nat) : -2147483648 <= V.getD x 0 /\ V.getD x 0 < 2147483648 := by
 rw [List.getD_eq_getElem?_getD]
 by_cases hx : x < V.length
 ·rw [List.getElem?_eq_getElem hx]; exact h.get x hx
 ·rw [List.getElem?_eq_none (by omega)]; simp
theorem wrap32_in32 (x : Int) : -2147483648 <= wrap32 x /\ wrap32 x < 2147483648 := by unfold wrap32; omega
theorem bits_in32 (o : BinOp) (a b : Int) : -2147483648 <= bits o .i32 a b /\ bits o .i32 a b < 2147483648 := by
 have h : ∃ x, bits o .i32 a b = IntKind.i32.wrap x := ⟨_, rfl⟩
 obtain ⟨x, h⟩ := h
 rw [h, IntKind.wrap_i32]
 omega
theorem shr_in32 (a : Int) (n : Nat) (ha : -2147483648 <= a /\ a < 2147483648) : -2147483648 <= a / 2 ^ n /\ a / 2 ^ n < 2147483648 := by
 have hd : (0 : Int) < 2 ^ n := Int.pow_pos (by omega)
 generalize (2 : Int) ^ n = d at hd
 rcases Int.lt_or_le a 0 with h | h
 ·have h1 : a <= a / d := by
   apply Int.le_ediv_of_mul_le hd
   have := Int.mul_le_mul_of_nonpos_left (a := a) (b := d) (c := 1) (by omega) (by omega)
   omega
  have h2 : a / d < 0 := Int.ediv_neg_of_neg_of_pos h hd
  omega
 ·have h1 : a / d <= a := Int.ediv_le_self d h
  have h2 : 0 <= a / d := Int.ediv_nonneg h (by omega)
  omega
theorem reckon_in32 {k : Nat} {a b n : Int} (h : Code.reckon k a b = some n) (ha : -2147483648 <= a /\ a < 2147483648) (_hb : -2147483648 <= b /\ b < 2147483648) : -2147483648 <= n /\ n < 2147483648 := by
 have ht : ∀ c : Bool, -2147483648 <= Code.truth c /\ Code.truth c < 2147483648 := by decide
 unfold Code.reckon at h
 split at h
 all_goals first
  | (cases h; first | exact wrap32_in32 _ | exact bits_in32 _ _ _ | exact ht _ | exact shr_in32 _ _ ha)
  | (split at h <;> first | (cases h; done) | (cases h; exact wrap32_in32 _))
def i32Row (w : World) (g : Nat) (V : List Int) : Prop := w.heap[g]? = some (.cells (i32s V).toArray 191)
theorem i32Row.cell {w : World} {g : Nat} {V : List Int} (h : i32Row w g V) (i : Nat) (hi : i < V.length) : w.cell? ⟨g, i, none⟩ = some (.int .i32 V[i]) :=
 blk_cell h i _ (by simp [i32s, hi])
theorem Mach.range {w : World} {mb : Nat} {av : Value} {V : List Int} {st fu : Nat} (h : Mach w mb av V st fu) : w.rangeAt mb 1 (i32s V) := by
 intro j v hv
 have hj : j < V.length := by have := (List.getElem?_eq_some_iff.1 hv).1; rwa [i32s_length] at this
 rw [h.val j hj]
 simpa [i32s, hj] using hv
theorem i32One (V : List Int) : (i32s V).toArray.all (·.oneCell') = true := all_oneCell_toArray (fun v hv => by
 obtain ⟨b, _, rfl⟩ := List.mem_map.1 hv
 rfl)
theorem i32Size (V : List Int) (h : V.length = 60) : (Tryz.prog.info? 191).map (·.size) = some (i32s V).length := by
 rw [i32s_length, h]; kernel_rfl
theorem i32Size' (V : List Int) (h : V.length = 60) : (Tryz.prog.info? 191).map (·.size) = some (i32s V).toArray.size := by
 rw [List.size_toArray]; exact i32Size V h
theorem newI32 (w : World) (V : List Int) (h : V.length = 60) : i32Row ((w.alloc (.cells #[.int .i32 0, .int .i32 0, .int .i32 0, .int .i32 0, .int .i32 0, .int .i32 0, .int .i32 0, .int .i32 0, .int .i32 0, .int .i32 0, .int .i32 0, .int .i32 0, .int .i32 0, .int .i32 0, .int .i32 0, .int .i32 0, .int .i32 0, .int .i32 0, .int .i32 0, .int .i32 0, .int .i32 0, .int .i32 0, .int .i32 0, .int .i32 0, .int .i32 0, .int .i32 0, .int .i32 0, .int .i32 0, .int .i32 0, .int .i32 0, .int .i32 0, .int .i32 0, .int .i32 0, .int .i32 0, .int .i32 0, .int .i32 0, .int .i32 0, .int .i32 0, .int .i32 0, .int .i32 0, .int .i32 0, .int .i32 0, .int .i32 0, .int .i32 0, .int .i32 0, .int .i32 0, .int .i32 0, .int .i32 0, .int .i32 0, .int .i32 0, .int .i32 0, .int .i32 0, .int .i32 0, .int .i32 0, .int .i32 0, .int .i32 0, .int .i32 0, .int .i32 0, .int .i32 0, .int .i32 0] 191)).setCells w.heap.size 0 (i32s V)) w.heap.size V /\ (w.alloc (.cells #[.int .i32 0, .int .i32 0, .int .i32 0, .int .i32 0, .int .i32 0, .int .i32 0, .int .i32 0, .int .i32 0, .int .i32 0, .int .i32 0, .int .i32 0, .int .i32 0, .int .i32 0, .int .i32 0, .int .i32 0, .int .i32 0, .int .i32 0, .int .i32 0, .int .i32 0, .int .i32 0, .int .i32 0, .int .i32 0, .int .i32 0, .int .i32 0, .int .i32 0, .int .i32 0, .int .i32 0, .int .i32 0, .int .i32 0, .int .i32 0, .int .i32 0, .int .i32 0, .int .i32 0, .int .i32 0, .int .i32 0, .int .i32 0, .int .i32 0, .int .i32 0, .int .i32 0, .int .i32 0, .int .i32 0, .int .i32 0, .int .i32 0, .int .i32 0, .int .i32 0, .int .i32 0, .int .i32 0, .int .i32 0, .int .i32 0, .int .i32 0, .int .i32 0, .int .i32 0, .int .i32 0, .int .i32 0, .int .i32 0, .int .i32 0, .int .i32 0, .int .i32 0, .int .i32 0, .int .i32 0] 191)).there w.heap.size 0 60 := by
 have hnew := heap_alloc_new w (.cells #[.int .i32 0, .int .i32 0, .int .i32 0, .int .i32 0, .int .i32 0, .int .i32 0, .int .i32 0, .int .i32 0, .int .i32 0, .int .i32 0, .int .i32 0, .int .i32 0, .int .i32 0, .int .i32 0, .int .i32 0, .int .i32 0, .int .i32 0, .int .i32 0, .int .i32 0, .int .i32 0, .int .i32 0, .int .i32 0, .int .i32 0, .int .i32 0, .int .i32 0, .int .i32 0, .int .i32 0, .int .i32 0, .int .i32 0, .int .i32 0, .int .i32 0, .int .i32 0, .int .i32 0, .int .i32 0, .int .i32 0, .int .i32 0, .int .i32 0, .int .i32 0, .int .i32 0, .int .i32 0, .int .i32 0, .int .i32 0, .int .i32 0, .int .i32 0, .int .i32 0, .int .i32 0, .int .i32 0, .int .i32 0, .int .i32 0, .int .i32 0, .int .i32 0, .int .i32 0, .int .i32 0, .int .i32 0, .int .i32 0, .int .i32 0, .int .i32 0, .int .i32 0, .int .i32 0, .int .i32 0] 191)
 constructor
 ·obtain ⟨C', h1, h2, h3, h4, h5⟩ := setCells_block w.heap.size (i32s V) 0 _ _ hnew (by rw [i32s_length, h]; decide)
  unfold i32Row
  rw [h1]
  congr 2
  apply Array.ext_getElem?
  intro j
  by_cases hj : j < (i32s V).length
  ·have := h4 j hj
   rw [Nat.zero_add] at this
   rw [this]; simp
  ·rw [i32s_length] at hj
   rw [Array.getElem?_eq_none (by rw [h2]; show 60 <= j; omega), Array.getElem?_eq_none (by rw [List.size_toArray, i32s_length]; omega)]
 ·intro j hj
  rw [Nat.zero_add]
  refine ⟨?_, blk_froz hnew j⟩
  rw [blk_cell hnew j _ (Array.getElem?_eq_getElem (show j < (#[.int .i32 0, .int .i32 0, .int .i32 0, .int .i32 0, .int .i32 0, .int .i32 0, .int .i32 0, .int .i32 0, .int .i32 0, .int .i32 0, .int .i32 0, .int .i32 0, .int .i32 0, .int .i32 0, .int .i32 0, .int .i32 0, .int .i32 0, .int .i32 0, .int .i32 0, .int .i32 0, .int .i32 0, .int .i32 0, .int .i32 0, .int .i32 0, .int .i32 0, .int .i32 0, .int .i32 0, .int .i32 0, .int .i32 0, .int .i32 0, .int .i32 0, .int .i32 0, .int .i32 0, .int .i32 0, .int .i32 0, .int .i32 0, .int .i32 0, .int .i32 0, .int .i32 0, .int .i32 0, .int .i32 0, .int .i32 0, .int .i32 0, .int .i32 0, .int .i32 0, .int .i32 0, .int .i32 0, .int .i32 0, .int .i32 0, .int .i32 0, .int .i32 0, .int .i32 0, .int .i32 0, .int .i32 0, .int .i32 0, .int .i32 0, .int .i32 0, .int .i32 0, .int .i32 0, .int .i32 0] : Array Value).size from hj))]; rfl
theorem isArg_arg (v : Value) (w : World) : (Instr.typeAssert (.iface 234 v) 167 234 true).run Tryz.prog w = .ok (.tuple #[v, .bool true]) w := by kernel_rfl
theorem isArg_const (v : Value) (w : World) : (Instr.typeAssert (.iface 236 v) 167 234 true).run Tryz.prog w = .ok (.tuple #[.agg #[.int .i64 0], .bool false]) w := by kernel_rfl
theorem isArg_apply (v : Value) (w : World) : (Instr.typeAssert (.iface 238 v) 167 234 true).run Tryz.prog w = .ok (.tuple #[.agg #[.int .i64 0], .bool false]) w := by kernel_rfl
theorem isConst_const (v : Value) (w : World) : (Instr.typeAssert (.iface 236 v) 167 236 true).run Tryz.prog w = .ok (.tuple #[v, .bool true]) w := by kernel_rfl
theorem isConst_apply (v : Value) (w : World) : (Instr.typeAssert (.iface 238 v) 167 236 true).run Tryz.prog w = .ok (.tuple #[.agg #[.int .i32 0], .bool false]) w := by kernel_rfl
theorem makeValues_any (mb : Nat) (av : Value) (args V0 : List Int) (st0 fu : Nat) (vals : List Code.Val) (v : Value) (place base : Nat) (w : World) (hm : Mach w mb av V0 st0 fu) (hV0 : V0.length = 60) (h32 : In32 V0) (hfu : fu <= 100000)
  (hav : w.ownsRow 0 3 1 av args.length (ints args)) (hrep : RepVals w base v vals) (hlen : vals.length <= 100000) (hfit : ∀ x ∈ vals, Code.Fits args place x) :
  Calls Tryz.prog 141 #[.pointer (some ⟨mb, 0, none⟩), v, .int .i64 (place : Nat)] w fun e w' =>
   w.grownBy w' (some mb) /\ ((∃ V st, Code.runVals args V0 place fu vals V0 st0 = .ok V st /\ V.length = 60 /\ In32 V /\ e = .returned (.int .i64 0) /\ Mach w' mb av V st fu) \/
    (∃ V st, Code.runVals args V0 place fu vals V0 st0 = .fuel V st /\ e = .returned (.int .i64 5) /\ Mach w' mb av V st fu /\ V.length = 60) \/ (∃ V st, Code.runVals args V0 place fu vals V0 st0 = .trap V st /\ e = .returned (.int .i64 4) /\ Mach w' mb av V st fu /\ V.length = 60)) := by
 obtain ⟨pv, cv, rfl, hval⟩ := hrep.open
 have HREP := hide hrep
 have HAV := hide hav
 have HFIT := hide hfit
 have HM := hide hm
 have hml := lt_of_block hm
 have hrg := hm.range
 have hi60 := i32Size V0 hV0
 have hi60' := i32Size' V0 hV0
 have ho := i32One V0
 have hl60 : (i32s V0).toArray.size = 60 := by rw [List.size_toArray, i32s_length]; exact hV0
 clear hval hrep hfit hav
 go_enter Tryz.func141, Tryz.ntmps141
 go_wp2_with (first | refine wpList_load_mid rfl 191 _ rfl mb 1 rfl (i32s V0) _ hrg Tryz.underlying191 rfl hi60 ?_ | (refine wpList_store_mid rfl 191 _ _ rfl w.heap.size 0 (i32s V0).toArray rfl rfl ?_ hi60' ho ?_; (rw [hl60]; exact (newI32 w V0 hV0).2); (rw [show (i32s V0).toArray.toList = i32s V0 from rfl])))
 generalize hw0 : World.setCells _ _ _ _ = w0
 have hB0 : i32Row w0 w.heap.size V0 := by rw [<- hw0]; exact (newI32 w V0 hV0).1
 have hg0 : w.grownBy w0 (some mb) := by rw [<- hw0]; exact grown_below (below_cells (below_al (Below.refl _ _) _) (Nat.le_refl _) _ _)
 have hm0 : Mach w0 mb av V0 st0 fu := by
  rw [<- hw0]; exact stay_cells (stay_alloc hm) (by omega)
 clear hw0 hrg hi60 hi60' ho hl60
 go_loopw [22] (fun i wr => ∃ (k : Nat) (V : List Int) (st : Nat), k <= vals.length /\ i = .int .i64 k /\ V.length = 60 /\ In32 V /\ Mach wr mb av V st fu /\ i32Row wr w.heap.size V0 /\ w.grownBy wr (some mb) /\ Hid (Code.runVals args V0 place fu (vals.drop k) V st = Code.runVals args V0 place fu vals V0 st0)) (fun i _ => vals.length - (intOf i).toNat)
 case atStart => exact ⟨0, V0, st0, by omega, rfl, hV0, h32, hm0, hB0, hg0, hide rfl⟩
 case round =>
  obtain ⟨k, V, st, hk, rfl, hV, hV32, hmk, hBk, hgk, hsp⟩ := hrel
  clear hB0 hg0 hm0
  have hzk := hgk.size
  by_cases hkt : k < vals.length
  ·have hrepk : RepVals wr base (.slice pv vals.length cv) vals := HREP.out.mono (fun _ _ _ h => own_kept HM.out hgk h (by decide)) (fun _ _ _ h => own_kept HM.out hgk h (by decide))
   obtain ⟨pv', cv', hpe, hval⟩ := hrepk.open
   simp only [Value.slice.injEq] at hpe
   obtain ⟨rfl, _, rfl⟩ := hpe
   obtain ⟨g2, th, rfl, hg2, d0, d1, hth⟩ := hval k hkt
   clear hval hrepk
   have hfit := HFIT.out vals[k] (List.getElem_mem hkt)
   have hdr : vals.drop k = vals[k] :: vals.drop (k + 1) := List.drop_eq_getElem_cons hkt
   have HSP : Hid (Code.runVals args V0 place fu (vals[k] :: vals.drop (k + 1)) V st = Code.runVals args V0 place fu vals V0 st0) := by
    have h := hsp.out
    rw [hdr] at h
    exact h
   clear hsp hdr
   generalize hvk : vals[k] = vk at *
   obtain ⟨x, y⟩ := vk
   obtain ⟨hx60, hfy⟩ := hfit
   simp only at hx60 hfy d0 hth
   obtain ⟨T, tv, rfl⟩ := hth.shape
   have HTH := hide hth
   clear hth
   go_wp2_with fail
   generalize hw9 : wr.alloc _ = w9
   have hm9 : Mach w9 mb av V st fu := by rw [<- hw9]; exact stay_alloc hmk
   have hcp9 : w9.heap[wr.heap.size]? = some (.cells #[.int .i64 (x : Nat), .iface T tv] 169) := by rw [<- hw9]; exact heap_alloc_new wr _
   have hg9 : wr.grownBy w9 (some mb) := by rw [<- hw9]; exact grown_alloc _ _ _
   have hmbl := lt_of_block hmk
   clear hw9 d0 d1
   generalize hb9 : wr.heap.size = b9 at *
   refine (step_any mb av V st fu w9 hm9 hV hfu).mono ?_
   rintro e w10 ⟨hg10, ⟨hlt, rfl, hm10⟩ | ⟨hge, rfl, hm10⟩⟩
   case inr =>
    have HF := hide (HSP.out.symm.trans (Code.runVals_fuel hge))
    go_wp2
    go_ret
    exact ⟨grown_trans hgk (grown_trans hg9 hg10), Or.inr (Or.inl ⟨V, st, HF.out, rfl, hm10, hV⟩)⟩
   have hcp10 := kept_block hcp9 hg10 (by omega)
   have hg10' : w.grownBy w10 (some mb) := grown_trans hgk (grown_trans hg9 hg10)
   have hB10 : i32Row w10 w.heap.size V0 := kept_block (kept_block hBk hg9 (by omega)) hg10 (by omega)
   have hth10 : ThingV w10 base y (.iface T tv) := (HTH.out.mono (fun _ _ _ h => own_kept hmk hg9 h (by decide))).mono (fun _ _ _ h => own_kept hm9 hg10 h (by decide))
   have e1 := blk_cell hcp10 1 _ rfl
   have hb9l := lt_of_block hcp10
   have hBl := lt_of_block hB10
   have hml10 := lt_of_block hm10
   have hx60' : (x : Int) < 60 := by omega
   clear hcp9 hm9 hg9 hg10 hmk hBk hgk HTH
   cases y with
   | phi of =>
    obtain ⟨r, hTe, hro⟩ := hth10
    simp only [Value.iface.injEq] at hTe
    obtain ⟨rfl, rfl⟩ := hTe
    obtain ⟨hpl, hp60⟩ := hfy
    obtain ⟨pr, cr, rfl, hvv⟩ := nats_open hro
    obtain ⟨g3, rfl, e0⟩ := hvv place hpl
    have hg3l : g3 < w10.heap.size := by
     cases hh : w10.heap[g3]? with
     | none => simp [World.cell?, hh] at e0
     | some o => exact lt_of_block hh
    have hg3n : g3 ≠ mb := by
     rintro rfl
     exact own_ne hro hm10 (by decide) rfl
    have HC : Hid (Code.comes args V0 V place (.phi of) = some (V0[of[place]]'(by omega))) := by
     refine hide ?_
     simp only [Code.comes]
     rw [List.getD_eq_getElem?_getD, List.getD_eq_getElem?_getD, List.getElem?_eq_getElem hpl, Option.getD_some, List.getElem?_eq_getElem (by omega), Option.getD_some]
    have HVAL := hide (h32.get of[place] (by omega))
    have hpl' : (place : Int) < (of.length : Int) := by omega
    have hp60' : ((of[place] : Nat) : Int) < 60 := by omega
    have hta := isPhi_phi
    clear hvv
    go_wp2_with fail
    generalize hw11 : w10.alloc _ = w11
    have hrow : ∀ w', w11.grownBy w' (some mb) -> w'.cell? ⟨g3, place, none⟩ = some (.int .i64 (of[place] : Nat)) := fun w' h => by
     have h1 : w11.heap[g3]? = w10.heap[g3]? := by rw [<- hw11]; exact Below.heap_alloc _ _ _ hg3l
     have h2 := h.block g3 (by rw [<- hw11, alloc_size]; omega) (fun e => hg3n (by simpa using e))
     simpa [World.cell?, h2, h1] using e0
    have hm11 : Mach w11 mb av V (st + 1) fu := by rw [<- hw11]; exact stay_alloc hm10
    have hcp11 : w11.heap[b9]? = some (.cells #[.int .i64 (x : Nat), .iface 232 (.agg #[.slice (some ⟨g3, 0, none⟩) of.length cr])] 169) := by rw [<- hw11]; exact stay_alloc hcp10
    have hB11 : i32Row w11 w.heap.size V0 := by rw [<- hw11]; exact stay_alloc hB10
    have hnw11 : w11.heap[w10.heap.size]? = some (.cells #[.slice (some ⟨g3, 0, none⟩) of.length cr] 232) := by rw [<- hw11]; exact heap_alloc_new w10 _
    have hg11 : w.grownBy w11 (some mb) := grown_trans hg10' (by rw [<- hw11]; exact grown_alloc _ _ _)
    have hz10 : mb < w10.heap.size := hml10
    clear hw11
    generalize hb10 : w10.heap.size = b10 at *
    obtain ⟨mx, hmx⟩ : ∃ mx, w11.cell? ⟨mb, 1 + x, none⟩ = some mx := ⟨_, hm11.val x (by omega)⟩
    have hfx := blk_froz hm11 (1 + x)
    have hc9 : ∀ w', w11.grownBy w' (some mb) -> w'.cell? ⟨b9, 0, none⟩ = some (.int .i64 (x : Nat)) := fun w' h => blk_cell (kept_block hcp11 h (by omega)) 0 _ rfl
    have hc10 : ∀ w', w11.grownBy w' (some mb) -> w'.cell? ⟨b10, 0, none⟩ = some (.slice (some ⟨g3, 0, none⟩) of.length cr) := fun w' h => blk_cell (kept_block hnw11 h (by omega)) 0 _ rfl
    have hcB : ∀ w', w11.grownBy w' (some mb) -> w'.cell? ⟨w.heap.size, of[place], none⟩ = some (.int .i32 (V0[of[place]]'(by omega))) := fun w' h => i32Row.cell (w := w') (kept_block hB11 h (by omega)) _ _
    go_region_held3 (fun w' => w11.grownBy w' (some mb)) (first | assumption | (repeat' (first | assumption | exact grown_refl _ _ | apply grown_drew | exact grown_set _ _ _ _ | (refine grown_trans ?_ (grown_set _ _ _ _))))) (fail)
    have hon := HSP.out.symm.trans (Code.runVals_on hlt HC.out)
    have HON := hide hon.symm
    clear hon
    go_wp2
    refine ⟨⟨k + 1, V.set x (V0[of[place]]'(by omega)), st + 1, by omega, by go_num, by simp [hV], ?_, hm11.setVal x (by omega) _, stay_set hB11 (show w.heap.size ≠ mb by omega), grown_drew (grown_trans hg11 (grown_set _ _ _ _)), HON⟩, by simp [intOf]; omega⟩
    intro q hq
    rcases List.mem_or_eq_of_mem_set hq with hq | rfl
    ·exact hV32 q hq
    ·exact HVAL.out
   | arg m =>
    have hTe : Value.iface T tv = _ := hth10
    simp only [Value.iface.injEq] at hTe
    obtain ⟨rfl, rfl⟩ := hTe
    have hma : m < args.length := hfy
    have hav10 := own_kept HM.out hg10' HAV.out (by decide)
    obtain ⟨pa, ca, hae, hvv⟩ := ints_open hav10
    obtain ⟨g3, rfl, e0⟩ := hvv m hma
    have hg3l : g3 < w10.heap.size := by
     cases hh : w10.heap[g3]? with
     | none => simp [World.cell?, hh] at e0
     | some o => exact lt_of_block hh
    have hg3n : g3 ≠ mb := by
     rintro rfl
     exact own_ne hav10 hm10 (by decide) (by rw [hae]; rfl)
    have HC : Hid (Code.comes args V0 V place (.arg m) = some (wrap32 args[m])) := by
     refine hide ?_
     simp only [Code.comes]
     rw [List.getD_eq_getElem?_getD, List.getElem?_eq_getElem hma, Option.getD_some]
    have HVAL : Hid (-2147483648 <= wrap32 args[m] /\ wrap32 args[m] < 2147483648) := by refine hide ?_; unfold wrap32; omega
    have hma' : (m : Int) < (args.length : Int) := by omega
    have hta := isPhi_arg
    have htb := isArg_arg
    clear hvv
    go_wp2_with fail
    generalize hw11 : w10.alloc _ = w11
    have hrow : ∀ w', w11.grownBy w' (some mb) -> w'.cell? ⟨g3, m, none⟩ = some (.int .i64 args[m]) := fun w' h => by
     have h1 : w11.heap[g3]? = w10.heap[g3]? := by rw [<- hw11]; exact Below.heap_alloc _ _ _ hg3l
     have h2 := h.block g3 (by rw [<- hw11, alloc_size]; omega) (fun e => hg3n (by simpa using e))
     simpa [World.cell?, h2, h1] using e0
    have hm11 : Mach w11 mb av V (st + 1) fu := by rw [<- hw11]; exact stay_alloc hm10
    have hcp11 : w11.heap[b9]? = some (.cells #[.int .i64 (x : Nat), .iface 234 (.agg #[.int .i64 (m : Nat)])] 169) := by rw [<- hw11]; exact stay_alloc hcp10
    have hB11 : i32Row w11 w.heap.size V0 := by rw [<- hw11]; exact stay_alloc hB10
    have hnw11 : w11.heap[w10.heap.size]? = some (.cells #[.int .i64 (m : Nat)] 234) := by rw [<- hw11]; exact heap_alloc_new w10 _
    have hg11 : w.grownBy w11 (some mb) := grown_trans hg10' (by rw [<- hw11]; exact grown_alloc _ _ _)
    have hz10 : mb < w10.heap.size := hml10
    clear hw11
    generalize hb10 : w10.heap.size = b10 at *
    obtain ⟨mx, hmx⟩ : ∃ mx, w11.cell? ⟨mb, 1 + x, none⟩ = some mx := ⟨_, hm11.val x (by omega)⟩
    have hfx := blk_froz hm11 (1 + x)
    have hc9 : ∀ w', w11.grownBy w' (some mb) -> w'.cell? ⟨b9, 0, none⟩ = some (.int .i64 (x : Nat)) := fun w' h => blk_cell (kept_block hcp11 h (by omega)) 0 _ rfl
    have hc10 : ∀ w', w11.grownBy w' (some mb) -> w'.cell? ⟨b10, 0, none⟩ = some (.int .i64 (m : Nat)) := fun w' h => blk_cell (kept_block hnw11 h (by omega)) 0 _ rfl
    have hca := hm11.args
    rw [hae] at hca
    generalize args[m] = am at *
    have hk2 : ∀ v, (w11.setCell ⟨mb, 1 + x, none⟩ v).cell? ⟨mb, 0, none⟩ = some (.slice (some ⟨g3, 0, none⟩) args.length ca) := fun v => by
     rw [<- hca]
     exact World.cell?_setCell_other _ _ _ _ (by simp)
    go_region_held3 (fun w' => w11.grownBy w' (some mb) /\ w'.cell? ⟨mb, 0, none⟩ = some (.slice (some ⟨g3, 0, none⟩) args.length ca)) (first | assumption | exact ⟨grown_drew (grown_refl _ _), hca⟩ | exact ⟨grown_drew (grown_set _ _ _ _), hk2 _⟩) (fail)
    have hon := HSP.out.symm.trans (Code.runVals_on hlt HC.out)
    have HON := hide hon.symm
    clear hon
    go_wp2
    refine ⟨⟨k + 1, V.set x (wrap32 am), st + 1, by omega, by go_num, by simp [hV], ?_, hm11.setVal x (by omega) _, stay_set hB11 (show w.heap.size ≠ mb by omega), grown_drew (grown_trans hg11 (grown_set _ _ _ _)), HON⟩, by simp [intOf]; omega⟩
    intro q hq
    rcases List.mem_or_eq_of_mem_set hq with hq | rfl
    ·exact hV32 q hq
    ·exact HVAL.out
   | const m =>
    have hTe : Value.iface T tv = _ := hth10
    simp only [Value.iface.injEq] at hTe
    obtain ⟨rfl, rfl⟩ := hTe
    have HVAL : Hid (-2147483648 <= m /\ m < 2147483648) := hide hfy
    have HC : Hid (Code.comes args V0 V place (.const m) = some m) := hide rfl
    have hta := isPhi_const
    have htb := isArg_const
    have htc := isConst_const
    go_wp2_with fail
    generalize hw11 : w10.alloc _ = w11
    have hm11 : Mach w11 mb av V (st + 1) fu := by rw [<- hw11]; exact stay_alloc hm10
    have hcp11 : w11.heap[b9]? = some (.cells #[.int .i64 (x : Nat), .iface 236 (.agg #[.int .i32 m])] 169) := by rw [<- hw11]; exact stay_alloc hcp10
    have hB11 : i32Row w11 w.heap.size V0 := by rw [<- hw11]; exact stay_alloc hB10
    have hnw11 : w11.heap[w10.heap.size]? = some (.cells #[.int .i32 m] 236) := by rw [<- hw11]; exact heap_alloc_new w10 _
    have hg11 : w.grownBy w11 (some mb) := grown_trans hg10' (by rw [<- hw11]; exact grown_alloc _ _ _)
    have hz10 : mb < w10.heap.size := hml10
    clear hw11
    generalize hb10 : w10.heap.size = b10 at *
    obtain ⟨mx, hmx⟩ : ∃ mx, w11.cell? ⟨mb, 1 + x, none⟩ = some mx := ⟨_, hm11.val x (by omega)⟩
    have hfx := blk_froz hm11 (1 + x)
    have hc9 : ∀ w', w11.grownBy w' (some mb) -> w'.cell? ⟨b9, 0, none⟩ = some (.int .i64 (x : Nat)) := fun w' h => blk_cell (kept_block hcp11 h (by omega)) 0 _ rfl
    have hc10 : ∀ w', w11.grownBy w' (some mb) -> w'.cell? ⟨b10, 0, none⟩ = some (.int .i32 m) := fun w' h => blk_cell (kept_block hnw11 h (by omega)) 0 _ rfl
    go_region_held3 (fun w' => w11.grownBy w' (some mb)) (first | assumption | (repeat' (first | assumption | exact grown_refl _ _ | apply grown_drew | exact grown_set _ _ _ _ | (refine grown_trans ?_ (grown_set _ _ _ _))))) (fail)
    have hon := HSP.out.symm.trans (Code.runVals_on hlt HC.out)
    have HON := hide hon.symm
    clear hon
    go_wp2
    refine ⟨⟨k + 1, V.set x (m), st + 1, by omega, by go_num, by simp [hV], ?_, hm11.setVal x (by omega) _, stay_set hB11 (show w.heap.size ≠ mb by omega), grown_drew (grown_trans hg11 (grown_set _ _ _ _)), HON⟩, by simp [intOf]; omega⟩
    intro q hq
    rcases List.mem_or_eq_of_mem_set hq with hq | rfl
    ·exact hV32 q hq
    ·exact HVAL.out
   | apply q of =>
    obtain ⟨r, hTe, hro⟩ := hth10
    simp only [Value.iface.injEq] at hTe
    obtain ⟨rfl, rfl⟩ := hTe
    obtain ⟨hq, hol, hol2, ho60⟩ := hfy
    obtain ⟨pr, cr, rfl⟩ := own_slice hro
    have hta := isPhi_apply
    have htb := isArg_apply
    have htc := isConst_apply
    have htd := isApply_apply
    have HRO := hide hro
    clear hro
    go_wp2_with fail
    generalize hw11 : w10.alloc _ = w11
    have hm11 : Mach w11 mb av V (st + 1) fu := by rw [<- hw11]; exact stay_alloc hm10
    have hcp11 : w11.heap[b9]? = some (.cells #[.int .i64 (x : Nat), .iface 238 (.agg #[.int .i64 (q : Nat), .slice pr of.length cr])] 169) := by rw [<- hw11]; exact stay_alloc hcp10
    have hB11 : i32Row w11 w.heap.size V0 := by rw [<- hw11]; exact stay_alloc hB10
    have hro11 : w11.ownsRow base 3 1 (.slice pr of.length cr) of.length (nats of) := by rw [<- hw11]; exact HRO.out.alloc _
    have hg11 : w.grownBy w11 (some mb) := grown_trans hg10' (by rw [<- hw11]; exact grown_alloc _ _ _)
    clear hw11
    refine (mreckon_any mb av V (st + 1) fu q of (.slice pr of.length cr) base w11 hm11 hV hV32 hq hro11 hol hol2 ho60).mono ?_
    rintro e w12 ⟨hb12, ⟨r, hc, rfl⟩ | ⟨hc, rfl⟩⟩
    case inr =>
     have HT := hide (HSP.out.symm.trans (Code.runVals_trap hlt (show Code.comes args V0 V place (.apply q of) = none from hc)))
     have hm12 : Mach w12 mb av V (st + 1) fu := (hb12.block _ (lt_of_block hm11)).trans hm11
     clear hc
     go_wp2
     go_ret
     exact ⟨grown_trans hg11 (grown_below hb12), Or.inr (Or.inr ⟨V, st + 1, HT.out, rfl, hm12, hV⟩)⟩
    have hon := HSP.out.symm.trans (Code.runVals_on hlt (show Code.comes args V0 V place (.apply q of) = some r from hc))
    have HON := hide hon.symm
    have HVAL := hide (reckon_in32 hc (hV32.getD _) (hV32.getD _))
    have hm12 : Mach w12 mb av V (st + 1) fu := (hb12.block _ (lt_of_block hm11)).trans hm11
    have hcp12 := (hb12.block _ (lt_of_block hcp11)).trans hcp11
    have hB12 : i32Row w12 w.heap.size V0 := (hb12.block _ (lt_of_block hB11)).trans hB11
    have hg12 : w.grownBy w12 (some mb) := grown_trans hg11 (grown_below hb12)
    obtain ⟨mx, hmx⟩ : ∃ mx, w12.cell? ⟨mb, 1 + x, none⟩ = some mx := ⟨_, hm12.val x (by omega)⟩
    have hfx := blk_froz hm12 (1 + x)
    have hc9 : ∀ w', w12.grownBy w' (some mb) -> w'.cell? ⟨b9, 0, none⟩ = some (.int .i64 (x : Nat)) := fun w' h => blk_cell (kept_block hcp12 h (by omega)) 0 _ rfl
    clear hon hc
    go_wp2_with fail
    go_region_held3 (fun w' => w12.grownBy w' (some mb)) (first | assumption | (repeat' (first | assumption | exact grown_refl _ _ | apply grown_drew | exact grown_set _ _ _ _ | (refine grown_trans ?_ (grown_set _ _ _ _))))) (fail)
    go_wp2
    refine ⟨⟨k + 1, V.set x r, st + 1, by omega, by go_num, by simp [hV], ?_, hm12.setVal x (by omega) _, stay_set hB12 (show w.heap.size ≠ mb by omega), grown_drew (grown_trans hg12 (grown_set _ _ _ _)), HON⟩, by simp [intOf]; omega⟩
    intro z hz
    rcases List.mem_or_eq_of_mem_set hz with hz | rfl
    ·exact hV32 z hz
    ·exact HVAL.out
  ·have HD : Hid (Code.runVals args V0 place fu vals V0 st0 = .ok V st) := by
    have h := hsp.out
    rw [List.drop_of_length_le (by omega)] at h
    exact h.symm
   clear hsp
   go_wp2
   go_ret
   exact ⟨hgk, Or.inl ⟨V, st, HD.out, hV, hV32, rfl, hmk⟩⟩
namespace Code
def opW (k : Nat) : Int := (ops.getD k ([], 0, 0)).2.2
def weightT : Thing -> Int
 | .const _ => 1
 | .apply k _ => opW k
 | _ => 0
def sumV (l : List Val) : Int := l.foldl (fun n v => n + weightT v.thing) 0
def sumB (l : List Blk) : Int := l.foldl (fun n b => n + sumV b.values) 0
theorem opW_range (k : Nat) : 0 <= opW k /\ opW k <= 20 := by
 by_cases h : k < 13
 ·match k, h with
  | 0, _ | 1, _ | 2, _ | 3, _ | 4, _ | 5, _ | 6, _ | 7, _ | 8, _ | 9, _ | 10, _ | 11, _ | 12, _ => decide
 ·unfold opW
  rw [List.getD_eq_getElem?_getD, List.getElem?_eq_none (by show 13 <= k; omega)]
  decide
theorem weightT_range (t : Thing) : 0 <= weightT t /\ weightT t <= 20 := by
 cases t with
 | apply k _ => exact opW_range k
 | phi of => show (0 : Int) <= 0 /\ (0 : Int) <= 20; decide
 | arg n => show (0 : Int) <= 0 /\ (0 : Int) <= 20; decide
 | const n => show (0 : Int) <= 1 /\ (1 : Int) <= 20; decide
theorem sumV_from (l : List Val) : ∀ n : Int, l.foldl (fun n v => n + weightT v.thing) n = n + sumV l := by
 unfold sumV
 induction l with
 | nil => intro n; simp
 | cons v l ih => intro n; simp only [List.foldl_cons]; rw [ih, ih (0 + _)]; omega
theorem sumV_cons (v : Val) (l : List Val) : sumV (v :: l) = weightT v.thing + sumV l := by
 show (v :: l).foldl _ 0 = _
 rw [List.foldl_cons, sumV_from]; omega
theorem sumB_from (l : List Blk) : ∀ n : Int, l.foldl (fun n b => n + sumV b.values) n = n + sumB l := by
 unfold sumB
 induction l with
 | nil => intro n; simp
 | cons v l ih => intro n; simp only [List.foldl_cons]; rw [ih, ih (0 + _)]; omega
theorem sumB_cons (b : Blk) (l : List Blk) : sumB (b :: l) = sumV b.values + sumB l := by
 show (b :: l).foldl _ 0 = _
 rw [List.foldl_cons, sumB_from]; omega
theorem sumV_range (l : List Val) : 0 <= sumV l /\ sumV l <= 20 * l.length := by
 induction l with
 | nil => exact ⟨Int.le_refl _, Int.le_refl _⟩
 | cons v l ih =>
  rw [sumV_cons]
  have := weightT_range v.thing
  simp only [List.length_cons]; omega
theorem sumB_range (l : List Blk) (h : ∀ b ∈ l, b.values.length <= 100000) : 0 <= sumB l /\ sumB l <= 2000000 * l.length := by
 induction l with
 | nil => exact ⟨Int.le_refl _, Int.le_refl _⟩
 | cons b l ih =>
  rw [sumB_cons]
  have := sumV_range b.values
  have := ih (fun x hx => h x (List.mem_cons_of_mem _ hx))
  have := h b List.mem_cons_self
  simp only [List.length_cons]; omega
theorem sumV_snoc (l : List Val) (k : Nat) (h : k < l.length) : sumV (l.take (k + 1)) = sumV (l.take k) + weightT l[k].thing := by
 unfold sumV
 rw [List.take_add_one, List.getElem?_eq_getElem h, List.foldl_append]
 rfl
theorem sumB_snoc (l : List Blk) (k : Nat) (h : k < l.length) : sumB (l.take (k + 1)) = sumB (l.take k) + sumV l[k].values := by
 unfold sumB
 rw [List.take_add_one, List.getElem?_eq_getElem h, List.foldl_append]
 rfl
end Code
theorem opCells_w (k : Nat) (h : k < 13) : opCells[k * 3 + 2]? = some (.int .i64 (Code.opW k)) := by
 match k, h with
 | 0, _ | 1, _ | 2, _ | 3, _ | 4, _ | 5, _ | 6, _ | 7, _ | 8, _ | 9, _ | 10, _ | 11, _ | 12, _ => rfl
theorem opW_any (k : Nat) (w : World) (hk : k < 13) (ht : Tab w) :
  Calls Tryz.prog 134 #[.int .i64 (k : Nat)] w fun e w' => e = .returned (.int .i64 (Code.opW k)) /\ w' = w := by
 have hc := ht _ _ (opCells_w k hk)
 rw [Nat.zero_add] at hc
 have hk' : (k : Int) < 13 := by omega
 go_enter Tryz.func134, Tryz.ntmps134
 go_wp2
 go_ret
 exact ⟨rfl, rfl⟩
theorem isConst_phi (v : Value) (w : World) : (Instr.typeAssert (.iface 232 v) 167 236 true).run Tryz.prog w = .ok (.tuple #[.agg #[.int .i32 0], .bool false]) w := by kernel_rfl
theorem isConst_arg (v : Value) (w : World) : (Instr.typeAssert (.iface 234 v) 167 236 true).run Tryz.prog w = .ok (.tuple #[.agg #[.int .i32 0], .bool false]) w := by kernel_rfl
theorem weightT_any (y : Code.Thing) (v : Value) (base : Nat) (w : World) (ht : Tab w) (hk : ∀ k of, y = .apply k of -> k < 13) (hy : ThingV w base y v) :
  Calls Tryz.prog 85 #[v] w fun e w' => e = .returned (.int .i64 (Code.weightT y)) /\ Below w.heap.size w w' := by
 cases y with
 | phi of =>
  obtain ⟨r, rfl, hr⟩ := hy
  obtain ⟨p, c, rfl⟩ := own_slice hr
  have h1 := isApply_phi
  have h2 := isConst_phi
  go_enter Tryz.func85, Tryz.ntmps85
  go_wp2
  go_ret
  exact ⟨rfl, Below.refl _ _⟩
 | arg n =>
  have hy' : v = _ := hy
  subst hy'
  have h1 := isApply_arg
  have h2 := isConst_arg
  go_enter Tryz.func85, Tryz.ntmps85
  go_wp2
  go_ret
  exact ⟨rfl, Below.refl _ _⟩
 | const n =>
  have hy' : v = _ := hy
  subst hy'
  have h1 := isApply_const
  have h2 := isConst_const
  go_enter Tryz.func85, Tryz.ntmps85
  go_wp2
  go_ret
  exact ⟨rfl, below_al (Below.refl _ _) _⟩
 | apply k of =>
  obtain ⟨r, rfl, hr⟩ := hy
  obtain ⟨p, c, rfl⟩ := own_slice hr
  have h1 := isApply_apply
  have h2 := isConst_apply
  have hk' := hk k of rfl
  have HT := hide ht
  clear hk ht
  go_enter Tryz.func85, Tryz.ntmps85
  go_wp2_with fail
  generalize hw0 : w.alloc _ = w0
  have hb0 : Below w.heap.size w w0 := by rw [<- hw0]; exact below_al (Below.refl _ _) _
  clear hw0
  refine (opW_any k w0 hk' (HT.out.below hb0)).mono ?_
  rintro e w1 ⟨rfl, rfl⟩
  go_wp2
  go_ret
  exact ⟨rfl, hb0⟩
theorem weightF_any (args : Nat) (bks : List Code.Blk) (p : Option Addr) (c : Nat) (base : Nat) (w : World) (ht : Tab w) (hf : RepBlks w base (.slice p bks.length c) bks) (hn : bks.length <= 8) (hl : ∀ b ∈ bks, b.values.length <= 100000) (hk : ∀ b ∈ bks, ∀ v ∈ b.values, ∀ k of, v.thing = .apply k of -> k < 13) :
  Calls Tryz.prog 41 #[.agg #[.int .i64 (args : Nat), .slice p bks.length c]] w fun e w' => e = .returned (.int .i64 (Code.sumB bks)) /\ Below w.heap.size w w' := by
 have HF := hide hf
 have HT := hide ht
 have HL := hide hl
 have HK := hide hk
 obtain ⟨p', c', hpe, hblk⟩ := hf.open
 simp only [Value.slice.injEq] at hpe
 obtain ⟨rfl, _, rfl⟩ := hpe
 have HBLK := hide hblk
 clear hblk hf ht hl hk
 go_enter Tryz.func41, Tryz.ntmps41
 go_wp2
 generalize hw0 : w.alloc _ = w0
 have hb0 : Below w.heap.size w w0 := by rw [<- hw0]; exact below_al (Below.refl _ _) _
 clear hw0
 go_loopw [3, 11] (fun n i wr => ∃ j : Nat, j <= bks.length /\ i = .int .i64 j /\ n = .int .i64 (Code.sumB (bks.take j)) /\ Below w.heap.size w wr) (fun _ i _ => bks.length - (intOf i).toNat)
 case atStart => exact ⟨0, by omega, rfl, rfl, hb0⟩
 case round =>
  obtain ⟨j, hj, rfl, rfl, hbw⟩ := hrel
  clear hb0
  have hz := hbw.size
  by_cases hlt : j < bks.length
  ·obtain ⟨g, vs, rfl, hg, c0, c1, hvs⟩ := HBLK.out j hlt
   have hlen := HL.out bks[j] (List.getElem_mem hlt)
   have HKJ := hide (HK.out bks[j] (List.getElem_mem hlt))
   obtain ⟨pv, cv, rfl, hval⟩ := hvs.open
   have c0' := bcell' hbw g _ hg _ c0
   obtain ⟨T, zv, hzv⟩ := lastV_shape bks[j].last
   rw [hzv] at c1
   have c1' := bcell' hbw g _ hg _ c1
   have HSN := hide (Code.sumB_snoc bks j hlt)
   have hr1 := Code.sumB_range (bks.take j) (fun b hb => HL.out b (List.mem_of_mem_take hb))
   have hr1' : (bks.take j).length <= 8 := by rw [List.length_take]; omega
   generalize bks[j].values = vals at *
   have HV := hide hval
   clear hval c0 c1 hvs hzv
   generalize Code.sumB (bks.take j) = s0 at *
   go_wp2_with fail
   generalize hw3 : wr.alloc _ = w3
   have hb3 : Below w.heap.size w w3 := by rw [<- hw3]; exact below_al hbw _
   clear hw3 c0' c1'
   rename World => wo
   go_loopw [3, 18] (fun n i ws => ∃ k : Nat, k <= vals.length /\ i = .int .i64 k /\ n = .int .i64 (s0 + Code.sumV (vals.take k)) /\ Below w.heap.size w ws) (fun _ i _ => vals.length - (intOf i).toNat)
   case atStart => exact ⟨0, by omega, rfl, by show _ = Value.int .i64 (s0 + 0); rw [Int.add_zero], hb3⟩
   case round =>
    obtain ⟨k, hk, rfl, rfl, hbs⟩ := hrel
    clear hb3
    have hzs := hbs.size
    by_cases hkt : k < vals.length
    ·obtain ⟨g2, th, rfl, hg2, d0, d1, hth⟩ := HV.out k hkt
     have d0' := bcell' hbs g2 _ hg2 _ d0
     have d1' := bcell' hbs g2 _ hg2 _ d1
     have HW : Hid (∀ w', Below w.heap.size w w' -> Calls Tryz.prog 85 #[th] w' fun e w'' => e = .returned (.int .i64 (Code.weightT vals[k].thing)) /\ Below w'.heap.size w' w'') := hide fun w' h =>
      weightT_any vals[k].thing th base w' (HT.out.below h) (HKJ.out vals[k] (List.getElem_mem hkt)) (hth.mono (fun _ _ _ h' => own_below h' h))
     obtain ⟨T', tv, rfl⟩ := hth.shape
     have HS := hide (Code.sumV_snoc vals k hkt)
     have hr2 := Code.sumV_range (vals.take k)
     have hr3 := Code.weightT_range vals[k].thing
     have hr2' : (vals.take k).length <= 100000 := by rw [List.length_take]; omega
     clear d0 d1 hth
     generalize Code.sumV (vals.take k) = s1 at *
     generalize vals[k].num = x at *
     generalize Code.weightT vals[k].thing = wt at *
     go_wp2_with fail
     generalize hw9 : wr.alloc _ = w9
     have hb9 : Below w.heap.size w w9 := by rw [<- hw9]; exact below_al hbs _
     clear hw9 d0' d1'
     refine (HW.out w9 hb9).mono ?_
     rintro e w10 ⟨rfl, hb10⟩
     have hb10' : Below w.heap.size w w10 := hb9.trans (hb10.mono hb9.size)
     go_wp2
     exact ⟨⟨k + 1, by omega, by go_num, by rw [HS.out, Int.add_assoc], hb10'⟩, by simp [intOf]; omega⟩
    ·have HA : Hid (vals.take k = vals) := hide (List.take_of_length_le (by omega))
     rw [HA.out]
     go_wp2
     exact ⟨⟨j + 1, by omega, by go_num, by rw [HSN.out], hbs⟩, by simp [intOf]; omega⟩
  ·have HA : Hid (bks.take j = bks) := hide (List.take_of_length_le (by omega))
   rw [HA.out]
   go_wp2
   go_ret
   exact ⟨rfl, hbw⟩
end Go.Proofs.YtedkjanogjglkaaGreatDoor
namespace Go.Proofs.YtedkjanogjglkaaGreatDoor.Code
inductive RTree where
 | name (w : List UInt8)
 | hash (w : List UInt8)
 | num (n : Int)
 | op (k : Nat) (kids : List RTree)
 | fold (k : Nat) (kids : List RTree)
def nameP (s : List UInt8) : Option (List UInt8 × List UInt8) :=
 if word s = [] \/ 6 < (word s).length \/ (opNamed (word s)).isSome = true then none else some (word s, behind s)
def atomP (s : List UInt8) : Option (RTree × List UInt8) := match cut [35] s with
 | some r => (nameP r).map fun p => (.hash p.1, p.2)
 | none => if word s = [] then (signed s).map fun p => (.num p.1, p.2) else (nameP s).map fun p => (.name p.1, p.2)
def kidsP (f : List UInt8 -> Option (RTree × List UInt8)) : Nat -> List UInt8 -> Option (List RTree × List UInt8)
 | 0, s => some ([], s)
 | n + 1, s => (cut [32] s).bind fun r => (f r).bind fun p => (kidsP f n p.2).map fun q => (p.1 :: q.1, q.2)
def innerP (f : List UInt8 -> Option (RTree × List UInt8)) (mk : Nat -> List RTree -> RTree) (s : List UInt8) : Option (RTree × List UInt8) :=
 (opNamed (word s)).bind fun k => (kidsP f (opOf k) (behind s)).bind fun p => (cut [41] p.2).map fun r => (mk k p.1, r)
def treeP (result : Bool) : Nat -> List UInt8 -> Option (RTree × List UInt8)
 | 0, s => if (cut [40] s).isSome = true then none else if result = true /\ (cut [33, 40] s).isSome = true then none else atomP s
 | d + 1, s => match cut [40] s with
  | some r => innerP (treeP result d) .op r
  | none => match (if result = true then cut [33, 40] s else none) with
   | some r => innerP (treeP result d) .fold r
   | none => atomP s
def nodeP (s : List UInt8) : Option (RTree × List UInt8) := (cut [40] s).bind fun r => innerP (treeP false 3) .op r
mutual
def RTree.folds (within : Bool) : RTree -> Bool
 | .name _ => !within
 | .hash _ => true
 | .num _ => true
 | .op _ kids => !within && foldsAll within kids
 | .fold k kids => k != 3 && foldsAll true kids
def foldsAll (within : Bool) : List RTree -> Bool
 | [] => true
 | t :: l => t.folds within && foldsAll within l
end
mutual
def RTree.names : RTree -> List (List UInt8 × Bool)
 | .name w => [(w, false)]
 | .hash w => [(w, true)]
 | .num _ => []
 | .op _ kids => namesAll kids
 | .fold _ kids => namesAll kids
def namesAll : List RTree -> List (List UInt8 × Bool)
 | [] => []
 | t :: l => t.names ++ namesAll l
end
mutual
def RTree.heavy : RTree -> Int
 | .name _ => 0
 | .op k kids => opW k + heavyAll kids
 | _ => 1
def heavyAll : List RTree -> Int
 | [] => 0
 | t :: l => t.heavy + heavyAll l
end
theorem opNamed_lt {s : List UInt8} {k : Nat} (h : opNamed s = some k) : k < 13 := by
 unfold opNamed at h
 obtain ⟨hl, _⟩ := List.findIdx?_eq_some_iff_getElem.1 h
 exact hl
theorem nodeP_op {s : List UInt8} {t : RTree} {r : List UInt8} (h : nodeP s = some (t, r)) : ∃ k l, t = .op k l /\ k < 13 := by
 unfold nodeP innerP at h
 simp only [Option.bind_eq_some_iff, Option.map_eq_some_iff, Prod.mk.injEq] at h
 obtain ⟨_, _, k, hk, p, _, r', _, ht, _⟩ := h
 exact ⟨k, p.1, ht.symm, opNamed_lt hk⟩
mutual
def RTree.depth : RTree -> Nat
 | .op _ kids => depthAll kids + 1
 | .fold _ kids => depthAll kids + 1
 | _ => 0
def depthAll : List RTree -> Nat
 | [] => 0
 | t :: l => max t.depth (depthAll l)
end
theorem atomP_depth {s : List UInt8} {t : RTree} {r : List UInt8} (h : atomP s = some (t, r)) : t.depth = 0 := by
 unfold atomP at h
 split at h
 ·simp only [Option.map_eq_some_iff, Prod.mk.injEq] at h
  obtain ⟨p, _, rfl, _⟩ := h
  simp [RTree.depth]
 ·split at h
  ·simp only [Option.map_eq_some_iff, Prod.mk.injEq] at h
   obtain ⟨p, _, rfl, _⟩ := h
   simp [RTree.depth]
  ·simp only [Option.map_eq_some_iff, Prod.mk.injEq] at h
   obtain ⟨p, _, rfl, _⟩ := h
   simp [RTree.depth]
theorem kidsP_same {f g : List UInt8 -> Option (RTree × List UInt8)} {d : Nat} (h : ∀ s t r, f s = some (t, r) ↔ g s = some (t, r) /\ t.depth <= d) : ∀ (n : Nat) (s : List UInt8) (l : List RTree) (r : List UInt8),
  kidsP f n s = some (l, r) ↔ kidsP g n s = some (l, r) /\ depthAll l <= d
 | 0, s, l, r => by
  simp only [kidsP, Option.some.injEq, Prod.mk.injEq]
  constructor
  ·rintro ⟨rfl, rfl⟩; exact ⟨⟨rfl, rfl⟩, by simp [depthAll]⟩
  ·exact fun h => h.1
 | n + 1, s, l, r => by
  simp only [kidsP, Option.bind_eq_some_iff, Option.map_eq_some_iff, Prod.mk.injEq]
  constructor
  ·rintro ⟨a, ha, ⟨t, u⟩, hp, ⟨l', v⟩, hq, rfl, rfl⟩
   obtain ⟨h1, h2⟩ := (h a t u).1 hp
   obtain ⟨h3, h4⟩ := (kidsP_same h n u l' v).1 hq
   exact ⟨⟨a, ha, (t, u), h1, (l', v), h3, rfl, rfl⟩, by simp only [depthAll]; omega⟩
  ·rintro ⟨⟨a, ha, ⟨t, u⟩, hp, ⟨l', v⟩, hq, rfl, rfl⟩, hd⟩
   simp only [depthAll] at hd
   exact ⟨a, ha, (t, u), (h a t u).2 ⟨hp, by omega⟩, (l', v), (kidsP_same h n u l' v).2 ⟨hq, by omega⟩, rfl, rfl⟩
theorem innerP_same {f g : List UInt8 -> Option (RTree × List UInt8)} {d : Nat} (h : ∀ s t r, f s = some (t, r) ↔ g s = some (t, r) /\ t.depth <= d) {mk : Nat -> List RTree -> RTree} (hmk : ∀ k l, (mk k l).depth = depthAll l + 1) (s : List UInt8) (t : RTree) (r : List UInt8) :
  innerP f mk s = some (t, r) ↔ innerP g mk s = some (t, r) /\ t.depth <= d + 1 := by
 simp only [innerP, Option.bind_eq_some_iff, Option.map_eq_some_iff, Prod.mk.injEq]
 constructor
 ·rintro ⟨k, hk, ⟨l, u⟩, hp, v, hv, rfl, rfl⟩
  obtain ⟨h1, h2⟩ := (kidsP_same h _ _ l u).1 hp
  exact ⟨⟨k, hk, (l, u), h1, v, hv, rfl, rfl⟩, by rw [hmk]; exact Nat.succ_le_succ h2⟩
 ·rintro ⟨⟨k, hk, ⟨l, u⟩, hp, v, hv, rfl, rfl⟩, hd⟩
  rw [hmk] at hd
  exact ⟨k, hk, (l, u), (kidsP_same h _ _ l u).2 ⟨hp, Nat.le_of_succ_le_succ hd⟩, v, hv, rfl, rfl⟩
theorem treeP_same (result : Bool) : ∀ (d e : Nat), d <= e -> ∀ (s : List UInt8) (t : RTree) (r : List UInt8), treeP result d s = some (t, r) ↔ treeP result e s = some (t, r) /\ t.depth <= d
 | 0, 0, _, s, t, r => by
  constructor
  ·intro h
   refine ⟨h, ?_⟩
   rw [treeP] at h
   split at h
   ·cases h
   ·split at h
    ·cases h
    ·rw [atomP_depth h]; exact Nat.le_refl _
  ·exact fun h => h.1
 | 0, e + 1, _, s, t, r => by
  rw [treeP, treeP]
  cases hc : cut [40] s with
  | some a =>
   simp only [Option.isSome_some, if_true]
   constructor
   ·intro h; cases h
   ·rintro ⟨h, hd⟩
    simp only [innerP, Option.bind_eq_some_iff, Option.map_eq_some_iff, Prod.mk.injEq] at h
    obtain ⟨k, _, p, _, v, _, rfl, _⟩ := h
    simp [RTree.depth] at hd
  | none =>
   simp only [Option.isSome_none, Bool.false_eq_true, if_false]
   by_cases hr : result = true /\ (cut [33, 40] s).isSome = true
   ·rw [if_pos hr]
    obtain ⟨a, ha⟩ := Option.isSome_iff_exists.1 hr.2
    rw [if_pos hr.1, ha]
    constructor
    ·intro h; cases h
    ·rintro ⟨h, hd⟩
     simp only [innerP, Option.bind_eq_some_iff, Option.map_eq_some_iff, Prod.mk.injEq] at h
     obtain ⟨k, _, p, _, v, _, rfl, _⟩ := h
     simp [RTree.depth] at hd
   ·rw [if_neg hr]
    have hn : (if result = true then cut [33, 40] s else none) = none := by
     by_cases h1 : result = true
     ·rw [if_pos h1]
      cases h2 : cut [33, 40] s with
      | none => rfl
      | some a => exact absurd ⟨h1, by rw [h2]; rfl⟩ hr
     ·rw [if_neg h1]
    rw [hn]
    exact ⟨fun h => ⟨h, by rw [atomP_depth h]; exact Nat.le_refl _⟩, fun h => h.1⟩
 | d + 1, 0, h, _, _, _ => by omega
 | d + 1, e + 1, hde, s, t, r => by
  have ih := treeP_same result d e (by omega)
  rw [treeP, treeP]
  cases hc : cut [40] s with
  | some a => exact innerP_same ih (fun k l => by simp [RTree.depth]) a t r
  | none =>
   simp only
   split
   ·exact innerP_same ih (fun k l => by simp [RTree.depth]) _ t r
   ·exact ⟨fun h => ⟨h, by rw [atomP_depth h]; exact Nat.zero_le _⟩, fun h => h.1⟩
abbrev Nm := List UInt8 × Bool
structure RSt where
 names : List Nm
 unbound : Bool
def slotOf (ns : List Nm) (p : Nm) : Option Nat := ns.findIdx? fun q => q.1 == p.1 && (q.2 || !p.2)
def slotAt (ns : List Nm) (w : List UInt8) : Option Nat := ns.findIdx? fun q => q.1 == w
def bindS (st : RSt) (p : Nm) : Option RSt := match slotAt st.names p.1 with
 | some k => if (st.names[k]?.map (·.2)) = some p.2 then some st else none
 | none => some ⟨st.names ++ [p], st.unbound⟩
def findS (st : RSt) (p : Nm) : Option RSt := some ⟨st.names, st.unbound || (slotOf st.names p).isNone⟩
def RTree.leaf (slot : RSt -> Nm -> Option RSt) (st : RSt) : RTree -> Option RSt
 | .name w => slot st (w, false)
 | .hash w => slot st (w, true)
 | _ => some st
def atomS (slot : RSt -> Nm -> Option RSt) (st : RSt) (s : List UInt8) : Option (RTree × RSt × List UInt8) :=
 (atomP s).bind fun p => (p.1.leaf slot st).map fun st' => (p.1, st', p.2)
abbrev Prs := RSt -> List UInt8 -> Option (RTree × RSt × List UInt8)
def kidsS (f : Prs) : Nat -> RSt -> List UInt8 -> Option (List RTree × RSt × List UInt8)
 | 0, st, s => some ([], st, s)
 | n + 1, st, s => (cut [32] s).bind fun r => (f st r).bind fun p => (kidsS f n p.2.1 p.2.2).map fun q => (p.1 :: q.1, q.2)
def operS (f : Prs) (mk : Nat -> List RTree -> RTree) (st : RSt) (s : List UInt8) : Option (RTree × RSt × List UInt8) :=
 (cut [40] s).bind fun s => (opNamed (word s)).bind fun k => (kidsS f (opOf k) st (behind s)).bind fun p => (cut [41] p.2.2).map fun r => (mk k p.1, p.2.1, r)
def partS : Nat -> Prs
 | 0 => fun st s => if (cut [40] s).isSome = true then none else atomS bindS st s
 | d + 1 => fun st s => if (cut [40] s).isSome = true then operS (partS d) .op st s else atomS bindS st s
def RTree.known : RTree -> Bool
 | .name _ => false
 | .op _ _ => false
 | _ => true
def RTree.isDiv : RTree -> Bool
 | .fold 3 _ => true
 | .op 3 _ => true
 | _ => false
def knownS (f : Prs) : Prs := fun st s => (f st s).filter fun q => q.1.known
def foldS (f : Prs) : Prs := fun st s => (operS (knownS f) .fold st s).filter fun q => !q.1.isDiv
def resS : Nat -> Prs
 | 0 => fun st s => if (cut [33] s).isSome = true then none else if (cut [40] s).isSome = true then none else atomS findS st s
 | d + 1 => fun st s => match cut [33] s with
  | some r => foldS (resS d) st r
  | none => if (cut [40] s).isSome = true then operS (resS d) .op st s else atomS findS st s
def ruleS (s : List UInt8) : Option (RTree × RTree × RSt) :=
 (operS (partS 3) .op ⟨[], false⟩ s).bind fun p => (cut [32, 61, 62, 32] p.2.2).bind fun r => (resS 4 p.2.1 r).bind fun q => if q.2.2 = [] then some (p.1, q.1, q.2.1) else none
def lineS (s : List UInt8) : Except Int (RTree × RTree × List Nm) := match ruleS s with
 | none => .error 6
 | some (n, r, st) => if st.unbound = true then .error 7 else if n.isDiv = true \/ (match n with | .op k _ => opW k | _ => 0) <= r.heavy then .error 8 else .ok (n, r, st.names)
end Go.Proofs.YtedkjanogjglkaaGreatDoor.Code
