/-
  A machine in memory; walks: code.machine.step, reckon.
-/
import Derived.Test.YtdffpkmabehfbaaDoorCReckon
namespace Go.Proofs.YtdffpkmabehfbaaDoor
open Go.RowKit

/-- The cells of numbers of 32 bits. -/
def i32s (l : List Int) : List Value := l.map fun n => .int .i32 n

theorem i32s_length (l : List Int) : (i32s l).length = l.length := by simp [i32s]

/-- A machine's cells: its arguments, its values, its steps, its fuel. -/
def machL (av : Value) (V : List Int) (st fu : Nat) : List Value := av :: (i32s V ++ [.int .i64 (st : Nat), .int .i64 (fu : Nat)])

def Mach (w : World) (mb : Nat) (av : Value) (V : List Int) (st fu : Nat) : Prop := w.heap[mb]? = some (.cells (machL av V st fu).toArray 55)

theorem Mach.args {w : World} {mb : Nat} {av : Value} {V : List Int} {st fu : Nat} (h : Mach w mb av V st fu) : w.cell? ⟨mb, 0, none⟩ = some av := blk_cell h 0 _ (by simp [machL])

theorem Mach.val {w : World} {mb : Nat} {av : Value} {V : List Int} {st fu : Nat} (h : Mach w mb av V st fu) (x : Nat) (hx : x < V.length) : w.cell? ⟨mb, 1 + x, none⟩ = some (.int .i32 V[x]) := by
  refine blk_cell h _ _ ?_
  rw [Nat.add_comm, List.getElem?_toArray, machL, List.getElem?_cons_succ, List.getElem?_append_left (by rw [i32s_length]; exact hx)]
  simp [i32s, hx]

theorem Mach.steps {w : World} {mb : Nat} {av : Value} {V : List Int} {st fu : Nat} (h : Mach w mb av V st fu) (hV : V.length = 60) : w.cell? ⟨mb, 61, none⟩ = some (.int .i64 (st : Nat)) := by
  refine blk_cell h _ _ ?_
  rw [List.getElem?_toArray, machL, List.getElem?_cons_succ, List.getElem?_append_right (by rw [i32s_length]; omega), i32s_length, hV]
  rfl

theorem Mach.fuel {w : World} {mb : Nat} {av : Value} {V : List Int} {st fu : Nat} (h : Mach w mb av V st fu) (hV : V.length = 60) : w.cell? ⟨mb, 62, none⟩ = some (.int .i64 (fu : Nat)) := by
  refine blk_cell h _ _ ?_
  rw [List.getElem?_toArray, machL, List.getElem?_cons_succ, List.getElem?_append_right (by rw [i32s_length]; omega), i32s_length, hV]
  rfl

theorem Mach.setVal {w : World} {mb : Nat} {av : Value} {V : List Int} {st fu : Nat} (h : Mach w mb av V st fu) (x : Nat) (hx : x < V.length) (n : Int) : Mach (w.setCell ⟨mb, 1 + x, none⟩ (.int .i32 n)) mb av (V.set x n) st fu := by
  unfold Mach at *
  rw [set_block h, List.setIfInBounds_toArray]
  congr 3
  rw [Nat.add_comm, machL, machL, List.set_cons_succ, List.set_append_left _ _ (by rw [i32s_length]; exact hx)]
  simp [i32s, List.map_set]

theorem Mach.setSteps {w : World} {mb : Nat} {av : Value} {V : List Int} {st fu : Nat} (h : Mach w mb av V st fu) (hV : V.length = 60) (st' : Nat) : Mach (w.setCell ⟨mb, 61, none⟩ (.int .i64 (st' : Nat))) mb av V st' fu := by
  unfold Mach at *
  rw [set_block h, List.setIfInBounds_toArray]
  congr 3
  rw [machL, machL, List.set_cons_succ, List.set_append_right _ _ (by rw [i32s_length]; omega), i32s_length, hV]
  rfl

theorem grownN {w w' : World} {r : Option Nat} (h : w.grownBy w' r) (n : Nat) : w.grownBy (w'.drewN n) r := ⟨h.os, h.tape, h.output, h.size, h.block⟩

set_option maxHeartbeats 1000000 in
theorem step_any (mb : Nat) (av : Value) (V : List Int) (st fu : Nat) (w : World) (hm : Mach w mb av V st fu) (hV : V.length = 60) (hf : fu ≤ 100000) :
    Calls Tryd.prog 25 #[.pointer (some ⟨mb, 0, none⟩)] w fun e w' =>
      w.grownBy w' (some mb) ∧ ((st < fu ∧ e = .returned (.bool true) ∧ Mach w' mb av V (st + 1) fu) ∨ (fu ≤ st ∧ e = .returned (.bool false) ∧ Mach w' mb av V st fu)) := by
  have c61 := hm.steps hV
  have c62 := hm.fuel hV
  have fz := blk_froz hm 61
  by_cases hlt : st < fu
  · have h1 : ¬ (fu : Int) ≤ (st : Int) := by omega
    go_enter Tryd.func25, Tryd.ntmps25
    go_wp2_with fail
    go_quiet (fail)
    go_wp2
    go_ret
    refine ⟨grown_trans (grownN (grown_refl _ _) _) (grown_set _ _ _ _), Or.inl ⟨hlt, rfl, ?_⟩⟩
    have h := Mach.setSteps (w := w.drewN nq) hm hV (st + 1)
    rw [show ((st + 1 : Nat) : Int) = (st : Int) + 1 by omega] at h
    exact h
  · have h1 : (fu : Int) ≤ (st : Int) := by omega
    go_enter Tryd.func25, Tryd.ntmps25
    go_wp2_with fail
    go_quiet (fail)
    go_wp2
    go_ret
    exact ⟨grownN (grown_refl _ _) _, Or.inr ⟨by omega, rfl, hm⟩⟩

/-- All are numbers of 32 bits. -/
def In32 (V : List Int) : Prop := ∀ x ∈ V, -2147483648 ≤ x ∧ x < 2147483648

theorem In32.get {V : List Int} (h : In32 V) (x : Nat) (hx : x < V.length) : -2147483648 ≤ V[x] ∧ V[x] < 2147483648 := h _ (List.getElem_mem hx)

set_option maxRecDepth 100000 in
set_option maxHeartbeats 2000000 in
theorem mreckon_any (mb : Nat) (av : Value) (V : List Int) (st fu : Nat) (k : Nat) (of : List Nat) (v : Value) (base : Nat) (w : World) (hm : Mach w mb av V st fu) (hV : V.length = 60) (h32 : In32 V) (hk : k < 13) (ho : w.ownsRow base 3 1 v of.length (nats of)) (hl : 0 < of.length) (hl2 : of.length ≤ 100000) (h60 : ∀ x ∈ of, x < 60) :
    Calls Tryd.prog 37 #[.pointer (some ⟨mb, 0, none⟩), .agg #[.int .i64 (k : Nat), v]] w fun e w' =>
      Below w.heap.size w w' ∧ ((∃ n, Code.reckon k (V.getD (of.getD 0 0) 0) (V.getD (of.getD (of.length - 1) 0) 0) = some n ∧ e = .returned (.tuple #[.int .i32 n, .bool true])) ∨
        (Code.reckon k (V.getD (of.getD 0 0) 0) (V.getD (of.getD (of.length - 1) 0) 0) = none ∧ e = .returned (.tuple #[.int .i32 0, .bool false]))) := by
  obtain ⟨p, c, rfl, hval⟩ := nats_open ho
  obtain ⟨g, rfl, o0⟩ := hval 0 hl
  obtain ⟨g', hge, o1⟩ := hval (of.length - 1) (by omega)
  simp only [Option.some.injEq, Addr.mk.injEq, and_true] at hge
  subst hge
  have q0 : of[0] < 60 := h60 _ (List.getElem_mem hl)
  have hl1 : of.length - 1 < of.length := by omega
  have q1 : of[of.length - 1] < 60 := h60 _ (List.getElem_mem hl1)
  have m0 := hm.val of[0] (by omega)
  have m1 := hm.val of[of.length - 1] (by omega)
  have HR := hide (reckon_any k hk V[of[0]] V[of[of.length - 1]] · (h32.get _ _).1 (h32.get _ _).2 (h32.get _ _).1 (h32.get _ _).2)
  have e0 : V.getD (of.getD 0 0) 0 = V[of[0]] := by rw [List.getD_eq_getElem?_getD, List.getD_eq_getElem?_getD, List.getElem?_eq_getElem hl, Option.getD_some, List.getElem?_eq_getElem (by omega), Option.getD_some]
  have e1 : V.getD (of.getD (of.length - 1) 0) 0 = V[of[of.length - 1]] := by rw [List.getD_eq_getElem?_getD, List.getD_eq_getElem?_getD, List.getElem?_eq_getElem hl1, Option.getD_some, List.getElem?_eq_getElem (by omega), Option.getD_some]
  rw [e0, e1]
  clear e0 e1 hval
  have hgl : g < w.heap.size := by
    cases hh : w.heap[g]? with
    | none => simp [World.cell?, hh] at o0
    | some o => exact lt_of_block hh
  have hml := lt_of_block hm
  have q0' : ((of[0] : Nat) : Int) < 60 := by omega
  have q1' : ((of[of.length - 1] : Nat) : Int) < 60 := by omega
  generalize V[of[0]] = a at *
  generalize V[of[of.length - 1]] = b at *
  generalize of[0] = x0 at *
  generalize of[of.length - 1] = x1 at *
  generalize of.length = n at *
  have hn1 : (0 : Int) < (n : Int) := by omega
  have hn2 : (n : Int) - 1 < (n : Int) := by omega
  have hn3 : (0 : Int) ≤ (n : Int) - 1 := by omega
  have hn4 : ((n : Int) - 1).toNat = n - 1 := by omega
  go_enter Tryd.func37, Tryd.ntmps37
  go_wp2_with fail
  go_quiet (fail)
  go_wp2_with fail
  go_quiet (fail)
  go_wp2_with fail
  generalize hw1 : World.drewN _ _ = w1
  have hb1 : Below w.heap.size w w1 := by rw [← hw1]; exact belowN (below_al (Below.refl _ _) _) _
  clear hw1
  refine (HR.out w1).mono ?_
  rintro e w1 ⟨⟨r, hc, rfl⟩ | ⟨hc, rfl⟩, rfl⟩
  · have HC := hide hc
    clear hc
    go_wp2
    go_ret2
    exact ⟨hb1, Or.inl ⟨r, HC.out, rfl⟩⟩
  · have HC := hide hc
    clear hc
    go_wp2
    go_ret2
    exact ⟨hb1, Or.inr ⟨HC.out, rfl⟩⟩
end Go.Proofs.YtdffpkmabehfbaaDoor
