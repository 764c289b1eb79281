/-
  Walk: code.machine.makeValues.
  Walk: code.machine.run, code.Function.Run.
  Walks: code.Function.Run, ir.allNumbers, ir.Run.
-/
import Derived.Test.YtedkjanogjglkaaDoorP07

namespace Go.Proofs.YtedkjanogjglkaaDoor
open Go.RowKit

namespace Code
/-- What a thing comes to: V0 is what was ahead of its block. -/
def comes (args V0 V : List Int) (place : Nat) : Thing → Option Int
  | .phi of => some (V0.getD (of.getD place 0) 0)
  | .arg n => some (wrap32 (args.getD n 0))
  | .const n => some n
  | .apply k of => reckon k (V.getD (of.getD 0 0) 0) (V.getD (of.getD (of.length - 1) 0) 0)

/-- How the making of values ends: with what values, behind how many steps. -/
inductive Out where
  | ok (V : List Int) (st : Nat)
  | fuel (V : List Int) (st : Nat)
  | trap (V : List Int) (st : Nat)

def runVals (args V0 : List Int) (place fu : Nat) : List Val → List Int → Nat → Out
  | [], V, st => .ok V st
  | v :: l, V, st => if st < fu then (match comes args V0 V place v.thing with
    | some n => runVals args V0 place fu l (V.set v.num n) (st + 1)
    | none => .trap V (st + 1)) else .fuel V st

theorem runVals_fuel {args V0 : List Int} {place fu : Nat} {v : Val} {l : List Val} {V : List Int} {st : Nat} (h : fu ≤ st) : runVals args V0 place fu (v :: l) V st = .fuel V st := by
  have : ¬ st < fu := by omega
  simp only [runVals, if_neg this]

theorem runVals_on {args V0 : List Int} {place fu : Nat} {v : Val} {l : List Val} {V : List Int} {st : Nat} {n : Int} (h : st < fu) (hc : comes args V0 V place v.thing = some n) :
    runVals args V0 place fu (v :: l) V st = runVals args V0 place fu l (V.set v.num n) (st + 1) := by
  simp only [runVals, if_pos h, hc]

theorem runVals_trap {args V0 : List Int} {place fu : Nat} {v : Val} {l : List Val} {V : List Int} {st : Nat} (h : st < fu) (hc : comes args V0 V place v.thing = none) : runVals args V0 place fu (v :: l) V st = .trap V (st + 1) := by
  simp only [runVals, if_pos h, hc]

/-- A value that can be made: what it names is there. -/
def Fits (args : List Int) (place : Nat) (v : Val) : Prop := v.num < 60 ∧ match v.thing with
  | .phi of => ∃ h : place < of.length, of[place] < 60
  | .arg n => n < args.length
  | .const n => -2147483648 ≤ n ∧ n < 2147483648
  | .apply k of => k < 13 ∧ 0 < of.length ∧ of.length ≤ 100000 ∧ ∀ x ∈ of, x < 60
end Code

theorem ints_open {w : World} {base : Nat} {v : Value} {l : List Int} (h : w.ownsRow base 3 1 v l.length (ints l)) :
    ∃ p cap, v = .slice p l.length cap ∧ ∀ k (h : k < l.length), ∃ g, p = some ⟨g, 0, none⟩ ∧ w.cell? ⟨g, k, none⟩ = some (.int .i64 l[k]) := by
  obtain ⟨p, cap, hv⟩ := own_slice h
  refine ⟨p, cap, hv, fun k hk => ?_⟩
  obtain ⟨g, cap', hv', _, _, hc⟩ := row_open h (by omega)
  rw [hv] at hv'
  simp only [Value.slice.injEq] at hv'
  exact ⟨g, hv'.1, hc _ _ (ints_get l k hk)⟩

theorem In32.getD {V : List Int} (h : In32 V) (x : Nat) : -2147483648 ≤ V.getD x 0 ∧ V.getD x 0 < 2147483648 := by
  rw [List.getD_eq_getElem?_getD]
  by_cases hx : x < V.length
  · rw [List.getElem?_eq_getElem hx]; exact h.get x hx
  · rw [List.getElem?_eq_none (by omega)]; simp

theorem wrap32_in32 (x : Int) : -2147483648 ≤ wrap32 x ∧ wrap32 x < 2147483648 := by unfold wrap32; omega

theorem bits_in32 (o : BinOp) (a b : Int) : -2147483648 ≤ bits o .i32 a b ∧ bits o .i32 a b < 2147483648 := by
  have h : ∃ x, bits o .i32 a b = IntKind.i32.wrap x := ⟨_, rfl⟩
  obtain ⟨x, h⟩ := h
  rw [h, IntKind.wrap_i32]
  omega

theorem shr_in32 (a : Int) (n : Nat) (ha : -2147483648 ≤ a ∧ a < 2147483648) : -2147483648 ≤ a / 2 ^ n ∧ a / 2 ^ n < 2147483648 := by
  have hd : (0 : Int) < 2 ^ n := Int.pow_pos (by omega)
  generalize (2 : Int) ^ n = d at hd
  rcases Int.lt_or_le a 0 with h | h
  · have h1 : a ≤ a / d := by
      apply Int.le_ediv_of_mul_le hd
      have := Int.mul_le_mul_of_nonpos_left (a := a) (b := d) (c := 1) (by omega) (by omega)
      omega
    have h2 : a / d < 0 := Int.ediv_neg_of_neg_of_pos h hd
    omega
  · have h1 : a / d ≤ a := Int.ediv_le_self d h
    have h2 : 0 ≤ a / d := Int.ediv_nonneg h (by omega)
    omega

theorem reckon_in32 {k : Nat} {a b n : Int} (h : Code.reckon k a b = some n) (ha : -2147483648 ≤ a ∧ a < 2147483648) (_hb : -2147483648 ≤ b ∧ b < 2147483648) : -2147483648 ≤ n ∧ n < 2147483648 := by
  have ht : ∀ c : Bool, -2147483648 ≤ Code.truth c ∧ Code.truth c < 2147483648 := by decide
  unfold Code.reckon at h
  split at h
  all_goals first
    | (cases h; first | exact wrap32_in32 _ | exact bits_in32 _ _ _ | exact ht _ | exact shr_in32 _ _ ha)
    | (split at h <;> first | (cases h; done) | (cases h; exact wrap32_in32 _))

def i32Row (w : World) (g : Nat) (V : List Int) : Prop := w.heap[g]? = some (.cells (i32s V).toArray 102)

theorem i32Row.cell {w : World} {g : Nat} {V : List Int} (h : i32Row w g V) (i : Nat) (hi : i < V.length) : w.cell? ⟨g, i, none⟩ = some (.int .i32 V[i]) :=
  blk_cell h i _ (by simp [i32s, hi])

theorem Mach.range {w : World} {mb : Nat} {av : Value} {V : List Int} {st fu : Nat} (h : Mach w mb av V st fu) : w.rangeAt mb 1 (i32s V) := by
  intro j v hv
  have hj : j < V.length := by have := (List.getElem?_eq_some_iff.1 hv).1; rwa [i32s_length] at this
  rw [h.val j hj]
  simpa [i32s, hj] using hv

theorem i32One (V : List Int) : (i32s V).toArray.all (·.oneCell') = true := all_oneCell_toArray (fun v hv => by
  obtain ⟨b, _, rfl⟩ := List.mem_map.1 hv
  rfl)

theorem i32Size (V : List Int) (h : V.length = 60) : (Tryd.prog.info? 102).map (·.size) = some (i32s V).length := by
  rw [i32s_length, h]; kernel_rfl

theorem i32Size' (V : List Int) (h : V.length = 60) : (Tryd.prog.info? 102).map (·.size) = some (i32s V).toArray.size := by
  rw [List.size_toArray]; exact i32Size V h

theorem newI32 (w : World) (V : List Int) (h : V.length = 60) : i32Row ((w.alloc (.cells #[.int .i32 0, .int .i32 0, .int .i32 0, .int .i32 0, .int .i32 0, .int .i32 0, .int .i32 0, .int .i32 0, .int .i32 0, .int .i32 0, .int .i32 0, .int .i32 0, .int .i32 0, .int .i32 0, .int .i32 0, .int .i32 0, .int .i32 0, .int .i32 0, .int .i32 0, .int .i32 0, .int .i32 0, .int .i32 0, .int .i32 0, .int .i32 0, .int .i32 0, .int .i32 0, .int .i32 0, .int .i32 0, .int .i32 0, .int .i32 0, .int .i32 0, .int .i32 0, .int .i32 0, .int .i32 0, .int .i32 0, .int .i32 0, .int .i32 0, .int .i32 0, .int .i32 0, .int .i32 0, .int .i32 0, .int .i32 0, .int .i32 0, .int .i32 0, .int .i32 0, .int .i32 0, .int .i32 0, .int .i32 0, .int .i32 0, .int .i32 0, .int .i32 0, .int .i32 0, .int .i32 0, .int .i32 0, .int .i32 0, .int .i32 0, .int .i32 0, .int .i32 0, .int .i32 0, .int .i32 0] 102)).setCells w.heap.size 0 (i32s V)) w.heap.size V ∧ (w.alloc (.cells #[.int .i32 0, .int .i32 0, .int .i32 0, .int .i32 0, .int .i32 0, .int .i32 0, .int .i32 0, .int .i32 0, .int .i32 0, .int .i32 0, .int .i32 0, .int .i32 0, .int .i32 0, .int .i32 0, .int .i32 0, .int .i32 0, .int .i32 0, .int .i32 0, .int .i32 0, .int .i32 0, .int .i32 0, .int .i32 0, .int .i32 0, .int .i32 0, .int .i32 0, .int .i32 0, .int .i32 0, .int .i32 0, .int .i32 0, .int .i32 0, .int .i32 0, .int .i32 0, .int .i32 0, .int .i32 0, .int .i32 0, .int .i32 0, .int .i32 0, .int .i32 0, .int .i32 0, .int .i32 0, .int .i32 0, .int .i32 0, .int .i32 0, .int .i32 0, .int .i32 0, .int .i32 0, .int .i32 0, .int .i32 0, .int .i32 0, .int .i32 0, .int .i32 0, .int .i32 0, .int .i32 0, .int .i32 0, .int .i32 0, .int .i32 0, .int .i32 0, .int .i32 0, .int .i32 0, .int .i32 0] 102)).there w.heap.size 0 60 := by
  have hnew := heap_alloc_new w (.cells #[.int .i32 0, .int .i32 0, .int .i32 0, .int .i32 0, .int .i32 0, .int .i32 0, .int .i32 0, .int .i32 0, .int .i32 0, .int .i32 0, .int .i32 0, .int .i32 0, .int .i32 0, .int .i32 0, .int .i32 0, .int .i32 0, .int .i32 0, .int .i32 0, .int .i32 0, .int .i32 0, .int .i32 0, .int .i32 0, .int .i32 0, .int .i32 0, .int .i32 0, .int .i32 0, .int .i32 0, .int .i32 0, .int .i32 0, .int .i32 0, .int .i32 0, .int .i32 0, .int .i32 0, .int .i32 0, .int .i32 0, .int .i32 0, .int .i32 0, .int .i32 0, .int .i32 0, .int .i32 0, .int .i32 0, .int .i32 0, .int .i32 0, .int .i32 0, .int .i32 0, .int .i32 0, .int .i32 0, .int .i32 0, .int .i32 0, .int .i32 0, .int .i32 0, .int .i32 0, .int .i32 0, .int .i32 0, .int .i32 0, .int .i32 0, .int .i32 0, .int .i32 0, .int .i32 0, .int .i32 0] 102)
  constructor
  · obtain ⟨C', h1, h2, h3, h4, h5⟩ := setCells_block w.heap.size (i32s V) 0 _ _ hnew (by rw [i32s_length, h]; decide)
    unfold i32Row
    rw [h1]
    congr 2
    apply Array.ext_getElem?
    intro j
    by_cases hj : j < (i32s V).length
    · have := h4 j hj
      rw [Nat.zero_add] at this
      rw [this]; simp
    · rw [i32s_length] at hj
      rw [Array.getElem?_eq_none (by rw [h2]; show 60 ≤ j; omega), Array.getElem?_eq_none (by rw [List.size_toArray, i32s_length]; omega)]
  · intro j hj
    rw [Nat.zero_add]
    refine ⟨?_, blk_froz hnew j⟩
    rw [blk_cell hnew j _ (Array.getElem?_eq_getElem (show j < (#[.int .i32 0, .int .i32 0, .int .i32 0, .int .i32 0, .int .i32 0, .int .i32 0, .int .i32 0, .int .i32 0, .int .i32 0, .int .i32 0, .int .i32 0, .int .i32 0, .int .i32 0, .int .i32 0, .int .i32 0, .int .i32 0, .int .i32 0, .int .i32 0, .int .i32 0, .int .i32 0, .int .i32 0, .int .i32 0, .int .i32 0, .int .i32 0, .int .i32 0, .int .i32 0, .int .i32 0, .int .i32 0, .int .i32 0, .int .i32 0, .int .i32 0, .int .i32 0, .int .i32 0, .int .i32 0, .int .i32 0, .int .i32 0, .int .i32 0, .int .i32 0, .int .i32 0, .int .i32 0, .int .i32 0, .int .i32 0, .int .i32 0, .int .i32 0, .int .i32 0, .int .i32 0, .int .i32 0, .int .i32 0, .int .i32 0, .int .i32 0, .int .i32 0, .int .i32 0, .int .i32 0, .int .i32 0, .int .i32 0, .int .i32 0, .int .i32 0, .int .i32 0, .int .i32 0, .int .i32 0] : Array Value).size from hj))]; rfl

theorem isArg_phi (v : Value) (w : World) : (Instr.typeAssert (.iface 148 v) 91 150 true).run Tryd.prog w = .ok (.tuple #[.agg #[.int .i64 0], .bool false]) w := by kernel_rfl
theorem isArg_arg (v : Value) (w : World) : (Instr.typeAssert (.iface 150 v) 91 150 true).run Tryd.prog w = .ok (.tuple #[v, .bool true]) w := by kernel_rfl
theorem isArg_const (v : Value) (w : World) : (Instr.typeAssert (.iface 122 v) 91 150 true).run Tryd.prog w = .ok (.tuple #[.agg #[.int .i64 0], .bool false]) w := by kernel_rfl
theorem isArg_apply (v : Value) (w : World) : (Instr.typeAssert (.iface 125 v) 91 150 true).run Tryd.prog w = .ok (.tuple #[.agg #[.int .i64 0], .bool false]) w := by kernel_rfl
theorem isConst_const (v : Value) (w : World) : (Instr.typeAssert (.iface 122 v) 91 122 true).run Tryd.prog w = .ok (.tuple #[v, .bool true]) w := by kernel_rfl
theorem isConst_apply (v : Value) (w : World) : (Instr.typeAssert (.iface 125 v) 91 122 true).run Tryd.prog w = .ok (.tuple #[.agg #[.int .i32 0], .bool false]) w := by kernel_rfl

set_option maxRecDepth 100000 in
set_option maxHeartbeats 8000000 in
theorem makeValues_any (mb : Nat) (av : Value) (args V0 : List Int) (st0 fu : Nat) (vals : List Code.Val) (v : Value) (place base : Nat) (w : World) (hm : Mach w mb av V0 st0 fu) (hV0 : V0.length = 60) (h32 : In32 V0) (hfu : fu ≤ 100000)
    (hav : w.ownsRow 0 3 1 av args.length (ints args)) (hrep : RepVals w base v vals) (hlen : vals.length ≤ 100000) (hfit : ∀ x ∈ vals, Code.Fits args place x) :
    Calls Tryd.prog 59 #[.pointer (some ⟨mb, 0, none⟩), v, .int .i64 (place : Nat)] w fun e w' =>
      w.grownBy w' (some mb) ∧ ((∃ V st, Code.runVals args V0 place fu vals V0 st0 = .ok V st ∧ V.length = 60 ∧ In32 V ∧ e = .returned (.int .i64 0) ∧ Mach w' mb av V st fu) ∨
        (∃ V st, Code.runVals args V0 place fu vals V0 st0 = .fuel V st ∧ e = .returned (.int .i64 5) ∧ Mach w' mb av V st fu ∧ V.length = 60) ∨ (∃ V st, Code.runVals args V0 place fu vals V0 st0 = .trap V st ∧ e = .returned (.int .i64 4) ∧ Mach w' mb av V st fu ∧ V.length = 60)) := by
  obtain ⟨pv, cv, rfl, hval⟩ := hrep.open
  have HREP := hide hrep
  have HAV := hide hav
  have HFIT := hide hfit
  have HM := hide hm
  have hml := lt_of_block hm
  have hrg := hm.range
  have hi60 := i32Size V0 hV0
  have hi60' := i32Size' V0 hV0
  have ho := i32One V0
  have hl60 : (i32s V0).toArray.size = 60 := by rw [List.size_toArray, i32s_length]; exact hV0
  clear hval hrep hfit hav
  go_enter Tryd.func59, Tryd.ntmps59
  go_wp2_with (first | refine wpList_load_mid rfl 102 _ rfl mb 1 rfl (i32s V0) _ hrg Tryd.underlying102 rfl hi60 ?_ | (refine wpList_store_mid rfl 102 _ _ rfl w.heap.size 0 (i32s V0).toArray rfl rfl ?_ hi60' ho ?_; (rw [hl60]; exact (newI32 w V0 hV0).2); (rw [show (i32s V0).toArray.toList = i32s V0 from rfl])))
  generalize hw0 : World.setCells _ _ _ _ = w0
  have hB0 : i32Row w0 w.heap.size V0 := by rw [← hw0]; exact (newI32 w V0 hV0).1
  have hg0 : w.grownBy w0 (some mb) := by rw [← hw0]; exact grown_below (below_cells (below_al (Below.refl _ _) _) (Nat.le_refl _) _ _)
  have hm0 : Mach w0 mb av V0 st0 fu := by
    rw [← hw0]; exact stay_cells (stay_alloc hm) (by omega)
  clear hw0 hrg hi60 hi60' ho hl60
  go_loopw [22] (fun i wr => ∃ (k : Nat) (V : List Int) (st : Nat), k ≤ vals.length ∧ i = .int .i64 k ∧ V.length = 60 ∧ In32 V ∧ Mach wr mb av V st fu ∧ i32Row wr w.heap.size V0 ∧ w.grownBy wr (some mb) ∧ Hid (Code.runVals args V0 place fu (vals.drop k) V st = Code.runVals args V0 place fu vals V0 st0)) (fun i _ => vals.length - (intOf i).toNat)
  case atStart => exact ⟨0, V0, st0, by omega, rfl, hV0, h32, hm0, hB0, hg0, hide rfl⟩
  case round =>
    obtain ⟨k, V, st, hk, rfl, hV, hV32, hmk, hBk, hgk, hsp⟩ := hrel
    clear hB0 hg0 hm0
    have hzk := hgk.size
    by_cases hkt : k < vals.length
    · have hrepk : RepVals wr base (.slice pv vals.length cv) vals := HREP.out.mono (fun _ _ _ h => own_kept HM.out hgk h (by decide)) (fun _ _ _ h => own_kept HM.out hgk h (by decide))
      obtain ⟨pv', cv', hpe, hval⟩ := hrepk.open
      simp only [Value.slice.injEq] at hpe
      obtain ⟨rfl, _, rfl⟩ := hpe
      obtain ⟨g2, th, rfl, hg2, d0, d1, hth⟩ := hval k hkt
      clear hval hrepk
      have hfit := HFIT.out vals[k] (List.getElem_mem hkt)
      have hdr : vals.drop k = vals[k] :: vals.drop (k + 1) := List.drop_eq_getElem_cons hkt
      have HSP : Hid (Code.runVals args V0 place fu (vals[k] :: vals.drop (k + 1)) V st = Code.runVals args V0 place fu vals V0 st0) := by
        have h := hsp.out
        rw [hdr] at h
        exact h
      clear hsp hdr
      generalize hvk : vals[k] = vk at *
      obtain ⟨x, y⟩ := vk
      obtain ⟨hx60, hfy⟩ := hfit
      simp only at hx60 hfy d0 hth
      obtain ⟨T, tv, rfl⟩ := hth.shape
      have HTH := hide hth
      clear hth
      go_wp2_with fail
      generalize hw9 : wr.alloc _ = w9
      have hm9 : Mach w9 mb av V st fu := by rw [← hw9]; exact stay_alloc hmk
      have hcp9 : w9.heap[wr.heap.size]? = some (.cells #[.int .i64 (x : Nat), .iface T tv] 93) := by rw [← hw9]; exact heap_alloc_new wr _
      have hg9 : wr.grownBy w9 (some mb) := by rw [← hw9]; exact grown_alloc _ _ _
      have hmbl := lt_of_block hmk
      clear hw9 d0 d1
      generalize hb9 : wr.heap.size = b9 at *
      refine (step_any mb av V st fu w9 hm9 hV hfu).mono ?_
      rintro e w10 ⟨hg10, ⟨hlt, rfl, hm10⟩ | ⟨hge, rfl, hm10⟩⟩
      case inr =>
        have HF := hide (HSP.out.symm.trans (Code.runVals_fuel hge))
        go_wp2
        go_ret
        exact ⟨grown_trans hgk (grown_trans hg9 hg10), Or.inr (Or.inl ⟨V, st, HF.out, rfl, hm10, hV⟩)⟩
      have hcp10 := kept_block hcp9 hg10 (by omega)
      have hg10' : w.grownBy w10 (some mb) := grown_trans hgk (grown_trans hg9 hg10)
      have hB10 : i32Row w10 w.heap.size V0 := kept_block (kept_block hBk hg9 (by omega)) hg10 (by omega)
      have hth10 : ThingV w10 base y (.iface T tv) := (HTH.out.mono (fun _ _ _ h => own_kept hmk hg9 h (by decide))).mono (fun _ _ _ h => own_kept hm9 hg10 h (by decide))
      have e1 := blk_cell hcp10 1 _ rfl
      have hb9l := lt_of_block hcp10
      have hBl := lt_of_block hB10
      have hml10 := lt_of_block hm10
      have hx60' : (x : Int) < 60 := by omega
      clear hcp9 hm9 hg9 hg10 hmk hBk hgk HTH
      cases y with
      | phi of =>
        obtain ⟨r, hTe, hro⟩ := hth10
        simp only [Value.iface.injEq] at hTe
        obtain ⟨rfl, rfl⟩ := hTe
        obtain ⟨hpl, hp60⟩ := hfy
        obtain ⟨pr, cr, rfl, hvv⟩ := nats_open hro
        obtain ⟨g3, rfl, e0⟩ := hvv place hpl
        have hg3l : g3 < w10.heap.size := by
          cases hh : w10.heap[g3]? with
          | none => simp [World.cell?, hh] at e0
          | some o => exact lt_of_block hh
        have hg3n : g3 ≠ mb := by
          rintro rfl
          exact own_ne hro hm10 (by decide) rfl
        have HC : Hid (Code.comes args V0 V place (.phi of) = some (V0[of[place]]'(by omega))) := by
          refine hide ?_
          simp only [Code.comes]
          rw [List.getD_eq_getElem?_getD, List.getD_eq_getElem?_getD, List.getElem?_eq_getElem hpl, Option.getD_some, List.getElem?_eq_getElem (by omega), Option.getD_some]
        have HVAL := hide (h32.get of[place] (by omega))
        have hpl' : (place : Int) < (of.length : Int) := by omega
        have hp60' : ((of[place] : Nat) : Int) < 60 := by omega
        have hta := isPhi_phi
        clear hvv
        go_wp2_with fail
        generalize hw11 : w10.alloc _ = w11
        have hrow : ∀ w', w11.grownBy w' (some mb) → w'.cell? ⟨g3, place, none⟩ = some (.int .i64 (of[place] : Nat)) := fun w' h => by
          have h1 : w11.heap[g3]? = w10.heap[g3]? := by rw [← hw11]; exact Below.heap_alloc _ _ _ hg3l
          have h2 := h.block g3 (by rw [← hw11, alloc_size]; omega) (fun e => hg3n (by simpa using e))
          simpa [World.cell?, h2, h1] using e0
        have hm11 : Mach w11 mb av V (st + 1) fu := by rw [← hw11]; exact stay_alloc hm10
        have hcp11 : w11.heap[b9]? = some (.cells #[.int .i64 (x : Nat), .iface 148 (.agg #[.slice (some ⟨g3, 0, none⟩) of.length cr])] 93) := by rw [← hw11]; exact stay_alloc hcp10
        have hB11 : i32Row w11 w.heap.size V0 := by rw [← hw11]; exact stay_alloc hB10
        have hnw11 : w11.heap[w10.heap.size]? = some (.cells #[.slice (some ⟨g3, 0, none⟩) of.length cr] 148) := by rw [← hw11]; exact heap_alloc_new w10 _
        have hg11 : w.grownBy w11 (some mb) := grown_trans hg10' (by rw [← hw11]; exact grown_alloc _ _ _)
        have hz10 : mb < w10.heap.size := hml10
        clear hw11
        generalize hb10 : w10.heap.size = b10 at *
        obtain ⟨mx, hmx⟩ : ∃ mx, w11.cell? ⟨mb, 1 + x, none⟩ = some mx := ⟨_, hm11.val x (by omega)⟩
        have hfx := blk_froz hm11 (1 + x)
        have hc9 : ∀ w', w11.grownBy w' (some mb) → w'.cell? ⟨b9, 0, none⟩ = some (.int .i64 (x : Nat)) := fun w' h => blk_cell (kept_block hcp11 h (by omega)) 0 _ rfl
        have hc10 : ∀ w', w11.grownBy w' (some mb) → w'.cell? ⟨b10, 0, none⟩ = some (.slice (some ⟨g3, 0, none⟩) of.length cr) := fun w' h => blk_cell (kept_block hnw11 h (by omega)) 0 _ rfl
        have hcB : ∀ w', w11.grownBy w' (some mb) → w'.cell? ⟨w.heap.size, of[place], none⟩ = some (.int .i32 (V0[of[place]]'(by omega))) := fun w' h => i32Row.cell (w := w') (kept_block hB11 h (by omega)) _ _
        go_region_held3 (fun w' => w11.grownBy w' (some mb)) (first | assumption | (repeat' (first | assumption | exact grown_refl _ _ | apply grown_drew | exact grown_set _ _ _ _ | (refine grown_trans ?_ (grown_set _ _ _ _))))) (fail)
        have hon := HSP.out.symm.trans (Code.runVals_on hlt HC.out)
        have HON := hide hon.symm
        clear hon
        go_wp2
        refine ⟨⟨k + 1, V.set x (V0[of[place]]'(by omega)), st + 1, by omega, by go_num, by simp [hV], ?_, hm11.setVal x (by omega) _, stay_set hB11 (show w.heap.size ≠ mb by omega), grown_drew (grown_trans hg11 (grown_set _ _ _ _)), HON⟩, by simp [intOf]; omega⟩
        intro q hq
        rcases List.mem_or_eq_of_mem_set hq with hq | rfl
        · exact hV32 q hq
        · exact HVAL.out
      | arg m =>
        have hTe : Value.iface T tv = _ := hth10
        simp only [Value.iface.injEq] at hTe
        obtain ⟨rfl, rfl⟩ := hTe
        have hma : m < args.length := hfy
        have hav10 := own_kept HM.out hg10' HAV.out (by decide)
        obtain ⟨pa, ca, hae, hvv⟩ := ints_open hav10
        obtain ⟨g3, rfl, e0⟩ := hvv m hma
        have hg3l : g3 < w10.heap.size := by
          cases hh : w10.heap[g3]? with
          | none => simp [World.cell?, hh] at e0
          | some o => exact lt_of_block hh
        have hg3n : g3 ≠ mb := by
          rintro rfl
          exact own_ne hav10 hm10 (by decide) (by rw [hae]; rfl)
        have HC : Hid (Code.comes args V0 V place (.arg m) = some (wrap32 args[m])) := by
          refine hide ?_
          simp only [Code.comes]
          rw [List.getD_eq_getElem?_getD, List.getElem?_eq_getElem hma, Option.getD_some]
        have HVAL : Hid (-2147483648 ≤ wrap32 args[m] ∧ wrap32 args[m] < 2147483648) := by refine hide ?_; unfold wrap32; omega
        have hma' : (m : Int) < (args.length : Int) := by omega
        have hta := isPhi_arg
        have htb := isArg_arg
        clear hvv
        go_wp2_with fail
        generalize hw11 : w10.alloc _ = w11
        have hrow : ∀ w', w11.grownBy w' (some mb) → w'.cell? ⟨g3, m, none⟩ = some (.int .i64 args[m]) := fun w' h => by
          have h1 : w11.heap[g3]? = w10.heap[g3]? := by rw [← hw11]; exact Below.heap_alloc _ _ _ hg3l
          have h2 := h.block g3 (by rw [← hw11, alloc_size]; omega) (fun e => hg3n (by simpa using e))
          simpa [World.cell?, h2, h1] using e0
        have hm11 : Mach w11 mb av V (st + 1) fu := by rw [← hw11]; exact stay_alloc hm10
        have hcp11 : w11.heap[b9]? = some (.cells #[.int .i64 (x : Nat), .iface 150 (.agg #[.int .i64 (m : Nat)])] 93) := by rw [← hw11]; exact stay_alloc hcp10
        have hB11 : i32Row w11 w.heap.size V0 := by rw [← hw11]; exact stay_alloc hB10
        have hnw11 : w11.heap[w10.heap.size]? = some (.cells #[.int .i64 (m : Nat)] 150) := by rw [← hw11]; exact heap_alloc_new w10 _
        have hg11 : w.grownBy w11 (some mb) := grown_trans hg10' (by rw [← hw11]; exact grown_alloc _ _ _)
        have hz10 : mb < w10.heap.size := hml10
        clear hw11
        generalize hb10 : w10.heap.size = b10 at *
        obtain ⟨mx, hmx⟩ : ∃ mx, w11.cell? ⟨mb, 1 + x, none⟩ = some mx := ⟨_, hm11.val x (by omega)⟩
        have hfx := blk_froz hm11 (1 + x)
        have hc9 : ∀ w', w11.grownBy w' (some mb) → w'.cell? ⟨b9, 0, none⟩ = some (.int .i64 (x : Nat)) := fun w' h => blk_cell (kept_block hcp11 h (by omega)) 0 _ rfl
        have hc10 : ∀ w', w11.grownBy w' (some mb) → w'.cell? ⟨b10, 0, none⟩ = some (.int .i64 (m : Nat)) := fun w' h => blk_cell (kept_block hnw11 h (by omega)) 0 _ rfl
        have hca := hm11.args
        rw [hae] at hca
        generalize args[m] = am at *
        have hk2 : ∀ v, (w11.setCell ⟨mb, 1 + x, none⟩ v).cell? ⟨mb, 0, none⟩ = some (.slice (some ⟨g3, 0, none⟩) args.length ca) := fun v => by
          rw [← hca]
          exact World.cell?_setCell_other _ _ _ _ (by simp)
        go_region_held3 (fun w' => w11.grownBy w' (some mb) ∧ w'.cell? ⟨mb, 0, none⟩ = some (.slice (some ⟨g3, 0, none⟩) args.length ca)) (first | assumption | exact ⟨grown_drew (grown_refl _ _), hca⟩ | exact ⟨grown_drew (grown_set _ _ _ _), hk2 _⟩) (fail)
        have hon := HSP.out.symm.trans (Code.runVals_on hlt HC.out)
        have HON := hide hon.symm
        clear hon
        go_wp2
        refine ⟨⟨k + 1, V.set x (wrap32 am), st + 1, by omega, by go_num, by simp [hV], ?_, hm11.setVal x (by omega) _, stay_set hB11 (show w.heap.size ≠ mb by omega), grown_drew (grown_trans hg11 (grown_set _ _ _ _)), HON⟩, by simp [intOf]; omega⟩
        intro q hq
        rcases List.mem_or_eq_of_mem_set hq with hq | rfl
        · exact hV32 q hq
        · exact HVAL.out
      | const m =>
        have hTe : Value.iface T tv = _ := hth10
        simp only [Value.iface.injEq] at hTe
        obtain ⟨rfl, rfl⟩ := hTe
        have HVAL : Hid (-2147483648 ≤ m ∧ m < 2147483648) := hide hfy
        have HC : Hid (Code.comes args V0 V place (.const m) = some m) := hide rfl
        have hta := isPhi_const
        have htb := isArg_const
        have htc := isConst_const
        go_wp2_with fail
        generalize hw11 : w10.alloc _ = w11
        have hm11 : Mach w11 mb av V (st + 1) fu := by rw [← hw11]; exact stay_alloc hm10
        have hcp11 : w11.heap[b9]? = some (.cells #[.int .i64 (x : Nat), .iface 122 (.agg #[.int .i32 m])] 93) := by rw [← hw11]; exact stay_alloc hcp10
        have hB11 : i32Row w11 w.heap.size V0 := by rw [← hw11]; exact stay_alloc hB10
        have hnw11 : w11.heap[w10.heap.size]? = some (.cells #[.int .i32 m] 122) := by rw [← hw11]; exact heap_alloc_new w10 _
        have hg11 : w.grownBy w11 (some mb) := grown_trans hg10' (by rw [← hw11]; exact grown_alloc _ _ _)
        have hz10 : mb < w10.heap.size := hml10
        clear hw11
        generalize hb10 : w10.heap.size = b10 at *
        obtain ⟨mx, hmx⟩ : ∃ mx, w11.cell? ⟨mb, 1 + x, none⟩ = some mx := ⟨_, hm11.val x (by omega)⟩
        have hfx := blk_froz hm11 (1 + x)
        have hc9 : ∀ w', w11.grownBy w' (some mb) → w'.cell? ⟨b9, 0, none⟩ = some (.int .i64 (x : Nat)) := fun w' h => blk_cell (kept_block hcp11 h (by omega)) 0 _ rfl
        have hc10 : ∀ w', w11.grownBy w' (some mb) → w'.cell? ⟨b10, 0, none⟩ = some (.int .i32 m) := fun w' h => blk_cell (kept_block hnw11 h (by omega)) 0 _ rfl
        go_region_held3 (fun w' => w11.grownBy w' (some mb)) (first | assumption | (repeat' (first | assumption | exact grown_refl _ _ | apply grown_drew | exact grown_set _ _ _ _ | (refine grown_trans ?_ (grown_set _ _ _ _))))) (fail)
        have hon := HSP.out.symm.trans (Code.runVals_on hlt HC.out)
        have HON := hide hon.symm
        clear hon
        go_wp2
        refine ⟨⟨k + 1, V.set x (m), st + 1, by omega, by go_num, by simp [hV], ?_, hm11.setVal x (by omega) _, stay_set hB11 (show w.heap.size ≠ mb by omega), grown_drew (grown_trans hg11 (grown_set _ _ _ _)), HON⟩, by simp [intOf]; omega⟩
        intro q hq
        rcases List.mem_or_eq_of_mem_set hq with hq | rfl
        · exact hV32 q hq
        · exact HVAL.out
      | apply q of =>
        obtain ⟨r, hTe, hro⟩ := hth10
        simp only [Value.iface.injEq] at hTe
        obtain ⟨rfl, rfl⟩ := hTe
        obtain ⟨hq, hol, hol2, ho60⟩ := hfy
        obtain ⟨pr, cr, rfl⟩ := own_slice hro
        have hta := isPhi_apply
        have htb := isArg_apply
        have htc := isConst_apply
        have htd := isApply_apply
        have HRO := hide hro
        clear hro
        go_wp2_with fail
        generalize hw11 : w10.alloc _ = w11
        have hm11 : Mach w11 mb av V (st + 1) fu := by rw [← hw11]; exact stay_alloc hm10
        have hcp11 : w11.heap[b9]? = some (.cells #[.int .i64 (x : Nat), .iface 125 (.agg #[.int .i64 (q : Nat), .slice pr of.length cr])] 93) := by rw [← hw11]; exact stay_alloc hcp10
        have hB11 : i32Row w11 w.heap.size V0 := by rw [← hw11]; exact stay_alloc hB10
        have hro11 : w11.ownsRow base 3 1 (.slice pr of.length cr) of.length (nats of) := by rw [← hw11]; exact HRO.out.alloc _
        have hg11 : w.grownBy w11 (some mb) := grown_trans hg10' (by rw [← hw11]; exact grown_alloc _ _ _)
        clear hw11
        refine (mreckon_any mb av V (st + 1) fu q of (.slice pr of.length cr) base w11 hm11 hV hV32 hq hro11 hol hol2 ho60).mono ?_
        rintro e w12 ⟨hb12, ⟨r, hc, rfl⟩ | ⟨hc, rfl⟩⟩
        case inr =>
          have HT := hide (HSP.out.symm.trans (Code.runVals_trap hlt (show Code.comes args V0 V place (.apply q of) = none from hc)))
          have hm12 : Mach w12 mb av V (st + 1) fu := (hb12.block _ (lt_of_block hm11)).trans hm11
          clear hc
          go_wp2
          go_ret
          exact ⟨grown_trans hg11 (grown_below hb12), Or.inr (Or.inr ⟨V, st + 1, HT.out, rfl, hm12, hV⟩)⟩
        have hon := HSP.out.symm.trans (Code.runVals_on hlt (show Code.comes args V0 V place (.apply q of) = some r from hc))
        have HON := hide hon.symm
        have HVAL := hide (reckon_in32 hc (hV32.getD _) (hV32.getD _))
        have hm12 : Mach w12 mb av V (st + 1) fu := (hb12.block _ (lt_of_block hm11)).trans hm11
        have hcp12 := (hb12.block _ (lt_of_block hcp11)).trans hcp11
        have hB12 : i32Row w12 w.heap.size V0 := (hb12.block _ (lt_of_block hB11)).trans hB11
        have hg12 : w.grownBy w12 (some mb) := grown_trans hg11 (grown_below hb12)
        obtain ⟨mx, hmx⟩ : ∃ mx, w12.cell? ⟨mb, 1 + x, none⟩ = some mx := ⟨_, hm12.val x (by omega)⟩
        have hfx := blk_froz hm12 (1 + x)
        have hc9 : ∀ w', w12.grownBy w' (some mb) → w'.cell? ⟨b9, 0, none⟩ = some (.int .i64 (x : Nat)) := fun w' h => blk_cell (kept_block hcp12 h (by omega)) 0 _ rfl
        clear hon hc
        go_wp2_with fail
        go_region_held3 (fun w' => w12.grownBy w' (some mb)) (first | assumption | (repeat' (first | assumption | exact grown_refl _ _ | apply grown_drew | exact grown_set _ _ _ _ | (refine grown_trans ?_ (grown_set _ _ _ _))))) (fail)
        go_wp2
        refine ⟨⟨k + 1, V.set x r, st + 1, by omega, by go_num, by simp [hV], ?_, hm12.setVal x (by omega) _, stay_set hB12 (show w.heap.size ≠ mb by omega), grown_drew (grown_trans hg12 (grown_set _ _ _ _)), HON⟩, by simp [intOf]; omega⟩
        intro z hz
        rcases List.mem_or_eq_of_mem_set hz with hz | rfl
        · exact hV32 z hz
        · exact HVAL.out
    · have HD : Hid (Code.runVals args V0 place fu vals V0 st0 = .ok V st) := by
        have h := hsp.out
        rw [List.drop_of_length_le (by omega)] at h
        exact h.symm
      clear hsp
      go_wp2
      go_ret
      exact ⟨hgk, Or.inl ⟨V, st, HD.out, hV, hV32, rfl, hmk⟩⟩
end Go.Proofs.YtedkjanogjglkaaDoor


namespace Go.Proofs.YtedkjanogjglkaaDoor
open Go.RowKit

namespace Code
/-- How a run goes on from the beginning of a block: how it ends. -/
inductive Ends (args : List Int) (bks : List Blk) (fu : Nat) : Nat → Nat → List Int → Nat → Int → Nat → Int → Prop
  | fuelV {at_ place st st' : Nat} {V V' : List Int} {b : Blk} : bks[at_]? = some b → runVals args V place fu b.values V st = .fuel V' st' → Ends args bks fu at_ place V st 0 st' 5
  | trap {at_ place st st' : Nat} {V V' : List Int} {b : Blk} : bks[at_]? = some b → runVals args V place fu b.values V st = .trap V' st' → Ends args bks fu at_ place V st 0 st' 4
  | fuelL {at_ place st st' : Nat} {V V' : List Int} {b : Blk} : bks[at_]? = some b → runVals args V place fu b.values V st = .ok V' st' → fu ≤ st' → Ends args bks fu at_ place V st 0 st' 5
  | ret {at_ place st st' : Nat} {V V' : List Int} {b : Blk} {v : Nat} : bks[at_]? = some b → runVals args V place fu b.values V st = .ok V' st' → st' < fu → b.last = .ret v → Ends args bks fu at_ place V st (V'.getD v 0) (st' + 1) 0
  | jump {at_ place st st' t : Nat} {V V' : List Int} {b : Blk} {r : Int} {n : Nat} {e : Int} : bks[at_]? = some b → runVals args V place fu b.values V st = .ok V' st' → st' < fu → b.last = .jump t →
      Ends args bks fu t ((edges bks).places at_ 0) V' (st' + 1) r n e → Ends args bks fu at_ place V st r n e
  | yes {at_ place st st' v x y : Nat} {V V' : List Int} {b : Blk} {r : Int} {n : Nat} {e : Int} : bks[at_]? = some b → runVals args V place fu b.values V st = .ok V' st' → st' < fu → b.last = .ifs v x y → V'.getD v 0 ≠ 0 →
      Ends args bks fu x ((edges bks).places at_ 0) V' (st' + 1) r n e → Ends args bks fu at_ place V st r n e
  | no {at_ place st st' v x y : Nat} {V V' : List Int} {b : Blk} {r : Int} {n : Nat} {e : Int} : bks[at_]? = some b → runVals args V place fu b.values V st = .ok V' st' → st' < fu → b.last = .ifs v x y → V'.getD v 0 = 0 →
      Ends args bks fu y ((edges bks).places at_ 1) V' (st' + 1) r n e → Ends args bks fu at_ place V st r n e

theorem runVals_steps {args V0 : List Int} {place fu : Nat} : ∀ (l : List Val) (V V' : List Int) (st st' : Nat), runVals args V0 place fu l V st = .ok V' st' → st ≤ st'
  | [], V, V', st, st', h => by simp only [runVals, Out.ok.injEq] at h; omega
  | v :: l, V, V', st, st', h => by
    unfold runVals at h
    split at h
    · split at h
      · have := runVals_steps l _ _ _ _ h; omega
      · cases h
    · cases h
end Code

theorem oneIf_any (b : Bool) (w : World) :
    Calls Tryd.prog 61 #[.bool b] w fun e w' => e = .returned (.int .i32 (Code.truth b)) ∧ w' = w := by
  cases b
  · go_enter Tryd.func61, Tryd.ntmps61
    go_wp2
    go_ret
    exact ⟨rfl, rfl⟩
  · go_enter Tryd.func61, Tryd.ntmps61
    go_wp2
    go_ret
    exact ⟨rfl, rfl⟩

/-- How many steps there may still be. -/
def wleft (w : World) (mb fu : Nat) : Nat := match w.cell? ⟨mb, 61, none⟩ with
  | some (.int _ n) => fu - n.toNat
  | _ => 0

theorem wleft_of {w : World} {mb : Nat} {av : Value} {V : List Int} {st fu : Nat} (h : Mach w mb av V st fu) (hV : V.length = 60) : wleft w mb fu = fu - st := by
  simp only [wleft, h.steps hV]
  omega

namespace Code
/-- What the run needs of a function: all that is named is there. -/
structure Runs (args : List Int) (bks : List Blk) : Prop where
  most : bks.length ≤ 8
  some : 0 < bks.length
  lens : ∀ b ∈ bks, b.values.length ≤ 100000
  goes : ∀ b ∈ bks, ∀ t ∈ tg b.last, t < bks.length
  uses : ∀ b ∈ bks, ∀ x ∈ useL b.last, x < 60
  first : ∀ (h : 0 < bks.length), ∀ v ∈ bks[0].values, Fits args 0 v
  others : ∀ j (h : j < bks.length) k (hk : k < (tg bks[j].last).length) (ht : (tg bks[j].last)[k] < bks.length), ∀ v ∈ bks[(tg bks[j].last)[k]].values, Fits args ((edges bks).places j k) v
end Code

set_option maxRecDepth 100000 in
set_option maxHeartbeats 8000000 in
theorem mrun_any (fargs mb : Nat) (av : Value) (args V0 : List Int) (fu : Nat) (bks : List Code.Blk) (p : Option Addr) (c base : Nat) (w : World) (hm : Mach w mb av V0 0 fu) (hV0 : V0.length = 60) (h32 : In32 V0) (hfu : fu ≤ 100000)
    (hav : w.ownsRow 0 3 1 av args.length (ints args)) (hrep : RepBlks w base (.slice p bks.length c) bks) (hr : Code.Runs args bks) :
    Calls Tryd.prog 46 #[.pointer (some ⟨mb, 0, none⟩), .agg #[.int .i64 (fargs : Nat), .slice p bks.length c]] w fun e w' =>
      w.grownBy w' (some mb) ∧ ∃ r n er V, Code.Ends args bks fu 0 0 V0 0 r n er ∧ e = .returned (.tuple #[.int .i32 r, .int .i64 er]) ∧ Mach w' mb av V n fu ∧ V.length = 60 ∧ -2147483648 ≤ r ∧ r < 2147483648 := by
  have HREP := hide hrep
  have HAV := hide hav
  have HM := hide hm
  have HR := hide hr
  have hml := lt_of_block hm
  clear hrep hav hr
  go_enter Tryd.func46, Tryd.ntmps46
  go_wp2_with fail
  generalize hw0 : w.alloc _ = w0
  have hx0 : w0.heap[w.heap.size]? = some (.cells #[.int .i64 (fargs : Nat), .slice p bks.length c] 47) := by rw [← hw0]; exact heap_alloc_new w _
  have hb0 : Below w.heap.size w w0 := by rw [← hw0]; exact below_al (Below.refl _ _) _
  clear hw0
  refine (edges_any fargs bks p c base w0 (HREP.out.below hb0) HR.out.most HR.out.goes).mono ?_
  rintro e w1 ⟨eb, gc, n1, rfl, heb, hgc, hE, _, hb1⟩
  have hx1 := (hb1.block _ (lt_of_block hx0)).trans hx0
  have hbw1 : Below w.heap.size w w1 := hb0.trans (hb1.mono hb0.size)
  have hm1 : Mach w1 mb av V0 0 fu := (hbw1.block _ hml).trans hm
  have hz0 := hb0.size
  have hxl := lt_of_block hx0
  clear hx0 hb0 hb1
  go_wp2_with fail
  go_loopw [8, 9] (fun a8 a9 wr => ∃ (at_ place : Nat) (V : List Int) (st : Nat), at_ < bks.length ∧ a8 = .int .i64 at_ ∧ a9 = .int .i64 place ∧ V.length = 60 ∧ In32 V ∧ Mach wr mb av V st fu ∧ w1.grownBy wr (some mb) ∧
      (∀ (h : at_ < bks.length), ∀ v ∈ bks[at_].values, Code.Fits args place v) ∧ Hid (∀ r n e, Code.Ends args bks fu at_ place V st r n e → Code.Ends args bks fu 0 0 V0 0 r n e)) (fun _ _ wr => wleft wr mb fu)
  case atStart => exact ⟨0, 0, V0, 0, HR.out.some, rfl, rfl, hV0, h32, hm1, grown_refl _ _, HR.out.first, hide fun _ _ _ h => h⟩
  case round =>
    obtain ⟨j, place, V, st, hlt, rfl, rfl, hV, hV32, hmk, hgk, hfits, hsp⟩ := hrel
    have hm0 := hide (wleft_of hmk hV)
    have hgw : w.grownBy wr (some mb) := grown_trans (grown_below hbw1) hgk
    have hxk := kept_block hx1 hgk (by omega)
    have hEk := hE.kept hgk (by simp; omega)
    have hrepk : RepBlks wr base (.slice p bks.length c) bks := HREP.out.keptT HM.out hgw (by decide) (by decide) (by decide)
    have HAVk := hide (own_kept HM.out hgw HAV.out (by decide))
    have HREPk := hide hrepk
    obtain ⟨p', c', hpe, hblk⟩ := hrepk.open
    simp only [Value.slice.injEq] at hpe
    obtain ⟨rfl, _, rfl⟩ := hpe
    obtain ⟨gb, vs, rfl, hg, c0, c1, hvs⟩ := hblk j hlt
    have HVS := hide hvs
    obtain ⟨pv, cv, rfl, _⟩ := hvs.open
    have hxc := blk_cell hxk 1 _ rfl
    have hgetj : bks[j]? = some bks[j] := List.getElem?_eq_getElem hlt
    have HG := hide hgetj
    have hlen := HR.out.lens bks[j] (List.getElem_mem hlt)
    have HGO := hide (HR.out.goes bks[j] (List.getElem_mem hlt))
    have HOT := hide (HR.out.others j hlt)
    have HUS := hide (HR.out.uses bks[j] (List.getElem_mem hlt))
    have HFI := hide (hfits hlt)
    have hjl : (j : Int) < (bks.length : Int) := by omega
    have h8 := HR.out.most
    generalize hbj : bks[j] = bj at *
    obtain ⟨vals, z⟩ := bj
    simp only at c0 c1 hlen
    obtain ⟨T, zv, hzv⟩ := lastV_shape z
    have HZ := hide hzv
    rw [hzv] at c1
    clear hblk hvs hgetj hfits hzv hrepk
    go_wp2_with fail
    generalize hw3 : wr.alloc _ = w3
    have hb3 : Below wr.heap.size wr w3 := by rw [← hw3]; exact below_al (Below.refl _ _) _
    have hcp3 : w3.heap[wr.heap.size]? = some (.cells #[.slice pv vals.length cv, .iface T zv] 89) := by rw [← hw3]; exact heap_alloc_new wr _
    have hmbk := lt_of_block hmk
    have hm3 : Mach w3 mb av V st fu := (hb3.block _ hmbk).trans hmk
    generalize hbb : wr.heap.size = b10 at *
    have hb3' : Below wr.heap.size wr w3 := hbb ▸ hb3
    clear hw3 c0 c1 hxc
    refine (makeValues_any mb av args V st fu vals (.slice pv vals.length cv) place base w3 hm3 hV hV32 hfu (own_below HAVk.out hb3') (HVS.out.below hb3') hlen HFI.out).mono ?_
    rintro e w4 ⟨hg4, ⟨V4, st4, hrv, hV4, hV432, rfl, hm4⟩ | ⟨V4, st4, hrv, rfl, hm4, hV4⟩ | ⟨V4, st4, hrv, rfl, hm4, hV4⟩⟩
    case inr.inl =>
      have HE := hide (hsp.out _ _ _ (Code.Ends.fuelV HG.out hrv))
      clear hrv
      go_wp2
      go_ret2
      exact ⟨grown_trans hgw (grown_trans (grown_below hb3') hg4), 0, st4, 5, V4, HE.out, rfl, hm4, hV4, by omega, by omega⟩
    case inr.inr =>
      have HE := hide (hsp.out _ _ _ (Code.Ends.trap HG.out hrv))
      clear hrv
      go_wp2
      go_ret2
      exact ⟨grown_trans hgw (grown_trans (grown_below hb3') hg4), 0, st4, 4, V4, HE.out, rfl, hm4, hV4, by omega, by omega⟩
    have HRV := hide hrv
    have hst4 := Code.runVals_steps _ _ _ _ _ hrv
    clear hrv
    go_wp2_with fail
    refine (step_any mb av V4 st4 fu w4 hm4 hV4 hfu).mono ?_
    rintro e w5 ⟨hg5, ⟨hlt5, rfl, hm5⟩ | ⟨hge5, rfl, hm5⟩⟩
    case inr =>
      have HE := hide (hsp.out _ _ _ (Code.Ends.fuelL HG.out HRV.out hge5))
      go_wp2
      go_ret2
      exact ⟨grown_trans hgw (grown_trans (grown_below hb3') (grown_trans hg4 hg5)), 0, st4, 5, V4, HE.out, rfl, hm5, hV4, by omega, by omega⟩
    have hgr5 : wr.grownBy w5 (some mb) := grown_trans (grown_below hb3') (grown_trans hg4 hg5)
    have hg15 : w1.grownBy w5 (some mb) := grown_trans hgk hgr5
    have hgw5 : w.grownBy w5 (some mb) := grown_trans hgw hgr5
    have hcp5 := kept_block hcp3 (grown_trans hg4 hg5) (by omega)
    have hE5 := hEk.kept hgr5 (by simp; omega)
    have hml5 := lt_of_block hm5
    have hebl := hE5.lt
    have hcpl := lt_of_block hcp5
    have f1 := blk_cell hcp5 1 _ rfl
    clear hcp3 hm3 hg4 hg5 hm4 hmk hgk hgw hxk hEk HAVk HREPk HVS HFI hb3 hb3'
    cases z with
    | ret v =>
      have hTe := HZ.out
      simp only [lastV, Value.iface.injEq] at hTe
      obtain ⟨rfl, rfl⟩ := hTe
      have hv60 : v < 60 := HUS.out v (by simp [Code.useL])
      have hv60' : (v : Int) < 60 := by omega
      have hta := isRet_ret
      have hcv := hm5.val v (by omega)
      have HE := hide (hsp.out _ _ _ (Code.Ends.ret HG.out HRV.out hlt5 rfl))
      have hgd : V4.getD v 0 = V4[v]'(by omega) := by rw [List.getD_eq_getElem?_getD, List.getElem?_eq_getElem (by omega)]; rfl
      rw [hgd] at HE
      have HB := hide (hV432.get v (by omega))
      clear hgd
      go_wp2_with fail
      go_quiet (fail)
      go_wp2
      go_ret2
      exact ⟨grownN (grown_trans hgw5 (grown_alloc _ _ _)) _, _, st4 + 1, 0, V4, HE.out, rfl, stay_alloc hm5, hV4, HB.out.1, HB.out.2⟩
    | jump t =>
      have hTe := HZ.out
      simp only [lastV, Value.iface.injEq] at hTe
      obtain ⟨rfl, rfl⟩ := hTe
      have hta := isRet_jump
      have htb := isIf_jump
      have htn : t < bks.length := HGO.out t (by simp [Code.tg])
      have HOT' := hide (HOT.out 0 (by simp [Code.tg]) (by simpa [Code.tg] using htn))
      have HEND : Hid (∀ r n e, Code.Ends args bks fu t ((Code.edges bks).places j 0) V4 (st4 + 1) r n e → Code.Ends args bks fu 0 0 V0 0 r n e) := hide fun r n e h => hsp.out r n e (Code.Ends.jump HG.out HRV.out hlt5 rfl h)
      have hlook : (Instr.lookup 128 (.map (some eb)) (.agg #[.int .i64 (j : Nat), .int .i64 0]) false).run Tryd.prog w5 = .ok (.int .i64 ((Code.edges bks).places j 0 : Nat)) w5 := hE5.look j 0 (by omega) (by omega)
      have HTA := hide (targets_any (.jump t))
      rw [HZ.out] at HTA
      generalize (Code.edges bks).places j 0 = pl at *
      go_wp2_with fail
      refine (HTA.out w5).mono ?_
      rintro e w8 ⟨v8, rfl, hown8, hb8⟩
      obtain ⟨p8, c8, rfl, hval8⟩ := nats_open hown8
      obtain ⟨g8, rfl, ct⟩ := hval8 0 (by simp [Code.tg])
      simp only [Code.tg, List.getElem_cons_zero] at ct
      have htgl : (Code.tg (.jump t)).length = 1 := rfl
      have hm8 : Mach w8 mb av V4 (st4 + 1) fu := (hb8.block _ hml5).trans hm5
      clear hval8
      go_wp2
      refine ⟨⟨t, pl, V4, st4 + 1, htn, rfl, rfl, hV4, hV432, hm8, grown_trans hg15 (grown_below hb8), fun _ => HOT'.out, HEND⟩, ?_⟩
      rw [hm0.out, wleft_of hm8 hV4]; omega
    | ifs v x y =>
      have hTe := HZ.out
      simp only [lastV, Value.iface.injEq] at hTe
      obtain ⟨rfl, rfl⟩ := hTe
      have hta := isRet_if
      have htb := isIf_if
      have hv60 : v < 60 := HUS.out v (by simp [Code.useL])
      have hv60' : (v : Int) < 60 := by omega
      have hxn : x < bks.length := HGO.out x (by simp [Code.tg])
      have hyn : y < bks.length := HGO.out y (by simp [Code.tg])
      have HOT0 := hide (HOT.out 0 (by simp [Code.tg]) (by simpa [Code.tg] using hxn))
      have HOT1 := hide (HOT.out 1 (by simp [Code.tg]) (by simpa [Code.tg] using hyn))
      have hcv := hm5.val v (by omega)
      have hgd : V4.getD v 0 = V4[v]'(by omega) := by rw [List.getD_eq_getElem?_getD, List.getElem?_eq_getElem (by omega)]; rfl
      have HEND0 : Hid (V4[v]'(by omega) ≠ 0 → ∀ r n e, Code.Ends args bks fu x ((Code.edges bks).places j 0) V4 (st4 + 1) r n e → Code.Ends args bks fu 0 0 V0 0 r n e) := hide fun hne r n e h => hsp.out r n e (Code.Ends.yes HG.out HRV.out hlt5 rfl (by rw [hgd]; exact hne) h)
      have HEND1 : Hid (V4[v]'(by omega) = 0 → ∀ r n e, Code.Ends args bks fu y ((Code.edges bks).places j 1) V4 (st4 + 1) r n e → Code.Ends args bks fu 0 0 V0 0 r n e) := hide fun hne r n e h => hsp.out r n e (Code.Ends.no HG.out HRV.out hlt5 rfl (by rw [hgd]; exact hne) h)
      have HTA := hide (targets_any (.ifs v x y))
      rw [HZ.out] at HTA
      clear hgd
      generalize V4[v]'(by omega) = xv at *
      go_wp2_with fail
      generalize hw6 : w5.alloc _ = w6
      have hb6 : Below w5.heap.size w5 w6 := by rw [← hw6]; exact below_al (Below.refl _ _) _
      have hn6 : w6.heap[w5.heap.size]? = some (.cells #[.int .i64 (v : Nat), .int .i64 (x : Nat), .int .i64 (y : Nat)] 135) := by rw [← hw6]; exact heap_alloc_new w5 _
      have hm6 : Mach w6 mb av V4 (st4 + 1) fu := (hb6.block _ hml5).trans hm5
      have hcp6 := (hb6.block _ hcpl).trans hcp5
      have hE6 := hE5.below hb6
      have g0 : ∀ w', Below w6.heap.size w6 w' → w'.cell? ⟨w5.heap.size, 0, none⟩ = some (.int .i64 (v : Nat)) := fun w' h => blk_cell ((h.block _ (lt_of_block hn6)).trans hn6) 0 _ rfl
      have hcv6 : ∀ w', Below w6.heap.size w6 w' → w'.cell? ⟨mb, 1 + v, none⟩ = some (.int .i32 xv) := fun w' h => by
        rw [(bcell h).1 mb _ (lt_of_block hm6), (bcell hb6).1 mb _ hml5]; exact hcv
      have htr0 : Code.truth false = 0 := rfl
      have htr1 : Code.truth true = 1 := rfl
      clear hw6 f1
      cases hz : (xv == 0) with
      | false =>
        have hl : (Instr.lookup 128 (.map (some eb)) (.agg #[.int .i64 (j : Nat), .int .i64 0]) false).run Tryd.prog w6.drew = .ok (.int .i64 ((Code.edges bks).places j 0 : Nat)) w6.drew := (hE6.below (Below.refl _ _).drew).look j 0 (by omega) (by omega)
        have HEND := hide (HEND0.out (by simpa using hz))
        have HOTT := hide HOT0.out
        generalize (Code.edges bks).places j 0 = pl at *
        go_region_held3 (fun w' => Below w6.heap.size w6 w') (first | assumption | (repeat' (first | assumption | exact Below.refl _ _ | apply Below.drew))) (first | (go_at_call 61; refine (oneIf_any _ _).mono ?_; rintro e w7 ⟨rfl, rfl⟩))
        have f1 := blk_cell (w := w6.drew) hcp6 1 _ rfl
        go_wp2_with fail
        refine (HTA.out w6.drew).mono ?_
        rintro e w8 ⟨v8, rfl, hown8, hb8⟩
        have hb8' : Below w6.heap.size w6 w8 := undrewB hb8
        obtain ⟨p8, c8, rfl, hval8⟩ := nats_open hown8
        obtain ⟨g8, rfl, ct⟩ := hval8 0 (by simp [Code.tg])
        simp only [Code.tg, List.getElem_cons_zero] at ct
        have htgl : (Code.tg (.ifs v x y)).length = 2 := rfl
        have hm8 : Mach w8 mb av V4 (st4 + 1) fu := (hb8'.block _ (lt_of_block hm6)).trans hm6
        clear hval8
        go_wp2
        refine ⟨⟨x, pl, V4, st4 + 1, hxn, rfl, rfl, hV4, hV432, hm8, grown_trans hg15 (grown_trans (grown_below hb6) (grown_below hb8')), fun _ => HOTT.out, HEND⟩, ?_⟩
        rw [hm0.out, wleft_of hm8 hV4]; omega
      | true =>
        have hl : (Instr.lookup 128 (.map (some eb)) (.agg #[.int .i64 (j : Nat), .int .i64 1]) false).run Tryd.prog w6.drew = .ok (.int .i64 ((Code.edges bks).places j 1 : Nat)) w6.drew := (hE6.below (Below.refl _ _).drew).look j 1 (by omega) (by omega)
        have HEND := hide (HEND1.out (by simpa using hz))
        have HOTT := hide HOT1.out
        generalize (Code.edges bks).places j 1 = pl at *
        go_region_held3 (fun w' => Below w6.heap.size w6 w') (first | assumption | (repeat' (first | assumption | exact Below.refl _ _ | apply Below.drew))) (first | (go_at_call 61; refine (oneIf_any _ _).mono ?_; rintro e w7 ⟨rfl, rfl⟩))
        have f1 := blk_cell (w := w6.drew) hcp6 1 _ rfl
        go_wp2_with fail
        refine (HTA.out w6.drew).mono ?_
        rintro e w8 ⟨v8, rfl, hown8, hb8⟩
        have hb8' : Below w6.heap.size w6 w8 := undrewB hb8
        obtain ⟨p8, c8, rfl, hval8⟩ := nats_open hown8
        obtain ⟨g8, rfl, ct⟩ := hval8 1 (by simp [Code.tg])
        simp only [Code.tg, List.getElem_cons_zero, List.getElem_cons_succ] at ct
        have htgl : (Code.tg (.ifs v x y)).length = 2 := rfl
        have hm8 : Mach w8 mb av V4 (st4 + 1) fu := (hb8'.block _ (lt_of_block hm6)).trans hm6
        clear hval8
        go_wp2
        refine ⟨⟨y, pl, V4, st4 + 1, hyn, rfl, rfl, hV4, hV432, hm8, grown_trans hg15 (grown_trans (grown_below hb6) (grown_below hb8')), fun _ => HOTT.out, HEND⟩, ?_⟩
        rw [hm0.out, wleft_of hm8 hV4]; omega
end Go.Proofs.YtedkjanogjglkaaDoor


namespace Go.Proofs.YtedkjanogjglkaaDoor
open Go.RowKit

def zeros : List Int := List.replicate 60 0

/-- A block that is written whole. -/
theorem whole_block {w : World} {g : Nat} {C : Array Value} {T : TypeId} {z : Nat × Nat} (h : w.heap[g]? = some (.cells C T z)) (vs : List Value) (hl : vs.length = C.size) : (w.setCells g 0 vs).heap[g]? = some (.cells vs.toArray T z) := by
  obtain ⟨C', h1, h2, h3, h4, h5⟩ := setCells_block g vs 0 w C h (by omega)
  rw [h1]
  congr 2
  apply Array.ext_getElem?
  intro j
  by_cases hj : j < vs.length
  · have := h4 j hj
    rw [Nat.zero_add] at this
    rw [this]; simp
  · rw [Array.getElem?_eq_none (by omega), Array.getElem?_eq_none (by rw [List.size_toArray]; omega)]

theorem there_block {w : World} {g : Nat} {C : Array Value} {T : TypeId} (h : w.heap[g]? = some (.cells C T)) : w.there g 0 C.size := by
  intro j hj
  rw [Nat.zero_add]
  refine ⟨?_, blk_froz h j⟩
  rw [blk_cell h j _ (Array.getElem?_eq_getElem hj)]; rfl

theorem machL_length (av : Value) (V : List Int) (st fu : Nat) (h : V.length = 60) : (machL av V st fu).length = 63 := by simp [machL, i32s, h]

theorem machOne (av : Value) (V : List Int) (st fu : Nat) (h : av.oneCell' = true) : (machL av V st fu).toArray.all (·.oneCell') = true := all_oneCell_toArray (fun v hv => by
  rcases List.mem_cons.1 hv with rfl | hv
  · exact h
  · rcases List.mem_append.1 hv with hv | hv
    · obtain ⟨b, _, rfl⟩ := List.mem_map.1 hv
      rfl
    · simp only [List.mem_cons, List.not_mem_nil, or_false] at hv
      rcases hv with rfl | rfl <;> rfl)

theorem machSize (av : Value) (V : List Int) (st fu : Nat) (h : V.length = 60) : (Tryd.prog.info? 104).map (·.size) = some (machL av V st fu).toArray.size := by
  rw [List.size_toArray, machL_length av V st fu h]; kernel_rfl

def zeroMach : Array Value := #[.slice none 0 0, .int .i32 0, .int .i32 0, .int .i32 0, .int .i32 0, .int .i32 0, .int .i32 0, .int .i32 0, .int .i32 0, .int .i32 0, .int .i32 0, .int .i32 0, .int .i32 0, .int .i32 0, .int .i32 0, .int .i32 0, .int .i32 0, .int .i32 0, .int .i32 0, .int .i32 0, .int .i32 0, .int .i32 0, .int .i32 0, .int .i32 0, .int .i32 0, .int .i32 0, .int .i32 0, .int .i32 0, .int .i32 0, .int .i32 0, .int .i32 0, .int .i32 0, .int .i32 0, .int .i32 0, .int .i32 0, .int .i32 0, .int .i32 0, .int .i32 0, .int .i32 0, .int .i32 0, .int .i32 0, .int .i32 0, .int .i32 0, .int .i32 0, .int .i32 0, .int .i32 0, .int .i32 0, .int .i32 0, .int .i32 0, .int .i32 0, .int .i32 0, .int .i32 0, .int .i32 0, .int .i32 0, .int .i32 0, .int .i32 0, .int .i32 0, .int .i32 0, .int .i32 0, .int .i32 0, .int .i32 0, .int .i64 0, .int .i64 0]

theorem zeroMach_size : zeroMach.size = 63 := rfl

/-- A machine that is written into a new block. -/
theorem newMach {W : World} {g : Nat} (h : W.heap[g]? = some (.cells zeroMach 104)) (av : Value) (fu : Nat) :
    Mach (W.setCells g 0 (machL av zeros 0 fu)) g av zeros 0 fu := whole_block h _ (by rw [machL_length _ _ _ _ (by rfl), zeroMach_size])

set_option maxRecDepth 100000 in
set_option maxHeartbeats 2000000 in
theorem frun_any (fargs : Nat) (av : Value) (args : List Int) (fu : Nat) (bks : List Code.Blk) (p : Option Addr) (c base : Nat) (w : World) (hfu : fu ≤ 100000)
    (hav : w.ownsRow 0 3 1 av args.length (ints args)) (hrep : RepBlks w base (.slice p bks.length c) bks) (hr : Code.Runs args bks) :
    Calls Tryd.prog 32 #[.agg #[.int .i64 (fargs : Nat), .slice p bks.length c], av, .int .i64 (fu : Nat)] w fun e w' =>
      ∃ (r : Int) (n : Nat) (er : Int), Code.Ends args bks fu 0 0 zeros 0 r n er ∧ e = .returned (.tuple #[.int .i64 r, .int .i64 (n : Nat), .int .i64 er]) ∧ Below w.heap.size w w' := by
  obtain ⟨pa, ca, rfl⟩ := own_slice hav
  have HREP := hide hrep
  have HAV := hide hav
  have HR := hide hr
  clear hrep hav hr
  have hsz := machSize (.slice pa args.length ca) zeros 0 fu (by rfl)
  have hon := machOne (.slice pa args.length ca) zeros 0 fu rfl
  have hln : (machL (.slice pa args.length ca) zeros 0 fu).toArray.size = 63 := by rw [List.size_toArray]; exact machL_length _ _ _ _ rfl
  go_enter Tryd.func32, Tryd.ntmps32
  have hnb : ((w.alloc (.cells #[.int .i64 (fargs : Nat), .slice p bks.length c] 47)).alloc (.cells zeroMach 104)).heap[w.heap.size + 1]? = some (.cells zeroMach 104) := by
    have h := heap_alloc_new (w.alloc (.cells #[.int .i64 (fargs : Nat), .slice p bks.length c] 47)) (.cells zeroMach 104)
    rw [alloc_size] at h
    exact h
  have HNB := hide hnb
  have hth := there_block hnb
  rw [zeroMach_size] at hth
  have HTH := hide hth
  clear hnb hth hln
  go_wp2_with (first | (refine wpList_store_mid rfl 104 _ _ rfl _ _ _ rfl rfl ?_ ?_ ?_ ?_; (exact HTH.out); (exact hsz); (exact hon); (generalize hw0 : World.setCells _ _ _ _ = w0); (have hm1 : Mach w0 (w.heap.size + 1) (.slice pa args.length ca) zeros 0 fu := (by rw [← hw0]; exact newMach HNB.out _ _)); (have hb1 : Below w.heap.size w w0 := (by rw [← hw0]; exact below_cells (below_al (below_al (Below.refl _ _) _) _) (Nat.le_succ _) _ _)); (have hx1 : w0.heap[w.heap.size]? = some (.cells #[.int .i64 (fargs : Nat), .slice p bks.length c] 47) := (by rw [← hw0]; exact stay_cells (stay_alloc (heap_alloc_new w _)) (Nat.ne_of_lt (Nat.lt_succ_self _)))); clear hw0; (have c0 := blk_cell hx1 0 _ rfl); (have c1 := blk_cell hx1 1 _ rfl)) | fail)
  refine (mrun_any fargs (w.heap.size + 1) (.slice pa args.length ca) args zeros fu bks p c base w0 hm1 rfl (fun x hx => by rw [List.eq_of_mem_replicate hx]; omega) hfu (own_below HAV.out hb1) (HREP.out.below hb1) HR.out).mono ?_
  rintro e w2 ⟨hg2, r, n, er, V, hE, rfl, hm2, hV, hr1, hr2⟩
  have c61 := hm2.steps hV
  have HE := hide hE
  have hb2 : Below w.heap.size w w2 := below_of_grown hb1 hg2 (Nat.le_succ _)
  clear hE hm1 hb1 hx1 c0 c1 hsz hon
  go_wp2_with fail
  go_quiet (fail)
  go_wp2
  refine bodyPost_ret (v := .tuple #[.int .i64 r, .int .i64 (n : Nat), .int .i64 er]) (by simp [results, Tryd.results32, go_sem]) rfl ?_
  exact ⟨r, n, er, HE.out, rfl, belowN hb2 _⟩

set_option maxHeartbeats 2000000 in
theorem allNumbers_ok (av : Value) (args : List Int) (w : World) (hav : w.ownsRow 0 3 1 av args.length (ints args)) (h32 : In32 args) (hl : args.length ≤ 100000) :
    Calls Tryd.prog 31 #[av] w fun e w' => e = .returned (.bool true) ∧ w' = w := by
  obtain ⟨p, ca, rfl, hval⟩ := ints_open hav
  have HV := hide hval
  clear hval hav
  go_enter Tryd.func31, Tryd.ntmps31
  go_wp2
  go_loop [7] (fun i => ∃ k : Nat, k ≤ args.length ∧ i = .int .i64 k) (fun i => args.length - (intOf i).toNat)
  case atStart => exact ⟨0, by omega, rfl⟩
  case round =>
    obtain ⟨k, hk, rfl⟩ := hrel
    by_cases hlt : k < args.length
    · obtain ⟨g, rfl, c0⟩ := HV.out k hlt
      have h1 := h32.get k hlt
      have h2 : ¬ args[k] < -2147483648 := by omega
      have h3 : ¬ 2147483647 < args[k] := by omega
      go_wp2
      exact ⟨⟨k + 1, by omega, by go_num⟩, by simp [intOf]; omega⟩
    · go_wp2
      go_ret
      exact ⟨rfl, rfl⟩

set_option maxRecDepth 100000 in
set_option maxHeartbeats 2000000 in
theorem irRun_ok (s : List UInt8) (f : Code.Fn) (av : Value) (args : List Int) (fu : Nat) (w : World) (hs : s.length ≤ 1500) (ht : Tab w) (hf : Code.FnIs s f) (hr : Code.Right f.blocks) (hav : w.ownsRow 0 3 1 av args.length (ints args)) (hal : args.length = f.args) (h32 : In32 args) (hal2 : args.length ≤ 100000) (hfu : fu ≤ 100000) (hrun : Code.Runs args f.blocks) :
    Calls Tryd.prog 18 #[.string (bs s), av, .int .i64 (fu : Nat)] w fun e w' =>
      ∃ (r : Int) (n : Nat) (er : Int), Code.Ends args f.blocks fu 0 0 zeros 0 r n er ∧ e = .returned (.tuple #[.int .i64 r, .int .i64 (n : Nat), .int .i64 er]) ∧ Below w.heap.size w w' := by
  obtain ⟨pa, ca, rfl⟩ := own_slice hav
  have HAV := hide hav
  have HR := hide hrun
  have H32 := hide h32
  have HREAD := hide (irRead_ok s f w hs ht hf hr)
  clear hav hrun ht hf hr h32
  go_enter Tryd.func18, Tryd.ntmps18
  go_wp2_with fail
  refine HREAD.out.mono ?_
  rintro e w1 ⟨p, c, rfl, hrep, hb1⟩
  have HREP := hide hrep
  have hne : ((args.length : Int) != (f.args : Int)) = false := by rw [hal]; simp
  have hf0 : ¬ (fu : Int) < 0 := by omega
  have hf1 : ¬ (100000 : Int) < (fu : Int) := by omega
  clear hrep hal
  go_wp2_with fail
  generalize hw2 : w1.alloc _ = w2
  have hb2 : Below w.heap.size w w2 := by rw [← hw2]; exact below_al hb1 _
  have hx2 : w2.heap[w1.heap.size]? = some (.cells #[.int .i64 (f.args : Nat), .slice p f.blocks.length c] 47) := by rw [← hw2]; exact heap_alloc_new w1 _
  have hb12 : Below w1.heap.size w1 w2 := by rw [← hw2]; exact below_al (Below.refl _ _) _
  have c0 := blk_cell hx2 0 _ rfl
  have c1 := blk_cell hx2 1 _ rfl
  clear hw2
  refine (allNumbers_ok (.slice pa args.length ca) args w2 (own_below HAV.out hb2) H32.out hal2).mono ?_
  rintro e w2 ⟨rfl, rfl⟩
  go_wp2_with fail
  refine (frun_any f.args (.slice pa args.length ca) args fu f.blocks p c w.heap.size w2 hfu (own_below HAV.out hb2) (HREP.out.below hb12) HR.out).mono ?_
  rintro e w3 ⟨r, n, er, hE, rfl, hb3⟩
  have HE := hide hE
  clear hE
  go_wp2
  refine bodyPost_ret (v := .tuple #[.int .i64 r, .int .i64 (n : Nat), .int .i64 er]) (by simp [results, Tryd.results18, go_sem]) rfl ?_
  exact ⟨r, n, er, HE.out, rfl, hb2.trans (hb3.mono hb2.size)⟩
end Go.Proofs.YtedkjanogjglkaaDoor
