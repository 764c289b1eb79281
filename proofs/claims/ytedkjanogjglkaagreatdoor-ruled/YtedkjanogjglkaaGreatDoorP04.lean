/-
  Parts of the proof: CSet2, CSet3, CMap, CEdges, COnce.
-/
import Derived.Test.YtedkjanogjglkaaGreatDoorP03
import Derived.Maps.Own
import Derived.Maps.OwnOps
import Derived.Maps.Views
import Derived.DeepKeys4
namespace Go.Proofs.YtedkjanogjglkaaGreatDoor
open Go.RowKit
namespace Code
def both (R S : List Bool) : List Bool := List.zipWith (· && ·) R S
def bothTo (R S : List Bool) (k : Nat) : List Bool := (both R S).take k ++ R.drop k
theorem both_length {R S : List Bool} (h : R.length = 60) (h' : S.length = 60) : (both R S).length = 60 := by simp [both, h, h']
theorem bothTo_length {R S : List Bool} (h : R.length = 60) (h' : S.length = 60) (k : Nat) : (bothTo R S k).length = 60 := by
 have := both_length h h'
 simp [bothTo, this, h]; omega
theorem bothTo_get {R S : List Bool} (h : R.length = 60) (h' : S.length = 60) (k : Nat) (hk : k < 60) : (bothTo R S k)[k]? = some (R[k]'(by omega)) := by
 have := both_length h h'
 rw [bothTo, List.getElem?_append_right (by simp; omega)]
 simp [this]
 rw [show k + (k - min k 60) = k by omega, List.getElem?_eq_getElem (by omega)]
theorem bothTo_set {R S : List Bool} (h : R.length = 60) (h' : S.length = 60) (k : Nat) (hk : k < 60) : (bothTo R S k).set k (R[k]'(by omega) && S[k]'(by omega)) = bothTo R S (k + 1) := by
 have hl := both_length h h'
 apply List.ext_getElem?
 intro j
 rw [List.getElem?_set]
 by_cases hj : k = j
 ·subst hj
  rw [if_pos rfl, if_pos (by rw [bothTo_length h h']; exact hk), bothTo, List.getElem?_append_left (by simp; omega), List.getElem?_take_of_lt (by omega), List.getElem?_eq_getElem (by omega)]
  simp [both]
 ·rw [if_neg hj]
  by_cases hjk : j < k
  ·rw [bothTo, bothTo, List.getElem?_append_left (by simp; omega), List.getElem?_append_left (by simp; omega), List.getElem?_take_of_lt hjk, List.getElem?_take_of_lt (by omega)]
  ·rw [bothTo, bothTo, List.getElem?_append_right (by simp; omega), List.getElem?_append_right (by simp; omega)]
   simp only [List.getElem?_drop, List.length_take]
   congr 1
   omega
theorem bothTo_zero (R S : List Bool) : bothTo R S 0 = R := by simp [bothTo]
theorem bothTo_end {R S : List Bool} (h : R.length = 60) (h' : S.length = 60) : bothTo R S 60 = both R S := by
 have := both_length h h'
 rw [bothTo, List.take_of_length_le (by omega), List.drop_of_length_le (by omega), List.append_nil]
def hasAll (R : List Bool) (of : List Nat) : Bool := of.all fun n => R.getD n false
end Code
theorem alloc_size (w : World) (o : Obj) : (w.alloc o).heap.size = w.heap.size + 1 := by simp
set_option maxRecDepth 100000 in
set_option maxHeartbeats 1000000 in
theorem both_any (R S : List Bool) (hR : R.length = 60) (hS : S.length = 60) (w : World) :
  Calls Tryz.prog 204 #[.agg (setA R), .agg (setA S)] w fun e w' => e = .returned (.agg (setA (Code.both R S))) ∧ Below w.heap.size w w' := by
 have HL := hide (setSize (Code.both R S) (Code.both_length hR hS))
 have HL' := hide (setSize' (Code.both R S) (Code.both_length hR hS))
 have HO := hide (setOne (Code.both R S))
 go_enter Tryz.func204, Tryz.ntmps204
 go_wp2
 generalize hw0 : ((w.alloc _).alloc _).alloc _ = w0
 have hr0 : setRow w0 w.heap.size R := by rw [← hw0]; exact stay_alloc (stay_alloc (heap_alloc_new w _))
 have hr1 : setRow w0 (w.heap.size + 1) S := by
  have h := heap_alloc_new (w.alloc (.cells (setA R) 281)) (.cells (setA S) 281)
  rw [alloc_size] at h
  rw [← hw0]; exact stay_alloc h
 have hr2 : setRow w0 (w.heap.size + 1 + 1) noNumber := by
  have h := heap_alloc_new ((w.alloc (.cells (setA R) 281)).alloc (.cells (setA S) 281)) (.cells (setA noNumber) 281)
  rw [alloc_size, alloc_size] at h
  rw [← hw0]; exact h
 have hb0 : Below w.heap.size w w0 := by rw [← hw0]; exact below_al (below_al (below_al (Below.refl _ _) _) _) _
 clear hw0
 go_loopw [6] (fun i wr => ∃ k : Nat, k ≤ 60 ∧ i = .int .i64 k ∧ setRow wr w.heap.size (Code.bothTo R S k) ∧ setRow wr (w.heap.size + 1) S ∧ setRow wr (w.heap.size + 1 + 1) noNumber ∧ Below w.heap.size w wr) (fun i _ => 60 - (intOf i).toNat)
 case atStart => exact ⟨0, by omega, rfl, by rw [Code.bothTo_zero]; exact hr0, hr1, hr2, hb0⟩
 case round =>
  obtain ⟨k, hk, rfl, h1, h2, h3, hbw⟩ := hrel
  clear hr0 hr1 hr2 hb0
  by_cases hlt : k < 60
  ·have hc1 : wr.cell? ⟨w.heap.size, k, none⟩ = some (.bool (R[k]'(by omega))) := by
    have hkl : k < (Code.bothTo R S k).length := by rw [Code.bothTo_length hR hS]; exact hlt
    rw [h1.cell k hkl]
    have := Code.bothTo_get hR hS k hlt
    rw [List.getElem?_eq_getElem hkl] at this
    rw [Option.some.inj this]
   have hc2 := h2.cell k (by omega)
   have hf := blk_froz h1 k
   have hk' : (k : Int) < 60 := by omega
   have HS := hide (Code.bothTo_set hR hS k hlt)
   generalize R[k]'(by omega) = b1 at *
   generalize S[k]'(by omega) = b2 at *
   cases b1
   all_goals
    go_wp2
    refine ⟨⟨k + 1, by omega, by go_num, ?_, stay_set h2 (show w.heap.size + 1 ≠ w.heap.size by omega), stay_set h3 (show w.heap.size + 1 + 1 ≠ w.heap.size by omega), below_set hbw (by omega) _ _⟩, by simp [intOf]; omega⟩
    rw [← HS.out]
    simpa using h1.set k _
  ·have hk60 : k = 60 := by omega
   subst hk60
   rw [Code.bothTo_end hR hS] at h1
   have hB := Code.both_length hR hS
   have HTH := hide h3.there
   generalize hBB : Code.both R S = B at *
   go_wp2_with (first | refine wpList_load_mid rfl 281 _ rfl w.heap.size 0 rfl (setL B) _ h1.range Tryz.underlying281 rfl HL.out ?_ | refine wpList_store_mid rfl 281 _ _ rfl (w.heap.size + 1 + 1) 0 (setA B) rfl rfl ?_ HL'.out HO.out ?_)
   ·have h := HTH.out
    rw [show noNumber.length = (setA B).size by simp [noNumber, setA, setL, hB]] at h
    exact h
   ·have hp : setRow (wr.setCells (w.heap.size + 1 + 1) 0 (setA B).toList) (w.heap.size + 1 + 1) B := h3.put B (by simp [noNumber, hB])
    refine bodyPost_ret (v := .agg (setA B)) (results_cell_row rfl _ _ (w.heap.size + 1 + 1) 281 (setA B) _ _ rfl hp Tryz.underlying281 rfl HL'.out) rfl ?_
    exact ⟨by rw [hBB], below_cells hbw (by omega) _ _⟩
theorem nats_open {w : World} {base : Nat} {v : Value} {l : List Nat} (h : w.ownsRow base 3 1 v l.length (nats l)) :
  ∃ p cap, v = .slice p l.length cap ∧ ∀ k (h : k < l.length), ∃ g, p = some ⟨g, 0, none⟩ ∧ w.cell? ⟨g, k, none⟩ = some (.int .i64 (l[k] : Nat)) := by
 obtain ⟨p, cap, hv⟩ := own_slice h
 refine ⟨p, cap, hv, fun k hk => ?_⟩
 obtain ⟨g, cap', hv', _, _, hc⟩ := row_open h (by omega)
 rw [hv] at hv'
 simp only [Value.slice.injEq] at hv'
 exact ⟨g, hv'.1, hc _ _ (nats_get l k hk)⟩
namespace Code
theorem hasAll_no {R : List Bool} {of : List Nat} {k : Nat} (hk : k < of.length) (h : R.getD of[k] false = false) : hasAll R of = false := by
 rw [hasAll, List.all_eq_false]
 exact ⟨of[k], List.getElem_mem hk, by simp at h; simp [h]⟩
theorem hasAll_yes {R : List Bool} {of : List Nat} (h : ∀ k (hk : k < of.length), R.getD of[k] false = true) : hasAll R of = true := by
 rw [hasAll, List.all_eq_true]
 intro x hx
 obtain ⟨k, hk, rfl⟩ := List.getElem_of_mem hx
 exact h k hk
end Code
set_option maxRecDepth 100000 in
set_option maxHeartbeats 1000000 in
theorem hasAll_any (R : List Bool) (hR : R.length = 60) (of : List Nat) (hof : ∀ x ∈ of, x < 60) (hlen : of.length ≤ 100000) (v : Value) (base : Nat) (w : World) (hv : w.ownsRow base 3 1 v of.length (nats of)) :
  Calls Tryz.prog 165 #[.agg (setA R), v] w fun e w' => e = .returned (.bool (Code.hasAll R of)) ∧ Below w.heap.size w w' := by
 obtain ⟨p, cap, rfl, hval⟩ := nats_open hv
 have HV := hide hval
 clear hval hv
 go_enter Tryz.func165, Tryz.ntmps165
 go_wp2
 generalize hw0 : w.alloc _ = w0
 have hr0 : setRow w0 w.heap.size R := by rw [← hw0]; exact heap_alloc_new w _
 have hb0 : Below w.heap.size w w0 := by rw [← hw0]; exact below_al (Below.refl _ _) _
 clear hw0
 go_loop [9] (fun i => ∃ k : Nat, k ≤ of.length ∧ i = .int .i64 k ∧ Hid (∀ j (h : j < of.length), j < k → R.getD of[j] false = true)) (fun i => of.length - (intOf i).toNat)
 case atStart => exact ⟨0, by omega, rfl, hide (fun j _ h => by omega)⟩
 case round =>
  obtain ⟨k, hk, rfl, hsp⟩ := hrel
  by_cases hlt : k < of.length
  ·obtain ⟨g, rfl, c0⟩ := HV.out k hlt
   have hlt60 := hof of[k] (List.getElem_mem hlt)
   have hg : g < w.heap.size := by
    cases hh : w.heap[g]? with
    | none => simp [World.cell?, hh] at c0
    | some o => exact lt_of_block hh
   have c0' : w0.cell? ⟨g, k, none⟩ = some (.int .i64 (of[k] : Nat)) := by rw [(bcell hb0).1 g k hg]; exact c0
   have hc := hr0.cell of[k] (by omega)
   have h60 : ((of[k] : Nat) : Int) < 60 := by omega
   have hget : R.getD of[k] false = R[of[k]]'(by omega) := by rw [List.getD_eq_getElem?_getD, List.getElem?_eq_getElem (by omega)]; rfl
   cases hb : R[of[k]]'(by omega) with
   | false =>
    have HF := hide (Code.hasAll_no hlt (hget.trans hb))
    rw [hb] at hc
    clear hb hget hsp c0
    go_wp2
    go_ret
    exact ⟨ret_bool HF.out.symm, hb0⟩
   | true =>
    have HF : Hid (∀ j (h : j < of.length), j < k + 1 → R.getD of[j] false = true) := hide fun j h hj => by
     rcases Nat.lt_succ_iff_lt_or_eq.1 hj with h' | h'
     ·exact hsp.out j h h'
     ·subst h'; exact hget.trans hb
    rw [hb] at hc
    clear hb hget hsp c0
    go_wp2
    exact ⟨⟨k + 1, by omega, by go_num, HF⟩, by simp [intOf]; omega⟩
  ·have HF := hide (Code.hasAll_yes (R := R) (of := of) (fun j h => hsp.out j h (by omega)))
   go_wp2
   go_ret
   exact ⟨ret_bool HF.out.symm, hb0⟩
theorem RepVals.open {w : World} {base : Nat} {v : Value} {l : List Code.Val} (h : RepVals w base v l) :
  ∃ p cap, v = .slice p l.length cap ∧ ∀ k (h : k < l.length), ∃ g th, p = some ⟨g, 0, none⟩ ∧ g < w.heap.size ∧ w.cell? ⟨g, k * 2, none⟩ = some (.int .i64 (l[k].num : Nat)) ∧ w.cell? ⟨g, k * 2 + 1, none⟩ = some th ∧ ThingV w base l[k].thing th := by
 obtain ⟨cs, h1, h2⟩ := h
 obtain ⟨p, cap, hv⟩ := own_slice h1
 refine ⟨p, cap, hv, fun k hk => ?_⟩
 obtain ⟨g, cap', hv', _, hg, hc⟩ := row_open h1 (by omega)
 rw [hv] at hv'
 simp only [Value.slice.injEq] at hv'
 obtain ⟨th, g0, g1, g2⟩ := h2 k hk
 exact ⟨g, th, hv'.1, hg, hc _ _ g0, hc _ _ g1, g2⟩
theorem ThingV.shape {w : World} {base : Nat} {y : Code.Thing} {v : Value} (h : ThingV w base y v) : ∃ T pv, v = .iface T pv := by
 cases y with
 | phi of => obtain ⟨r, h1, _⟩ := h; exact ⟨_, _, h1⟩
 | arg n => exact ⟨_, _, h⟩
 | const n => exact ⟨_, _, h⟩
 | apply k of => obtain ⟨r, h1, _⟩ := h; exact ⟨_, _, h1⟩
theorem lastV_shape (z : Code.Last) : ∃ T pv, lastV z = .iface T pv := by cases z <;> exact ⟨_, _, rfl⟩
namespace Code
def addAll (R : List Bool) (l : List Val) : List Bool := l.foldl (fun R v => R.set v.num true) R
theorem addAll_length (R : List Bool) (l : List Val) : (addAll R l).length = R.length := by
 unfold addAll
 induction l generalizing R with
 | nil => rfl
 | cons v l ih => rw [List.foldl_cons, ih]; simp
theorem addAll_snoc (R : List Bool) (l : List Val) (k : Nat) (h : k < l.length) : addAll R (l.take (k + 1)) = (addAll R (l.take k)).set l[k].num true := by
 rw [List.take_add_one, List.getElem?_eq_getElem h, addAll, List.foldl_append]; rfl
end Code
set_option maxRecDepth 100000 in
set_option maxHeartbeats 1000000 in
theorem madeAtEnd_any (R : List Bool) (hR : R.length = 60) (l : List Code.Val) (hl : ∀ x ∈ l, x.num < 60) (hlen : l.length ≤ 100000) (v zv : Value) (base : Nat) (w : World) (hv : RepVals w base v l) (hz : ∃ T pv, zv = .iface T pv) :
  Calls Tryz.prog 203 #[.agg #[v, zv], .agg (setA R)] w fun e w' => e = .returned (.agg (setA (Code.addAll R l))) ∧ Below w.heap.size w w' := by
 obtain ⟨p, cap, rfl, hval⟩ := hv.open
 obtain ⟨T, pv, rfl⟩ := hz
 have HV := hide hval
 clear hval hv
 have hA := Code.addAll_length R l
 rw [hR] at hA
 have HL := hide (setSize (Code.addAll R l) hA)
 have HL' := hide (setSize' (Code.addAll R l) hA)
 have HO := hide (setOne (Code.addAll R l))
 go_enter Tryz.func203, Tryz.ntmps203
 go_wp2
 generalize hw0 : ((w.alloc _).alloc _).alloc _ = w0
 have hr1 : setRow w0 (w.heap.size + 1) R := by
  have h := heap_alloc_new (w.alloc (.cells #[.slice p l.length cap, .iface T pv] 165)) (.cells (setA R) 281)
  rw [alloc_size] at h
  rw [← hw0]; exact stay_alloc h
 have hr2 : setRow w0 (w.heap.size + 1 + 1) noNumber := by
  have h := heap_alloc_new ((w.alloc (.cells #[.slice p l.length cap, .iface T pv] 165)).alloc (.cells (setA R) 281)) (.cells (setA noNumber) 281)
  rw [alloc_size, alloc_size] at h
  rw [← hw0]; exact h
 have hb0 : Below w.heap.size w w0 := by rw [← hw0]; exact below_al (below_al (below_al (Below.refl _ _) _) _) _
 clear hw0
 go_loopw [10] (fun i wr => ∃ k : Nat, k ≤ l.length ∧ i = .int .i64 k ∧ setRow wr (w.heap.size + 1) (Code.addAll R (l.take k)) ∧ setRow wr (w.heap.size + 1 + 1) noNumber ∧ Below w.heap.size w wr) (fun i _ => l.length - (intOf i).toNat)
 case atStart => exact ⟨0, by omega, rfl, hr1, hr2, hb0⟩
 case round =>
  obtain ⟨k, hk, rfl, h1, h2, hbw⟩ := hrel
  clear hr1 hr2 hb0
  have hz := hbw.size
  by_cases hlt : k < l.length
  ·obtain ⟨g, th, rfl, hg, c0, c1, hth⟩ := HV.out k hlt
   obtain ⟨T', pv', rfl⟩ := hth.shape
   have c0' : wr.cell? ⟨g, k * 2, none⟩ = some (.int .i64 (l[k].num : Nat)) := by rw [(bcell hbw).1 g _ hg]; exact c0
   have c1' : wr.cell? ⟨g, k * 2 + 1, none⟩ = some (.iface T' pv') := by rw [(bcell hbw).1 g _ hg]; exact c1
   have h60' := hl l[k] (List.getElem_mem hlt)
   have h60 : ((l[k].num : Nat) : Int) < 60 := by omega
   have HS := hide (Code.addAll_snoc R l k hlt)
   have hlA := Code.addAll_length R (l.take k)
   obtain ⟨b, hc⟩ : ∃ b, wr.cell? ⟨w.heap.size + 1, l[k].num, none⟩ = some b := ⟨_, h1.cell l[k].num (by omega)⟩
   have hf := blk_froz h1 l[k].num
   clear c0 c1 hth hlA
   have hlt1 := lt_of_block h1
   have hlt2 := lt_of_block h2
   go_wp2
   refine ⟨⟨k + 1, by omega, by go_num, ?_, stay_alloc (stay_set h2 (show w.heap.size + 1 + 1 ≠ w.heap.size + 1 by omega)), below_al (below_set hbw (by omega) _ _) _⟩, by simp [intOf]; omega⟩
   rw [HS.out]
   exact stay_alloc (h1.set _ true)
  ·have hk60 : l.take k = l := List.take_of_length_le (by omega)
   rw [hk60] at h1
   clear hk60
   have HTH := hide h2.there
   generalize hBB : Code.addAll R l = B at *
   go_wp2_with (first | refine wpList_load_mid rfl 281 _ rfl (w.heap.size + 1) 0 rfl (setL B) _ h1.range Tryz.underlying281 rfl HL.out ?_ | refine wpList_store_mid rfl 281 _ _ rfl (w.heap.size + 1 + 1) 0 (setA B) rfl rfl ?_ HL'.out HO.out ?_)
   ·have h := HTH.out
    rw [show noNumber.length = (setA B).size by simp [noNumber, setA, setL, hA]] at h
    exact h
   ·have hp : setRow (wr.setCells (w.heap.size + 1 + 1) 0 (setA B).toList) (w.heap.size + 1 + 1) B := h2.put B (by simp [noNumber, hA])
    refine bodyPost_ret (v := .agg (setA B)) (results_cell_row rfl _ _ (w.heap.size + 1 + 1) 281 (setA B) _ _ rfl hp Tryz.underlying281 rfl HL'.out) rfl ?_
    exact ⟨by rw [hBB], below_cells hbw (by omega) _ _⟩
namespace Code
def tg : Last → List Nat
 | .ret _ => []
 | .jump t => [t]
 | .ifs _ t e => [t, e]
def useL : Last → List Nat
 | .ret v => [v]
 | .jump _ => []
 | .ifs v _ _ => [v]
def useT : Thing → List Nat
 | .apply _ of => of
 | _ => []
end Code
theorem own_nats1 (W : World) (x : Nat) {base g : Nat} (hg : g = W.heap.size) (hb : base ≤ g) : (W.alloc (.cells #[.int .i64 (x : Nat)] 3)).ownsRow base 3 1 (.slice (some ⟨g, 0, none⟩) 1 1) 1 (nats [x]) := by
 subst hg
 exact ⟨by simp [nats], Or.inr ⟨_, _, _, rfl, hb, heap_alloc_new W _, Nat.le_refl _, by decide, by simp, rfl⟩⟩
theorem own_nats2 (W : World) (x y : Nat) {base g : Nat} (hg : g = W.heap.size) (hb : base ≤ g) : (W.alloc (.cells #[.int .i64 (x : Nat), .int .i64 (y : Nat)] 3)).ownsRow base 3 1 (.slice (some ⟨g, 0, none⟩) 2 2) 2 (nats [x, y]) := by
 subst hg
 exact ⟨by simp [nats], Or.inr ⟨_, _, _, rfl, hb, heap_alloc_new W _, Nat.le_refl _, by decide, by simp, rfl⟩⟩
theorem isJump_ret (v : Value) (w : World) : (Instr.typeAssert (.iface 240 v) 163 242 true).run Tryz.prog w = .ok (.tuple #[.agg #[.int .i64 0], .bool false]) w := by kernel_rfl
theorem isJump_jump (v : Value) (w : World) : (Instr.typeAssert (.iface 242 v) 163 242 true).run Tryz.prog w = .ok (.tuple #[v, .bool true]) w := by kernel_rfl
theorem isJump_if (v : Value) (w : World) : (Instr.typeAssert (.iface 244 v) 163 242 true).run Tryz.prog w = .ok (.tuple #[.agg #[.int .i64 0], .bool false]) w := by kernel_rfl
theorem isIf_ret (v : Value) (w : World) : (Instr.typeAssert (.iface 240 v) 163 244 true).run Tryz.prog w = .ok (.tuple #[.agg #[.int .i64 0, .int .i64 0, .int .i64 0], .bool false]) w := by kernel_rfl
theorem isIf_jump (v : Value) (w : World) : (Instr.typeAssert (.iface 242 v) 163 244 true).run Tryz.prog w = .ok (.tuple #[.agg #[.int .i64 0, .int .i64 0, .int .i64 0], .bool false]) w := by kernel_rfl
theorem isIf_if (v : Value) (w : World) : (Instr.typeAssert (.iface 244 v) 163 244 true).run Tryz.prog w = .ok (.tuple #[v, .bool true]) w := by kernel_rfl
theorem isRet_ret (v : Value) (w : World) : (Instr.typeAssert (.iface 240 v) 163 240 true).run Tryz.prog w = .ok (.tuple #[v, .bool true]) w := by kernel_rfl
theorem isRet_jump (v : Value) (w : World) : (Instr.typeAssert (.iface 242 v) 163 240 true).run Tryz.prog w = .ok (.tuple #[.agg #[.int .i64 0], .bool false]) w := by kernel_rfl
theorem isRet_if (v : Value) (w : World) : (Instr.typeAssert (.iface 244 v) 163 240 true).run Tryz.prog w = .ok (.tuple #[.agg #[.int .i64 0], .bool false]) w := by kernel_rfl
theorem isApply_phi (v : Value) (w : World) : (Instr.typeAssert (.iface 232 v) 167 238 true).run Tryz.prog w = .ok (.tuple #[.agg #[.int .i64 0, .slice none 0 0], .bool false]) w := by kernel_rfl
theorem isApply_arg (v : Value) (w : World) : (Instr.typeAssert (.iface 234 v) 167 238 true).run Tryz.prog w = .ok (.tuple #[.agg #[.int .i64 0, .slice none 0 0], .bool false]) w := by kernel_rfl
theorem isApply_const (v : Value) (w : World) : (Instr.typeAssert (.iface 236 v) 167 238 true).run Tryz.prog w = .ok (.tuple #[.agg #[.int .i64 0, .slice none 0 0], .bool false]) w := by kernel_rfl
theorem isApply_apply (v : Value) (w : World) : (Instr.typeAssert (.iface 238 v) 167 238 true).run Tryz.prog w = .ok (.tuple #[v, .bool true]) w := by kernel_rfl
set_option maxHeartbeats 1000000 in
theorem targets_any (z : Code.Last) (w : World) :
  Calls Tryz.prog 144 #[lastV z] w fun e w' => ∃ v, e = .returned v ∧ w'.ownsRow w.heap.size 3 1 v (Code.tg z).length (nats (Code.tg z)) ∧ Below w.heap.size w w' := by
 cases z with
 | ret v =>
  have h1 := isJump_ret
  have h2 := isIf_ret
  unfold lastV
  go_enter Tryz.func144, Tryz.ntmps144
  go_wp2
  go_ret
  exact ⟨_, rfl, World.ownsRow_nil _ _ _ _, Below.refl _ _⟩
 | jump t =>
  have h1 := isJump_jump
  unfold lastV
  go_enter Tryz.func144, Tryz.ntmps144
  go_wp2
  go_ret
  exact ⟨_, rfl, own_nats1 _ t (alloc_size _ _).symm (Nat.le_succ _), below_al (below_al (Below.refl _ _) _) _⟩
 | ifs v x y =>
  have h1 := isJump_if
  have h2 := isIf_if
  unfold lastV
  go_enter Tryz.func144, Tryz.ntmps144
  go_wp2
  go_ret
  exact ⟨_, rfl, own_nats2 _ x y (alloc_size _ _).symm (Nat.le_succ _), below_al (below_al (Below.refl _ _) _) _⟩
set_option maxHeartbeats 1000000 in
theorem usesOfLast_any (z : Code.Last) (w : World) :
  Calls Tryz.prog 167 #[lastV z] w fun e w' => ∃ v, e = .returned v ∧ w'.ownsRow w.heap.size 3 1 v (Code.useL z).length (nats (Code.useL z)) ∧ Below w.heap.size w w' := by
 cases z with
 | ret v =>
  have h1 := isRet_ret
  unfold lastV
  go_enter Tryz.func167, Tryz.ntmps167
  go_wp2
  go_ret
  exact ⟨_, rfl, own_nats1 _ v (alloc_size _ _).symm (Nat.le_succ _), below_al (below_al (Below.refl _ _) _) _⟩
 | jump t =>
  have h1 := isRet_jump
  have h2 := isIf_jump
  unfold lastV
  go_enter Tryz.func167, Tryz.ntmps167
  go_wp2
  go_ret
  exact ⟨_, rfl, World.ownsRow_nil _ _ _ _, Below.refl _ _⟩
 | ifs v x y =>
  have h1 := isRet_if
  have h2 := isIf_if
  unfold lastV
  go_enter Tryz.func167, Tryz.ntmps167
  go_wp2
  go_ret
  exact ⟨_, rfl, own_nats1 _ v (alloc_size _ _).symm (Nat.le_succ _), below_al (below_al (Below.refl _ _) _) _⟩
set_option maxHeartbeats 1000000 in
theorem usesInPlace_any (y : Code.Thing) (v : Value) (base : Nat) (w : World) (hy : ThingV w base y v) :
  Calls Tryz.prog 166 #[v] w fun e w' => ∃ r, e = .returned r ∧ w'.ownsRow base 3 1 r (Code.useT y).length (nats (Code.useT y)) ∧ Below w.heap.size w w' := by
 cases y with
 | phi of =>
  obtain ⟨r, rfl, hr⟩ := hy
  have h1 := isApply_phi
  go_enter Tryz.func166, Tryz.ntmps166
  go_wp2
  go_ret
  exact ⟨_, rfl, World.ownsRow_nil _ _ _ _, Below.refl _ _⟩
 | arg n =>
  have hy' : v = _ := hy
  subst hy'
  have h1 := isApply_arg
  go_enter Tryz.func166, Tryz.ntmps166
  go_wp2
  go_ret
  exact ⟨_, rfl, World.ownsRow_nil _ _ _ _, Below.refl _ _⟩
 | const n =>
  have hy' : v = _ := hy
  subst hy'
  have h1 := isApply_const
  go_enter Tryz.func166, Tryz.ntmps166
  go_wp2
  go_ret
  exact ⟨_, rfl, World.ownsRow_nil _ _ _ _, Below.refl _ _⟩
 | apply k of =>
  obtain ⟨r, rfl, hr⟩ := hy
  obtain ⟨p, c, rfl⟩ := own_slice hr
  have h1 := isApply_apply
  go_enter Tryz.func166, Tryz.ntmps166
  go_wp2
  go_ret
  exact ⟨_, rfl, hr.alloc _, below_al (Below.refl _ _) _⟩
theorem laidOutP : laidOutB Tryz.prog = true := by kernel_rfl
theorem rowEdge : (256 : TypeId) < Tryz.prog.types.size := of_decide_eq_true (by kernel_rfl)
theorem wideEdge : (match Tryz.prog.underlying 256 with | some (.array _ _) | some (.struct _) => true | _ => false) = true := by kernel_rfl
set_option maxRecDepth 100000 in
theorem lawEdge : WideMaps.KeyLaw Tryz.prog 256 := deep_law_laid laidOutP (m := 2) (by omega) rowEdge (by kernel_rfl) wideEdge
theorem keyedEdge : Maps.Keyed Tryz.prog 256 := Maps.Keyed.of_law lawEdge
def edgeV (x y : Nat) : Value := .agg #[.int .i64 (x : Nat), .int .i64 (y : Nat)]
theorem edgeV_inj {x y x' y' : Nat} (h : edgeV x y = edgeV x' y') : x = x' ∧ y = y' := by
 simp [edgeV] at h
 omega
theorem edge_key (x y : Nat) (hx : x < 8) (hy : y < 2) : ∃ kl, keyOf Tryz.prog 256 (edgeV x y) = some kl := by
 have h : (keyOf Tryz.prog 256 (edgeV x y)).isSome = true := by
  match x, y, hx, hy with
  | 0, 0, _, _ =>
   show _ = _
   kernel_rfl
  | 0, 1, _, _ =>
   show _ = _
   kernel_rfl
  | 1, 0, _, _ =>
   show _ = _
   kernel_rfl
  | 1, 1, _, _ =>
   show _ = _
   kernel_rfl
  | 2, 0, _, _ =>
   show _ = _
   kernel_rfl
  | 2, 1, _, _ =>
   show _ = _
   kernel_rfl
  | 3, 0, _, _ =>
   show _ = _
   kernel_rfl
  | 3, 1, _, _ =>
   show _ = _
   kernel_rfl
  | 4, 0, _, _ =>
   show _ = _
   kernel_rfl
  | 4, 1, _, _ =>
   show _ = _
   kernel_rfl
  | 5, 0, _, _ =>
   show _ = _
   kernel_rfl
  | 5, 1, _, _ =>
   show _ = _
   kernel_rfl
  | 6, 0, _, _ =>
   show _ = _
   kernel_rfl
  | 6, 1, _, _ =>
   show _ = _
   kernel_rfl
  | 7, 0, _, _ =>
   show _ = _
   kernel_rfl
  | 7, 1, _, _ =>
   show _ = _
   kernel_rfl
 exact Option.isSome_iff_exists.1 h
def EMap (w : World) (b n : Nat) (m : Nat → Nat → Nat) : Prop :=
 ∃ D : DataW Unit, w.ownsMap Tryz.prog 256 (plainElem Tryz.prog 3) b n D ∧ Maps.IsMap D ∧
  ∀ x y, x < 8 → y < 2 → ∀ kl, keyOf Tryz.prog 256 (edgeV x y) = some kl → D.atKey kl (.lit (.int .i64 0)) = .lit (.int .i64 (m x y : Nat))
def put2 (m : Nat → Nat → Nat) (x y v : Nat) : Nat → Nat → Nat := fun a b => if a = x ∧ b = y then v else m a b
theorem EMap.made (w : World) : EMap (w.alloc (.map #[] 0)) w.heap.size 0 (fun _ _ => 0) :=
 ⟨.map [], World.ownsMap_made w _ _ _, ⟨[], rfl⟩, fun _ _ _ _ _ _ => rfl⟩
theorem EMap.kept {w w' : World} {b n : Nat} {m : Nat → Nat → Nat} {row : Option Nat} (h : EMap w b n m) (hg : w.grownBy w' row) (hne : some b ≠ row) : EMap w' b n m := by
 obtain ⟨D, h1, h2, h3⟩ := h
 exact ⟨D, h1.kept hg hne, h2, h3⟩
theorem EMap.lt {w : World} {b n : Nat} {m : Nat → Nat → Nat} (h : EMap w b n m) : b < w.heap.size := by
 obtain ⟨D, h1, _⟩ := h
 exact h1.lt
theorem EMap.below {w w' : World} {b n : Nat} {m : Nat → Nat → Nat} (h : EMap w b n m) (hb : Below w.heap.size w w') : EMap w' b n m :=
 h.kept (row := none) ⟨hb.os, hb.tape, hb.output, hb.size, fun k hk _ => hb.block k hk⟩ (by simp)
theorem nat_wf (n : Nat) (h : n ≤ 1000000) : (Lit.int .i64 (n : Nat)).wf = true := by
 have hmin : IntKind.i64.min = -9223372036854775808 := rfl
 have hmax : IntKind.i64.max = 9223372036854775807 := rfl
 simp only [Lit.wf, Bool.and_eq_true, decide_eq_true_eq]; omega
theorem zeroInt (w : World) : (zeroValue 3).run Tryz.prog w = .ok (.int .i64 0) w := by kernel_rfl
theorem EMap.look {w : World} {b n : Nat} {m : Nat → Nat → Nat} (h : EMap w b n m) (x y : Nat) (hx : x < 8) (hy : y < 2) :
  (Instr.lookup 251 (.map (some b)) (edgeV x y) false).run Tryz.prog w = .ok (.int .i64 (m x y : Nat)) w := by
 obtain ⟨D, h1, h2, h3⟩ := h
 obtain ⟨kl, hk⟩ := edge_key x y hx hy
 obtain ⟨c, g1, g2, _⟩ := h1.lookup_int keyedEdge Tryz.underlying251 Tryz.underlying3 (zeroInt w) hk
 have := h3 x y hx hy kl hk
 rw [g2] at this
 simp only [DataW.lit.injEq, Lit.int.injEq, true_and] at this
 rw [g1, this]
theorem EMap.put {w : World} {b n : Nat} {m : Nat → Nat → Nat} (h : EMap w b n m) (hn : n ≤ 1000) (x y v : Nat) (hx : x < 8) (hy : y < 2) (hv : v ≤ 1000000) :
  ∃ w', (Instr.mapUpdate 251 (.map (some b)) (edgeV x y) (.int .i64 (v : Nat))).run Tryz.prog w = .ok () w' ∧ EMap w' b (n + 1) (put2 m x y v) ∧ w.grownBy w' (some b) := by
 obtain ⟨D, h1, h2, h3⟩ := h
 obtain ⟨kl, hk⟩ := edge_key x y hx hy
 obtain ⟨w', g1, g2, g3⟩ := h1.update keyedEdge Tryz.underlying251 (by unfold maxLen; omega) hk (plainElem_int Tryz.underlying3 (nat_wf v hv))
 refine ⟨w', g1, ⟨_, g2, ?_, fun x' y' hx' hy' kl' hk' => ?_⟩, g3⟩
 ·obtain ⟨es, rfl⟩ := h2
  exact ⟨_, rfl⟩
 ·unfold put2
  by_cases he : x' = x ∧ y' = y
  ·obtain ⟨rfl, rfl⟩ := he
   rw [hk] at hk'
   cases hk'
   rw [Maps.atKey_put_same h2 (keyedEdge.key hk)]
   simp
  ·rw [if_neg he, Maps.atKey_put_other (fun e => he ?_)]
   ·exact h3 x' y' hx' hy' kl' hk'
   ·subst e
    exact edgeV_inj (keyedEdge.inj hk' hk)
namespace Code
def edgesTo (i : Nat) : List Nat → Nat → List (Nat × Nat × Nat)
 | [], _ => []
 | t :: r, k => (i, k, t) :: edgesTo i r (k + 1)
def edgesGo : List Blk → Nat → List (Nat × Nat × Nat)
 | [], _ => []
 | b :: r, i => edgesTo i (tg b.last) 0 ++ edgesGo r (i + 1)
structure Edges where
 counts : List Nat
 places : Nat → Nat → Nat
def Edges.add (E : Edges) (e : Nat × Nat × Nat) : Edges := ⟨E.counts.set e.2.2 (E.counts.getD e.2.2 0 + 1), put2 E.places e.1 e.2.1 (E.counts.getD e.2.2 0)⟩
def edges (bks : List Blk) : Edges := (edgesGo bks 0).foldl Edges.add ⟨List.replicate bks.length 0, fun _ _ => 0⟩
theorem add_length (E : Edges) (e : Nat × Nat × Nat) : (E.add e).counts.length = E.counts.length := by simp [Edges.add]
theorem tg_length (z : Last) : (tg z).length ≤ 2 := by cases z <;> simp [tg]
theorem counts_range (E : Edges) (n : Nat) (h : ∀ x ∈ E.counts, x ≤ n) (e : Nat × Nat × Nat) : ∀ x ∈ (E.add e).counts, x ≤ n + 1 := by
 intro x hx
 rcases List.mem_or_eq_of_mem_set hx with hx | rfl
 ·have := h x hx; omega
 ·by_cases hl : e.2.2 < E.counts.length
  ·have := h _ (List.getElem_mem hl)
   rw [List.getD_eq_getElem?_getD, List.getElem?_eq_getElem hl]
   simp only [Option.getD_some]; omega
  ·rw [List.getD_eq_getElem?_getD, List.getElem?_eq_none (by omega)]
   simp
end Code
theorem RepBlks.open {w : World} {base : Nat} {v : Value} {l : List Code.Blk} (h : RepBlks w base v l) :
  ∃ p cap, v = .slice p l.length cap ∧ ∀ k (h : k < l.length), ∃ g vs, p = some ⟨g, 0, none⟩ ∧ g < w.heap.size ∧ w.cell? ⟨g, k * 2, none⟩ = some vs ∧ w.cell? ⟨g, k * 2 + 1, none⟩ = some (lastV l[k].last) ∧ RepVals w base vs l[k].values := by
 obtain ⟨cs, h1, h2⟩ := h
 obtain ⟨p, cap, hv⟩ := own_slice h1
 refine ⟨p, cap, hv, fun k hk => ?_⟩
 obtain ⟨g, cap', hv', _, hg, hc⟩ := row_open h1 (by omega)
 rw [hv] at hv'
 simp only [Value.slice.injEq] at hv'
 obtain ⟨vs, g0, g1, g2⟩ := h2 k hk
 exact ⟨g, vs, hv'.1, hg, hc _ _ g0, hc _ _ g1, g2⟩
theorem own_at {w w' : World} {base e size n : Nat} {v : Value} {xs : List Value} (h : w.ownsRow base e size v n xs) (hb : ∀ b, v.ownBlock = some b → w'.heap[b]? = w.heap[b]?) : w'.ownsRow base e size v n xs := by
 refine ⟨h.1, ?_⟩
 rcases h.2 with h0 | ⟨g, cap, cur, hv, hbg, hgg, r⟩
 ·exact Or.inl h0
 ·exact Or.inr ⟨g, cap, cur, hv, hbg, by rw [hb g (by rw [hv]; rfl)]; exact hgg, r⟩
set_option maxRecDepth 100000 in
set_option maxHeartbeats 4000000 in
theorem edges_any (args : Nat) (bks : List Code.Blk) (p : Option Addr) (c : Nat) (base : Nat) (w : World) (hf : RepBlks w base (.slice p bks.length c) bks) (hn : bks.length ≤ 8) (ht : ∀ b ∈ bks, ∀ t ∈ Code.tg b.last, t < bks.length) :
  Calls Tryz.prog 140 #[.agg #[.int .i64 (args : Nat), .slice p bks.length c]] w fun e w' =>
   ∃ mb g n, e = .returned (.tuple #[.map (some mb), .slice (some ⟨g, 0, none⟩) bks.length bks.length]) ∧ w.heap.size ≤ mb ∧ w.heap.size ≤ g ∧ EMap w' mb n (Code.edges bks).places ∧ natRow w' g (Code.edges bks).counts ∧ Below w.heap.size w w' := by
 obtain ⟨i0, hi, hi0, hi1, hi2⟩ := info_parts infoInt
 have HF := hide hf
 have HTG := hide ht
 clear hf ht
 have hmk : ∀ w : World, (Instr.makeMap 251 none).run Tryz.prog w = .ok (.map (some w.heap.size)) (w.alloc (.map #[] 0)) := fun w => by kernel_rfl
 go_enter Tryz.func140, Tryz.ntmps140
 go_wp2_with (first | (at_make; refine wpList_make_full _ rfl _ _ 31 rfl w.heap.size 3 i0 (.int .i64 0) 1 Tryz.underlying31 hi hi0 hi1 .i64 .i64 _ _ bks.length rfl rfl rfl rfl (by rw [hi2]; omega) (by unfold maxLen; omega) (by simp; omega) ?_; intro w2 hown2 hgrow2; have hnr2 := natRow_made hown2; rw [alloc_size, alloc_size] at hnr2; have hbx : w2.heap[w.heap.size]? = some (.cells #[.int .i64 (args : Nat), .slice p bks.length c] 78) := (hgrow2.block _ (by simp; omega) (by simp)).trans (stay_alloc (heap_alloc_new w _)); have hc1 := blk_cell hbx 1 _ rfl))
 have hb2 : Below w.heap.size w w2 := by
  have h := below_al (below_al (Below.refl w.heap.size w) (.cells #[.int .i64 (args : Nat), .slice p bks.length c] 78)) (.map #[] 0)
  exact h.trans ⟨hgrow2.os, hgrow2.tape, hgrow2.output, hgrow2.size, fun k hk => hgrow2.block k (by simp; omega) (by simp)⟩
 have hE2 : EMap w2 (w.heap.size + 1) 0 (fun _ _ => 0) := by
  have h := EMap.made (w.alloc (.cells #[.int .i64 (args : Nat), .slice p bks.length c] 78))
  rw [alloc_size] at h
  exact h.kept hgrow2 (by simp)
 clear hown2 hgrow2 hbx hc1
 obtain ⟨p', c', hpe, hblk⟩ := HF.out.open
 simp only [Value.slice.injEq] at hpe
 obtain ⟨rfl, _, rfl⟩ := hpe
 have HBLK := hide hblk
 clear hblk
 go_loopw [18] (fun i wr => ∃ (j n : Nat) (E : Code.Edges), j ≤ bks.length ∧ i = .int .i64 j ∧ n ≤ 2 * j ∧ E.counts.length = bks.length ∧ (∀ x ∈ E.counts, x ≤ n) ∧ EMap wr (w.heap.size + 1) n E.places ∧ natRow wr (w.heap.size + 1 + 1) E.counts ∧ Below w.heap.size w wr ∧
   Hid ((Code.edgesGo (bks.drop j) j).foldl Code.Edges.add E = Code.edges bks)) (fun i _ => bks.length - (intOf i).toNat)
 case atStart => exact ⟨0, 0, ⟨List.replicate bks.length 0, fun _ _ => 0⟩, by omega, rfl, by omega, by simp, fun x hx => by rw [List.eq_of_mem_replicate hx]; omega, hE2, hnr2, hb2, hide rfl⟩
 case round =>
  obtain ⟨j, n, E, hj, rfl, hnj, hEl, hEx, hE, hnr, hbw, hsp⟩ := hrel
  clear hE2 hnr2 hb2
  have hz := hbw.size
  have hltE := hE.lt
  have hltN := lt_of_block hnr
  have HEX := hide hEx
  clear hEx
  by_cases hlt : j < bks.length
  ·obtain ⟨g, vs, rfl, hg, c0, c1, hvs⟩ := HBLK.out j hlt
   obtain ⟨pv, cv, rfl, hvv⟩ := hvs.open
   clear hvv
   have c0' : wr.cell? ⟨g, j * 2, none⟩ = some (.slice pv bks[j].values.length cv) := by rw [(bcell hbw).1 g _ hg]; exact c0
   have c1' : wr.cell? ⟨g, j * 2 + 1, none⟩ = some (lastV bks[j].last) := by rw [(bcell hbw).1 g _ hg]; exact c1
   have HTA := hide (targets_any bks[j].last)
   have htb : ∀ t ∈ Code.tg bks[j].last, t < bks.length := HTG.out bks[j] (List.getElem_mem hlt)
   have HSP : Hid ((Code.edgesTo j (Code.tg bks[j].last) 0 ++ Code.edgesGo (bks.drop (j + 1)) (j + 1)).foldl Code.Edges.add E = Code.edges bks) := by
    have h := hsp.out
    rw [List.drop_eq_getElem_cons hlt] at h
    exact h
   have htl := Code.tg_length bks[j].last
   generalize Code.tg bks[j].last = tl at *
   obtain ⟨T, zv, hzv⟩ := lastV_shape bks[j].last
   rw [hzv] at c1' HTA
   clear c0 c1 hvs hsp hzv
   generalize bks[j].values.length = vl at *
   go_wp2_with fail
   generalize hw3 : wr.alloc _ = w3
   have hb3 : Below wr.heap.size wr w3 := by rw [← hw3]; exact below_al (Below.refl _ _) _
   clear hw3
   refine (HTA.out w3).mono ?_
   rintro e w4 ⟨v4, rfl, hown4, hb4⟩
   have hsz3' := hb3.size
   have hb34 : Below wr.heap.size wr w4 := hb3.trans (hb4.mono hb3.size)
   have hE4 := hE.below hb34
   have hnr4 : natRow w4 (w.heap.size + 1 + 1) E.counts := (hb34.block _ hltN).trans hnr
   have hbw4 : Below w.heap.size w w4 := hbw.trans (hb34.mono hz)
   clear hb3 hb34 hE hnr c0' c1'
   obtain ⟨p4, c4, rfl, hval4⟩ := nats_open hown4
   have HV4 := hide hval4
   have hsz3 := hb4.size
   have hsz0 : w.heap.size + 1 + 1 < w3.heap.size := Nat.lt_of_lt_of_le hltN hsz3'
   clear hval4 hb4
   go_wp2_with fail
   rename World => wo
   go_loopw [27] (fun i ws => ∃ (k n' : Nat) (E' : Code.Edges), k ≤ tl.length ∧ i = .int .i64 k ∧ n' ≤ 2 * j + k ∧ E'.counts.length = bks.length ∧ (∀ x ∈ E'.counts, x ≤ n') ∧ EMap ws (w.heap.size + 1) n' E'.places ∧ natRow ws (w.heap.size + 1 + 1) E'.counts ∧ Below w.heap.size w ws ∧
     ws.ownsRow w3.heap.size 3 1 (.slice p4 tl.length c4) tl.length (nats tl) ∧
     Hid ((Code.edgesTo j (tl.drop k) k ++ Code.edgesGo (bks.drop (j + 1)) (j + 1)).foldl Code.Edges.add E' = Code.edges bks)) (fun i _ => tl.length - (intOf i).toNat)
   case atStart => exact ⟨0, n, E, by omega, rfl, by omega, hEl, HEX.out, hE4, hnr4, hbw4, hown4, HSP⟩
   case round =>
    obtain ⟨k, n', E', hk, rfl, hnk, hEl', hEx', hE', hnr', hbw', hown', hsp'⟩ := hrel
    rename_i ws _
    clear hE4 hnr4 hbw4 hown4 HSP HV4
    have HEX' := hide hEx'
    clear hEx'
    by_cases hkt : k < tl.length
    ·obtain ⟨p5, c5, hpe, hval⟩ := nats_open hown'
     simp only [Value.slice.injEq] at hpe
     obtain ⟨rfl, _, rfl⟩ := hpe
     obtain ⟨g4, rfl, ct⟩ := hval k hkt
     clear hval
     have htk := htb tl[k] (List.getElem_mem hkt)
     have hcl : tl[k] < E'.counts.length := by omega
     have hcell := hnr'.cell tl[k] hcl
     have hxn := HEX'.out E'.counts[tl[k]] (List.getElem_mem hcl)
     have hgd : E'.counts.getD tl[k] 0 = E'.counts[tl[k]] := by rw [List.getD_eq_getElem?_getD, List.getElem?_eq_getElem hcl]; rfl
     have HS : Hid ((Code.edgesTo j (tl.drop (k + 1)) (k + 1) ++ Code.edgesGo (bks.drop (j + 1)) (j + 1)).foldl Code.Edges.add (E'.add (j, k, tl[k])) = Code.edges bks) := by
      have h := hsp'.out
      rw [List.drop_eq_getElem_cons hkt] at h
      exact h
     have hcr := Code.counts_range E' n' HEX'.out (j, k, tl[k])
     have HCR := hide hcr
     obtain ⟨w6, hrun, hE6, hg6⟩ := hE'.put (by omega) j k E'.counts[tl[k]] (by omega) (by omega) (by omega)
     unfold edgeV at hrun
     have hnr6 : natRow w6 (w.heap.size + 1 + 1) E'.counts := (hg6.block _ (lt_of_block hnr') (by simp)).trans hnr'
     have hc6 := hnr6.cell tl[k] hcl
     have hf6 := blk_froz hnr6 tl[k]
     have hE7 : EMap w6 (w.heap.size + 1) (n' + 1) (E'.add (j, k, tl[k])).places := by
      have h := hE6
      rw [← hgd] at h
      exact h
     have HADD : Hid ((E'.add (j, k, tl[k])).counts = E'.counts.set tl[k] (E'.counts[tl[k]] + 1)) := by
      refine hide ?_
      show E'.counts.set tl[k] (E'.counts.getD tl[k] 0 + 1) = _
      rw [hgd]
     have hbw6 : Below w.heap.size w w6 := hbw'.trans ⟨hg6.os, hg6.tape, hg6.output, hg6.size, fun q hq => hg6.block q (by have := hbw'.size; omega) (by simp; omega)⟩
     have hi1 : (tl[k] : Int) < (bks.length : Int) := by omega
     have hown6 := hown'.kept hg6 (by
      by_cases h : (Value.slice (some ⟨g4, 0, none⟩) tl.length c4).ownBlock = none
      ·exact Or.inl h
      ·refine Or.inr (fun e => ?_)
       have h1 := (hown'.lt _ e).1
       have h2 := hsz0
       omega)
     clear hgd hcr hsp' hE6 hE' hnr' hown'
     generalize hX : E'.counts[tl[k]] = X at *
     go_wp2
     refine ⟨⟨k + 1, n' + 1, E'.add (j, k, tl[k]), by omega, by go_num, by omega, by rw [Code.add_length]; exact hEl', HCR.out, hE7.kept (grown_set _ _ _ _) (by simp), ?_, below_set hbw6 (by omega) _ _, hown6.kept (grown_set _ _ _ _) ?_, HS⟩, by simp [intOf]; omega⟩
     ·have h := hnr6.set tl[k] (X + 1)
      rw [show ((X + 1 : Nat) : Int) = (X : Int) + 1 by omega] at h
      rw [HADD.out]
      exact h
     ·by_cases h : (Value.slice (some ⟨g4, 0, none⟩) tl.length c4).ownBlock = none
      ·exact Or.inl h
      ·refine Or.inr (fun e => ?_)
       have h1 := (hown6.lt _ e).1
       omega
    ·have HS : Hid ((Code.edgesGo (bks.drop (j + 1)) (j + 1)).foldl Code.Edges.add E' = Code.edges bks) := by
      have h := hsp'.out
      rw [List.drop_of_length_le (by omega)] at h
      exact h
     clear hsp' hown'
     go_wp2
     exact ⟨⟨j + 1, n', E', by omega, by go_num, by omega, hEl', HEX'.out, hE', hnr', hbw', HS⟩, by simp [intOf]; omega⟩
  ·have HS : Hid (E = Code.edges bks) := by
    have h := hsp.out
    rw [List.drop_of_length_le (by omega)] at h
    exact h
   clear hsp
   go_wp2
   go_ret2
   refine ⟨w.heap.size + 1, w.heap.size + 1 + 1, n, rfl, by omega, by omega, ?_, ?_, hbw⟩
   ·rw [← HS.out]; exact hE
   ·rw [← HS.out]; exact hnr
namespace Code
def nums (l : List Val) : List Nat := l.map (·.num)
def Fresh (R : List Bool) (l : List Val) : Prop := (nums l).Nodup ∧ ∀ x ∈ nums l, R.getD x false = false
def Once : List Bool → List Blk → Prop
 | _, [] => True
 | R, b :: r => Fresh R b.values ∧ Once (addAll R b.values) r
theorem set_getD (R : List Bool) (n x : Nat) (hx : x ≠ n) : (R.set n true).getD x false = R.getD x false := by
 rw [List.getD_eq_getElem?_getD, List.getD_eq_getElem?_getD, List.getElem?_set_ne (by omega)]
theorem Fresh.head {R : List Bool} {v : Val} {l : List Val} (h : Fresh R (v :: l)) : R.getD v.num false = false ∧ Fresh (R.set v.num true) l := by
 obtain ⟨h1, h2⟩ := h
 simp only [nums, List.map_cons, List.nodup_cons] at h1
 refine ⟨h2 v.num (by simp [nums]), h1.2, fun x hx => ?_⟩
 rw [set_getD R v.num x (fun e => h1.1 (by subst e; exact hx))]
 exact h2 x (by simp only [nums, List.map_cons]; exact List.mem_cons_of_mem _ hx)
end Code
set_option maxRecDepth 100000 in
set_option maxHeartbeats 4000000 in
theorem madeOnce_ok (args : Nat) (bks : List Code.Blk) (p : Option Addr) (c : Nat) (base : Nat) (w : World) (hf : RepBlks w base (.slice p bks.length c) bks) (hn : bks.length ≤ 8) (hl : ∀ b ∈ bks, b.values.length ≤ 100000 ∧ ∀ v ∈ b.values, v.num < 60) (ho : Code.Once noNumber bks) :
  Calls Tryz.prog 119 #[.agg #[.int .i64 (args : Nat), .slice p bks.length c]] w fun e w' => e = .returned (.tuple #[]) ∧ Below w.heap.size w w' := by
 obtain ⟨p', c', hpe, hblk⟩ := hf.open
 simp only [Value.slice.injEq] at hpe
 obtain ⟨rfl, _, rfl⟩ := hpe
 have HBLK := hide hblk
 have HL := hide hl
 have HO := hide ho
 clear hblk hf hl ho
 go_enter Tryz.func119, Tryz.ntmps119
 go_wp2
 generalize hw0 : (w.alloc _).alloc _ = w0
 have hr0 : setRow w0 (w.heap.size + 1) noNumber := by
  have h := heap_alloc_new (w.alloc (.cells #[.int .i64 (args : Nat), .slice p bks.length c] 78)) (.cells (setA noNumber) 281)
  rw [alloc_size] at h
  rw [← hw0]; exact h
 have hb0 : Below w.heap.size w w0 := by rw [← hw0]; exact below_al (below_al (Below.refl _ _) _) _
 clear hw0
 go_loopw [10] (fun i wr => ∃ (j : Nat) (R : List Bool), j ≤ bks.length ∧ i = .int .i64 j ∧ R.length = 60 ∧ setRow wr (w.heap.size + 1) R ∧ Below w.heap.size w wr ∧ Hid (Code.Once R (bks.drop j))) (fun i _ => bks.length - (intOf i).toNat)
 case atStart => exact ⟨0, noNumber, by omega, rfl, rfl, hr0, hb0, HO⟩
 case round =>
  obtain ⟨j, R, hj, rfl, hR, hrow, hbw, hsp⟩ := hrel
  clear hr0 hb0 HO
  have hz := hbw.size
  by_cases hlt : j < bks.length
  ·obtain ⟨g, vs, rfl, hg, c0, c1, hvs⟩ := HBLK.out j hlt
   obtain ⟨hlen, hnum⟩ := HL.out bks[j] (List.getElem_mem hlt)
   have hO : Code.Fresh R bks[j].values ∧ Code.Once (Code.addAll R bks[j].values) (bks.drop (j + 1)) := by
    have h := hsp.out
    rw [List.drop_eq_getElem_cons hlt] at h
    exact h
   obtain ⟨pv, cv, rfl, hval⟩ := hvs.open
   have c0' : wr.cell? ⟨g, j * 2, none⟩ = some (.slice pv bks[j].values.length cv) := by rw [(bcell hbw).1 g _ hg]; exact c0
   obtain ⟨T, zv, hzv⟩ := lastV_shape bks[j].last
   have c1' : wr.cell? ⟨g, j * 2 + 1, none⟩ = some (.iface T zv) := by rw [(bcell hbw).1 g _ hg, ← hzv]; exact c1
   generalize bks[j].values = vals at *
   have HV := hide hval
   have HFR := hide hO.1
   have HON := hide hO.2
   have HNUM := hide hnum
   clear hval c0 c1 hvs hzv hsp hO hnum
   go_wp2_with fail
   generalize hw3 : wr.alloc _ = w3
   have hb3 : Below w.heap.size w w3 := by rw [← hw3]; exact below_al hbw _
   have hrow3 : setRow w3 (w.heap.size + 1) R := by rw [← hw3]; exact stay_alloc hrow
   clear hw3 c0' c1'
   rename World => wo
   go_loopw [18] (fun i ws => ∃ (k : Nat) (S : List Bool), k ≤ vals.length ∧ i = .int .i64 k ∧ S.length = 60 ∧ setRow ws (w.heap.size + 1) S ∧ Below w.heap.size w ws ∧ Hid (Code.Fresh S (vals.drop k) ∧ Code.addAll S (vals.drop k) = Code.addAll R vals)) (fun i _ => vals.length - (intOf i).toNat)
   case atStart => exact ⟨0, R, by omega, rfl, hR, hrow3, hb3, hide ⟨HFR.out, rfl⟩⟩
   case round =>
    obtain ⟨k, S, hk, rfl, hS, hrw, hbs, hsp⟩ := hrel
    clear hrow3 hb3 hrow HFR
    have hzs := hbs.size
    by_cases hkt : k < vals.length
    ·obtain ⟨g2, th, rfl, hg2, d0, d1, hth⟩ := HV.out k hkt
     obtain ⟨T', tv, rfl⟩ := hth.shape
     have d0' : wr.cell? ⟨g2, k * 2, none⟩ = some (.int .i64 (vals[k].num : Nat)) := by rw [(bcell hbs).1 g2 _ hg2]; exact d0
     have d1' : wr.cell? ⟨g2, k * 2 + 1, none⟩ = some (.iface T' tv) := by rw [(bcell hbs).1 g2 _ hg2]; exact d1
     have hx60 := HNUM.out vals[k] (List.getElem_mem hkt)
     have hF := hsp.out.1
     have hA := hsp.out.2
     rw [List.drop_eq_getElem_cons hkt] at hF hA
     have hh := hF.head
     have HN : Hid (Code.Fresh (S.set vals[k].num true) (vals.drop (k + 1)) ∧ Code.addAll (S.set vals[k].num true) (vals.drop (k + 1)) = Code.addAll R vals) := hide ⟨hh.2, hA⟩
     have hfalse := hh.1
     clear hF hA hh hth d0 d1 hsp
     generalize vals[k].num = x at *
     have hcx : wr.cell? ⟨w.heap.size + 1, x, none⟩ = some (.bool false) := by
      rw [hrw.cell x (by omega)]
      rw [List.getD_eq_getElem?_getD, List.getElem?_eq_getElem (by omega)] at hfalse
      simp only [Option.getD_some] at hfalse
      rw [hfalse]
     have hfx := blk_froz hrw x
     have hx' : (x : Int) < 60 := by omega
     have hl1 := lt_of_block hrw
     clear hfalse
     go_wp2
     exact ⟨⟨k + 1, S.set x true, by omega, by go_num, by simp [hS], stay_alloc (hrw.set x true), below_al (below_set hbs (by omega) _ _) _, HN⟩, by simp [intOf]; omega⟩
    ·have HA : Hid (S = Code.addAll R vals) := by
      have h := hsp.out.2
      rw [List.drop_of_length_le (by omega)] at h
      exact h
     clear hsp
     go_wp2
     refine ⟨⟨j + 1, S, by omega, by go_num, hS, hrw, hbs, ?_⟩, by simp [intOf]; omega⟩
     rw [HA.out]; exact HON
  ·go_wp2
   go_end0
   exact ⟨rfl, hbw⟩
set_option maxRecDepth 100000 in
set_option maxHeartbeats 4000000 in
theorem targets_ok (args : Nat) (bks : List Code.Blk) (p : Option Addr) (c : Nat) (base : Nat) (w : World) (hf : RepBlks w base (.slice p bks.length c) bks) (hn : bks.length ≤ 8) (ht : ∀ b ∈ bks, ∀ t ∈ Code.tg b.last, 1 ≤ t ∧ t < bks.length) :
  Calls Tryz.prog 120 #[.agg #[.int .i64 (args : Nat), .slice p bks.length c]] w fun e w' => e = .returned (.tuple #[]) ∧ Below w.heap.size w w' := by
 obtain ⟨p', c', hpe, hblk⟩ := hf.open
 simp only [Value.slice.injEq] at hpe
 obtain ⟨rfl, _, rfl⟩ := hpe
 have HBLK := hide hblk
 have HTG := hide ht
 clear hblk hf ht
 go_enter Tryz.func120, Tryz.ntmps120
 go_wp2
 generalize hw0 : w.alloc _ = w0
 have hx0 : w0.heap[w.heap.size]? = some (.cells #[.int .i64 (args : Nat), .slice p bks.length c] 78) := by rw [← hw0]; exact heap_alloc_new w _
 have hb0 : Below w.heap.size w w0 := by rw [← hw0]; exact below_al (Below.refl _ _) _
 clear hw0
 go_loopw [9] (fun i wr => ∃ j : Nat, j ≤ bks.length ∧ i = .int .i64 j ∧ wr.heap[w.heap.size]? = some (.cells #[.int .i64 (args : Nat), .slice p bks.length c] 78) ∧ Below w.heap.size w wr) (fun i _ => bks.length - (intOf i).toNat)
 case atStart => exact ⟨0, by omega, rfl, hx0, hb0⟩
 case round =>
  obtain ⟨j, hj, rfl, hx, hbw⟩ := hrel
  clear hx0 hb0
  have hz := hbw.size
  have hzx := lt_of_block hx
  by_cases hlt : j < bks.length
  ·obtain ⟨g, vs, rfl, hg, c0, c1, hvs⟩ := HBLK.out j hlt
   obtain ⟨pv, cv, rfl, hval⟩ := hvs.open
   clear hval
   have c0' : wr.cell? ⟨g, j * 2, none⟩ = some (.slice pv bks[j].values.length cv) := by rw [(bcell hbw).1 g _ hg]; exact c0
   have c1' : wr.cell? ⟨g, j * 2 + 1, none⟩ = some (lastV bks[j].last) := by rw [(bcell hbw).1 g _ hg]; exact c1
   have HTA := hide (targets_any bks[j].last)
   have htb := HTG.out bks[j] (List.getElem_mem hlt)
   have htl := Code.tg_length bks[j].last
   generalize Code.tg bks[j].last = tl at *
   obtain ⟨T, zv, hzv⟩ := lastV_shape bks[j].last
   rw [hzv] at c1' HTA
   clear c0 c1 hvs hzv
   generalize bks[j].values.length = vl at *
   go_wp2_with fail
   generalize hw3 : wr.alloc _ = w3
   have hb3 : Below w.heap.size w w3 := by rw [← hw3]; exact below_al hbw _
   have hx3 : w3.heap[w.heap.size]? = some (.cells #[.int .i64 (args : Nat), .slice (some ⟨g, 0, none⟩) bks.length c] 78) := by rw [← hw3]; exact stay_alloc hx
   clear hw3 c0' c1'
   refine (HTA.out w3).mono ?_
   rintro e w4 ⟨v4, rfl, hown4, hb4⟩
   have hx4 := (hb4.block _ (lt_of_block hx3)).trans hx3
   have hbw4 : Below w.heap.size w w4 := hb3.trans (hb4.mono hb3.size)
   clear hb3 hb4 hx3
   obtain ⟨p4, c4, rfl, hval4⟩ := nats_open hown4
   have HV4 := hide hval4
   have hcx := blk_cell hx4 1 _ rfl
   clear hval4 hown4
   go_wp2_with fail
   go_loop [18] (fun i => ∃ k : Nat, k ≤ tl.length ∧ i = .int .i64 k) (fun i => tl.length - (intOf i).toNat)
   case atStart => exact ⟨0, by omega, rfl⟩
   case round =>
    obtain ⟨k, hk, rfl⟩ := hrel
    by_cases hkt : k < tl.length
    ·obtain ⟨g4, rfl, ct⟩ := HV4.out k hkt
     obtain ⟨t1, t2⟩ := htb tl[k] (List.getElem_mem hkt)
     have t1' : ¬ (tl[k] : Int) < 1 := by omega
     have t2' : (tl[k] : Int) < (bks.length : Int) := by omega
     clear HV4
     go_wp2
     exact ⟨⟨k + 1, by omega, by go_num⟩, by simp [intOf]; omega⟩
    ·go_wp2
     exact ⟨⟨j + 1, by omega, by go_num, hx4, hbw4⟩, by simp [intOf]; omega⟩
  ·go_wp2
   go_end0
   exact ⟨rfl, hbw⟩
end Go.Proofs.YtedkjanogjglkaaGreatDoor
