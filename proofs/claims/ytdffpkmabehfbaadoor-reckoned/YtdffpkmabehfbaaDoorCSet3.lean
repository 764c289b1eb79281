/-
  Walks: code.set: everyNumber, both, hasAll; code.Block.madeAtEnd.
-/
import Derived.Test.YtdffpkmabehfbaaDoorCFunc
namespace Go.Proofs.YtdffpkmabehfbaaDoor
open Go.RowKit

/-- A set of v numbers, as cells. -/
def setL (R : List Bool) : List Value := R.map Value.bool
def setA (R : List Bool) : Array Value := (setL R).toArray

/-- A set in a block of its own. -/
def setRow (w : World) (g : Nat) (R : List Bool) : Prop := w.heap[g]? = some (.cells (setA R) 108)

theorem setL_length (R : List Bool) : (setL R).length = R.length := by simp [setL]

theorem setRow.cell {w : World} {g : Nat} {R : List Bool} (h : setRow w g R) (i : Nat) (hi : i < R.length) : w.cell? ⟨g, i, none⟩ = some (.bool R[i]) :=
  blk_cell h i _ (by simp [setA, setL, hi])

theorem setRow.set {w : World} {g : Nat} {R : List Bool} (h : setRow w g R) (i : Nat) (b : Bool) : setRow (w.setCell ⟨g, i, none⟩ (.bool b)) g (R.set i b) := by
  unfold setRow at *
  rw [set_block h]
  simp [setA, setL, List.map_set]

theorem setRow.range {w : World} {g : Nat} {R : List Bool} (h : setRow w g R) : w.rangeAt g 0 (setL R) := by
  intro j v hv
  rw [Nat.zero_add]
  exact blk_cell h j v (by simpa [setA] using hv)

theorem setRow.there {w : World} {g : Nat} {R : List Bool} (h : setRow w g R) : w.there g 0 R.length := by
  intro j hj
  rw [Nat.zero_add]
  exact ⟨by rw [h.cell j hj]; rfl, blk_froz h j⟩

theorem setCells_block (b : Nat) {T : TypeId} {z : Nat × Nat} : ∀ (vs : List Value) (o : Nat) (w : World) (C : Array Value), w.heap[b]? = some (.cells C T z) → o + vs.length ≤ C.size →
    ∃ C' : Array Value, (w.setCells b o vs).heap[b]? = some (.cells C' T z) ∧ C'.size = C.size ∧ (∀ j, j < o → C'[j]? = C[j]?) ∧ (∀ j, j < vs.length → C'[o + j]? = vs[j]?) ∧ (∀ j, o + vs.length ≤ j → C'[j]? = C[j]?)
  | [], o, w, C, h, _ => ⟨C, h, rfl, fun _ _ => rfl, fun j hj => by simp at hj, fun _ _ => rfl⟩
  | v :: r, o, w, C, h, hs => by
    simp only [List.length_cons] at hs
    obtain ⟨C', h1, h2, h3, h4, h5⟩ := setCells_block b r (o + 1) (w.setCell ⟨b, o, none⟩ v) _ (set_block h) (by simp; omega)
    refine ⟨C', h1, by simpa using h2, fun j hj => ?_, fun j hj => ?_, fun j hj => ?_⟩
    · rw [h3 j (by omega), Array.getElem?_setIfInBounds_ne (by omega)]
    · cases j with
      | zero =>
        rw [Nat.add_zero, h3 o (by omega), Array.getElem?_setIfInBounds_self_of_lt (by omega)]; rfl
      | succ j =>
        simp only [List.length_cons] at hj
        have := h4 j (by omega)
        rw [show o + 1 + j = o + (j + 1) by omega] at this
        rw [this]; rfl
    · simp only [List.length_cons] at hj
      rw [h5 j (by omega), Array.getElem?_setIfInBounds_ne (by omega)]

theorem setCells_other (b : Nat) {k : Nat} (hk : k ≠ b) : ∀ (vs : List Value) (o : Nat) (w : World), (w.setCells b o vs).heap[k]? = w.heap[k]?
  | [], _, _ => rfl
  | v :: r, o, w => by
    show ((w.setCell ⟨b, o, none⟩ v).setCells b (o + 1) r).heap[k]? = _
    rw [setCells_other b hk r, Below.heap_setCell w ⟨b, o, none⟩ v k hk]

theorem setCells_size (b : Nat) : ∀ (vs : List Value) (o : Nat) (w : World), (w.setCells b o vs).heap.size = w.heap.size
  | [], _, _ => rfl
  | v :: r, o, w => by
    show ((w.setCell ⟨b, o, none⟩ v).setCells b (o + 1) r).heap.size = _
    rw [setCells_size b r, size_set]

theorem setCells_rest (b : Nat) : ∀ (vs : List Value) (o : Nat) (w : World), (w.setCells b o vs).os = w.os ∧ (w.setCells b o vs).tape = w.tape ∧ (w.setCells b o vs).output = w.output
  | [], _, _ => ⟨rfl, rfl, rfl⟩
  | v :: r, o, w => by
    have := setCells_rest b r (o + 1) (w.setCell ⟨b, o, none⟩ v)
    exact ⟨this.1.trans rfl, this.2.1.trans rfl, this.2.2.trans rfl⟩

theorem below_cells {a w : World} (h : Below a.heap.size a w) {b : Nat} (hb : a.heap.size ≤ b) (o : Nat) (vs : List Value) : Below a.heap.size a (w.setCells b o vs) := by
  obtain ⟨h1, h2, h3⟩ := setCells_rest b vs o w
  exact ⟨h1.trans h.os, h2.trans h.tape, h3.trans h.output, by rw [setCells_size]; exact h.size, fun k hk => by rw [setCells_other b (by omega)]; exact h.block k hk⟩

theorem stay_cells {w : World} {b k : Nat} {o : Nat} {vs : List Value} {x : Obj} (h : w.heap[k]? = some x) (hne : k ≠ b) : (w.setCells b o vs).heap[k]? = some x := by
  rw [setCells_other b hne]; exact h

theorem setRow.put {w : World} {g : Nat} {R : List Bool} (h : setRow w g R) (R' : List Bool) (hl : R'.length = R.length) : setRow (w.setCells g 0 (setL R')) g R' := by
  obtain ⟨C', h1, h2, h3, h4, h5⟩ := setCells_block g (setL R') 0 w _ h (by simp [setA, setL, hl])
  unfold setRow
  rw [h1]
  congr 2
  apply Array.ext_getElem?
  intro j
  by_cases hj : j < (setL R').length
  · have := h4 j hj
    rw [Nat.zero_add] at this
    rw [this]; simp [setA]
  · rw [Array.getElem?_eq_none (by rw [h2]; simp [setA, setL] at *; omega), Array.getElem?_eq_none (by simp [setA]; omega)]

theorem setOne (R : List Bool) : (setA R).all (·.oneCell') = true := all_oneCell_toArray (fun v hv => by
  obtain ⟨b, _, rfl⟩ := List.mem_map.1 hv
  rfl)

theorem setSize (R : List Bool) (h : R.length = 60) : (Tryd.prog.info? 108).map (·.size) = some (setL R).length := by
  rw [setL_length, h]; kernel_rfl

theorem setSize' (R : List Bool) (h : R.length = 60) : (Tryd.prog.info? 108).map (·.size) = some (setA R).size := by
  simp only [setA, List.size_toArray]; exact setSize R h

def noNumber : List Bool := List.replicate 60 false

theorem replicate_set (k : Nat) (h : k < 60) : (List.replicate k true ++ List.replicate (60 - k) false).set k true = List.replicate (k + 1) true ++ List.replicate (60 - (k + 1)) false := by
  rw [show 60 - k = (60 - (k + 1)) + 1 by omega, List.replicate_succ, List.set_append_right _ _ (by simp)]
  simp [List.replicate_succ']

set_option maxRecDepth 100000 in
set_option maxHeartbeats 1000000 in
theorem everyNumber_any (w : World) :
    Calls Tryd.prog 61 #[] w fun e w' => e = .returned (.agg (setA (List.replicate 60 true))) ∧ Below w.heap.size w w' := by
  go_enter Tryd.func61, Tryd.ntmps61
  go_wp2
  generalize hw0 : (w.alloc _).alloc _ = w0
  have hr0 : setRow w0 w.heap.size noNumber := by rw [← hw0]; exact stay_alloc (heap_alloc_new w _)
  have hr1 : setRow w0 (w.heap.size + 1) noNumber := by
    have h := heap_alloc_new (w.alloc (.cells (setA noNumber) 108)) (.cells (setA noNumber) 108)
    rw [show (w.alloc (.cells (setA noNumber) 108)).heap.size = w.heap.size + 1 by simp] at h
    rw [← hw0]; exact h
  have hb0 : Below w.heap.size w w0 := by rw [← hw0]; exact below_al (below_al (Below.refl _ _) _) _
  clear hw0
  go_loopw [3] (fun i wr => ∃ k : Nat, k ≤ 60 ∧ i = .int .i64 k ∧ setRow wr (w.heap.size + 1) (List.replicate k true ++ List.replicate (60 - k) false) ∧ setRow wr w.heap.size noNumber ∧ Below w.heap.size w wr) (fun i _ => 60 - (intOf i).toNat)
  case atStart => exact ⟨0, by omega, rfl, hr1, hr0, hb0⟩
  case round =>
    obtain ⟨k, hk, rfl, h1, h2, hbw⟩ := hrel
    by_cases hlt : k < 60
    · have hc := h1.cell k (by simp; omega)
      have hf := blk_froz h1 k
      have hk' : (k : Int) < 60 := by omega
      go_wp2
      refine ⟨⟨k + 1, by omega, by go_num, ?_, stay_set h2 (show w.heap.size ≠ w.heap.size + 1 by omega), below_set hbw (by omega) _ _⟩, by simp [intOf]; omega⟩
      rw [← replicate_set k hlt]
      exact h1.set k true
    · have hk60 : k = 60 := by omega
      subst hk60
      have h1' : setRow wr (w.heap.size + 1) (List.replicate 60 true) := h1
      clear h1
      have HL := hide (setSize (List.replicate 60 true) (by simp))
      have HL' := hide (setSize' (List.replicate 60 true) (by simp))
      have HO := hide (setOne (List.replicate 60 true))
      have HTH := hide h2.there
      have hR : (List.replicate 60 true).length = 60 := by simp
      generalize hRR : List.replicate 60 true = R at *
      have HRR := hide hRR
      clear hRR
      go_wp2_with (first | refine wpList_load_mid rfl 108 _ rfl (w.heap.size + 1) 0 rfl (setL R) _ h1'.range Tryd.underlying108 rfl HL.out ?_ | refine wpList_store_mid rfl 108 _ _ rfl w.heap.size 0 (setA R) rfl rfl ?_ HL'.out HO.out ?_)
      · have h := HTH.out
        rw [show noNumber.length = (setA R).size by simp [noNumber, setA, setL, hR]] at h
        exact h
      · have hp : setRow (wr.setCells w.heap.size 0 (setA R).toList) w.heap.size R := h2.put R (by simp [noNumber, hR])
        refine bodyPost_ret (v := .agg (setA R)) (results_cell_row rfl _ _ w.heap.size 108 (setA R) _ _ rfl hp Tryd.underlying108 rfl HL'.out) rfl ?_
        rw [HRR.out]
        exact ⟨rfl, below_cells hbw (Nat.le_refl _) _ _⟩
end Go.Proofs.YtdffpkmabehfbaaDoor

/-
  Walks: code.set.both, code.set.hasAll.
-/
namespace Go.Proofs.YtdffpkmabehfbaaDoor
open Go.RowKit

namespace Code
def both (R S : List Bool) : List Bool := List.zipWith (· && ·) R S

/-- 'both' up to the k-th. -/
def bothTo (R S : List Bool) (k : Nat) : List Bool := (both R S).take k ++ R.drop k

theorem both_length {R S : List Bool} (h : R.length = 60) (h' : S.length = 60) : (both R S).length = 60 := by simp [both, h, h']

theorem bothTo_length {R S : List Bool} (h : R.length = 60) (h' : S.length = 60) (k : Nat) : (bothTo R S k).length = 60 := by
  have := both_length h h'
  simp [bothTo, this, h]; omega

theorem bothTo_get {R S : List Bool} (h : R.length = 60) (h' : S.length = 60) (k : Nat) (hk : k < 60) : (bothTo R S k)[k]? = some (R[k]'(by omega)) := by
  have := both_length h h'
  rw [bothTo, List.getElem?_append_right (by simp; omega)]
  simp [this]
  rw [show k + (k - min k 60) = k by omega, List.getElem?_eq_getElem (by omega)]

theorem bothTo_set {R S : List Bool} (h : R.length = 60) (h' : S.length = 60) (k : Nat) (hk : k < 60) : (bothTo R S k).set k (R[k]'(by omega) && S[k]'(by omega)) = bothTo R S (k + 1) := by
  have hl := both_length h h'
  apply List.ext_getElem?
  intro j
  rw [List.getElem?_set]
  by_cases hj : k = j
  · subst hj
    rw [if_pos rfl, if_pos (by rw [bothTo_length h h']; exact hk), bothTo, List.getElem?_append_left (by simp; omega), List.getElem?_take_of_lt (by omega), List.getElem?_eq_getElem (by omega)]
    simp [both]
  · rw [if_neg hj]
    by_cases hjk : j < k
    · rw [bothTo, bothTo, List.getElem?_append_left (by simp; omega), List.getElem?_append_left (by simp; omega), List.getElem?_take_of_lt hjk, List.getElem?_take_of_lt (by omega)]
    · rw [bothTo, bothTo, List.getElem?_append_right (by simp; omega), List.getElem?_append_right (by simp; omega)]
      simp only [List.getElem?_drop, List.length_take]
      congr 1
      omega

theorem bothTo_zero (R S : List Bool) : bothTo R S 0 = R := by simp [bothTo]

theorem bothTo_end {R S : List Bool} (h : R.length = 60) (h' : S.length = 60) : bothTo R S 60 = both R S := by
  have := both_length h h'
  rw [bothTo, List.take_of_length_le (by omega), List.drop_of_length_le (by omega), List.append_nil]

/-- All these numbers are in. -/
def hasAll (R : List Bool) (of : List Nat) : Bool := of.all fun n => R.getD n false
end Code

theorem alloc_size (w : World) (o : Obj) : (w.alloc o).heap.size = w.heap.size + 1 := by simp

set_option maxRecDepth 100000 in
set_option maxHeartbeats 1000000 in
theorem both_any (R S : List Bool) (hR : R.length = 60) (hS : S.length = 60) (w : World) :
    Calls Tryd.prog 63 #[.agg (setA R), .agg (setA S)] w fun e w' => e = .returned (.agg (setA (Code.both R S))) ∧ Below w.heap.size w w' := by
  have HL := hide (setSize (Code.both R S) (Code.both_length hR hS))
  have HL' := hide (setSize' (Code.both R S) (Code.both_length hR hS))
  have HO := hide (setOne (Code.both R S))
  go_enter Tryd.func63, Tryd.ntmps63
  go_wp2
  generalize hw0 : ((w.alloc _).alloc _).alloc _ = w0
  have hr0 : setRow w0 w.heap.size R := by rw [← hw0]; exact stay_alloc (stay_alloc (heap_alloc_new w _))
  have hr1 : setRow w0 (w.heap.size + 1) S := by
    have h := heap_alloc_new (w.alloc (.cells (setA R) 108)) (.cells (setA S) 108)
    rw [alloc_size] at h
    rw [← hw0]; exact stay_alloc h
  have hr2 : setRow w0 (w.heap.size + 1 + 1) noNumber := by
    have h := heap_alloc_new ((w.alloc (.cells (setA R) 108)).alloc (.cells (setA S) 108)) (.cells (setA noNumber) 108)
    rw [alloc_size, alloc_size] at h
    rw [← hw0]; exact h
  have hb0 : Below w.heap.size w w0 := by rw [← hw0]; exact below_al (below_al (below_al (Below.refl _ _) _) _) _
  clear hw0
  go_loopw [6] (fun i wr => ∃ k : Nat, k ≤ 60 ∧ i = .int .i64 k ∧ setRow wr w.heap.size (Code.bothTo R S k) ∧ setRow wr (w.heap.size + 1) S ∧ setRow wr (w.heap.size + 1 + 1) noNumber ∧ Below w.heap.size w wr) (fun i _ => 60 - (intOf i).toNat)
  case atStart => exact ⟨0, by omega, rfl, by rw [Code.bothTo_zero]; exact hr0, hr1, hr2, hb0⟩
  case round =>
    obtain ⟨k, hk, rfl, h1, h2, h3, hbw⟩ := hrel
    clear hr0 hr1 hr2 hb0
    by_cases hlt : k < 60
    · have hc1 : wr.cell? ⟨w.heap.size, k, none⟩ = some (.bool (R[k]'(by omega))) := by
        have hkl : k < (Code.bothTo R S k).length := by rw [Code.bothTo_length hR hS]; exact hlt
        rw [h1.cell k hkl]
        have := Code.bothTo_get hR hS k hlt
        rw [List.getElem?_eq_getElem hkl] at this
        rw [Option.some.inj this]
      have hc2 := h2.cell k (by omega)
      have hf := blk_froz h1 k
      have hk' : (k : Int) < 60 := by omega
      have HS := hide (Code.bothTo_set hR hS k hlt)
      generalize R[k]'(by omega) = b1 at *
      generalize S[k]'(by omega) = b2 at *
      cases b1
      all_goals
        go_wp2
        refine ⟨⟨k + 1, by omega, by go_num, ?_, stay_set h2 (show w.heap.size + 1 ≠ w.heap.size by omega), stay_set h3 (show w.heap.size + 1 + 1 ≠ w.heap.size by omega), below_set hbw (by omega) _ _⟩, by simp [intOf]; omega⟩
        rw [← HS.out]
        simpa using h1.set k _
    · have hk60 : k = 60 := by omega
      subst hk60
      rw [Code.bothTo_end hR hS] at h1
      have hB := Code.both_length hR hS
      have HTH := hide h3.there
      generalize hBB : Code.both R S = B at *
      go_wp2_with (first | refine wpList_load_mid rfl 108 _ rfl w.heap.size 0 rfl (setL B) _ h1.range Tryd.underlying108 rfl HL.out ?_ | refine wpList_store_mid rfl 108 _ _ rfl (w.heap.size + 1 + 1) 0 (setA B) rfl rfl ?_ HL'.out HO.out ?_)
      · have h := HTH.out
        rw [show noNumber.length = (setA B).size by simp [noNumber, setA, setL, hB]] at h
        exact h
      · have hp : setRow (wr.setCells (w.heap.size + 1 + 1) 0 (setA B).toList) (w.heap.size + 1 + 1) B := h3.put B (by simp [noNumber, hB])
        refine bodyPost_ret (v := .agg (setA B)) (results_cell_row rfl _ _ (w.heap.size + 1 + 1) 108 (setA B) _ _ rfl hp Tryd.underlying108 rfl HL'.out) rfl ?_
        exact ⟨by rw [hBB], below_cells hbw (by omega) _ _⟩

/-- Numbers in a row, as they are read: the slice, and number by number what is there. -/
theorem nats_open {w : World} {base : Nat} {v : Value} {l : List Nat} (h : w.ownsRow base 3 1 v l.length (nats l)) :
    ∃ p cap, v = .slice p l.length cap ∧ ∀ k (h : k < l.length), ∃ g, p = some ⟨g, 0, none⟩ ∧ w.cell? ⟨g, k, none⟩ = some (.int .i64 (l[k] : Nat)) := by
  obtain ⟨p, cap, hv⟩ := own_slice h
  refine ⟨p, cap, hv, fun k hk => ?_⟩
  obtain ⟨g, cap', hv', _, _, hc⟩ := row_open h (by omega)
  rw [hv] at hv'
  simp only [Value.slice.injEq] at hv'
  exact ⟨g, hv'.1, hc _ _ (nats_get l k hk)⟩

namespace Code
theorem hasAll_no {R : List Bool} {of : List Nat} {k : Nat} (hk : k < of.length) (h : R.getD of[k] false = false) : hasAll R of = false := by
  rw [hasAll, List.all_eq_false]
  exact ⟨of[k], List.getElem_mem hk, by simp at h; simp [h]⟩

theorem hasAll_yes {R : List Bool} {of : List Nat} (h : ∀ k (hk : k < of.length), R.getD of[k] false = true) : hasAll R of = true := by
  rw [hasAll, List.all_eq_true]
  intro x hx
  obtain ⟨k, hk, rfl⟩ := List.getElem_of_mem hx
  exact h k hk
end Code

set_option maxRecDepth 100000 in
set_option maxHeartbeats 1000000 in
theorem hasAll_any (R : List Bool) (hR : R.length = 60) (of : List Nat) (hof : ∀ x ∈ of, x < 60) (hlen : of.length ≤ 100000) (v : Value) (base : Nat) (w : World) (hv : w.ownsRow base 3 1 v of.length (nats of)) :
    Calls Tryd.prog 47 #[.agg (setA R), v] w fun e w' => e = .returned (.bool (Code.hasAll R of)) ∧ Below w.heap.size w w' := by
  obtain ⟨p, cap, rfl, hval⟩ := nats_open hv
  have HV := hide hval
  clear hval hv
  go_enter Tryd.func47, Tryd.ntmps47
  go_wp2
  generalize hw0 : w.alloc _ = w0
  have hr0 : setRow w0 w.heap.size R := by rw [← hw0]; exact heap_alloc_new w _
  have hb0 : Below w.heap.size w w0 := by rw [← hw0]; exact below_al (Below.refl _ _) _
  clear hw0
  go_loop [9] (fun i => ∃ k : Nat, k ≤ of.length ∧ i = .int .i64 k ∧ Hid (∀ j (h : j < of.length), j < k → R.getD of[j] false = true)) (fun i => of.length - (intOf i).toNat)
  case atStart => exact ⟨0, by omega, rfl, hide (fun j _ h => by omega)⟩
  case round =>
    obtain ⟨k, hk, rfl, hsp⟩ := hrel
    by_cases hlt : k < of.length
    · obtain ⟨g, rfl, c0⟩ := HV.out k hlt
      have hlt60 := hof of[k] (List.getElem_mem hlt)
      have hg : g < w.heap.size := by
        cases hh : w.heap[g]? with
        | none => simp [World.cell?, hh] at c0
        | some o => exact lt_of_block hh
      have c0' : w0.cell? ⟨g, k, none⟩ = some (.int .i64 (of[k] : Nat)) := by rw [(bcell hb0).1 g k hg]; exact c0
      have hc := hr0.cell of[k] (by omega)
      have h60 : ((of[k] : Nat) : Int) < 60 := by omega
      have hget : R.getD of[k] false = R[of[k]]'(by omega) := by rw [List.getD_eq_getElem?_getD, List.getElem?_eq_getElem (by omega)]; rfl
      cases hb : R[of[k]]'(by omega) with
      | false =>
        have HF := hide (Code.hasAll_no hlt (hget.trans hb))
        rw [hb] at hc
        clear hb hget hsp c0
        go_wp2
        go_ret
        exact ⟨ret_bool HF.out.symm, hb0⟩
      | true =>
        have HF : Hid (∀ j (h : j < of.length), j < k + 1 → R.getD of[j] false = true) := hide fun j h hj => by
          rcases Nat.lt_succ_iff_lt_or_eq.1 hj with h' | h'
          · exact hsp.out j h h'
          · subst h'; exact hget.trans hb
        rw [hb] at hc
        clear hb hget hsp c0
        go_wp2
        exact ⟨⟨k + 1, by omega, by go_num, HF⟩, by simp [intOf]; omega⟩
    · have HF := hide (Code.hasAll_yes (R := R) (of := of) (fun j h => hsp.out j h (by omega)))
      go_wp2
      go_ret
      exact ⟨ret_bool HF.out.symm, hb0⟩
end Go.Proofs.YtdffpkmabehfbaaDoor

/-
  Walks: code.Block.madeAtEnd, code.targets, code.usesInPlace, code.usesOfLast.
-/
namespace Go.Proofs.YtdffpkmabehfbaaDoor
open Go.RowKit

/-- Values in a row: the slice, and value by value what is there. -/
theorem RepVals.open {w : World} {base : Nat} {v : Value} {l : List Code.Val} (h : RepVals w base v l) :
    ∃ p cap, v = .slice p l.length cap ∧ ∀ k (h : k < l.length), ∃ g th, p = some ⟨g, 0, none⟩ ∧ g < w.heap.size ∧ w.cell? ⟨g, k * 2, none⟩ = some (.int .i64 (l[k].num : Nat)) ∧ w.cell? ⟨g, k * 2 + 1, none⟩ = some th ∧ ThingV w base l[k].thing th := by
  obtain ⟨cs, h1, h2⟩ := h
  obtain ⟨p, cap, hv⟩ := own_slice h1
  refine ⟨p, cap, hv, fun k hk => ?_⟩
  obtain ⟨g, cap', hv', _, hg, hc⟩ := row_open h1 (by omega)
  rw [hv] at hv'
  simp only [Value.slice.injEq] at hv'
  obtain ⟨th, g0, g1, g2⟩ := h2 k hk
  exact ⟨g, th, hv'.1, hg, hc _ _ g0, hc _ _ g1, g2⟩

/-- A thing's value is in one cell. -/
theorem ThingV.shape {w : World} {base : Nat} {y : Code.Thing} {v : Value} (h : ThingV w base y v) : ∃ T pv, v = .iface T pv := by
  cases y with
  | phi of => obtain ⟨r, h1, _⟩ := h; exact ⟨_, _, h1⟩
  | arg n => exact ⟨_, _, h⟩
  | const n => exact ⟨_, _, h⟩
  | apply k of => obtain ⟨r, h1, _⟩ := h; exact ⟨_, _, h1⟩

theorem lastV_shape (z : Code.Last) : ∃ T pv, lastV z = .iface T pv := by cases z <;> exact ⟨_, _, rfl⟩

namespace Code
/-- The set with all these values' numbers. -/
def addAll (R : List Bool) (l : List Val) : List Bool := l.foldl (fun R v => R.set v.num true) R

theorem addAll_length (R : List Bool) (l : List Val) : (addAll R l).length = R.length := by
  unfold addAll
  induction l generalizing R with
  | nil => rfl
  | cons v l ih => rw [List.foldl_cons, ih]; simp

theorem addAll_snoc (R : List Bool) (l : List Val) (k : Nat) (h : k < l.length) : addAll R (l.take (k + 1)) = (addAll R (l.take k)).set l[k].num true := by
  rw [List.take_add_one, List.getElem?_eq_getElem h, addAll, List.foldl_append]; rfl
end Code

set_option maxRecDepth 100000 in
set_option maxHeartbeats 1000000 in
theorem madeAtEnd_any (R : List Bool) (hR : R.length = 60) (l : List Code.Val) (hl : ∀ x ∈ l, x.num < 60) (hlen : l.length ≤ 100000) (v zv : Value) (base : Nat) (w : World) (hv : RepVals w base v l) (hz : ∃ T pv, zv = .iface T pv) :
    Calls Tryd.prog 62 #[.agg #[v, zv], .agg (setA R)] w fun e w' => e = .returned (.agg (setA (Code.addAll R l))) ∧ Below w.heap.size w w' := by
  obtain ⟨p, cap, rfl, hval⟩ := hv.open
  obtain ⟨T, pv, rfl⟩ := hz
  have HV := hide hval
  clear hval hv
  have hA := Code.addAll_length R l
  rw [hR] at hA
  have HL := hide (setSize (Code.addAll R l) hA)
  have HL' := hide (setSize' (Code.addAll R l) hA)
  have HO := hide (setOne (Code.addAll R l))
  go_enter Tryd.func62, Tryd.ntmps62
  go_wp2
  generalize hw0 : ((w.alloc _).alloc _).alloc _ = w0
  have hr1 : setRow w0 (w.heap.size + 1) R := by
    have h := heap_alloc_new (w.alloc (.cells #[.slice p l.length cap, .iface T pv] 72)) (.cells (setA R) 108)
    rw [alloc_size] at h
    rw [← hw0]; exact stay_alloc h
  have hr2 : setRow w0 (w.heap.size + 1 + 1) noNumber := by
    have h := heap_alloc_new ((w.alloc (.cells #[.slice p l.length cap, .iface T pv] 72)).alloc (.cells (setA R) 108)) (.cells (setA noNumber) 108)
    rw [alloc_size, alloc_size] at h
    rw [← hw0]; exact h
  have hb0 : Below w.heap.size w w0 := by rw [← hw0]; exact below_al (below_al (below_al (Below.refl _ _) _) _) _
  clear hw0
  go_loopw [10] (fun i wr => ∃ k : Nat, k ≤ l.length ∧ i = .int .i64 k ∧ setRow wr (w.heap.size + 1) (Code.addAll R (l.take k)) ∧ setRow wr (w.heap.size + 1 + 1) noNumber ∧ Below w.heap.size w wr) (fun i _ => l.length - (intOf i).toNat)
  case atStart => exact ⟨0, by omega, rfl, hr1, hr2, hb0⟩
  case round =>
    obtain ⟨k, hk, rfl, h1, h2, hbw⟩ := hrel
    clear hr1 hr2 hb0
    have hz := hbw.size
    by_cases hlt : k < l.length
    · obtain ⟨g, th, rfl, hg, c0, c1, hth⟩ := HV.out k hlt
      obtain ⟨T', pv', rfl⟩ := hth.shape
      have c0' : wr.cell? ⟨g, k * 2, none⟩ = some (.int .i64 (l[k].num : Nat)) := by rw [(bcell hbw).1 g _ hg]; exact c0
      have c1' : wr.cell? ⟨g, k * 2 + 1, none⟩ = some (.iface T' pv') := by rw [(bcell hbw).1 g _ hg]; exact c1
      have h60' := hl l[k] (List.getElem_mem hlt)
      have h60 : ((l[k].num : Nat) : Int) < 60 := by omega
      have HS := hide (Code.addAll_snoc R l k hlt)
      have hlA := Code.addAll_length R (l.take k)
      obtain ⟨b, hc⟩ : ∃ b, wr.cell? ⟨w.heap.size + 1, l[k].num, none⟩ = some b := ⟨_, h1.cell l[k].num (by omega)⟩
      have hf := blk_froz h1 l[k].num
      clear c0 c1 hth hlA
      have hlt1 := lt_of_block h1
      have hlt2 := lt_of_block h2
      go_wp2
      refine ⟨⟨k + 1, by omega, by go_num, ?_, stay_alloc (stay_set h2 (show w.heap.size + 1 + 1 ≠ w.heap.size + 1 by omega)), below_al (below_set hbw (by omega) _ _) _⟩, by simp [intOf]; omega⟩
      rw [HS.out]
      exact stay_alloc (h1.set _ true)
    · have hk60 : l.take k = l := List.take_of_length_le (by omega)
      rw [hk60] at h1
      clear hk60
      have HTH := hide h2.there
      generalize hBB : Code.addAll R l = B at *
      go_wp2_with (first | refine wpList_load_mid rfl 108 _ rfl (w.heap.size + 1) 0 rfl (setL B) _ h1.range Tryd.underlying108 rfl HL.out ?_ | refine wpList_store_mid rfl 108 _ _ rfl (w.heap.size + 1 + 1) 0 (setA B) rfl rfl ?_ HL'.out HO.out ?_)
      · have h := HTH.out
        rw [show noNumber.length = (setA B).size by simp [noNumber, setA, setL, hA]] at h
        exact h
      · have hp : setRow (wr.setCells (w.heap.size + 1 + 1) 0 (setA B).toList) (w.heap.size + 1 + 1) B := h2.put B (by simp [noNumber, hA])
        refine bodyPost_ret (v := .agg (setA B)) (results_cell_row rfl _ _ (w.heap.size + 1 + 1) 108 (setA B) _ _ rfl hp Tryd.underlying108 rfl HL'.out) rfl ?_
        exact ⟨by rw [hBB], below_cells hbw (by omega) _ _⟩

namespace Code
/-- Where a block goes on. -/
def tg : Last → List Nat
  | .ret _ => []
  | .jump t => [t]
  | .ifs _ t e => [t, e]

/-- What a block's last line uses. -/
def useL : Last → List Nat
  | .ret v => [v]
  | .jump _ => []
  | .ifs v _ _ => [v]

/-- What a thing uses where it stands. -/
def useT : Thing → List Nat
  | .apply _ of => of
  | _ => []
end Code

theorem own_nats1 (W : World) (x : Nat) {base g : Nat} (hg : g = W.heap.size) (hb : base ≤ g) : (W.alloc (.cells #[.int .i64 (x : Nat)] 3)).ownsRow base 3 1 (.slice (some ⟨g, 0, none⟩) 1 1) 1 (nats [x]) := by
  subst hg
  exact ⟨by simp [nats], Or.inr ⟨_, _, _, rfl, hb, heap_alloc_new W _, Nat.le_refl _, by decide, by simp, rfl⟩⟩

theorem own_nats2 (W : World) (x y : Nat) {base g : Nat} (hg : g = W.heap.size) (hb : base ≤ g) : (W.alloc (.cells #[.int .i64 (x : Nat), .int .i64 (y : Nat)] 3)).ownsRow base 3 1 (.slice (some ⟨g, 0, none⟩) 2 2) 2 (nats [x, y]) := by
  subst hg
  exact ⟨by simp [nats], Or.inr ⟨_, _, _, rfl, hb, heap_alloc_new W _, Nat.le_refl _, by decide, by simp, rfl⟩⟩

theorem isJump_ret (v : Value) (w : World) : (Instr.typeAssert (.iface 75 v) 70 101 true).run Tryd.prog w = .ok (.tuple #[.agg #[.int .i64 0], .bool false]) w := by kernel_rfl
theorem isJump_jump (v : Value) (w : World) : (Instr.typeAssert (.iface 101 v) 70 101 true).run Tryd.prog w = .ok (.tuple #[v, .bool true]) w := by kernel_rfl
theorem isJump_if (v : Value) (w : World) : (Instr.typeAssert (.iface 77 v) 70 101 true).run Tryd.prog w = .ok (.tuple #[.agg #[.int .i64 0], .bool false]) w := by kernel_rfl
theorem isIf_ret (v : Value) (w : World) : (Instr.typeAssert (.iface 75 v) 70 77 true).run Tryd.prog w = .ok (.tuple #[.agg #[.int .i64 0, .int .i64 0, .int .i64 0], .bool false]) w := by kernel_rfl
theorem isIf_jump (v : Value) (w : World) : (Instr.typeAssert (.iface 101 v) 70 77 true).run Tryd.prog w = .ok (.tuple #[.agg #[.int .i64 0, .int .i64 0, .int .i64 0], .bool false]) w := by kernel_rfl
theorem isIf_if (v : Value) (w : World) : (Instr.typeAssert (.iface 77 v) 70 77 true).run Tryd.prog w = .ok (.tuple #[v, .bool true]) w := by kernel_rfl
theorem isRet_ret (v : Value) (w : World) : (Instr.typeAssert (.iface 75 v) 70 75 true).run Tryd.prog w = .ok (.tuple #[v, .bool true]) w := by kernel_rfl
theorem isRet_jump (v : Value) (w : World) : (Instr.typeAssert (.iface 101 v) 70 75 true).run Tryd.prog w = .ok (.tuple #[.agg #[.int .i64 0], .bool false]) w := by kernel_rfl
theorem isRet_if (v : Value) (w : World) : (Instr.typeAssert (.iface 77 v) 70 75 true).run Tryd.prog w = .ok (.tuple #[.agg #[.int .i64 0], .bool false]) w := by kernel_rfl
theorem isApply_phi (v : Value) (w : World) : (Instr.typeAssert (.iface 90 v) 86 97 true).run Tryd.prog w = .ok (.tuple #[.agg #[.int .i64 0, .slice none 0 0], .bool false]) w := by kernel_rfl
theorem isApply_arg (v : Value) (w : World) : (Instr.typeAssert (.iface 92 v) 86 97 true).run Tryd.prog w = .ok (.tuple #[.agg #[.int .i64 0, .slice none 0 0], .bool false]) w := by kernel_rfl
theorem isApply_const (v : Value) (w : World) : (Instr.typeAssert (.iface 94 v) 86 97 true).run Tryd.prog w = .ok (.tuple #[.agg #[.int .i64 0, .slice none 0 0], .bool false]) w := by kernel_rfl
theorem isApply_apply (v : Value) (w : World) : (Instr.typeAssert (.iface 97 v) 86 97 true).run Tryd.prog w = .ok (.tuple #[v, .bool true]) w := by kernel_rfl

set_option maxHeartbeats 1000000 in
theorem targets_any (z : Code.Last) (w : World) :
    Calls Tryd.prog 27 #[lastV z] w fun e w' => ∃ v, e = .returned v ∧ w'.ownsRow w.heap.size 3 1 v (Code.tg z).length (nats (Code.tg z)) ∧ Below w.heap.size w w' := by
  cases z with
  | ret v =>
    have h1 := isJump_ret
    have h2 := isIf_ret
    unfold lastV
    go_enter Tryd.func27, Tryd.ntmps27
    go_wp2
    go_ret
    exact ⟨_, rfl, World.ownsRow_nil _ _ _ _, Below.refl _ _⟩
  | jump t =>
    have h1 := isJump_jump
    unfold lastV
    go_enter Tryd.func27, Tryd.ntmps27
    go_wp2
    go_ret
    exact ⟨_, rfl, own_nats1 _ t (alloc_size _ _).symm (Nat.le_succ _), below_al (below_al (Below.refl _ _) _) _⟩
  | ifs v x y =>
    have h1 := isJump_if
    have h2 := isIf_if
    unfold lastV
    go_enter Tryd.func27, Tryd.ntmps27
    go_wp2
    go_ret
    exact ⟨_, rfl, own_nats2 _ x y (alloc_size _ _).symm (Nat.le_succ _), below_al (below_al (Below.refl _ _) _) _⟩

set_option maxHeartbeats 1000000 in
theorem usesOfLast_any (z : Code.Last) (w : World) :
    Calls Tryd.prog 49 #[lastV z] w fun e w' => ∃ v, e = .returned v ∧ w'.ownsRow w.heap.size 3 1 v (Code.useL z).length (nats (Code.useL z)) ∧ Below w.heap.size w w' := by
  cases z with
  | ret v =>
    have h1 := isRet_ret
    unfold lastV
    go_enter Tryd.func49, Tryd.ntmps49
    go_wp2
    go_ret
    exact ⟨_, rfl, own_nats1 _ v (alloc_size _ _).symm (Nat.le_succ _), below_al (below_al (Below.refl _ _) _) _⟩
  | jump t =>
    have h1 := isRet_jump
    have h2 := isIf_jump
    unfold lastV
    go_enter Tryd.func49, Tryd.ntmps49
    go_wp2
    go_ret
    exact ⟨_, rfl, World.ownsRow_nil _ _ _ _, Below.refl _ _⟩
  | ifs v x y =>
    have h1 := isRet_if
    have h2 := isIf_if
    unfold lastV
    go_enter Tryd.func49, Tryd.ntmps49
    go_wp2
    go_ret
    exact ⟨_, rfl, own_nats1 _ v (alloc_size _ _).symm (Nat.le_succ _), below_al (below_al (Below.refl _ _) _) _⟩

set_option maxHeartbeats 1000000 in
theorem usesInPlace_any (y : Code.Thing) (v : Value) (base : Nat) (w : World) (hy : ThingV w base y v) :
    Calls Tryd.prog 48 #[v] w fun e w' => ∃ r, e = .returned r ∧ w'.ownsRow base 3 1 r (Code.useT y).length (nats (Code.useT y)) ∧ Below w.heap.size w w' := by
  cases y with
  | phi of =>
    obtain ⟨r, rfl, hr⟩ := hy
    have h1 := isApply_phi
    go_enter Tryd.func48, Tryd.ntmps48
    go_wp2
    go_ret
    exact ⟨_, rfl, World.ownsRow_nil _ _ _ _, Below.refl _ _⟩
  | arg n =>
    have hy' : v = _ := hy
    subst hy'
    have h1 := isApply_arg
    go_enter Tryd.func48, Tryd.ntmps48
    go_wp2
    go_ret
    exact ⟨_, rfl, World.ownsRow_nil _ _ _ _, Below.refl _ _⟩
  | const n =>
    have hy' : v = _ := hy
    subst hy'
    have h1 := isApply_const
    go_enter Tryd.func48, Tryd.ntmps48
    go_wp2
    go_ret
    exact ⟨_, rfl, World.ownsRow_nil _ _ _ _, Below.refl _ _⟩
  | apply k of =>
    obtain ⟨r, rfl, hr⟩ := hy
    obtain ⟨p, c, rfl⟩ := own_slice hr
    have h1 := isApply_apply
    go_enter Tryd.func48, Tryd.ntmps48
    go_wp2
    go_ret
    exact ⟨_, rfl, hr.alloc _, below_al (Below.refl _ _) _⟩
end Go.Proofs.YtdffpkmabehfbaaDoor
