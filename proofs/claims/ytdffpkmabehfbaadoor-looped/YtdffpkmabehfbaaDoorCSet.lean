/-
  Walks: code.set: everyNumber, both, hasAll; code.Block.madeAtEnd.
-/
import Derived.Test.YtdffpkmabehfbaaDoorCFunc
namespace Go.Proofs.YtdffpkmabehfbaaDoor
open Go.RowKit

/-- A set of v numbers, as cells. -/
def setL (R : List Bool) : List Value := R.map Value.bool
def setA (R : List Bool) : Array Value := (setL R).toArray

/-- A set in a block of its own. -/
def setRow (w : World) (g : Nat) (R : List Bool) : Prop := w.heap[g]? = some (.cells (setA R) 108)

theorem setL_length (R : List Bool) : (setL R).length = R.length := by simp [setL]

theorem setRow.cell {w : World} {g : Nat} {R : List Bool} (h : setRow w g R) (i : Nat) (hi : i < R.length) : w.cell? ⟨g, i, none⟩ = some (.bool R[i]) :=
  blk_cell h i _ (by simp [setA, setL, hi])

theorem setRow.set {w : World} {g : Nat} {R : List Bool} (h : setRow w g R) (i : Nat) (b : Bool) : setRow (w.setCell ⟨g, i, none⟩ (.bool b)) g (R.set i b) := by
  unfold setRow at *
  rw [set_block h]
  simp [setA, setL, List.map_set]

theorem setRow.range {w : World} {g : Nat} {R : List Bool} (h : setRow w g R) : w.rangeAt g 0 (setL R) := by
  intro j v hv
  rw [Nat.zero_add]
  exact blk_cell h j v (by simpa [setA] using hv)

theorem setRow.there {w : World} {g : Nat} {R : List Bool} (h : setRow w g R) : w.there g 0 R.length := by
  intro j hj
  rw [Nat.zero_add]
  exact ⟨by rw [h.cell j hj]; rfl, blk_froz h j⟩

theorem setCells_block (b : Nat) {T : TypeId} {z : Nat × Nat} : ∀ (vs : List Value) (o : Nat) (w : World) (C : Array Value), w.heap[b]? = some (.cells C T z) → o + vs.length ≤ C.size →
    ∃ C' : Array Value, (w.setCells b o vs).heap[b]? = some (.cells C' T z) ∧ C'.size = C.size ∧ (∀ j, j < o → C'[j]? = C[j]?) ∧ (∀ j, j < vs.length → C'[o + j]? = vs[j]?) ∧ (∀ j, o + vs.length ≤ j → C'[j]? = C[j]?)
  | [], o, w, C, h, _ => ⟨C, h, rfl, fun _ _ => rfl, fun j hj => by simp at hj, fun _ _ => rfl⟩
  | v :: r, o, w, C, h, hs => by
    simp only [List.length_cons] at hs
    obtain ⟨C', h1, h2, h3, h4, h5⟩ := setCells_block b r (o + 1) (w.setCell ⟨b, o, none⟩ v) _ (set_block h) (by simp; omega)
    refine ⟨C', h1, by simpa using h2, fun j hj => ?_, fun j hj => ?_, fun j hj => ?_⟩
    · rw [h3 j (by omega), Array.getElem?_setIfInBounds_ne (by omega)]
    · cases j with
      | zero =>
        rw [Nat.add_zero, h3 o (by omega), Array.getElem?_setIfInBounds_self_of_lt (by omega)]; rfl
      | succ j =>
        simp only [List.length_cons] at hj
        have := h4 j (by omega)
        rw [show o + 1 + j = o + (j + 1) by omega] at this
        rw [this]; rfl
    · simp only [List.length_cons] at hj
      rw [h5 j (by omega), Array.getElem?_setIfInBounds_ne (by omega)]

theorem setCells_other (b : Nat) {k : Nat} (hk : k ≠ b) : ∀ (vs : List Value) (o : Nat) (w : World), (w.setCells b o vs).heap[k]? = w.heap[k]?
  | [], _, _ => rfl
  | v :: r, o, w => by
    show ((w.setCell ⟨b, o, none⟩ v).setCells b (o + 1) r).heap[k]? = _
    rw [setCells_other b hk r, Below.heap_setCell w ⟨b, o, none⟩ v k hk]

theorem setCells_size (b : Nat) : ∀ (vs : List Value) (o : Nat) (w : World), (w.setCells b o vs).heap.size = w.heap.size
  | [], _, _ => rfl
  | v :: r, o, w => by
    show ((w.setCell ⟨b, o, none⟩ v).setCells b (o + 1) r).heap.size = _
    rw [setCells_size b r, size_set]

theorem setCells_rest (b : Nat) : ∀ (vs : List Value) (o : Nat) (w : World), (w.setCells b o vs).os = w.os ∧ (w.setCells b o vs).tape = w.tape ∧ (w.setCells b o vs).output = w.output
  | [], _, _ => ⟨rfl, rfl, rfl⟩
  | v :: r, o, w => by
    have := setCells_rest b r (o + 1) (w.setCell ⟨b, o, none⟩ v)
    exact ⟨this.1.trans rfl, this.2.1.trans rfl, this.2.2.trans rfl⟩

theorem below_cells {a w : World} (h : Below a.heap.size a w) {b : Nat} (hb : a.heap.size ≤ b) (o : Nat) (vs : List Value) : Below a.heap.size a (w.setCells b o vs) := by
  obtain ⟨h1, h2, h3⟩ := setCells_rest b vs o w
  exact ⟨h1.trans h.os, h2.trans h.tape, h3.trans h.output, by rw [setCells_size]; exact h.size, fun k hk => by rw [setCells_other b (by omega)]; exact h.block k hk⟩

theorem stay_cells {w : World} {b k : Nat} {o : Nat} {vs : List Value} {x : Obj} (h : w.heap[k]? = some x) (hne : k ≠ b) : (w.setCells b o vs).heap[k]? = some x := by
  rw [setCells_other b hne]; exact h

theorem setRow.put {w : World} {g : Nat} {R : List Bool} (h : setRow w g R) (R' : List Bool) (hl : R'.length = R.length) : setRow (w.setCells g 0 (setL R')) g R' := by
  obtain ⟨C', h1, h2, h3, h4, h5⟩ := setCells_block g (setL R') 0 w _ h (by simp [setA, setL, hl])
  unfold setRow
  rw [h1]
  congr 2
  apply Array.ext_getElem?
  intro j
  by_cases hj : j < (setL R').length
  · have := h4 j hj
    rw [Nat.zero_add] at this
    rw [this]; simp [setA]
  · rw [Array.getElem?_eq_none (by rw [h2]; simp [setA, setL] at *; omega), Array.getElem?_eq_none (by simp [setA]; omega)]

theorem setOne (R : List Bool) : (setA R).all (·.oneCell') = true := all_oneCell_toArray (fun v hv => by
  obtain ⟨b, _, rfl⟩ := List.mem_map.1 hv
  rfl)

theorem setSize (R : List Bool) (h : R.length = 60) : (Tryd.prog.info? 108).map (·.size) = some (setL R).length := by
  rw [setL_length, h]; kernel_rfl

theorem setSize' (R : List Bool) (h : R.length = 60) : (Tryd.prog.info? 108).map (·.size) = some (setA R).size := by
  simp only [setA, List.size_toArray]; exact setSize R h

def noNumber : List Bool := List.replicate 60 false

theorem replicate_set (k : Nat) (h : k < 60) : (List.replicate k true ++ List.replicate (60 - k) false).set k true = List.replicate (k + 1) true ++ List.replicate (60 - (k + 1)) false := by
  rw [show 60 - k = (60 - (k + 1)) + 1 by omega, List.replicate_succ, List.set_append_right _ _ (by simp)]
  simp [List.replicate_succ']

set_option maxRecDepth 100000 in
set_option maxHeartbeats 1000000 in
theorem everyNumber_any (w : World) :
    Calls Tryd.prog 61 #[] w fun e w' => e = .returned (.agg (setA (List.replicate 60 true))) ∧ Below w.heap.size w w' := by
  go_enter Tryd.func61, Tryd.ntmps61
  go_wp2
  generalize hw0 : (w.alloc _).alloc _ = w0
  have hr0 : setRow w0 w.heap.size noNumber := by rw [← hw0]; exact stay_alloc (heap_alloc_new w _)
  have hr1 : setRow w0 (w.heap.size + 1) noNumber := by
    have h := heap_alloc_new (w.alloc (.cells (setA noNumber) 108)) (.cells (setA noNumber) 108)
    rw [show (w.alloc (.cells (setA noNumber) 108)).heap.size = w.heap.size + 1 by simp] at h
    rw [← hw0]; exact h
  have hb0 : Below w.heap.size w w0 := by rw [← hw0]; exact below_al (below_al (Below.refl _ _) _) _
  clear hw0
  go_loopw [3] (fun i wr => ∃ k : Nat, k ≤ 60 ∧ i = .int .i64 k ∧ setRow wr (w.heap.size + 1) (List.replicate k true ++ List.replicate (60 - k) false) ∧ setRow wr w.heap.size noNumber ∧ Below w.heap.size w wr) (fun i _ => 60 - (intOf i).toNat)
  case atStart => exact ⟨0, by omega, rfl, hr1, hr0, hb0⟩
  case round =>
    obtain ⟨k, hk, rfl, h1, h2, hbw⟩ := hrel
    by_cases hlt : k < 60
    · have hc := h1.cell k (by simp; omega)
      have hf := blk_froz h1 k
      have hk' : (k : Int) < 60 := by omega
      go_wp2
      refine ⟨⟨k + 1, by omega, by go_num, ?_, stay_set h2 (show w.heap.size ≠ w.heap.size + 1 by omega), below_set hbw (by omega) _ _⟩, by simp [intOf]; omega⟩
      rw [← replicate_set k hlt]
      exact h1.set k true
    · have hk60 : k = 60 := by omega
      subst hk60
      have h1' : setRow wr (w.heap.size + 1) (List.replicate 60 true) := h1
      clear h1
      have HL := hide (setSize (List.replicate 60 true) (by simp))
      have HL' := hide (setSize' (List.replicate 60 true) (by simp))
      have HO := hide (setOne (List.replicate 60 true))
      have HTH := hide h2.there
      have hR : (List.replicate 60 true).length = 60 := by simp
      generalize hRR : List.replicate 60 true = R at *
      have HRR := hide hRR
      clear hRR
      go_wp2_with (first | refine wpList_load_mid rfl 108 _ rfl (w.heap.size + 1) 0 rfl (setL R) _ h1'.range Tryd.underlying108 rfl HL.out ?_ | refine wpList_store_mid rfl 108 _ _ rfl w.heap.size 0 (setA R) rfl rfl ?_ HL'.out HO.out ?_)
      · have h := HTH.out
        rw [show noNumber.length = (setA R).size by simp [noNumber, setA, setL, hR]] at h
        exact h
      · have hp : setRow (wr.setCells w.heap.size 0 (setA R).toList) w.heap.size R := h2.put R (by simp [noNumber, hR])
        refine bodyPost_ret (v := .agg (setA R)) (results_cell_row rfl _ _ w.heap.size 108 (setA R) _ _ rfl hp Tryd.underlying108 rfl HL'.out) rfl ?_
        rw [HRR.out]
        exact ⟨rfl, below_cells hbw (Nat.le_refl _) _ _⟩
end Go.Proofs.YtdffpkmabehfbaaDoor
