/-
  Walks: code.set.both, code.set.hasAll.
-/
import Derived.Test.YtdffpkmabehfbaaDoorCSet
namespace Go.Proofs.YtdffpkmabehfbaaDoor
open Go.RowKit

namespace Code
def both (R S : List Bool) : List Bool := List.zipWith (· && ·) R S

/-- 'both' up to the k-th. -/
def bothTo (R S : List Bool) (k : Nat) : List Bool := (both R S).take k ++ R.drop k

theorem both_length {R S : List Bool} (h : R.length = 60) (h' : S.length = 60) : (both R S).length = 60 := by simp [both, h, h']

theorem bothTo_length {R S : List Bool} (h : R.length = 60) (h' : S.length = 60) (k : Nat) : (bothTo R S k).length = 60 := by
  have := both_length h h'
  simp [bothTo, this, h]; omega

theorem bothTo_get {R S : List Bool} (h : R.length = 60) (h' : S.length = 60) (k : Nat) (hk : k < 60) : (bothTo R S k)[k]? = some (R[k]'(by omega)) := by
  have := both_length h h'
  rw [bothTo, List.getElem?_append_right (by simp; omega)]
  simp [this]
  rw [show k + (k - min k 60) = k by omega, List.getElem?_eq_getElem (by omega)]

theorem bothTo_set {R S : List Bool} (h : R.length = 60) (h' : S.length = 60) (k : Nat) (hk : k < 60) : (bothTo R S k).set k (R[k]'(by omega) && S[k]'(by omega)) = bothTo R S (k + 1) := by
  have hl := both_length h h'
  apply List.ext_getElem?
  intro j
  rw [List.getElem?_set]
  by_cases hj : k = j
  · subst hj
    rw [if_pos rfl, if_pos (by rw [bothTo_length h h']; exact hk), bothTo, List.getElem?_append_left (by simp; omega), List.getElem?_take_of_lt (by omega), List.getElem?_eq_getElem (by omega)]
    simp [both]
  · rw [if_neg hj]
    by_cases hjk : j < k
    · rw [bothTo, bothTo, List.getElem?_append_left (by simp; omega), List.getElem?_append_left (by simp; omega), List.getElem?_take_of_lt hjk, List.getElem?_take_of_lt (by omega)]
    · rw [bothTo, bothTo, List.getElem?_append_right (by simp; omega), List.getElem?_append_right (by simp; omega)]
      simp only [List.getElem?_drop, List.length_take]
      congr 1
      omega

theorem bothTo_zero (R S : List Bool) : bothTo R S 0 = R := by simp [bothTo]

theorem bothTo_end {R S : List Bool} (h : R.length = 60) (h' : S.length = 60) : bothTo R S 60 = both R S := by
  have := both_length h h'
  rw [bothTo, List.take_of_length_le (by omega), List.drop_of_length_le (by omega), List.append_nil]

/-- All these numbers are in. -/
def hasAll (R : List Bool) (of : List Nat) : Bool := of.all fun n => R.getD n false
end Code

theorem alloc_size (w : World) (o : Obj) : (w.alloc o).heap.size = w.heap.size + 1 := by simp

set_option maxRecDepth 100000 in
set_option maxHeartbeats 1000000 in
theorem both_any (R S : List Bool) (hR : R.length = 60) (hS : S.length = 60) (w : World) :
    Calls Tryd.prog 63 #[.agg (setA R), .agg (setA S)] w fun e w' => e = .returned (.agg (setA (Code.both R S))) ∧ Below w.heap.size w w' := by
  have HL := hide (setSize (Code.both R S) (Code.both_length hR hS))
  have HL' := hide (setSize' (Code.both R S) (Code.both_length hR hS))
  have HO := hide (setOne (Code.both R S))
  go_enter Tryd.func63, Tryd.ntmps63
  go_wp2
  generalize hw0 : ((w.alloc _).alloc _).alloc _ = w0
  have hr0 : setRow w0 w.heap.size R := by rw [← hw0]; exact stay_alloc (stay_alloc (heap_alloc_new w _))
  have hr1 : setRow w0 (w.heap.size + 1) S := by
    have h := heap_alloc_new (w.alloc (.cells (setA R) 108)) (.cells (setA S) 108)
    rw [alloc_size] at h
    rw [← hw0]; exact stay_alloc h
  have hr2 : setRow w0 (w.heap.size + 1 + 1) noNumber := by
    have h := heap_alloc_new ((w.alloc (.cells (setA R) 108)).alloc (.cells (setA S) 108)) (.cells (setA noNumber) 108)
    rw [alloc_size, alloc_size] at h
    rw [← hw0]; exact h
  have hb0 : Below w.heap.size w w0 := by rw [← hw0]; exact below_al (below_al (below_al (Below.refl _ _) _) _) _
  clear hw0
  go_loopw [6] (fun i wr => ∃ k : Nat, k ≤ 60 ∧ i = .int .i64 k ∧ setRow wr w.heap.size (Code.bothTo R S k) ∧ setRow wr (w.heap.size + 1) S ∧ setRow wr (w.heap.size + 1 + 1) noNumber ∧ Below w.heap.size w wr) (fun i _ => 60 - (intOf i).toNat)
  case atStart => exact ⟨0, by omega, rfl, by rw [Code.bothTo_zero]; exact hr0, hr1, hr2, hb0⟩
  case round =>
    obtain ⟨k, hk, rfl, h1, h2, h3, hbw⟩ := hrel
    clear hr0 hr1 hr2 hb0
    by_cases hlt : k < 60
    · have hc1 : wr.cell? ⟨w.heap.size, k, none⟩ = some (.bool (R[k]'(by omega))) := by
        have hkl : k < (Code.bothTo R S k).length := by rw [Code.bothTo_length hR hS]; exact hlt
        rw [h1.cell k hkl]
        have := Code.bothTo_get hR hS k hlt
        rw [List.getElem?_eq_getElem hkl] at this
        rw [Option.some.inj this]
      have hc2 := h2.cell k (by omega)
      have hf := blk_froz h1 k
      have hk' : (k : Int) < 60 := by omega
      have HS := hide (Code.bothTo_set hR hS k hlt)
      generalize R[k]'(by omega) = b1 at *
      generalize S[k]'(by omega) = b2 at *
      cases b1
      all_goals
        go_wp2
        refine ⟨⟨k + 1, by omega, by go_num, ?_, stay_set h2 (show w.heap.size + 1 ≠ w.heap.size by omega), stay_set h3 (show w.heap.size + 1 + 1 ≠ w.heap.size by omega), below_set hbw (by omega) _ _⟩, by simp [intOf]; omega⟩
        rw [← HS.out]
        simpa using h1.set k _
    · have hk60 : k = 60 := by omega
      subst hk60
      rw [Code.bothTo_end hR hS] at h1
      have hB := Code.both_length hR hS
      have HTH := hide h3.there
      generalize hBB : Code.both R S = B at *
      go_wp2_with (first | refine wpList_load_mid rfl 108 _ rfl w.heap.size 0 rfl (setL B) _ h1.range Tryd.underlying108 rfl HL.out ?_ | refine wpList_store_mid rfl 108 _ _ rfl (w.heap.size + 1 + 1) 0 (setA B) rfl rfl ?_ HL'.out HO.out ?_)
      · have h := HTH.out
        rw [show noNumber.length = (setA B).size by simp [noNumber, setA, setL, hB]] at h
        exact h
      · have hp : setRow (wr.setCells (w.heap.size + 1 + 1) 0 (setA B).toList) (w.heap.size + 1 + 1) B := h3.put B (by simp [noNumber, hB])
        refine bodyPost_ret (v := .agg (setA B)) (results_cell_row rfl _ _ (w.heap.size + 1 + 1) 108 (setA B) _ _ rfl hp Tryd.underlying108 rfl HL'.out) rfl ?_
        exact ⟨by rw [hBB], below_cells hbw (by omega) _ _⟩

/-- Numbers in a row, as they are read: the slice, and number by number what is there. -/
theorem nats_open {w : World} {base : Nat} {v : Value} {l : List Nat} (h : w.ownsRow base 3 1 v l.length (nats l)) :
    ∃ p cap, v = .slice p l.length cap ∧ ∀ k (h : k < l.length), ∃ g, p = some ⟨g, 0, none⟩ ∧ w.cell? ⟨g, k, none⟩ = some (.int .i64 (l[k] : Nat)) := by
  obtain ⟨p, cap, hv⟩ := own_slice h
  refine ⟨p, cap, hv, fun k hk => ?_⟩
  obtain ⟨g, cap', hv', _, _, hc⟩ := row_open h (by omega)
  rw [hv] at hv'
  simp only [Value.slice.injEq] at hv'
  exact ⟨g, hv'.1, hc _ _ (nats_get l k hk)⟩

namespace Code
theorem hasAll_no {R : List Bool} {of : List Nat} {k : Nat} (hk : k < of.length) (h : R.getD of[k] false = false) : hasAll R of = false := by
  rw [hasAll, List.all_eq_false]
  exact ⟨of[k], List.getElem_mem hk, by simp at h; simp [h]⟩

theorem hasAll_yes {R : List Bool} {of : List Nat} (h : ∀ k (hk : k < of.length), R.getD of[k] false = true) : hasAll R of = true := by
  rw [hasAll, List.all_eq_true]
  intro x hx
  obtain ⟨k, hk, rfl⟩ := List.getElem_of_mem hx
  exact h k hk
end Code

set_option maxRecDepth 100000 in
set_option maxHeartbeats 1000000 in
theorem hasAll_any (R : List Bool) (hR : R.length = 60) (of : List Nat) (hof : ∀ x ∈ of, x < 60) (hlen : of.length ≤ 100000) (v : Value) (base : Nat) (w : World) (hv : w.ownsRow base 3 1 v of.length (nats of)) :
    Calls Tryd.prog 47 #[.agg (setA R), v] w fun e w' => e = .returned (.bool (Code.hasAll R of)) ∧ Below w.heap.size w w' := by
  obtain ⟨p, cap, rfl, hval⟩ := nats_open hv
  have HV := hide hval
  clear hval hv
  go_enter Tryd.func47, Tryd.ntmps47
  go_wp2
  generalize hw0 : w.alloc _ = w0
  have hr0 : setRow w0 w.heap.size R := by rw [← hw0]; exact heap_alloc_new w _
  have hb0 : Below w.heap.size w w0 := by rw [← hw0]; exact below_al (Below.refl _ _) _
  clear hw0
  go_loop [9] (fun i => ∃ k : Nat, k ≤ of.length ∧ i = .int .i64 k ∧ Hid (∀ j (h : j < of.length), j < k → R.getD of[j] false = true)) (fun i => of.length - (intOf i).toNat)
  case atStart => exact ⟨0, by omega, rfl, hide (fun j _ h => by omega)⟩
  case round =>
    obtain ⟨k, hk, rfl, hsp⟩ := hrel
    by_cases hlt : k < of.length
    · obtain ⟨g, rfl, c0⟩ := HV.out k hlt
      have hlt60 := hof of[k] (List.getElem_mem hlt)
      have hg : g < w.heap.size := by
        cases hh : w.heap[g]? with
        | none => simp [World.cell?, hh] at c0
        | some o => exact lt_of_block hh
      have c0' : w0.cell? ⟨g, k, none⟩ = some (.int .i64 (of[k] : Nat)) := by rw [(bcell hb0).1 g k hg]; exact c0
      have hc := hr0.cell of[k] (by omega)
      have h60 : ((of[k] : Nat) : Int) < 60 := by omega
      have hget : R.getD of[k] false = R[of[k]]'(by omega) := by rw [List.getD_eq_getElem?_getD, List.getElem?_eq_getElem (by omega)]; rfl
      cases hb : R[of[k]]'(by omega) with
      | false =>
        have HF := hide (Code.hasAll_no hlt (hget.trans hb))
        rw [hb] at hc
        clear hb hget hsp c0
        go_wp2
        go_ret
        exact ⟨ret_bool HF.out.symm, hb0⟩
      | true =>
        have HF : Hid (∀ j (h : j < of.length), j < k + 1 → R.getD of[j] false = true) := hide fun j h hj => by
          rcases Nat.lt_succ_iff_lt_or_eq.1 hj with h' | h'
          · exact hsp.out j h h'
          · subst h'; exact hget.trans hb
        rw [hb] at hc
        clear hb hget hsp c0
        go_wp2
        exact ⟨⟨k + 1, by omega, by go_num, HF⟩, by simp [intOf]; omega⟩
    · have HF := hide (Code.hasAll_yes (R := R) (of := of) (fun j h => hsp.out j h (by omega)))
      go_wp2
      go_ret
      exact ⟨ret_bool HF.out.symm, hb0⟩
end Go.Proofs.YtdffpkmabehfbaaDoor
