/-
  Walks: code.OpNamed, code.Op.Of: the table of operations.
-/
import Derived.Test.YtdffpkmabehfbaaDoorCRead2
import Derived.Deep.RegionHeld3
namespace Go.Proofs.YtdffpkmabehfbaaDoor
open Go.RowKit

/-- The cells of the table of operations. -/
def opCells : List Value := Code.ops.flatMap fun r => [.string (bs r.1), .int .i64 r.2.1, .int .i64 r.2.2]

/-- The table lies where the program's text lays it. -/
def Tab (w : World) : Prop := w.rangeAt 0 0 opCells

theorem Tab.grown {w w' : World} {rb : Nat} (h : Tab w) (hg : w.grownBy w' (some rb)) (hrb : 0 < rb) : Tab w' := by
  intro j v hv
  have h1 := h j v hv
  have h0 : 0 < w.heap.size := by
    cases hh : w.heap[0]? with
    | none => simp [World.cell?, hh] at h1
    | some o => exact lt_of_block hh
  have h2 := hg.block 0 h0 (fun e => by simp at e; omega)
  simpa [World.cell?, h2] using h1

theorem opCells_at (k : Nat) (h : k < 13) : opCells[k * 3]? = some (.string (bs (Code.ops.getD k ([], 0, 0)).1)) ∧ opCells[k * 3 + 1]? = some (.int .i64 (Code.opOf k : Nat)) := by
  have : ∀ k, k < 13 → (opCells[k * 3]? = some (.string (bs (Code.ops.getD k ([], 0, 0)).1)) ∧ opCells[k * 3 + 1]? = some (.int .i64 (Code.opOf k : Nat))) := by
    intro k h
    match k, h with
    | 0, _ | 1, _ | 2, _ | 3, _ | 4, _ | 5, _ | 6, _ | 7, _ | 8, _ | 9, _ | 10, _ | 11, _ | 12, _ => exact ⟨rfl, rfl⟩
  exact this k h

set_option maxHeartbeats 1000000 in
theorem opOf_any (k : Nat) (w : World) (hk : k < 13) (ht : Tab w) :
    Calls Tryd.prog 72 #[.int .i64 (k : Nat)] w fun e w' => e = .returned (.int .i64 (Code.opOf k : Nat)) ∧ w' = w := by
  have hc := ht _ _ (opCells_at k hk).2
  rw [Nat.zero_add] at hc
  have hk' : (k : Int) < 13 := by omega
  go_enter Tryd.func72, Tryd.ntmps72
  go_wp2
  go_ret
  exact ⟨rfl, rfl⟩

theorem opIndex (k : Nat) (h : k < 13) (w : World) : (Instr.index 139 (.agg opCells.toArray) (.int .i64 (k : Nat))).run Tryd.prog w =
    .ok (.agg #[.string (bs (Code.ops.getD k ([], 0, 0)).1), .int .i64 (Code.ops.getD k ([], 0, 0)).2.1, .int .i64 (Code.ops.getD k ([], 0, 0)).2.2]) w := by
  match k, h with
  | 0, _ | 1, _ | 2, _ | 3, _ | 4, _ | 5, _ | 6, _ | 7, _ | 8, _ | 9, _ | 10, _ | 11, _ | 12, _ =>
    show _ = _
    kernel_rfl

namespace Code
def opName (k : Nat) : List UInt8 := (ops.getD k ([], 0, 0)).1

theorem opNamed_some {s : List UInt8} {k : Nat} (hk : k < 13) (h : opName k = s) (hb : ∀ j, j < k → opName j ≠ s) : opNamed s = some k := by
  unfold opNamed
  rw [List.findIdx?_eq_some_iff_getElem]
  refine ⟨by simpa [ops] using hk, ?_, fun j hj => ?_⟩
  · have hk' : k < ops.length := by simpa [ops] using hk
    simp only [List.getElem_map, decide_eq_true_eq]
    rw [← h, opName, List.getD_eq_getElem?_getD, List.getElem?_eq_getElem hk']; rfl
  · have hj' : j < ops.length := by simp only [ops, List.length_cons, List.length_nil]; omega
    have := hb j hj
    rw [opName, List.getD_eq_getElem?_getD, List.getElem?_eq_getElem hj'] at this
    simpa using this

theorem opNamed_none {s : List UInt8} (hb : ∀ j, j < 13 → opName j ≠ s) : opNamed s = none := by
  unfold opNamed
  rw [List.findIdx?_eq_none_iff]
  intro x hx
  obtain ⟨j, hj, rfl⟩ := List.getElem_of_mem hx
  have hj' : j < ops.length := by simpa using hj
  have := hb j (by simpa [ops] using hj')
  rw [opName, List.getD_eq_getElem?_getD, List.getElem?_eq_getElem hj'] at this
  simpa using this
end Code

theorem str_eq (a b : List UInt8) : ((bs a).toList == (bs b).toList) = decide (a = b) := by
  rw [ByteArray.toList_eq, ByteArray.toList_eq]
  show (bl (bs a) == bl (bs b)) = _
  rw [bl_bs, bl_bs, Bool.eq_iff_iff]
  simp

set_option maxRecDepth 100000 in
set_option maxHeartbeats 1000000 in
theorem opNamed_any (s : List UInt8) (w : World) (ht : Tab w) :
    Calls Tryd.prog 71 #[.string (bs s)] w fun e w' =>
      ((∃ k, k < 13 ∧ Code.opNamed s = some k ∧ e = .returned (.tuple #[.int .i64 (k : Nat), .bool true])) ∨ (Code.opNamed s = none ∧ e = .returned (.tuple #[.int .i64 0, .bool false]))) ∧ Below w.heap.size w w' := by
  have hsz : (Tryd.prog.info? 139).map (·.size) = some opCells.length := by kernel_rfl
  have HSZ := hide hsz
  clear hsz
  have hix : ∀ k : Nat, k < 13 → ∀ w, (Instr.index 139 (.agg opCells.toArray) (.int .i64 (k : Nat))).run Tryd.prog w =
    .ok (.agg #[.string (bs (Code.opName k)), .int .i64 (Code.ops.getD k ([], 0, 0)).2.1, .int .i64 (Code.ops.getD k ([], 0, 0)).2.2]) w := opIndex
  have HT := hide ht
  have HIX := hide hix
  clear ht hix
  go_enter Tryd.func71, Tryd.ntmps71
  go_wp2_with (first | refine wpList_load_mid rfl 139 (.global 0) rfl 0 0 rfl opCells _ HT.out Tryd.underlying139 rfl HSZ.out ?_)
  generalize opCells.toArray = C at *
  go_loopw [7] (fun i wr => ∃ k : Nat, k ≤ 13 ∧ i = .int .i64 k ∧ Below w.heap.size w wr ∧ Hid (∀ j, j < k → Code.opName j ≠ s)) (fun i _ => 13 - (intOf i).toNat)
  case atStart => exact ⟨0, by omega, rfl, Below.refl _ _, hide (fun j h => by omega)⟩
  case round =>
    obtain ⟨k, hk, rfl, hbw, hne⟩ := hrel
    by_cases hlt : k < 13
    · have hix := HIX.out k hlt
      have hz := hbw.size
      by_cases he : Code.opName k = s
      · have hq : ((bs (Code.opName k)).toList == (bs s).toList) = true := by rw [str_eq]; exact decide_eq_true he
        have HR := hide (Code.opNamed_some hlt he hne.out)
        clear he hne
        go_wp2
        go_ret2
        exact ⟨Or.inl ⟨k, hlt, HR.out, rfl⟩, below_al hbw _⟩
      · have hq : ((bs (Code.opName k)).toList == (bs s).toList) = false := by rw [str_eq]; exact decide_eq_false he
        have HR : Hid (∀ j, j < k + 1 → Code.opName j ≠ s) := hide fun j hj => by
          rcases Nat.lt_succ_iff_lt_or_eq.1 hj with h | h
          · exact hne.out j h
          · subst h; exact he
        clear he hne
        go_wp2
        exact ⟨⟨k + 1, by omega, by go_num, below_al hbw _, HR⟩, by simp [intOf]; omega⟩
    · have HR := hide (Code.opNamed_none (s := s) (fun j hj => hne.out j (by omega)))
      go_wp2
      go_ret2
      exact ⟨Or.inr ⟨HR.out, rfl⟩, hbw⟩
end Go.Proofs.YtdffpkmabehfbaaDoor
