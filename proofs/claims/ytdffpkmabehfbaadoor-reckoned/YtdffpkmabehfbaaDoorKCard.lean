/-
  Proved: for every list of acts and all ints a, b the call chiselkeep.Reckoned(acts, a, b) returns true, and its arguments read afterwards as they read before. Condition: the variable code.opTable holds, when the call begins, what the program's text lays in it (the card ties it).
-/
import Derived.Test.YtdffpkmabehfbaaDoorLRow
import Derived.Test.YtdffpkmabehfbaaDoorKRun
import Derived.Test.YtdffpkmabehfbaaDoorCards
import Derived.JoinedOf
namespace Go.Proofs.YtdffpkmabehfbaaDoor
open Go.ChangeShapes Go.WideShapes Go.ChangeAt Go.RowKit

theorem laidOutK : laidOutB Tryd.prog = true := by kernel_rfl

/-- A list out of what there is at each place. -/
theorem list_of {α : Type} {P : Nat → α → Prop} : ∀ (n : Nat), (∀ i, i < n → ∃ t, P i t) → ∃ l : List α, l.length = n ∧ ∀ i (h : i < l.length), P i l[i]
  | 0, _ => ⟨[], rfl, fun i h => absurd h (Nat.not_lt_zero i)⟩
  | n + 1, h => by
    obtain ⟨l, hl, hp⟩ := list_of n (fun i hi => h i (by omega))
    obtain ⟨t, ht⟩ := h n (Nat.lt_succ_self n)
    refine ⟨l ++ [t], by simp [hl], fun i hi => ?_⟩
    by_cases e : i < l.length
    · rw [List.getElem_append_left e]; exact hp i e
    · have : i = n := by simp at hi; omega
      subst this
      rw [List.getElem_append_right (by omega)]
      simpa [hl] using ht

theorem act_cells {H : Type} {enc : TypeId × Value → H} {W : World} {n : Nat} {c : List Value} {y : DataW H × List MemPlace}
    (h : DataW.trod enc Tryd.prog W 0 (fun _ => true) true n 36 c = some y) : ∃ k a b, c = [.int .i64 k, .int .i64 a, .int .i64 b] ∧ In64 k ∧ In64 a ∧ In64 b := by
  obtain ⟨ys, m, _, ex, hl, hy, hf⟩ := DataW.trod_struct Tryd.underlying36 h
  have h3 : Tryd.prog.cellsOf 36 = 3 := by kernel_rfl
  have hi1 : Tryd.prog.cellsOf 3 = 1 := by kernel_rfl
  rw [h3] at hl
  obtain ⟨c0, c1, c2, rfl⟩ := three_of hl
  obtain ⟨y0, y1, y2, rfl⟩ := three_of (show ys.length = 3 from hy)
  have h0 : DataW.trod enc Tryd.prog W 0 (fun _ => true) true m 3 (([c0, c1, c2].drop 0).take (Tryd.prog.cellsOf 3)) = some y0 := hf 0 _ rfl
  have h1 : DataW.trod enc Tryd.prog W 0 (fun _ => true) true m 3 (([c0, c1, c2].drop 1).take (Tryd.prog.cellsOf 3)) = some y1 := hf 1 _ rfl
  have h2 : DataW.trod enc Tryd.prog W 0 (fun _ => true) true m 3 (([c0, c1, c2].drop 2).take (Tryd.prog.cellsOf 3)) = some y2 := hf 2 _ rfl
  rw [hi1] at h0 h1 h2
  obtain ⟨k, e0, _, w0⟩ := DataW.trod_int Tryd.underlying3 h0
  obtain ⟨a, e1, _, w1⟩ := DataW.trod_int Tryd.underlying3 h1
  obtain ⟨b, e2, _, w2⟩ := DataW.trod_int Tryd.underlying3 h2
  have k0 : c0 = .int .i64 k := by simpa using e0
  have k1 : c1 = .int .i64 a := by simpa using e1
  have k2 : c2 = .int .i64 b := by simpa using e2
  exact ⟨k, a, b, by rw [k0, k1, k2], bounds_i64 w0, bounds_i64 w1, bounds_i64 w2⟩

theorem cells_three {W : World} {x : Addr} {a b c : Value} (h : W.cells? 0 x 3 = some [a, b, c]) : W.cell? (x.add 0) = some a ∧ W.cell? (x.add 1) = some b ∧ W.cell? (x.add 2) = some c := by
  simp [World.cells?, List.range_succ] at h
  cases h0 : W.cell? (x.add 0) with
  | none => simp [h0] at h
  | some u =>
    cases h1 : W.cell? (x.add 1) with
    | none => simp [h0, h1] at h
    | some v =>
      cases h2 : W.cell? (x.add 2) with
      | none => simp [h0, h1, h2] at h
      | some z =>
        simp [h0, h1, h2] at h
        obtain ⟨rfl, rfl, rfl⟩ := h
        exact ⟨rfl, rfl, rfl⟩

set_option maxRecDepth 100000 in
theorem reckoned_lifted (os : Os) (started : os.Started) (H : Type) (enc : TypeId × Value → H) :
    ReturnsInHanded {} Tryd.checked os 3 .any (fun w args => (Rows.reckonedSpec.pre enc Tryd.prog Tryd.f3 Rows.reckonedRow.domain false w args ∧ laidMetH Tryd.prog [("chisel/code.opTable", Rows.laid_chisel_code_opTable)] w) ∧ sizedMet enc Tryd.prog Tryd.f3 (OpenSpec.ofChange Rows.reckonedSpec) false w args)
      (Rows.reckonedSpec.post enc Tryd.prog Tryd.f3 false true false false) := by
  refine returnsInHanded_of_change_and (C := Tryd.checked) (X := fun w _ => laidMetH Tryd.prog [("chisel/code.opTable", Rows.laid_chisel_code_opTable)] w) (fun _ _ _ hh h => h.of_heap hh) ownK started (by kernel_rfl) Tryd.func3
    (ChangeSpec.witness_shaped (enc := enc) (C := Tryd.checked) (os := os) (X := fun w _ => laidMetH Tryd.prog [("chisel/code.opTable", Rows.laid_chisel_code_opTable)] w) false (World.laidAll Tryd.prog os [("chisel/code.opTable", Rows.laid_chisel_code_opTable)]) #[.slice none 0 0, .int .i64 0, .int .i64 0] 8 (World.laidAll_os _ _ _)
      (World.shaped_of_ZipB (by kernel_rfl) (by kernel_rfl)) (by kernel_rfl) (by kernel_rfl) (by kernel_rfl)
      (by rw [MakeChecks.laidMetH_plain _ _ _ (by kernel_rfl)]; exact laidMet_laidAll _ (by kernel_rfl) (by kernel_rfl))) ?_
  intro W base args ds gs before hval0 hW hc _ hL _
  have hval : ∀ (j : Nat) t v, Tryd.f3.params[j]? = some t → args[j]? = some v → Value.okWide Tryd.prog W .any base t v := hval0
  have hW' := hW
  obtain ⟨p, q, hA0, hV, rfl, _, _⟩ := hW
  have hA : DataW.TrodAll enc Tryd.prog W 0 (fun _ => true) true Tryd.f3.params.toList args.toList ds p := hA0
  rw [Tryd.params3] at hA hval
  obtain ⟨v0, v1, v2, d0, d1, d2, p0, p1, p2, rfl, rfl, rfl, h0, h1, h2⟩ := trodAll_three hA
  obtain ⟨rfl, rfl⟩ := trodVars_none hV
  obtain ⟨a, rfl, rfl, rfl, wa⟩ := open_int Tryd.underlying3 (hval 1 3 v1 rfl rfl) h1
  obtain ⟨b, rfl, rfl, rfl, wb⟩ := open_int Tryd.underlying3 (hval 2 3 v2 rfl rfl) h2
  obtain ⟨a0, len, cap, rfl⟩ := okWide_slice Tryd.underlying22 (hval 0 22 v0 rfl rfl)
  have h0k := h0
  obtain ⟨fuel, hf⟩ := h0
  clear hA0 hval0
  simp only [List.append_nil] at hW'
  have hlt : ∀ x ∈ p0, x.block < W.heap.size := fun x hx => by simpa using hW'.lt x hx
  have hargs : ∀ (W' : World), Below W.heap.size W W' → DataW.Trod enc Tryd.prog W' 0 (fun b => decide (b < W.heap.size)) true 22 (.slice a0 len cap) d0 p0 :=
    fun W' hn => Below.trod laidOutK (by kernel_rfl) (of_decide_eq_true (by kernel_rfl)) h0k hn hlt
  have hacts : ∃ acts : List (Int × Int × Int), acts.length = len ∧ ActsAt W a0 acts ∧ (∀ t ∈ acts, In64 t.1 ∧ In64 t.2.1 ∧ In64 t.2.2) ∧ len ≤ 9223372036854775807 := by
    rcases DataW.trod_slice Tryd.underlying22 hf with ⟨hcs, _⟩ | ⟨x, len', cap', elems, rest, n, _, hcs, _, _, hl, hm, hlen, hel, _, _⟩
    · simp [Value.cells] at hcs
      obtain ⟨rfl, rfl, rfl⟩ := hcs
      exact ⟨[], rfl, fun i h => absurd h (Nat.not_lt_zero i), fun t ht => absurd ht List.not_mem_nil, by omega⟩
    · simp [Value.cells] at hcs
      obtain ⟨rfl, rfl, rfl⟩ := hcs
      have hc3 : Tryd.prog.cellsOf 36 = 3 := by kernel_rfl
      have hall : ∀ i, i < len → ∃ t : Int × Int × Int, ((W.cell? ((x.add (i * 3)).add 0) = some (.int .i64 t.1) ∧ W.cell? ((x.add (i * 3)).add 1) = some (.int .i64 t.2.1) ∧ W.cell? ((x.add (i * 3)).add 2) = some (.int .i64 t.2.2)) ∧ In64 t.1 ∧ In64 t.2.1 ∧ In64 t.2.2) := by
        intro i hi
        have hE := hel i hi
        rw [hc3, List.getElem?_eq_getElem (by omega)] at hE
        simp only [Option.bind_eq_some_iff] at hE
        obtain ⟨cs, hcc, hy⟩ := hE
        obtain ⟨k, a, b, rfl, w0, w1, w2⟩ := act_cells hy
        exact ⟨(k, a, b), cells_three hcc, w0, w1, w2⟩
      obtain ⟨acts, hal, hP⟩ := list_of len hall
      refine ⟨acts, hal, fun i hi => ?_, fun t ht => ?_, Nat.le_trans (Nat.le_trans hl hm) (by decide)⟩
      · obtain ⟨⟨c0, c1, c2⟩, _⟩ := hP i hi
        obtain ⟨g, o, spot⟩ := x
        have hs : spot = none := by
          obtain ⟨⟨z0, _, _⟩, _⟩ := hP 0 (by omega)
          simpa [Addr.add] using World.cell?_spot z0
        subst hs
        simp only [add_plain, Nat.add_zero] at c0 c1 c2
        exact ⟨g, o, rfl, World.block_lt_of_cell? W _ c0, c0, c1, c2⟩
      · obtain ⟨i, hi, rfl⟩ := List.mem_iff_getElem.1 ht
        exact (hP i hi).2
  obtain ⟨acts, hal, hat, hin, hll⟩ := hacts
  subst hal
  refine (reckoned_any acts a0 cap a b W (tab_of_laid hL) hat hin hll).mono fun e W' ⟨he, hb⟩ => ?_
  subst he
  exact ⟨_, rfl, _, _, _, [], _, [], hW', trodAll_mk1 (shut_bool Tryd.underlying4 _), trodAll_mk3 (hargs _ hb) (shut_int Tryd.underlying3 wa) (shut_int Tryd.underlying3 wb), rfl, hb.frame _, fun h => by cases h⟩

theorem reckoned_row : Rows.ReckonedSaid :=
  OpenClaim.holds_of_wide 3 Tryd.f3 rfl rfl rfl rfl rfl rfl rfl ⟨rfl, rfl, rfl, rfl, rfl⟩ rfl rfl rfl rfl rfl (by kernel_rfl) Tryd.func3 (by kernel_rfl)
    (of_decide_eq_true (by kernel_rfl)) (by unfold Func.isWrapper; first | (rw [if_pos (by decide +kernel)]; kernel_rfl) | (rw [if_neg (by decide +kernel)]; exact ⟨rfl, rfl⟩))
    (fun os started H enc _ => reckoned_lifted os started H enc)

theorem reckoned_holds : Rows.ReckonedCardSaid :=
  Claim7.holds_tied_plain_at .later [] [.data] true Rows.reckonedCard.stood.harness true reckoned_row (fun _ h => by cases h) (by kernel_rfl) (fun _ h => by cases h) reckoned_row_tie rfl ⟨rfl, rfl⟩ (by kernel_rfl) rfl
    (fun f fn hf hfn => by
      obtain rfl : f = 3 := Option.some.inj ((show Tryd.prog.funcNamed "chisel/chiselkeep.Reckoned" = some 3 by kernel_rfl).symm.trans hf) |>.symm
      obtain rfl : fn = Tryd.f3 := (Option.some.inj (Tryd.func3.symm.trans hfn)).symm
      exact ⟨by kernel_rfl, fun j t ht => by
        rw [Tryd.params3] at ht
        have hm : t ∈ [22, 3, 3] := by simpa using Array.mem_of_getElem? ht
        have hall : ([22, 3, 3].all fun u => !Tryd.prog.wantsStandIn u) = true := by kernel_rfl
        exact (show Tryd.prog.wantsStandIn t = false by simpa using List.all_eq_true.1 hall t hm)⟩)
    (by kernel_rfl)
#print axioms reckoned_holds
end Go.Proofs.YtdffpkmabehfbaaDoor
