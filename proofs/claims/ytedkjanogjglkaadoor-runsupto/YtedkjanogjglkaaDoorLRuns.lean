/-
  Proved: the call chisellaw.Runs(text, args, fuel) returns true, and its arguments read afterwards as they read before. Conditions: what it reads is of bulk at most 1048576 (the statement's own bound); the variable code.opTable holds, when the call begins, what the program's text lays in it (the card ties it).
-/
import Derived.Test.YtedkjanogjglkaaDoorP09
import Derived.Test.YtedkjanogjglkaaDoorP24
import Derived.Test.YtedkjanogjglkaaDoorCards
import Derived.JoinedOf
import Derived.Deep.DeepHandedRow
import Derived.ChangeMaps5
namespace Go.Proofs.YtedkjanogjglkaaDoor
open Go.ChangeShapes Go.WideShapes Go.ChangeAt Go.RowKit

theorem laidOutR : laidOutB Tryd.prog = true := by kernel_rfl

/-- A list out of what there is at each place. -/
theorem list_ofR {α : Type} {P : Nat → α → Prop} : ∀ (n : Nat), (∀ i, i < n → ∃ t, P i t) → ∃ l : List α, l.length = n ∧ ∀ i (h : i < l.length), P i l[i]
  | 0, _ => ⟨[], rfl, fun i h => absurd h (Nat.not_lt_zero i)⟩
  | n + 1, h => by
    obtain ⟨l, hl, hp⟩ := list_ofR n (fun i hi => h i (by omega))
    obtain ⟨t, ht⟩ := h n (Nat.lt_succ_self n)
    refine ⟨l ++ [t], by simp [hl], fun i hi => ?_⟩
    by_cases e : i < l.length
    · rw [List.getElem_append_left e]; exact hp i e
    · have : i = n := by simp at hi; omega
      subst this
      rw [List.getElem_append_right (by omega)]
      simpa [hl] using ht

theorem bulk_one {H : Type} (d : DataW H) : 1 ≤ Rows.uptoBulk d := by
  cases d with
  | lit l => cases l <;> simp [Rows.uptoBulk]
  | _ => simp [Rows.uptoBulk]

theorem bulk_len {H : Type} : ∀ l : List (DataW H), l.length ≤ Rows.uptoBulkAll l
  | [] => by simp
  | d :: r => by
    have h1 := bulk_len r
    have h2 := bulk_one d
    simp only [Rows.uptoBulkAll, List.length_cons]
    omega

theorem cells_one {W : World} {x : Addr} {a : Value} (h : W.cells? 0 x 1 = some [a]) : W.cell? (x.add 0) = some a := by
  simp [World.cells?, List.range_succ] at h
  cases h0 : W.cell? (x.add 0) with
  | none => simp [h0] at h
  | some u => simp [h0] at h; rw [h]

theorem runs_reads (os : Os) {H : Type} (enc : TypeId × Value → H) : ∃ places, DataW.whole enc Tryd.prog ((World.laidAll Tryd.prog os Rows.runsUptoRow.laid).forCall (fun _ _ => 0) ⟨#[], #[.string ByteArray.empty, .slice none 0 0, .int .i64 0], []⟩).memory Tryd.f4.params.toList Rows.runsSpec.vars false #[Value.string ByteArray.empty, .slice none 0 0, .int .i64 0].toList 8 = some ([.lit (.string []), .nil, .lit (.int .i64 0)], [], places) :=
  ⟨[], by kernel_rfl⟩

theorem runs_laid (os : Os) : laidMetH Tryd.prog Rows.runsUptoRow.laid ((World.laidAll Tryd.prog os Rows.runsUptoRow.laid).forCall (fun _ _ => 0) ⟨#[], #[.string ByteArray.empty, .slice none 0 0, .int .i64 0], []⟩).memory := by
  rw [MakeChecks.laidMetH_plain _ _ _ (by kernel_rfl)]
  exact laidMet_laidAll _ (by kernel_rfl) (by kernel_rfl)

set_option maxRecDepth 100000 in
theorem runs_lifted (os : Os) (started : os.Started) (H : Type) (enc : TypeId × Value → H) (F : Stop.Interp) :
    ReturnsInHanded {} Tryd.checked os 4 .any ((Rows.OpenSpec.upto Rows.runsSpec).preRow enc Tryd.prog Tryd.f4 Rows.runsUptoRow.domain false Rows.runsUptoRow.laid) (((Rows.OpenSpec.upto Rows.runsSpec).at F).post enc Tryd.prog Tryd.f4 false true false false) := by
  obtain ⟨places, hx⟩ := runs_reads os enc
  refine returnsInHanded_of_row (C := Tryd.checked) (s := Rows.OpenSpec.upto Rows.runsSpec) ownK started (by kernel_rfl) Tryd.func4
    (witness_row_at (enc := enc) (C := Tryd.checked) false (World.laidAll Tryd.prog os Rows.runsUptoRow.laid) #[.string ByteArray.empty, .slice none 0 0, .int .i64 0] (World.laidAll_os _ _ _) (by kernel_rfl) (by kernel_rfl) (by kernel_rfl)
      (OpenSpec.preRow_of_cond 8 hx (by kernel_rfl) (fun k hk => by cases hk; kernel_rfl) (by kernel_rfl) (runs_laid os))) ?_
  intro W base args ds gs before hval0 hW _ hcond _ hL _ _
  have hval : ∀ (j : Nat) t v, Tryd.f4.params[j]? = some t → args[j]? = some v → Value.okWide Tryd.prog W .any base t v := hval0
  have hW' := hW
  obtain ⟨p, q, hA0, hV, rfl, _, _⟩ := hW
  have hA : DataW.TrodAll enc Tryd.prog W 0 (fun _ => true) true Tryd.f4.params.toList args.toList ds p := hA0
  rw [Tryd.params4] at hA hval
  obtain ⟨v0, v1, v2, d0, d1, d2, p0, p1, p2, rfl, rfl, rfl, h0, h1, h2⟩ := trodAll_three hA
  obtain ⟨rfl, rfl⟩ := trodVars_none hV
  obtain ⟨s, rfl, rfl, rfl, hsm⟩ := Go.ChangeMaps.open_string Tryd.underlying9 (hval 0 9 v0 rfl rfl) h0
  obtain ⟨fu, rfl, rfl, rfl, wf⟩ := open_int Tryd.underlying3 (hval 2 3 v2 rfl rfl) h2
  obtain ⟨a0, len, cap, rfl⟩ := okWide_slice Tryd.underlying33 (hval 1 33 v1 rfl rfl)
  have h1k := h1
  obtain ⟨fuel, hf⟩ := h1
  clear hA0 hval0
  have hlt : ∀ x ∈ p1, x.block < W.heap.size := fun x hx => by simpa using hW'.lt x (by simpa using hx)
  have hargs : ∀ (W' : World), Below W.heap.size W W' → DataW.Trod enc Tryd.prog W' 0 (fun b => decide (b < W.heap.size)) true 33 (.slice a0 len cap) d1 p1 :=
    fun W' hn => Below.trod laidOutR (by kernel_rfl) (of_decide_eq_true (by kernel_rfl)) h1k hn hlt
  have hbulk : Rows.uptoBulkAll [(DataW.lit (.string s.data.toList) : DataW H), d1, .lit (.int .i64 fu)] ≤ 1048576 := of_decide_eq_true (hcond _ rfl)
  have hb1 : Rows.uptoBulkAll [(DataW.lit (.string s.data.toList) : DataW H), d1, .lit (.int .i64 fu)] = (s.data.toList.length + 1) + (Rows.uptoBulk d1 + (1 + 0)) := rfl
  rw [hb1] at hbulk
  have hsz : s.size ≤ 16777000 := by
    have e : s.data.toList.length = s.size := bl_length s
    omega
  have hints : ∃ l : List Int, l.length = len ∧ D.IntsAt W a0 l ∧ (a0 = none → l.length = 0 ∧ cap = 0) ∧ len ≤ 16777216 := by
    rcases DataW.trod_slice Tryd.underlying33 hf with ⟨hcs, _⟩ | ⟨x, len', cap', elems, rest, n, _, hcs, hxd, _, hl, hm, hlen, hel, _, _⟩
    · simp [Value.cells] at hcs
      obtain ⟨rfl, rfl, rfl⟩ := hcs
      exact ⟨[], rfl, fun i h => absurd h (Nat.not_lt_zero i), fun _ => ⟨rfl, rfl⟩, by omega⟩
    · simp [Value.cells] at hcs
      obtain ⟨rfl, rfl, rfl⟩ := hcs
      have hc1 : Tryd.prog.cellsOf 3 = 1 := by kernel_rfl
      have hall : ∀ i, i < len → ∃ t : Int, W.cell? ((x.add i).add 0) = some (.int .i64 t) := by
        intro i hi
        have hE := hel i hi
        rw [hc1, Nat.mul_one, List.getElem?_eq_getElem (by omega)] at hE
        simp only [Option.bind_eq_some_iff] at hE
        obtain ⟨cs, hcc, hy⟩ := hE
        obtain ⟨k, e0, _, _⟩ := DataW.trod_int Tryd.underlying3 hy
        rw [e0] at hcc
        exact ⟨k, cells_one hcc⟩
      obtain ⟨l, hal, hP⟩ := list_ofR len hall
      refine ⟨l, hal, fun i hi => ?_, (fun h => by cases h), ?_⟩
      · have c0 := hP i hi
        obtain ⟨g, o, spot⟩ := x
        have hs : spot = none := by
          have z0 := hP 0 (by omega)
          simpa [Addr.add] using World.cell?_spot z0
        subst hs
        simp only [add_plain, Nat.add_zero] at c0
        exact ⟨g, o, rfl, World.block_lt_of_cell? W _ c0, c0⟩
      · have e1 : d1 = .slice (elems.map (·.1)) (rest.map (·.1)) := congrArg Prod.fst hxd
        rw [e1] at hbulk
        rw [show Rows.uptoBulk (DataW.slice (elems.map (·.1)) (rest.map (·.1))) = Rows.uptoBulkAll (elems.map (·.1)) + Rows.uptoBulkAll (rest.map (·.1)) + 1 from rfl] at hbulk
        have := bulk_len (elems.map (·.1))
        rw [List.length_map] at this
        omega
  obtain ⟨l, hal, hat, hnil, hll⟩ := hints
  subst hal
  refine (runs_any s l a0 cap fu W (tab_of_laid hL) hsz hat hnil hll).mono fun e W' ⟨he, hb⟩ => ?_
  subst he
  exact ⟨_, rfl, _, _, _, [], _, [], hW', trodAll_mk1 (shut_bool Tryd.underlying4 _), trodAll_mk3 (Go.ChangeMaps.shut_string Tryd.underlying9 hsm) (hargs _ hb) (shut_int Tryd.underlying3 wf), rfl, hb.frame _, fun h => by cases h⟩

theorem runs_row : Rows.RunsUptoSaid :=
  OpenClaim.holds_of_cond 4 Tryd.f4 rfl rfl rfl rfl rfl rfl rfl ⟨rfl, rfl, rfl, rfl, rfl⟩ rfl rfl rfl rfl rfl (by kernel_rfl) Tryd.func4 (by kernel_rfl)
    (of_decide_eq_true (by kernel_rfl)) (by unfold Func.isWrapper; first | (rw [if_pos (by decide +kernel)]; kernel_rfl) | (rw [if_neg (by decide +kernel)]; exact ⟨rfl, rfl⟩))
    (fun os started H enc _ F => by rw [OpenClaim.pre_eq_preRow]; exact runs_lifted os started H enc F)

theorem runs_holds : Rows.RunsUptoCardSaid :=
  Claim7.holds_tied_plain_at .later [] [.data] true Rows.runsUptoCard.stood.harness true runs_row (fun _ h => by cases h) (by kernel_rfl) (fun _ h => by cases h) runsUpto_row_tie rfl ⟨rfl, rfl⟩ (by kernel_rfl) rfl
    (fun f fn hf hfn => by
      obtain rfl : f = 4 := Option.some.inj ((show Tryd.prog.funcNamed "chisel/chisellaw.Runs" = some 4 by kernel_rfl).symm.trans hf) |>.symm
      obtain rfl : fn = Tryd.f4 := (Option.some.inj (Tryd.func4.symm.trans hfn)).symm
      exact ⟨by kernel_rfl, fun j t ht => by
        rw [Tryd.params4] at ht
        have hm : t ∈ [9, 33, 3] := by simpa using Array.mem_of_getElem? ht
        have hall : ([9, 33, 3].all fun u => !Tryd.prog.wantsStandIn u) = true := by kernel_rfl
        exact (show Tryd.prog.wantsStandIn t = false by simpa using List.all_eq_true.1 hall t hm)⟩)
    (by kernel_rfl)
#print axioms runs_holds
end Go.Proofs.YtedkjanogjglkaaDoor
