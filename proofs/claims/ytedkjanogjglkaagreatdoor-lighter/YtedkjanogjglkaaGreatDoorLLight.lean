/-
  Proved: for all rules, texts and lists the call chiselkeep.Lighter(list, text, picks) returns true, and its arguments read afterwards as they read before. Condition: four tables (code.opTable, and three of the standard library) hold, when the call begins, what the program's text lays in them (the card ties it).
-/
import Derived.Test.YtedkjanogjglkaaGreatDoorP12
import Derived.Test.YtedkjanogjglkaaGreatDoorP31
import Derived.Test.YtedkjanogjglkaaGreatDoorCards
import Derived.JoinedOf
import Derived.Deep.DeepHandedRow
import Derived.ChangeMaps5
namespace Go.Proofs.YtedkjanogjglkaaGreatDoor
open Go.ChangeShapes Go.WideShapes Go.ChangeAt Go.RowKit
theorem laidOutL : laidOutB Tryz.prog = true := by kernel_rfl
theorem list_ofL {α : Type} {P : Nat -> α -> Prop} : ∀ (n : Nat), (∀ i, i < n -> ∃ t, P i t) -> ∃ l : List α, l.length = n /\ ∀ i (h : i < l.length), P i l[i]
 | 0, _ => ⟨[], rfl, fun i h => absurd h (Nat.not_lt_zero i)⟩
 | n + 1, h => by
  obtain ⟨l, hl, hp⟩ := list_ofL n (fun i hi => h i (by omega))
  obtain ⟨t, ht⟩ := h n (Nat.lt_succ_self n)
  refine ⟨l ++ [t], by simp [hl], fun i hi => ?_⟩
  by_cases e : i < l.length
  ·rw [List.getElem_append_left e]; exact hp i e
  ·have : i = n := by simp at hi; omega
   subst this
   rw [List.getElem_append_right (by omega)]
   simpa [hl] using ht
theorem cells_oneL {W : World} {x : Addr} {a : Value} (h : W.cells? 0 x 1 = some [a]) : W.cell? (x.add 0) = some a := by
 simp [World.cells?, List.range_succ] at h
 cases h0 : W.cell? (x.add 0) with
 | none => simp [h0] at h
 | some u => simp [h0] at h; rw [h]
theorem picks_of {H : Type} {enc : TypeId × Value -> H} {W : World} {a0 : Option Addr} {len cap fuel : Nat} {x : DataW H × List MemPlace} {spare : Nat -> Bool} (hf : DataW.trod enc Tryz.prog W 0 spare true fuel 31 (Value.slice a0 len cap).cells.toList = some x) :
  ∃ l : List Int, PicksAt W (.slice a0 len cap) l /\ ∀ p ∈ l, -9223372036854775808 <= p /\ p <= 9223372036854775807 := by
 rcases DataW.trod_slice Tryz.underlying31 hf with ⟨hcs, _⟩ | ⟨x, len', cap', elems, rest, n, _, hcs, hxd, _, hl, hm, hlen, hel, _, _⟩
 ·simp [Value.cells] at hcs
  obtain ⟨rfl, rfl, rfl⟩ := hcs
  exact ⟨[], ⟨none, _, rfl, fun i h => absurd h (Nat.not_lt_zero i)⟩, by simp⟩
 ·simp [Value.cells] at hcs
  obtain ⟨rfl, rfl, rfl⟩ := hcs
  have hc1 : Tryz.prog.cellsOf 3 = 1 := by kernel_rfl
  have hall : ∀ i, i < len -> ∃ t : Int, W.cell? ((x.add i).add 0) = some (.int .i64 t) /\ -9223372036854775808 <= t /\ t <= 9223372036854775807 := by
   intro i hi
   have hE := hel i hi
   rw [hc1, Nat.mul_one, List.getElem?_eq_getElem (by omega)] at hE
   simp only [Option.bind_eq_some_iff] at hE
   obtain ⟨cs, hcc, hy⟩ := hE
   obtain ⟨k, e0, _, hw⟩ := DataW.trod_int Tryz.underlying3 hy
   rw [e0] at hcc
   have hw' : (decide ((-9223372036854775808 : Int) <= k) && decide (k <= (9223372036854775807 : Int))) = true := hw
   simp only [Bool.and_eq_true, decide_eq_true_eq] at hw'
   exact ⟨k, cells_oneL hcc, hw'⟩
  obtain ⟨l, rfl, hP⟩ := list_ofL len hall
  refine ⟨l, ⟨some x, cap, rfl, fun i hi => ?_⟩, fun p hp => ?_⟩
  ·have c0 := (hP i hi).1
   obtain ⟨g, o, spot⟩ := x
   have hs : spot = none := by
    have z0 := (hP 0 (by omega)).1
    simpa [Addr.add] using World.cell?_spot z0
   subst hs
   simp only [add_plain, Nat.add_zero] at c0
   exact ⟨g, o, rfl, c0⟩
  ·obtain ⟨i, hi, rfl⟩ := List.getElem_of_mem hp
   exact (hP i hi).2
set_option maxRecDepth 100000 in
theorem lighter_lifted (os : Os) (started : os.Started) (H : Type) (enc : TypeId × Value -> H) :
  ReturnsInHanded {} Tryz.checked os 5 .any (fun w args => (Rows.lighterSpec.pre enc Tryz.prog Tryz.f5 Rows.lighterRow.domain false w args /\ laidMetH Tryz.prog laid4 w) /\ sizedMet enc Tryz.prog Tryz.f5 (OpenSpec.ofChange Rows.lighterSpec) false w args)
   (Rows.lighterSpec.post enc Tryz.prog Tryz.f5 false true false false) := by
 refine returnsInHanded_of_change_and (C := Tryz.checked) (X := fun w _ => laidMetH Tryz.prog laid4 w) (fun _ _ _ hh h => h.of_heap hh) ownK started (by kernel_rfl) Tryz.func5
  (ChangeSpec.witness_shaped (enc := enc) (C := Tryz.checked) (os := os) (X := fun w _ => laidMetH Tryz.prog laid4 w) false (World.laidAll Tryz.prog os laid4) #[.string ByteArray.empty, .string ByteArray.empty, .slice none 0 0] 8 (World.laidAll_os _ _ _)
   (World.shaped_of_ZipB (by kernel_rfl) (by kernel_rfl)) (by kernel_rfl) (by kernel_rfl) (by kernel_rfl)
   (by rw [MakeChecks.laidMetH_plain _ _ _ (by kernel_rfl)]; exact laidMet_laidAll _ (by kernel_rfl) (by kernel_rfl))) ?_
 intro W base args ds gs before hval0 hW hc _ hL _
 have hval : ∀ (j : Nat) t v, Tryz.f5.params[j]? = some t -> args[j]? = some v -> Value.okWide Tryz.prog W .any base t v := hval0
 have hW' := hW
 obtain ⟨p, q, hA0, hV, rfl, _, _⟩ := hW
 have hA : DataW.TrodAll enc Tryz.prog W 0 (fun _ => true) true Tryz.f5.params.toList args.toList ds p := hA0
 rw [Tryz.params5] at hA hval
 obtain ⟨v0, v1, v2, d0, d1, d2, p0, p1, p2, rfl, rfl, rfl, h0, h1, h2⟩ := trodAll_three hA
 obtain ⟨rfl, rfl⟩ := trodVars_none hV
 obtain ⟨ls, rfl, rfl, rfl, hls⟩ := Go.ChangeMaps.open_string Tryz.underlying9 (hval 0 9 v0 rfl rfl) h0
 obtain ⟨s, rfl, rfl, rfl, hsm⟩ := Go.ChangeMaps.open_string Tryz.underlying9 (hval 1 9 v1 rfl rfl) h1
 obtain ⟨a0, len, cap, rfl⟩ := okWide_slice Tryz.underlying31 (hval 2 31 v2 rfl rfl)
 have h2k := h2
 obtain ⟨fuel, hf⟩ := h2
 clear hA0 hval0
 have hlt : ∀ x ∈ p2, x.block < W.heap.size := fun x hx => by simpa using hW'.lt x (by simpa using hx)
 have hargs : ∀ (W' : World), Below W.heap.size W W' -> DataW.Trod enc Tryz.prog W' 0 (fun b => decide (b < W.heap.size)) true 31 (.slice a0 len cap) d2 p2 :=
  fun W' hn => Below.trod laidOutL (by kernel_rfl) (of_decide_eq_true (by kernel_rfl)) h2k hn hlt
 obtain ⟨l, hat, hin⟩ := picks_of hf
 refine (lighterLaw_any ls s l _ W hat hin (tabI_of_laid hL) (tab_of_laid hL)).mono fun e W' ⟨he, hb⟩ => ?_
 subst he
 exact ⟨_, rfl, _, _, _, [], _, [], hW', trodAll_mk1 (shut_bool Tryz.underlying4 _), trodAll_mk3 (Go.ChangeMaps.shut_string Tryz.underlying9 hls) (Go.ChangeMaps.shut_string Tryz.underlying9 hsm) (hargs _ hb), rfl, hb.frame _, fun h => by cases h⟩
theorem lighter_row : Rows.LighterSaid :=
 OpenClaim.holds_of_wide 5 Tryz.f5 rfl rfl rfl rfl rfl rfl rfl ⟨rfl, rfl, rfl, rfl, rfl⟩ rfl rfl rfl rfl rfl (by kernel_rfl) Tryz.func5 (by kernel_rfl)
  (of_decide_eq_true (by kernel_rfl)) (by unfold Func.isWrapper; first | (rw [if_pos (by decide +kernel)]; kernel_rfl) | (rw [if_neg (by decide +kernel)]; exact ⟨rfl, rfl⟩))
  (fun os started H enc _ => lighter_lifted os started H enc)
theorem lighter_holds : Rows.LighterCardSaid :=
 Claim7.holds_tied_plain_at .later [] [.data, .data, .data, .data] true Rows.lighterCard.stood.harness true lighter_row (fun _ h => by cases h) (by kernel_rfl) (fun _ h => by cases h) lighter_row_tie rfl ⟨rfl, rfl⟩ (by kernel_rfl) rfl
  (fun f fn hf hfn => by
   obtain rfl : f = 5 := Option.some.inj ((show Tryz.prog.funcNamed "chisel/chiselkeep.Lighter" = some 5 by kernel_rfl).symm.trans hf) |>.symm
   obtain rfl : fn = Tryz.f5 := (Option.some.inj (Tryz.func5.symm.trans hfn)).symm
   exact ⟨by kernel_rfl, fun j t ht => by
    rw [Tryz.params5] at ht
    have hm : t ∈ [9, 9, 31] := by simpa using Array.mem_of_getElem? ht
    have hall : ([9, 9, 31].all fun u => !Tryz.prog.wantsStandIn u) = true := by kernel_rfl
    exact (show Tryz.prog.wantsStandIn t = false by simpa using List.all_eq_true.1 hall t hm)⟩)
  (by kernel_rfl)
#print axioms lighter_holds
end Go.Proofs.YtedkjanogjglkaaGreatDoor
