/-
  Walk: code.Function.requirePhisMade, where it holds.
-/
import Derived.Test.YtdffpkmabehfbaaDoorCAhead3
namespace Go.Proofs.YtdffpkmabehfbaaDoor
open Go.RowKit

namespace Code
/-- What a block's phis take at that place is in the set. -/
def PhisMade (vals : List Val) (place : Nat) (R : List Bool) : Prop := ∀ v ∈ vals, ∀ of, v.thing = .phi of → ∃ h : place < of.length, of[place] < 60 ∧ R.getD of[place] false = true
end Code

set_option maxRecDepth 100000 in
set_option maxHeartbeats 4000000 in
theorem phisMade_ok (args : Nat) (bks : List Code.Blk) (p : Option Addr) (c : Nat) (base : Nat) (w : World) (hf : RepBlks w base (.slice p bks.length c) bks) (j : Nat) (hj : j < bks.length) (hlen : bks[j].values.length ≤ 100000) (place : Nat) (R : List Bool) (hR : R.length = 60) (hp : Code.PhisMade bks[j].values place R) :
    Calls Tryd.prog 50 #[.agg #[.int .i64 (args : Nat), .slice p bks.length c], .int .i64 (j : Nat), .int .i64 (place : Nat), .agg (setA R)] w fun e w' => e = .returned (.tuple #[]) ∧ Below w.heap.size w w' := by
  obtain ⟨p', c', hpe, hblk⟩ := hf.open
  simp only [Value.slice.injEq] at hpe
  obtain ⟨rfl, _, rfl⟩ := hpe
  obtain ⟨gb, vs, rfl, hg, c0, c1, hvs⟩ := hblk j hj
  obtain ⟨pv, cv, rfl, hval⟩ := hvs.open
  have HP := hide hp
  have HV := hide hval
  generalize bks[j].values = vals at *
  clear hblk hf hp hval hvs c1
  have hjl : (j : Int) < (bks.length : Int) := by omega
  have hglt : gb < w.heap.size := hg
  go_enter Tryd.func50, Tryd.ntmps50
  go_wp2
  generalize hw0 : (w.alloc _).alloc _ = w0
  have hr0 : setRow w0 (w.heap.size + 1) R := by
    have h := heap_alloc_new (w.alloc (.cells #[.int .i64 (args : Nat), .slice (some ⟨gb, 0, none⟩) bks.length c] 43)) (.cells (setA R) 108)
    rw [alloc_size] at h
    rw [← hw0]; exact h
  have hb0 : Below w.heap.size w w0 := by rw [← hw0]; exact below_al (below_al (Below.refl _ _) _) _
  clear hw0
  go_loopw [19] (fun i wr => ∃ k : Nat, k ≤ vals.length ∧ i = .int .i64 k ∧ setRow wr (w.heap.size + 1) R ∧ Below w.heap.size w wr) (fun i _ => vals.length - (intOf i).toNat)
  case atStart => exact ⟨0, by omega, rfl, hr0, hb0⟩
  case round =>
    obtain ⟨k, hk, rfl, hrw, hbw⟩ := hrel
    clear hr0 hb0
    have hz := hbw.size
    by_cases hkt : k < vals.length
    · obtain ⟨g2, th, rfl, hg2, d0, d1, hth⟩ := HV.out k hkt
      have HPK := hide (HP.out vals[k] (List.getElem_mem hkt))
      have d0' : wr.cell? ⟨g2, k * 2, none⟩ = some (.int .i64 (vals[k].num : Nat)) := by rw [(bcell hbw).1 g2 _ hg2]; exact d0
      have d1' : wr.cell? ⟨g2, k * 2 + 1, none⟩ = some th := by rw [(bcell hbw).1 g2 _ hg2]; exact d1
      have hth' : ThingV w base vals[k].thing th := hth
      generalize vals[k].thing = y at *
      generalize vals[k].num = x at *
      clear d0 d1 hth
      have hl1 := lt_of_block hrw
      cases y with
      | phi of =>
        obtain ⟨r, rfl, hro⟩ := hth'
        obtain ⟨pr, cr, rfl, hvv⟩ := nats_open hro
        obtain ⟨hpo, hp60, hpt⟩ := HPK.out of rfl
        obtain ⟨g3, rfl, e0⟩ := hvv place hpo
        have hg3 : g3 < w.heap.size := by
          cases hh : w.heap[g3]? with
          | none => simp [World.cell?, hh] at e0
          | some o => exact lt_of_block hh
        have e0' : wr.cell? ⟨g3, place, none⟩ = some (.int .i64 (of[place] : Nat)) := by rw [(bcell hbw).1 g3 _ hg3]; exact e0
        have hcx : wr.cell? ⟨w.heap.size + 1, of[place], none⟩ = some (.bool true) := by
          rw [hrw.cell of[place] (by omega)]
          rw [List.getD_eq_getElem?_getD, List.getElem?_eq_getElem (by omega)] at hpt
          simp only [Option.getD_some] at hpt
          rw [hpt]
        have hg3' : g3 < wr.heap.size := by omega
        have hz' : w.heap.size < wr.heap.size := by omega
        have hpl' : (place : Int) < (of.length : Int) := by omega
        have hx60 : ((of[place] : Nat) : Int) < 60 := by omega
        have hta := isPhi_phi
        clear hvv hro e0 hpt
        generalize of[place] = q at *
        go_wp2
        exact ⟨⟨k + 1, by omega, by go_num, stay_alloc (stay_alloc hrw), below_al (below_al hbw _) _⟩, by simp [intOf]; omega⟩
      | arg m =>
        have hth2 : th = _ := hth'
        subst hth2
        have hta := isPhi_arg
        go_wp2
        exact ⟨⟨k + 1, by omega, by go_num, stay_alloc (stay_alloc hrw), below_al (below_al hbw _) _⟩, by simp [intOf]; omega⟩
      | const m =>
        have hth2 : th = _ := hth'
        subst hth2
        have hta := isPhi_const
        go_wp2
        exact ⟨⟨k + 1, by omega, by go_num, stay_alloc (stay_alloc hrw), below_al (below_al hbw _) _⟩, by simp [intOf]; omega⟩
      | apply m of =>
        obtain ⟨r, rfl, hro⟩ := hth'
        obtain ⟨pr, cr, rfl⟩ := own_slice hro
        have hta := isPhi_apply
        go_wp2
        exact ⟨⟨k + 1, by omega, by go_num, stay_alloc (stay_alloc hrw), below_al (below_al hbw _) _⟩, by simp [intOf]; omega⟩
    · go_wp2
      go_end0
      exact ⟨rfl, hbw⟩
end Go.Proofs.YtdffpkmabehfbaaDoor
