/-
  Walks: code.Function.requireRight, code.Read, where the text is a function that is right.
-/
import Derived.Test.YtdffpkmabehfbaaDoorCAheadOk
namespace Go.Proofs.YtdffpkmabehfbaaDoor
open Go.RowKit

namespace Code
/-- A function that is right, as the program looks at it. -/
structure Right (bks : List Blk) : Prop where
  most : bks.length ≤ 8
  some : 0 < bks.length
  small : Small bks
  once : Once noNumber bks
  goes : ∀ b ∈ bks, ∀ t ∈ tg b.last, 1 ≤ t ∧ t < bks.length
  reached : reachF 9 (tgs bks) (List.replicate bks.length false) 0 = List.replicate bks.length true
  phis : PhisOk bks
  ahead : ∀ A, A.length = bks.length → All60 A → Iter bks (startTo bks.length bks.length) A → AheadOk bks A
end Code

set_option maxHeartbeats 2000000 in
theorem requireRight_ok (args : Nat) (bks : List Code.Blk) (p : Option Addr) (c : Nat) (base : Nat) (w : World) (hf : RepBlks w base (.slice p bks.length c) bks) (hr : Code.Right bks) :
    Calls Tryd.prog 22 #[.agg #[.int .i64 (args : Nat), .slice p bks.length c]] w fun e w' => e = .returned (.tuple #[]) ∧ Below w.heap.size w w' := by
  have HF := hide hf
  have HR := hide hr
  clear hf hr
  go_enter Tryd.func22, Tryd.ntmps22
  go_wp2_with fail
  generalize hw0 : w.alloc _ = w0
  have hx0 : w0.heap[w.heap.size]? = some (.cells #[.int .i64 (args : Nat), .slice p bks.length c] 43) := by rw [← hw0]; exact heap_alloc_new w _
  have hb0 : Below w.heap.size w w0 := by rw [← hw0]; exact below_al (Below.refl _ _) _
  clear hw0
  refine (madeOnce_ok args bks p c base w0 (HF.out.below hb0) HR.out.most (fun b hb => ⟨(HR.out.small b hb).1, fun v hv => ((HR.out.small b hb).2.1 v hv).1⟩) HR.out.once).mono ?_
  rintro e w1 ⟨rfl, hb1⟩
  have hx1 := (hb1.block _ (lt_of_block hx0)).trans hx0
  have hbw1 : Below w.heap.size w w1 := hb0.trans (hb1.mono hb0.size)
  have c0 := blk_cell hx1 0 _ rfl
  have c1 := blk_cell hx1 1 _ rfl
  clear hx0 hb0 hb1
  go_wp2_with fail
  refine (targets_ok args bks p c base w1 (HF.out.below hbw1) HR.out.most HR.out.goes).mono ?_
  rintro e w2 ⟨rfl, hb2⟩
  have hx2 := (hb2.block _ (lt_of_block hx1)).trans hx1
  have hbw2 : Below w.heap.size w w2 := hbw1.trans (hb2.mono hbw1.size)
  clear c0 c1 hx1 hbw1 hb2
  have c0 := blk_cell hx2 0 _ rfl
  have c1 := blk_cell hx2 1 _ rfl
  go_wp2_with fail
  refine (reached_ok args bks p c base w2 (HF.out.below hbw2) HR.out.most HR.out.some (fun b hb t ht => (HR.out.goes b hb t ht).2) HR.out.reached).mono ?_
  rintro e w3 ⟨rfl, hb3⟩
  have hx3 := (hb3.block _ (lt_of_block hx2)).trans hx2
  have hbw3 : Below w.heap.size w w3 := hbw2.trans (hb3.mono hbw2.size)
  clear c0 c1 hx2 hbw2 hb3
  have c0 := blk_cell hx3 0 _ rfl
  have c1 := blk_cell hx3 1 _ rfl
  go_wp2_with fail
  refine (phis_ok args bks p c base w3 (HF.out.below hbw3) HR.out.most (fun b hb => (HR.out.small b hb).1) (fun b hb t ht => (HR.out.goes b hb t ht).2) HR.out.phis).mono ?_
  rintro e w4 ⟨rfl, hb4⟩
  have hx4 := (hb4.block _ (lt_of_block hx3)).trans hx3
  have hbw4 : Below w.heap.size w w4 := hbw3.trans (hb4.mono hbw3.size)
  clear c0 c1 hx3 hbw3 hb4
  have c0 := blk_cell hx4 0 _ rfl
  have c1 := blk_cell hx4 1 _ rfl
  go_wp2_with fail
  refine (madeAhead_ok args bks p c base w4 (HF.out.below hbw4) HR.out.most HR.out.some HR.out.small (fun b hb t ht => (HR.out.goes b hb t ht).2) HR.out.ahead).mono ?_
  rintro e w5 ⟨rfl, hb5⟩
  have hbw5 : Below w.heap.size w w5 := hbw4.trans (hb5.mono hbw4.size)
  go_wp2
  go_end0
  exact ⟨rfl, hbw5⟩

theorem Tab.pos {w : World} (h : Tab w) : 0 < w.heap.size := by
  have h1 := h 0 _ (opCells_at 0 (by omega)).1
  cases hh : w.heap[0]? with
  | none => simp [World.cell?, hh] at h1
  | some o => exact lt_of_block hh

theorem Tab.below {w w' : World} (h : Tab w) (hb : Below w.heap.size w w') : Tab w' := by
  intro j v hv
  rw [(bcell hb).1 0 _ h.pos]
  exact h j v hv

set_option maxHeartbeats 2000000 in
theorem read_ok (s : List UInt8) (f : Code.Fn) (w : World) (hs : s.length ≤ 1500) (ht : Tab w) (hf : Code.FnIs s f) (hr : Code.Right f.blocks) :
    Calls Tryd.prog 19 #[.string (bs s)] w fun e w' =>
      ∃ p c, e = .returned (.agg #[.int .i64 (f.args : Nat), .slice p f.blocks.length c]) ∧ RepBlks w' w.heap.size (.slice p f.blocks.length c) f.blocks ∧ Below w.heap.size w w' := by
  have e1 := bs_size s
  have hs' : ¬ (1500 : Int) < (s.length : Int) := by omega
  have HF := hide hf
  have HR := hide hr
  have HT := hide ht
  have hp := ht.pos
  clear hf hr ht
  go_enter Tryd.func19, Tryd.ntmps19
  go_wp2_with fail
  generalize hw0 : (w.alloc _).alloc _ = w0
  have hx0 : w0.heap[w.heap.size]? = some (.cells #[.int .i64 0, .slice none 0 0] 43) := by rw [← hw0]; exact stay_alloc (heap_alloc_new w _)
  have hr0 : RdF w0 (w.heap.size + 1) s 1 0 := by
    have h := heap_alloc_new (w.alloc (.cells #[.int .i64 0, .slice none 0 0] 43)) (.cells #[.string (bs s), .int .i64 1, .int .i64 1, .int .i64 0] 62)
    rw [alloc_size] at h
    rw [← hw0]; exact h
  have hb0 : Below w.heap.size w w0 := by rw [← hw0]; exact below_al (below_al (Below.refl _ _) _) _
  clear hw0
  refine (function_ok (w.heap.size + 1) s f 1 0 w0 hr0 (by omega) ⟨by omega, by omega⟩ (HT.out.below hb0) (by omega) HF.out).mono ?_
  rintro e w1 ⟨p, c, rfl, hrep1, hg1⟩
  have hbw1 : Below w.heap.size w w1 := below_of_grown hb0 hg1 (by omega)
  have hx1 := kept_block hx0 hg1 (by omega)
  have HREP : Hid (RepBlks w1 w.heap.size (.slice p f.blocks.length c) f.blocks) := hide (hrep1.mono (fun _ _ _ h => own_base h hb0.size) (fun _ _ _ h => own_base h hb0.size) (fun _ _ _ h => own_base h hb0.size))
  clear hrep1 hg1 hb0 hr0 hx0
  go_wp2_with fail
  generalize hw2 : w1.alloc _ = w2
  have hf2 : w2.heap[w1.heap.size]? = some (.cells #[.int .i64 (f.args : Nat), .slice p f.blocks.length c] 43) := by rw [← hw2]; exact heap_alloc_new w1 _
  have hb2 : Below w1.heap.size w1 w2 := by rw [← hw2]; exact below_al (Below.refl _ _) _
  have hx2 := (hb2.block _ (lt_of_block hx1)).trans hx1
  have hxl := lt_of_block hx1
  clear hw2 hx1
  refine (requireRight_ok f.args f.blocks p c w.heap.size w2 (HREP.out.below hb2) HR.out).mono ?_
  rintro e w3 ⟨rfl, hb3⟩
  have hf3 := (hb3.block _ (lt_of_block hf2)).trans hf2
  have hx3 := (hb3.block _ (lt_of_block hx2)).trans hx2
  have hb13 : Below w1.heap.size w1 w3 := hb2.trans (hb3.mono hb2.size)
  have hbw3 : Below w.heap.size w w3 := hbw1.trans (hb13.mono hbw1.size)
  have HREP3 := hide (HREP.out.below hb13)
  generalize hbf : w1.heap.size = b4 at *
  have c0 := blk_cell hf3 0 _ rfl
  have c1 := blk_cell hf3 1 _ rfl
  have d0 := blk_cell hx3 0 _ rfl
  have d1 := blk_cell hx3 1 _ rfl
  have f0 := blk_froz hx3 0
  have f1 := blk_froz hx3 1
  clear hf2 hx2 hb2 hb3 hb13 hbw1 HREP
  go_wp2
  refine bodyPost_ret (v := .agg #[.int .i64 (f.args : Nat), .slice p f.blocks.length c]) (by simp [results, Tryd.results19, go_sem, d0, d1]) rfl ?_
  refine ⟨p, c, rfl, ?_, below_set (below_set hbw3 (Nat.le_refl _) _ _) (Nat.le_refl _) _ _⟩
  have hh := HREP3.out.mono (fun _ _ _ h => own_set (u := .int .i64 (f.args : Nat)) (o := 0) h hx3 (by decide)) (fun _ _ _ h => own_set (o := 0) (u := .int .i64 (f.args : Nat)) h hx3 (by decide)) (fun _ _ _ h => own_set (o := 0) (u := .int .i64 (f.args : Nat)) h hx3 (by decide))
  exact hh.mono (fun _ _ _ h => own_set (u := .slice p f.blocks.length c) (o := 1) h (set_block hx3) (by decide)) (fun _ _ _ h => own_set (o := 1) (u := .slice p f.blocks.length c) h (set_block hx3) (by decide)) (fun _ _ _ h => own_set (o := 1) (u := .slice p f.blocks.length c) h (set_block hx3) (by decide))
end Go.Proofs.YtdffpkmabehfbaaDoor
