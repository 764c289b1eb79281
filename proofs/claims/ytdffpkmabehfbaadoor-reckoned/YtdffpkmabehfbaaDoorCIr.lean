/-
  Walks: ir.read, where the text is a function that is right.
-/
import Derived.Test.YtdffpkmabehfbaaDoorCRight
import Derived.Recover
namespace Go.Proofs.YtdffpkmabehfbaaDoor
open Go.RowKit

theorem RepBlks.set {w : World} {base b o : Nat} {v u : Value} {l : List Code.Blk} (h : RepBlks w base v l) {C : Array Value} {T : TypeId} {z : Nat × Nat} (hb : w.heap[b]? = some (.cells C T z)) (h1 : T ≠ 72) (h2 : T ≠ 88) (h3 : T ≠ 3) :
    RepBlks (w.setCell ⟨b, o, none⟩ u) base v l :=
  h.mono (fun _ _ _ h => own_set h hb h1) (fun _ _ _ h => own_set h hb h2) (fun _ _ _ h => own_set h hb h3)

theorem nilNe (w : World) : (binOp .neq 20 .nilIface .nilIface).run Tryd.prog w = .ok (.bool false) w := by kernel_rfl

theorem catch_idle (p : Addr) (w : World) :
    CallsD Tryd.prog 17 #[.pointer (some p)] .returning w fun e u' w' => e = .returned (.tuple #[]) ∧ u' = .returning ∧ w' = w := by
  refine callsD_of_wpS Tryd.func17 rfl fun c₀ cs hu => ?_
  apply wpS_seq
  apply wpS_region
  simp [wpOpsS, go_sem, recoverD, hu, Tryd.ntmps17, Exit.thenS]
  apply wpS_seq
  apply wpS_region
  simp [wpOpsS, go_sem, nilNe, Exit.thenS]
  refine wpS_cond (t := false) (by simp [Act.eval, Array.replicate]) ?_
  simp only [Bool.false_eq_true, if_false]
  refine wpS_of_wp (wp_skip ?_)
  cases c₀
  simp_all [bodyPostS, results, Tryd.results17]

set_option maxHeartbeats 2000000 in
theorem irRead_ok (s : List UInt8) (f : Code.Fn) (w : World) (hs : s.length ≤ 1500) (ht : Tab w) (hf : Code.FnIs s f) (hr : Code.Right f.blocks) :
    Calls Tryd.prog 14 #[.string (bs s)] w fun e w' =>
      ∃ p c, e = .returned (.tuple #[.agg #[.int .i64 (f.args : Nat), .slice p f.blocks.length c], .int .i64 0]) ∧ RepBlks w' w.heap.size (.slice p f.blocks.length c) f.blocks ∧ Below w.heap.size w w' := by
  have hmf : ∀ (fn : Fn) (first cap : Array Value) (w : World), (Instr.makeFunc fn first cap).run Tryd.prog w = .ok (.func fn first cap) w := fun _ _ _ _ => rfl
  have HF := hide hf
  have HR := hide hr
  have HT := hide ht
  have hp := ht.pos
  clear hf hr ht
  go_enter_defers Tryd.func14, Tryd.ntmps14
  go_wp2_with fail
  generalize hw0 : (w.alloc _).alloc _ = w0
  have hx0 : w0.heap[w.heap.size]? = some (.cells #[.int .i64 0, .slice none 0 0] 43) := by rw [← hw0]; exact stay_alloc (heap_alloc_new w _)
  have hy0 : w0.heap[w.heap.size + 1]? = some (.cells #[.int .i64 0] 27) := by
    have h := heap_alloc_new (w.alloc (.cells #[.int .i64 0, .slice none 0 0] 43)) (.cells #[.int .i64 0] 27)
    rw [alloc_size] at h
    rw [← hw0]; exact h
  have hb0 : Below w.heap.size w w0 := by rw [← hw0]; exact below_al (below_al (Below.refl _ _) _) _
  clear hw0
  refine (read_ok s f w0 hs (HT.out.below hb0) HF.out HR.out).mono ?_
  rintro e w1 ⟨p, c, rfl, hrep, hb1⟩
  have hx1 := (hb1.block _ (lt_of_block hx0)).trans hx0
  have hy1 := (hb1.block _ (lt_of_block hy0)).trans hy0
  have hbw1 : Below w.heap.size w w1 := hb0.trans (hb1.mono hb0.size)
  have HREP : Hid (RepBlks w1 w.heap.size (.slice p f.blocks.length c) f.blocks) := hide (hrep.mono (fun _ _ _ h => own_base h hb0.size) (fun _ _ _ h => own_base h hb0.size) (fun _ _ _ h => own_base h hb0.size))
  have d0 := blk_cell hx1 0 _ rfl
  have d1 := blk_cell hx1 1 _ rfl
  have f0 := blk_froz hx1 0
  have f1 := blk_froz hx1 1
  have e0 := blk_cell hy1 0 _ rfl
  have ef := blk_froz hy1 0
  clear hx0 hy0 hb0 hb1 hrep
  go_wp2
  refine leaves_cons (f := 17) (args := #[.pointer (some ⟨w.heap.size + 1, 0, none⟩)]) (by simp) (by simp [go_sem]) ?_
  refine (catch_idle ⟨w.heap.size + 1, 0, none⟩ _).mono ?_
  rintro e u' w'' ⟨rfl, rfl, rfl⟩
  refine ⟨_, by simp [results, Tryd.results14, go_sem, d0, d1, e0]; rfl, ?_⟩
  refine ⟨p, c, rfl, ?_, below_set (below_set (below_set hbw1 (Nat.le_refl _) _ _) (Nat.le_refl _) _ _) (Nat.le_succ _) _ _⟩
  have hne : w.heap.size + 1 ≠ w.heap.size := by omega
  exact ((HREP.out.set hx1 (by decide) (by decide) (by decide)).set (set_block hx1) (by decide) (by decide) (by decide)).set (stay_set (stay_set hy1 hne) hne) (by decide) (by decide) (by decide)
end Go.Proofs.YtdffpkmabehfbaaDoor
