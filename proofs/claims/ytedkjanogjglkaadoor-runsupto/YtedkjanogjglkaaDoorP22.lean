/-
  Walk: chiselref.Machine.make1 of an operation of two values.
  Walk: chiselref.Machine.make1 of any value that is no phi.
  The document's machine at a block: what its values come to, step by step; what of memory stays; no walk.
-/
import Derived.Test.YtedkjanogjglkaaDoorP21
import Derived.Test.YtedkjanogjglkaaDoorP08
import Derived.Deep.MidRow
import Derived.Test.YtedkjanogjglkaaDoorP16

namespace Go.Proofs.YtedkjanogjglkaaDoor.D
open Go.RowKit
open Go.Proofs.YtedkjanogjglkaaDoor.D.Ref (toF toB toV toL)
open Go.Proofs.YtedkjanogjglkaaDoor.Code (nameOf WFT)

set_option maxRecDepth 100000 in
set_option maxHeartbeats 8000000 in
theorem make1_two (mb fb : Nat) (av : Value) (V : List Int) (st fu : Nat) (num k x0 x1 : Nat) (pa : Option Addr) (ca : Nat) (w : World) (hm : MachR w mb fb av V st fu 0) (hV : V.length = 60) (h32 : In32 V) (hf : fu ≤ 100000) (hst : st < fu) (hn : num < 60) (hk : k < 11) (hx : x0 < 60) (hy : x1 < 60)
    (har : ∀ w', w.grownBy w' (some mb) → IntsAt w' pa [(x0 : Int), (x1 : Int)]) :
    Calls Tryd.prog 57 #[.pointer (some ⟨mb, 0, none⟩), .agg #[.int .i64 (num : Nat), .string (bs (nameOf k)), .int .i64 0, .slice pa 2 ca]] w fun e w' => e = .returned (.tuple #[]) ∧ w.grownBy w' (some mb) ∧
      ((¬ (k = 3 ∧ V.getD x1 0 = 0) ∧ MachR w' mb fb av (V.set num (Ref.reckon (nameOf k) (V.getD x0 0) (V.getD x1 0))) (st + 1) fu 0) ∨ ((k = 3 ∧ V.getD x1 0 = 0) ∧ MachR w' mb fb av V (st + 1) fu 4)) := by
  obtain ⟨_, _, n1, n2, _⟩ := Ref.arity_name k (by omega)
  have hq0 : ((bs (nameOf k)).toList == [99, 111, 110, 115, 116]) = false := toList_no (by rw [bl_bs]; exact n1)
  have hq1 : ((bs (nameOf k)).toList == [97, 114, 103]) = false := toList_no (by rw [bl_bs]; exact n2)
  have hva := h32.getD x0
  have hvb := h32.getD x1
  have hgx : V.getD x0 0 = V[x0]'(by omega) := by rw [List.getD_eq_getElem?_getD, List.getElem?_eq_getElem (by omega)]; rfl
  have hgy : V.getD x1 0 = V[x1]'(by omega) := by rw [List.getD_eq_getElem?_getD, List.getElem?_eq_getElem (by omega)]; rfl
  have hq2 := div_is k (by omega)
  have HR : Hid (¬ (k = 3 ∧ V.getD x1 0 = 0) → ∀ w', Calls Tryd.prog 73 #[.string (bs (nameOf k)), .int .i64 (V.getD x0 0), .int .i64 (V.getD x1 0)] w' fun e w'' => e = .returned (.int .i64 (Ref.reckon (nameOf k) (V.getD x0 0) (V.getD x1 0))) ∧ w'' = w') := hide fun hnz w' =>
    reckon_any (nameOf k) (name_op k (by omega)) (V.getD x0 0) (V.getD x1 0) w' hva.1 hva.2 hvb.1 hvb.2 (fun e e' => by
      have h := hq2
      rw [toList_yes (by rw [bl_bs]; exact e)] at h
      exact hnz ⟨of_decide_eq_true h.symm, e'⟩)
  generalize V.getD x0 0 = a at *
  generalize V.getD x1 0 = b at *
  have HX := hide hgx
  have HY := hide hgy
  clear hgx hgy hva hvb
  generalize Ref.reckon (nameOf k) a b = rr at *
  generalize bs (nameOf k) = op at *
  have HAR := hide har
  clear har n1 n2
  go_enter Tryd.func57, Tryd.ntmps57
  go_wp2_with fail
  generalize hw0 : w.alloc _ = w0
  have hm0 : MachR w0 mb fb av V st fu 0 := by rw [← hw0]; exact stay_alloc hm
  have hg0 : w.grownBy w0 (some mb) := by rw [← hw0]; exact grown_alloc _ _ _
  have hx0 : w0.heap[w.heap.size]? = some (.cells #[.int .i64 (num : Nat), .string op, .int .i64 0, .slice pa 2 ca] 58) := by rw [← hw0]; exact heap_alloc_new w _
  have hne : w.heap.size ≠ mb := by have := lt_of_block hm; omega
  clear hw0
  refine (step_any mb fb _ V st fu 0 w0 hm0 hV hf).mono ?_
  rintro e w1 ⟨hg1, ⟨_, rfl, hm1⟩ | ⟨h, _⟩⟩
  case inr => omega
  have hx1 := kept_block hx0 hg1 hne
  have hgw1 := grown_trans hg0 hg1
  generalize hxb : w.heap.size = xb at *
  have c1 := blk_cell hx1 1 _ rfl
  have c3 := blk_cell hx1 3 _ rfl
  have cv := hm1.val x0 (by omega)
  rw [← HX.out] at cv
  clear HX
  have hn' : (num : Int) < 60 := by omega
  have hx' : (x0 : Int) < 60 := by omega
  have hy' : (x1 : Int) < 60 := by omega
  obtain ⟨gr, o, rfl, hgl, ca0⟩ := HAR.out _ hgw1 0 (by simp)
  simp only [List.getElem_cons_zero, Nat.add_zero] at ca0
  go_wp2_with fail
  go_quiet (fail)
  generalize hwd : World.drewN _ _ = wd
  have hmd : MachR wd mb fb av V (st + 1) fu 0 := by rw [← hwd]; exact hm1
  have hxd : wd.heap[xb]? = some (.cells #[.int .i64 (num : Nat), .string op, .int .i64 0, .slice (some ⟨gr, o, none⟩) 2 ca] 58) := by rw [← hwd]; exact hx1
  have hgd : w.grownBy wd (some mb) := by rw [← hwd]; exact grownN hgw1 _
  clear hwd c1 c3 cv ca0 hm1 hx1
  have d1 := blk_cell hxd 1 _ rfl
  have d3 := blk_cell hxd 3 _ rfl
  have cv := hmd.val x1 (by omega)
  rw [← HY.out] at cv
  clear HY
  have ca1 : wd.cell? ⟨gr, o + 1, none⟩ = some (.int .i64 (x1 : Nat)) := by
    obtain ⟨g', o', e, _, h⟩ := HAR.out _ hgd 1 (by simp)
    simp only [Option.some.injEq, Addr.mk.injEq] at e
    obtain ⟨rfl, rfl, _⟩ := e
    simpa using h
  go_wp2_with fail
  go_quiet (fail)
  generalize hwe : World.drewN _ _ = wf
  have hmf : MachR wf mb fb av V (st + 1) fu 0 := by rw [← hwe]; exact hmd
  have hxf : wf.heap[xb]? = some (.cells #[.int .i64 (num : Nat), .string op, .int .i64 0, .slice (some ⟨gr, o, none⟩) 2 ca] 58) := by rw [← hwe]; exact hxd
  have hgf : w.grownBy wf (some mb) := by rw [← hwe]; exact grownN hgd _
  clear hwe d1 d3 cv ca1 hmd hxd hgd
  have hmd := hmf
  have hxd := hxf
  have hgd := hgf
  clear hmf hxf hgf
  rename World => wd
  have d1 := blk_cell hxd 1 _ rfl
  by_cases hz : k = 3 ∧ b = 0
  · have hq3 : (op.toList == [100, 105, 118]) = true := by rw [hq2]; exact decide_eq_true hz.1
    have hb0 : (b == 0) = true := by rw [hz.2]; rfl
    have HZ := hide hz
    have ce := hmd.err hV
    have cz := blk_froz hmd 64
    clear hz hq2 HR
    go_wp2
    refine bodyPost_ret (results_none rfl _ _ _) rfl ?_
    exact ⟨rfl, grown_trans hgd (grown_set _ _ _ _), Or.inr ⟨HZ.out, hmd.setErr hV 4⟩⟩
  · have HZ := hide hz
    have HR2 := hide (HR.out hz)
    obtain ⟨bd, hbd⟩ : ∃ bd, bd = (op.toList == [100, 105, 118]) := ⟨_, rfl⟩
    have hpick : bd = true → (b == 0) = false := fun h => by
      rw [hbd, hq2] at h
      exact beq_eq_false_iff_ne.2 fun e => hz ⟨of_decide_eq_true h, e⟩
    clear hz hq2 HR
    cases bd with
    | true =>
      have hb0 := hpick rfl
      have hq3 := hbd.symm
      clear hpick hbd
      go_wp2_with fail
      clear d1
      refine wp_region_held_drew (S := fun w' => w'.heap[xb]? = some (.cells #[.int .i64 (num : Nat), .string op, .int .i64 0, .slice (some ⟨gr, o, none⟩) 2 ca] 58)) (by kernel_rfl) hxd (fun hHeld => ?_)
      have hmd2 : MachR wd.drew mb fb av V (st + 1) fu 0 := hmd
      have hgd2 : w.grownBy wd.drew (some mb) := grown_drew hgd
      generalize wd.drew = we at hmd2 hgd2 hHeld ⊢
      have q3 := hmd2.val num (by omega)
      have z3 := blk_froz hmd2 (1 + num)
      refine wpAnyH_take (i := 0) (v := .pointer (some ⟨mb, 0, none⟩)) rfl (by kernel_rfl) (by kernel_rfl) (by kernel_rfl) (fun _ _ _ h => h) (Or.inl ⟨by rfl, fun w' h => by  go_simp⟩) hHeld ?_
      try simp only [Act.put, List.getElem_toArray, List.getElem_cons_zero, List.setIfInBounds_toArray, List.set_cons_zero, List.set_cons_succ]
      refine wpAnyH_take (i := 1) (v := .pointer (some ⟨xb, 0, none⟩)) rfl (by kernel_rfl) (by kernel_rfl) (by kernel_rfl) (fun _ _ _ h => h) (Or.inl ⟨by rfl, fun w' h => by  go_simp⟩) hHeld ?_
      try simp only [Act.put, List.getElem_toArray, List.getElem_cons_zero, List.getElem_cons_succ, List.setIfInBounds_toArray, List.set_cons_zero, List.set_cons_succ]
      refine wpAnyH_take (i := 2) (v := .int .i64 (num : Nat)) rfl (by kernel_rfl) (by kernel_rfl) (by kernel_rfl) (fun _ _ _ h => h) (Or.inl ⟨by rfl, fun w' h => by have r0 := blk_cell h 0 _ rfl; go_simp⟩) hHeld ?_
      try simp only [Act.put, List.getElem_toArray, List.getElem_cons_zero, List.getElem_cons_succ, List.setIfInBounds_toArray, List.set_cons_zero, List.set_cons_succ]
      refine wpAnyH_take (i := 3) (v := .pointer (some ⟨xb, 1, none⟩)) rfl (by kernel_rfl) (by kernel_rfl) (by kernel_rfl) (fun _ _ _ h => h) (Or.inl ⟨by rfl, fun w' h => by  go_simp⟩) hHeld ?_
      try simp only [Act.put, List.getElem_toArray, List.getElem_cons_zero, List.getElem_cons_succ, List.setIfInBounds_toArray, List.set_cons_zero, List.set_cons_succ]
      refine wpAnyH_take (i := 4) (v := .string op) rfl (by kernel_rfl) (by kernel_rfl) (by kernel_rfl) (fun _ _ _ h => h) (Or.inl ⟨by rfl, fun w' h => by have r1 := blk_cell h 1 _ rfl; go_simp⟩) hHeld ?_
      try simp only [Act.put, List.getElem_toArray, List.getElem_cons_zero, List.getElem_cons_succ, List.setIfInBounds_toArray, List.set_cons_zero, List.set_cons_succ]
      refine wpAnyH_take (i := 5) (v := .int .i64 a) rfl (by kernel_rfl) (by kernel_rfl) (by kernel_rfl) (fun _ _ _ h => h) (Or.inl ⟨by rfl, fun w' h => by  go_simp⟩) hHeld ?_
      try simp only [Act.put, List.getElem_toArray, List.getElem_cons_zero, List.getElem_cons_succ, List.setIfInBounds_toArray, List.set_cons_zero, List.set_cons_succ]
      refine wpAnyH_take (i := 6) (v := .int .i64 b) rfl (by kernel_rfl) (by kernel_rfl) (by kernel_rfl) (fun _ _ _ h => h) (Or.inl ⟨by rfl, fun w' h => by  go_simp⟩) hHeld ?_
      try simp only [Act.put, List.getElem_toArray, List.getElem_cons_zero, List.getElem_cons_succ, List.setIfInBounds_toArray, List.set_cons_zero, List.set_cons_succ]
      refine wpAnyH_take (i := 8) (v := .pointer (some ⟨mb, 0, none⟩)) rfl (by kernel_rfl) (by kernel_rfl) (by kernel_rfl) (fun _ _ _ h => h) (Or.inl ⟨by rfl, fun w' h => by  go_simp⟩) hHeld ?_
      try simp only [Act.put, List.getElem_toArray, List.getElem_cons_zero, List.getElem_cons_succ, List.setIfInBounds_toArray, List.set_cons_zero, List.set_cons_succ]
      refine wpAnyH_take (i := 9) (v := .pointer (some ⟨mb, 1, none⟩)) rfl (by kernel_rfl) (by kernel_rfl) (by kernel_rfl) (fun _ _ _ h => h) (Or.inl ⟨by rfl, fun w' h => by  go_simp⟩) hHeld ?_
      try simp only [Act.put, List.getElem_toArray, List.getElem_cons_zero, List.getElem_cons_succ, List.setIfInBounds_toArray, List.set_cons_zero, List.set_cons_succ]
      have hH2 := hHeld
      have hset := hmd2.setVal num (by omega) rr
      refine wpAnyH_ready (rs := [7]) (by kernel_rfl) (by simp) ?_
      refine AllReadyH.cons rfl (fun K hK => ?_) AllReadyH.nil
      rw [if_pos (by rfl)]
      go_wp2_with fail
      refine (HR2.out _).mono ?_
      rintro e we ⟨rfl, rfl⟩
      refine hK.out _ _ hH2 (fun hHeld => ?_)
      clear hK K
      try simp only [Act.put, List.getElem_toArray, List.getElem_cons_zero, List.getElem_cons_succ, List.setIfInBounds_toArray, List.set_cons_zero, List.set_cons_succ]
      refine wpAnyH_take (i := 10) (v := .pointer (some ⟨mb, 1 + num, none⟩)) rfl (by kernel_rfl) (by kernel_rfl) (by kernel_rfl) (fun _ _ _ h => h) (Or.inl ⟨by rfl, fun w' h => by  go_simp⟩) hH2 ?_
      try simp only [Act.put, List.getElem_toArray, List.getElem_cons_zero, List.getElem_cons_succ, List.setIfInBounds_toArray, List.set_cons_zero, List.set_cons_succ]
      refine wpAnyH_ready (rs := [11]) (by kernel_rfl) (by simp) ?_
      refine AllReadyH.cons rfl (fun K hK => ?_) AllReadyH.nil
      rw [if_pos (by rfl)]
      go_wp2_with fail
      refine hK.out _ _ (stay_set hH2 hne) (fun hHeld => ?_)
      clear hK K
      try simp only [Act.put, List.getElem_toArray, List.getElem_cons_zero, List.getElem_cons_succ, List.setIfInBounds_toArray, List.set_cons_zero, List.set_cons_succ]
      refine wpAnyH_done (by kernel_rfl) ?_ _
      go_wp2
      go_end0
      exact ⟨rfl, grown_trans hgd2 (grown_set _ _ _ _), Or.inl ⟨HZ.out, hset⟩⟩
    | false =>
      have hq3 := hbd.symm
      clear hpick hbd
      go_wp2_with fail
      clear d1
      refine wp_region_held_drew (S := fun w' => w'.heap[xb]? = some (.cells #[.int .i64 (num : Nat), .string op, .int .i64 0, .slice (some ⟨gr, o, none⟩) 2 ca] 58)) (by kernel_rfl) hxd (fun hHeld => ?_)
      have hmd2 : MachR wd.drew mb fb av V (st + 1) fu 0 := hmd
      have hgd2 : w.grownBy wd.drew (some mb) := grown_drew hgd
      generalize wd.drew = we at hmd2 hgd2 hHeld ⊢
      have q3 := hmd2.val num (by omega)
      have z3 := blk_froz hmd2 (1 + num)
      refine wpAnyH_take (i := 0) (v := .pointer (some ⟨mb, 0, none⟩)) rfl (by kernel_rfl) (by kernel_rfl) (by kernel_rfl) (fun _ _ _ h => h) (Or.inl ⟨by rfl, fun w' h => by  go_simp⟩) hHeld ?_
      try simp only [Act.put, List.getElem_toArray, List.getElem_cons_zero, List.setIfInBounds_toArray, List.set_cons_zero, List.set_cons_succ]
      refine wpAnyH_take (i := 1) (v := .pointer (some ⟨xb, 0, none⟩)) rfl (by kernel_rfl) (by kernel_rfl) (by kernel_rfl) (fun _ _ _ h => h) (Or.inl ⟨by rfl, fun w' h => by  go_simp⟩) hHeld ?_
      try simp only [Act.put, List.getElem_toArray, List.getElem_cons_zero, List.getElem_cons_succ, List.setIfInBounds_toArray, List.set_cons_zero, List.set_cons_succ]
      refine wpAnyH_take (i := 2) (v := .int .i64 (num : Nat)) rfl (by kernel_rfl) (by kernel_rfl) (by kernel_rfl) (fun _ _ _ h => h) (Or.inl ⟨by rfl, fun w' h => by have r0 := blk_cell h 0 _ rfl; go_simp⟩) hHeld ?_
      try simp only [Act.put, List.getElem_toArray, List.getElem_cons_zero, List.getElem_cons_succ, List.setIfInBounds_toArray, List.set_cons_zero, List.set_cons_succ]
      refine wpAnyH_take (i := 3) (v := .pointer (some ⟨xb, 1, none⟩)) rfl (by kernel_rfl) (by kernel_rfl) (by kernel_rfl) (fun _ _ _ h => h) (Or.inl ⟨by rfl, fun w' h => by  go_simp⟩) hHeld ?_
      try simp only [Act.put, List.getElem_toArray, List.getElem_cons_zero, List.getElem_cons_succ, List.setIfInBounds_toArray, List.set_cons_zero, List.set_cons_succ]
      refine wpAnyH_take (i := 4) (v := .string op) rfl (by kernel_rfl) (by kernel_rfl) (by kernel_rfl) (fun _ _ _ h => h) (Or.inl ⟨by rfl, fun w' h => by have r1 := blk_cell h 1 _ rfl; go_simp⟩) hHeld ?_
      try simp only [Act.put, List.getElem_toArray, List.getElem_cons_zero, List.getElem_cons_succ, List.setIfInBounds_toArray, List.set_cons_zero, List.set_cons_succ]
      refine wpAnyH_take (i := 5) (v := .int .i64 a) rfl (by kernel_rfl) (by kernel_rfl) (by kernel_rfl) (fun _ _ _ h => h) (Or.inl ⟨by rfl, fun w' h => by  go_simp⟩) hHeld ?_
      try simp only [Act.put, List.getElem_toArray, List.getElem_cons_zero, List.getElem_cons_succ, List.setIfInBounds_toArray, List.set_cons_zero, List.set_cons_succ]
      refine wpAnyH_take (i := 6) (v := .int .i64 b) rfl (by kernel_rfl) (by kernel_rfl) (by kernel_rfl) (fun _ _ _ h => h) (Or.inl ⟨by rfl, fun w' h => by  go_simp⟩) hHeld ?_
      try simp only [Act.put, List.getElem_toArray, List.getElem_cons_zero, List.getElem_cons_succ, List.setIfInBounds_toArray, List.set_cons_zero, List.set_cons_succ]
      refine wpAnyH_take (i := 8) (v := .pointer (some ⟨mb, 0, none⟩)) rfl (by kernel_rfl) (by kernel_rfl) (by kernel_rfl) (fun _ _ _ h => h) (Or.inl ⟨by rfl, fun w' h => by  go_simp⟩) hHeld ?_
      try simp only [Act.put, List.getElem_toArray, List.getElem_cons_zero, List.getElem_cons_succ, List.setIfInBounds_toArray, List.set_cons_zero, List.set_cons_succ]
      refine wpAnyH_take (i := 9) (v := .pointer (some ⟨mb, 1, none⟩)) rfl (by kernel_rfl) (by kernel_rfl) (by kernel_rfl) (fun _ _ _ h => h) (Or.inl ⟨by rfl, fun w' h => by  go_simp⟩) hHeld ?_
      try simp only [Act.put, List.getElem_toArray, List.getElem_cons_zero, List.getElem_cons_succ, List.setIfInBounds_toArray, List.set_cons_zero, List.set_cons_succ]
      have hH2 := hHeld
      have hset := hmd2.setVal num (by omega) rr
      refine wpAnyH_ready (rs := [7]) (by kernel_rfl) (by simp) ?_
      refine AllReadyH.cons rfl (fun K hK => ?_) AllReadyH.nil
      rw [if_pos (by rfl)]
      go_wp2_with fail
      refine (HR2.out _).mono ?_
      rintro e we ⟨rfl, rfl⟩
      refine hK.out _ _ hH2 (fun hHeld => ?_)
      clear hK K
      try simp only [Act.put, List.getElem_toArray, List.getElem_cons_zero, List.getElem_cons_succ, List.setIfInBounds_toArray, List.set_cons_zero, List.set_cons_succ]
      refine wpAnyH_take (i := 10) (v := .pointer (some ⟨mb, 1 + num, none⟩)) rfl (by kernel_rfl) (by kernel_rfl) (by kernel_rfl) (fun _ _ _ h => h) (Or.inl ⟨by rfl, fun w' h => by  go_simp⟩) hH2 ?_
      try simp only [Act.put, List.getElem_toArray, List.getElem_cons_zero, List.getElem_cons_succ, List.setIfInBounds_toArray, List.set_cons_zero, List.set_cons_succ]
      refine wpAnyH_ready (rs := [11]) (by kernel_rfl) (by simp) ?_
      refine AllReadyH.cons rfl (fun K hK => ?_) AllReadyH.nil
      rw [if_pos (by rfl)]
      go_wp2_with fail
      refine hK.out _ _ (stay_set hH2 hne) (fun hHeld => ?_)
      clear hK K
      try simp only [Act.put, List.getElem_toArray, List.getElem_cons_zero, List.getElem_cons_succ, List.setIfInBounds_toArray, List.set_cons_zero, List.set_cons_succ]
      refine wpAnyH_done (by kernel_rfl) ?_ _
      go_wp2
      go_end0
      exact ⟨rfl, grown_trans hgd2 (grown_set _ _ _ _), Or.inl ⟨HZ.out, hset⟩⟩
end Go.Proofs.YtedkjanogjglkaaDoor.D


namespace Go.Proofs.YtedkjanogjglkaaDoor.D
open Go.RowKit
open Go.Proofs.YtedkjanogjglkaaDoor.D.Ref (toF toB toV toL)
open Go.Proofs.YtedkjanogjglkaaDoor.Code (nameOf WFT)

/-- What a value comes to: the machine behind it. -/
def MadeV (w' : World) (mb fb : Nat) (av : Value) (args V0 : List Int) (place : Nat) (V : List Int) (st fu : Nat) (v : Code.Val) : Prop :=
  (fu ≤ st ∧ MachR w' mb fb av V st fu 5) ∨ (st < fu ∧ ((∃ n, Code.comes args V0 V place v.thing = some n ∧ (-2147483648 ≤ n ∧ n < 2147483648) ∧ MachR w' mb fb av (V.set v.num n) (st + 1) fu 0) ∨
    (Code.comes args V0 V place v.thing = none ∧ MachR w' mb fb av V (st + 1) fu 4)))

theorem wrap32_id {n : Int} (h : -2147483648 ≤ n ∧ n < 2147483648) : wrap32 n = n := by unfold wrap32; omega

theorem make1_any (mb fb : Nat) (args V0 : List Int) (place : Nat) (pr : Option Addr) (cr : Nat) (V : List Int) (st fu : Nat) (v : Code.Val) (pa : Option Addr) (ca : Nat) (w : World) (hm : MachR w mb fb (.slice pr args.length cr) V st fu 0) (hV : V.length = 60) (h32 : In32 V) (ha32 : In32 args) (hf : fu ≤ 100000)
    (hn : v.num < 60) (hwf : WFT args.length v.thing) (hphi : v.thing.isPhi = false)
    (har : ∀ w', w.grownBy w' (some mb) → IntsAt w' pr args) (hof : ∀ w', w.grownBy w' (some mb) → IntsAt w' pa (toV v).Args) :
    Calls Tryd.prog 57 #[.pointer (some ⟨mb, 0, none⟩), .agg #[.int .i64 (toV v).V, .string (bs (toV v).Op), .int .i64 (toV v).N, .slice pa (toV v).Args.length ca]] w fun e w' =>
      e = .returned (.tuple #[]) ∧ w.grownBy w' (some mb) ∧ MadeV w' mb fb (.slice pr args.length cr) args V0 place V st fu v := by
  by_cases hst : st < fu
  case neg =>
    refine (make1_fuel mb fb _ V st fu (toV v) pa ca w hm hV hf (by omega)).mono ?_
    rintro e w' ⟨rfl, hg, h⟩
    exact ⟨rfl, hg, Or.inl ⟨by omega, h⟩⟩
  obtain ⟨num, thing⟩ := v
  cases thing with
  | phi of => cases hphi
  | const c =>
    refine (make1_const mb fb _ V st fu num c pa ca w hm hV hf hst hn).mono ?_
    rintro e w' ⟨rfl, hg, h⟩
    exact ⟨rfl, hg, Or.inr ⟨hst, Or.inl ⟨c, rfl, hwf, h⟩⟩⟩
  | arg n =>
    have hna : n < args.length := hwf
    refine (make1_arg mb fb args pr cr V st fu num n pa ca w hm hV hf hst hn hna har).mono ?_
    rintro e w' ⟨rfl, hg, h⟩
    have hi := ha32.get n hna
    refine ⟨rfl, hg, Or.inr ⟨hst, Or.inl ⟨args[n], ?_, hi, h⟩⟩⟩
    show some (wrap32 (args.getD n 0)) = some args[n]
    rw [List.getD_eq_getElem?_getD, List.getElem?_eq_getElem hna]
    exact congrArg some (wrap32_id hi)
  | apply k of =>
    obtain ⟨hk, hl, hx⟩ := hwf
    by_cases h1 : 11 ≤ k
    · rw [arity_one k hk h1] at hl
      match of, hl with
      | [x0], _ =>
        have hx0 := hx x0 (by simp)
        refine (make1_one mb fb _ V st fu num k x0 pa ca w hm hV h32 hf hst hn hk h1 hx0 hof).mono ?_
        rintro e w' ⟨rfl, hg, h⟩
        have hc := reckon_one k hk h1 (V.getD x0 0) (V.getD x0 0) (h32.getD x0)
        exact ⟨rfl, hg, Or.inr ⟨hst, Or.inl ⟨_, hc, reckon_in32 hc (h32.getD x0) (h32.getD x0), h⟩⟩⟩
    · have h2 : k < 11 := by omega
      rw [arity_two k h2] at hl
      match of, hl with
      | [x0, x1], _ =>
        have hx0 := hx x0 (by simp)
        have hx1 := hx x1 (by simp)
        refine (make1_two mb fb _ V st fu num k x0 x1 pa ca w hm hV h32 hf hst hn h2 hx0 hx1 hof).mono ?_
        rintro e w' ⟨rfl, hg, h⟩
        have hc := reckon_same k h2 (V.getD x0 0) (V.getD x1 0) (h32.getD x0)
        rcases h with ⟨hz, h⟩ | ⟨hz, h⟩
        · exact ⟨rfl, hg, Or.inr ⟨hst, Or.inl ⟨_, hc.1 hz, reckon_in32 (hc.1 hz) (h32.getD x0) (h32.getD x1), h⟩⟩⟩
        · exact ⟨rfl, hg, Or.inr ⟨hst, Or.inr ⟨hc.2 hz, h⟩⟩⟩
end Go.Proofs.YtedkjanogjglkaaDoor.D


namespace Go.Proofs.YtedkjanogjglkaaDoor.D
open Go.RowKit
open Go.Proofs.YtedkjanogjglkaaDoor.D.Ref (toF toB toV toL)
open Go.Proofs.YtedkjanogjglkaaDoor.Code (nameOf WFT)

def i64Row (w : World) (g : Nat) (V : List Int) : Prop := w.heap[g]? = some (.cells (ints V).toArray 96)

theorem i64Row.cell {w : World} {g : Nat} {V : List Int} (h : i64Row w g V) (i : Nat) (hi : i < V.length) : w.cell? ⟨g, i, none⟩ = some (.int .i64 V[i]) :=
  blk_cell h i _ (by simp [ints, hi])

theorem MachR.range {w : World} {mb fb : Nat} {av : Value} {V : List Int} {st fu : Nat} {E : Int} (h : MachR w mb fb av V st fu E) : w.rangeAt mb 1 (ints V) := by
  intro j v hv
  have hj : j < V.length := by have := (List.getElem?_eq_some_iff.1 hv).1; rwa [ints_length] at this
  rw [h.val j hj]
  simpa [ints, hj] using hv

theorem i64One (V : List Int) : (ints V).toArray.all (·.oneCell') = true := all_oneCell_toArray (fun v hv => by
  obtain ⟨b, _, rfl⟩ := List.mem_map.1 hv
  rfl)

theorem i64Size (V : List Int) (h : V.length = 60) : (Tryd.prog.info? 96).map (·.size) = some (ints V).length := by
  rw [ints_length, h]; kernel_rfl

theorem i64Size' (V : List Int) (h : V.length = 60) : (Tryd.prog.info? 96).map (·.size) = some (ints V).toArray.size := by
  rw [List.size_toArray]; exact i64Size V h

theorem newI64 (w : World) (V : List Int) (h : V.length = 60) : i64Row ((w.alloc (.cells #[.int .i64 0, .int .i64 0, .int .i64 0, .int .i64 0, .int .i64 0, .int .i64 0, .int .i64 0, .int .i64 0, .int .i64 0, .int .i64 0, .int .i64 0, .int .i64 0, .int .i64 0, .int .i64 0, .int .i64 0, .int .i64 0, .int .i64 0, .int .i64 0, .int .i64 0, .int .i64 0, .int .i64 0, .int .i64 0, .int .i64 0, .int .i64 0, .int .i64 0, .int .i64 0, .int .i64 0, .int .i64 0, .int .i64 0, .int .i64 0, .int .i64 0, .int .i64 0, .int .i64 0, .int .i64 0, .int .i64 0, .int .i64 0, .int .i64 0, .int .i64 0, .int .i64 0, .int .i64 0, .int .i64 0, .int .i64 0, .int .i64 0, .int .i64 0, .int .i64 0, .int .i64 0, .int .i64 0, .int .i64 0, .int .i64 0, .int .i64 0, .int .i64 0, .int .i64 0, .int .i64 0, .int .i64 0, .int .i64 0, .int .i64 0, .int .i64 0, .int .i64 0, .int .i64 0, .int .i64 0] 96)).setCells w.heap.size 0 (ints V)) w.heap.size V ∧ (w.alloc (.cells #[.int .i64 0, .int .i64 0, .int .i64 0, .int .i64 0, .int .i64 0, .int .i64 0, .int .i64 0, .int .i64 0, .int .i64 0, .int .i64 0, .int .i64 0, .int .i64 0, .int .i64 0, .int .i64 0, .int .i64 0, .int .i64 0, .int .i64 0, .int .i64 0, .int .i64 0, .int .i64 0, .int .i64 0, .int .i64 0, .int .i64 0, .int .i64 0, .int .i64 0, .int .i64 0, .int .i64 0, .int .i64 0, .int .i64 0, .int .i64 0, .int .i64 0, .int .i64 0, .int .i64 0, .int .i64 0, .int .i64 0, .int .i64 0, .int .i64 0, .int .i64 0, .int .i64 0, .int .i64 0, .int .i64 0, .int .i64 0, .int .i64 0, .int .i64 0, .int .i64 0, .int .i64 0, .int .i64 0, .int .i64 0, .int .i64 0, .int .i64 0, .int .i64 0, .int .i64 0, .int .i64 0, .int .i64 0, .int .i64 0, .int .i64 0, .int .i64 0, .int .i64 0, .int .i64 0, .int .i64 0] 96)).there w.heap.size 0 60 := by
  have hnew := heap_alloc_new w (.cells #[.int .i64 0, .int .i64 0, .int .i64 0, .int .i64 0, .int .i64 0, .int .i64 0, .int .i64 0, .int .i64 0, .int .i64 0, .int .i64 0, .int .i64 0, .int .i64 0, .int .i64 0, .int .i64 0, .int .i64 0, .int .i64 0, .int .i64 0, .int .i64 0, .int .i64 0, .int .i64 0, .int .i64 0, .int .i64 0, .int .i64 0, .int .i64 0, .int .i64 0, .int .i64 0, .int .i64 0, .int .i64 0, .int .i64 0, .int .i64 0, .int .i64 0, .int .i64 0, .int .i64 0, .int .i64 0, .int .i64 0, .int .i64 0, .int .i64 0, .int .i64 0, .int .i64 0, .int .i64 0, .int .i64 0, .int .i64 0, .int .i64 0, .int .i64 0, .int .i64 0, .int .i64 0, .int .i64 0, .int .i64 0, .int .i64 0, .int .i64 0, .int .i64 0, .int .i64 0, .int .i64 0, .int .i64 0, .int .i64 0, .int .i64 0, .int .i64 0, .int .i64 0, .int .i64 0, .int .i64 0] 96)
  constructor
  · obtain ⟨C', h1, h2, h3, h4, h5⟩ := setCells_block w.heap.size (ints V) 0 _ _ hnew (by rw [ints_length, h]; decide)
    unfold i64Row
    rw [h1]
    congr 2
    apply Array.ext_getElem?
    intro j
    by_cases hj : j < (ints V).length
    · have := h4 j hj
      rw [Nat.zero_add] at this
      rw [this]; simp
    · rw [ints_length] at hj
      rw [Array.getElem?_eq_none (by rw [h2]; show 60 ≤ j; omega), Array.getElem?_eq_none (by rw [List.size_toArray, ints_length]; omega)]
  · intro j hj
    rw [Nat.zero_add]
    refine ⟨?_, blk_froz hnew j⟩
    rw [blk_cell hnew j _ (Array.getElem?_eq_getElem (show j < (#[.int .i64 0, .int .i64 0, .int .i64 0, .int .i64 0, .int .i64 0, .int .i64 0, .int .i64 0, .int .i64 0, .int .i64 0, .int .i64 0, .int .i64 0, .int .i64 0, .int .i64 0, .int .i64 0, .int .i64 0, .int .i64 0, .int .i64 0, .int .i64 0, .int .i64 0, .int .i64 0, .int .i64 0, .int .i64 0, .int .i64 0, .int .i64 0, .int .i64 0, .int .i64 0, .int .i64 0, .int .i64 0, .int .i64 0, .int .i64 0, .int .i64 0, .int .i64 0, .int .i64 0, .int .i64 0, .int .i64 0, .int .i64 0, .int .i64 0, .int .i64 0, .int .i64 0, .int .i64 0, .int .i64 0, .int .i64 0, .int .i64 0, .int .i64 0, .int .i64 0, .int .i64 0, .int .i64 0, .int .i64 0, .int .i64 0, .int .i64 0, .int .i64 0, .int .i64 0, .int .i64 0, .int .i64 0, .int .i64 0, .int .i64 0, .int .i64 0, .int .i64 0, .int .i64 0, .int .i64 0] : Array Value).size from hj))]; rfl

theorem RepVals.kept {w w' : World} {mb fb : Nat} {av : Value} {V : List Int} {st fu : Nat} {E : Int} (hm : MachR w mb fb av V st fu E) (hg : w.grownBy w' (some mb)) {v : Value} {l : List Ref.RVal} (h : RepVals w v l) : RepVals w' v l := by
  obtain ⟨cs, h1, h2⟩ := h
  refine ⟨cs, own_kept hm hg h1 (by decide), fun k hk => ?_⟩
  obtain ⟨a, g0, g1, g2, g3, g4⟩ := h2 k hk
  exact ⟨a, g0, g1, g2, g3, own_kept hm hg g4 (by decide)⟩

theorem RepFunc.kept {w w' : World} {mb fb : Nat} {av : Value} {V : List Int} {st fu : Nat} {E : Int} (hm : MachR w mb fb av V st fu E) (hg : w.grownBy w' (some mb)) {fb' : Nat} {f : Ref.RFunc} (h : RepFunc w fb' f) : RepFunc w' fb' f := by
  obtain ⟨v, h1, cs, h2, h3⟩ := h
  refine ⟨v, kept_block h1 hg ?_, cs, own_kept hm hg h2 (by decide), fun k hk => ?_⟩
  · rintro rfl
    have := hm.symm.trans h1
    simp only [Option.some.injEq, Obj.cells.injEq] at this
    exact absurd this.2.1 (by decide)
  · obtain ⟨a, b, g0, g1, g2, g3, g4, g5⟩ := h3 k hk
    exact ⟨a, b, g0, g1, g2, g3, g4.kept hm hg, own_kept hm hg g5 (by decide)⟩

theorem intsAt_own {w : World} {p : Option Addr} {c : Nat} {l : List Int} (h : w.ownsRow 0 3 1 (.slice p l.length c) l.length (ints l)) : IntsAt w p l := fun i hi => by
  obtain ⟨g, cap, hv, _, hl, hc⟩ := row_open h (by omega)
  simp only [Value.slice.injEq] at hv
  exact ⟨g, 0, hv.1, hl, by rw [Nat.zero_add]; exact hc _ _ (ints_get l i hi)⟩

/-- How far the values of a block are come to: at the k-th, with what values, behind how many steps, with what error. -/
def Valued (args V0 : List Int) (place fu : Nat) (vals : List Code.Val) (st0 k : Nat) (V : List Int) (st : Nat) (E : Int) : Prop :=
  (E = 0 ∧ Code.runVals args V0 place fu (vals.drop k) V st = Code.runVals args V0 place fu vals V0 st0) ∨ (E = 5 ∧ Code.runVals args V0 place fu vals V0 st0 = .fuel V st) ∨ (E = 4 ∧ Code.runVals args V0 place fu vals V0 st0 = .trap V st)

/-- The next one is made. -/
def Nexts (w' : World) (mb fb : Nat) (av : Value) (args V0 : List Int) (place fu : Nat) (vals : List Code.Val) (st0 k : Nat) : Prop :=
  ∃ V st E, V.length = 60 ∧ In32 V ∧ MachR w' mb fb av V st fu E ∧ Hid (Valued args V0 place fu vals st0 (k + 1) V st E)

theorem valued_next {w' : World} {mb fb : Nat} {av : Value} {args V0 : List Int} {place fu : Nat} {vals : List Code.Val} {st0 k : Nat} {V : List Int} {st : Nat} (hV : V.length = 60) (h32 : In32 V) (hk : k < vals.length)
    (h : Code.runVals args V0 place fu (vals.drop k) V st = Code.runVals args V0 place fu vals V0 st0) (hm : MadeV w' mb fb av args V0 place V st fu vals[k]) : Nexts w' mb fb av args V0 place fu vals st0 k := by
  rw [List.drop_eq_getElem_cons hk] at h
  rcases hm with ⟨hf, hm⟩ | ⟨hf, ⟨n, hc, hn, hm⟩ | ⟨hc, hm⟩⟩
  · exact ⟨V, st, 5, hV, h32, hm, Or.inr (Or.inl ⟨rfl, h.symm.trans (Code.runVals_fuel hf)⟩)⟩
  · refine ⟨_, _, 0, by simp [hV], fun q hq => ?_, hm, Or.inl ⟨rfl, (Code.runVals_on hf hc).symm.trans h⟩⟩
    rcases List.mem_or_eq_of_mem_set hq with hq | rfl
    · exact h32 q hq
    · exact hn
  · exact ⟨V, st + 1, 4, hV, h32, hm, Or.inr (Or.inr ⟨rfl, h.symm.trans (Code.runVals_trap hf hc)⟩)⟩

theorem edgeCells_get2 (l : List (Int × Int)) (j : Nat) (h : j < l.length) : (edgeCells l)[j * 2 + 1]? = some (.int .i64 l[j].2) := by
  induction l generalizing j with
  | nil => simp at h
  | cons p t ih =>
    cases j with
    | zero => simp [edgeCells]
    | succ j =>
      have := ih j (by simpa using h)
      simp only [edgeCells] at this
      simp only [edgeCells, List.flatMap_cons, List.getElem_cons_succ, show (j + 1) * 2 + 1 = j * 2 + 1 + 2 by omega]
      rw [List.getElem?_append_right (by simp)]
      simpa using this

theorem edgesTo_le (to : Int) (i : Nat) : ∀ (l : List Int) (k : Nat), (Ref.edgesTo to i l k).length ≤ l.length
  | [], _ => by simp [Ref.edgesTo]
  | t :: l, k => by
    have := edgesTo_le to i l (k + 1)
    by_cases h : t = to
    · rw [Ref.edgesTo_hit h]; simp only [List.length_cons]; omega
    · rw [Ref.edgesTo_miss h]; simp only [List.length_cons]; omega

theorem edgesGo_le (to : Int) : ∀ (l : List Ref.RBlk) (i : Nat), (∀ b ∈ l, b.To.length ≤ 2) → (Ref.edgesGo to l i).length ≤ 2 * l.length
  | [], _, _ => by simp [Ref.edgesGo]
  | b :: l, i, h => by
    have h1 := edgesGo_le to l (i + 1) (fun x hx => h x (List.mem_cons_of_mem _ hx))
    have h2 := edgesTo_le to i b.To 0
    have h3 := h b List.mem_cons_self
    simp only [Ref.edgesGo, List.length_append, List.length_cons]
    omega

theorem edges_le (g : Code.Fn) (to : Int) (hm : g.blocks.length ≤ 8) : (Ref.edges (toF g) to).length ≤ 16 := by
  have := edgesGo_le to (toF g).Blocks 0 (fun b hb => by
    obtain ⟨c, _, rfl⟩ := List.mem_map.1 hb
    rw [Code.toB_to, List.length_map]
    cases c.last <;> simp [Code.tg])
  rw [Code.toF_len] at this
  exact Nat.le_trans this (by omega)

/-- Where an edge lies among those into its block: there alone. -/
theorem edge_find (g : Code.Fn) (i kk t : Nat) (hi : i < g.blocks.length) (hk : (Code.tg g.blocks[i].last)[kk]? = some t) (ht : t < g.blocks.length) :
    (Code.edges g.blocks).places i kk < (Ref.edges (toF g) (t : Int)).length ∧ ∀ n (h : n < (Ref.edges (toF g) (t : Int)).length), ((Ref.edges (toF g) (t : Int))[n].1 = (i : Int) ∧ (Ref.edges (toF g) (t : Int))[n].2 = (kk : Int)) ↔ n = (Code.edges g.blocks).places i kk := by
  obtain ⟨hkl, rfl⟩ := List.getElem?_eq_some_iff.1 hk
  have hb := Code.edge_back g i kk hi hkl ht
  obtain ⟨hpl, hpe⟩ := List.getElem?_eq_some_iff.1 hb
  refine ⟨hpl, fun n h => ⟨fun hn => ?_, ?_⟩⟩
  · obtain ⟨a, ha, k, hk', _, he, hp⟩ := Code.edge_at g _ ht n h
    rw [he] at hn
    have h1 : a = i := by have := hn.1; simp only at this; omega
    have h2 : k = kk := by have := hn.2; simp only at this; omega
    rw [← hp, h1, h2]
  · rintro rfl
    rw [hpe]
    exact ⟨rfl, rfl⟩

/-- What a block comes to. -/
def BlockEnds (w' : World) (e : Ending) (mb fb : Nat) (av : Value) (args : List Int) (bks : List Code.Blk) (fu i place : Nat) (V : List Int) (st : Nat) : Prop :=
  ∃ V' st' E, V'.length = 60 ∧ In32 V' ∧ MachR w' mb fb av V' st' fu E ∧
    ((E ≠ 0 ∧ e = .returned (.tuple #[.int .i64 (-1), .int .i64 0]) ∧ Code.Ends args bks fu i place V st 0 st' E) ∨
     (E = 0 ∧ e = .returned (.tuple #[.int .i64 (-1), .int .i64 0]) ∧ ∃ v, (bks[i]?.map (·.last)) = some (.ret v) ∧ Code.Ends args bks fu i place V st (V'.getD v 0) st' 0) ∨
     (E = 0 ∧ st < st' ∧ st' ≤ fu ∧ ∃ b k t, bks[i]? = some b ∧ (Code.tg b.last)[k]? = some t ∧ e = .returned (.tuple #[.int .i64 (t : Nat), .int .i64 ((Code.edges bks).places i k : Nat)]) ∧
       ∀ r n er, Code.Ends args bks fu t ((Code.edges bks).places i k) V' st' r n er → Code.Ends args bks fu i place V st r n er))
end Go.Proofs.YtedkjanogjglkaaDoor.D
