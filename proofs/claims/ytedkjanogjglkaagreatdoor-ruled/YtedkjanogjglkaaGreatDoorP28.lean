/-
  Parts of the proof: RefFolds.
-/
import Derived.Test.YtedkjanogjglkaaGreatDoorP27
namespace Go.Proofs.YtedkjanogjglkaaGreatDoor.D
open Go.RowKit
open Go.Proofs.YtedkjanogjglkaaGreatDoor.Code (RTree Nm)
def FoldC (t : RTree) : Prop := ∀ (I : Nat → Prop) (v : Value) (within : Bool) (w : World), RepD w I v t →
 Calls Tryz.prog 65 #[v, .bool within] w fun e w' => e = .returned (.bool (t.folds within)) ∧ Below w.heap.size w w'
theorem div_name (k : Nat) (h : k < 13) : ((bs (Code.nameOf k)).toList == [100, 105, 118]) = decide (k = 3) := by
 rw [ByteArray.toList_eq]
 show (bl (bs (Code.nameOf k)) == [100, 105, 118]) = _
 rw [bl_bs]
 match k, h with
 | 0, _ | 1, _ | 2, _ | 3, _ | 4, _ | 5, _ | 6, _ | 7, _ | 8, _ | 9, _ | 10, _ | 11, _ | 12, _ => rfl
theorem foldsAll_take (b : Bool) (l : List RTree) (k : Nat) (h : k < l.length) : Code.foldsAll b (l.take (k + 1)) = (Code.foldsAll b (l.take k) && (l[k]).folds b) := by
 rw [List.take_add_one, List.getElem?_eq_getElem h, Code.foldsAll_eq, Code.foldsAll_eq, List.all_append]
 simp
theorem foldsAll_no (b : Bool) (l : List RTree) (k : Nat) (h : k < l.length) (hn : (l[k]).folds b = false) : Code.foldsAll b l = false := by
 rw [Code.foldsAll_eq, Bool.eq_false_iff]
 intro ht
 rw [List.all_eq_true] at ht
 rw [ht _ (List.getElem_mem h)] at hn
 cases hn
set_option maxRecDepth 100000 in
set_option maxHeartbeats 8000000 in
theorem folds_op (t : RTree) (kids : List RTree) (hf : t.folds false = Code.foldsAll false kids) (ih : ∀ s ∈ kids, FoldC s) {I : Nat → Prop} {b kc : Nat} {kp : Option Addr} {vs : List Value} {x : ByteArray} {c : Int} {w : World}
  (hx : w.heap[b]? = some (.cells #[.int .u8 111, .string x, .int .i64 c, .slice kp vs.length kc] 135)) (hown : w.ownsRow 0 67 1 (.slice kp vs.length kc) vs.length vs) (hv2 : vs.length ≤ 2) (hvl : vs.length = kids.length) (_hvc : vs.length ≤ kc) (hds : RepDs w I vs kids) :
  Calls Tryz.prog 65 #[.pointer (some ⟨b, 0, none⟩), .bool false] w fun e w' => e = .returned (.bool (t.folds false)) ∧ Below w.heap.size w w' := by
 have HOWN := hide hown
 have HDS := hide hds
 have HVL := hide hvl
 have HIH := hide ih
 have HF := hide hf
 have hxlt := lt_of_block hx
 have c0 := blk_cell hx 0 _ rfl
 have c1 := blk_cell hx 1 _ rfl
 clear hown hds hvl ih hf
 go_enter Tryz.func65, Tryz.ntmps65
 go_wp2_with fail
 go_loopw [5] (fun i wr => ∃ j : Nat, j ≤ vs.length ∧ i = .int .i64 (j : Nat) ∧ Below w.heap.size w wr ∧ Hid (Code.foldsAll false (kids.take j) = true)) (fun i _ => vs.length - (intOf i).toNat)
 case atStart => exact ⟨0, by omega, rfl, Below.refl _ _, by simp [Hid, Code.foldsAll]⟩
 case round =>
  obtain ⟨j, hj, rfl, hbw, hall⟩ := hrel
  have hx' := (hbw.block b hxlt).trans hx
  have c3 := blk_cell hx' 3 _ rfl
  by_cases hlt : j < vs.length
  ·have hlk : j < kids.length := by rw [← HVL.out]; exact hlt
   obtain ⟨g, b', hge, hc, hr⟩ := kid_cell (own_below HOWN.out hbw) (HDS.out.below hbw) HVL.out j hlt hlk
   subst hge
   have HST := hide (foldsAll_take false kids j hlk)
   have HNO := hide (foldsAll_no false kids j hlk)
   have HW := hide (HIH.out kids[j] (List.getElem_mem hlk) I _ false wr.drew (RepD.kept (w := wr) (w' := wr.drew) (fun _ _ _ _ hc _ _ => hc) (fun _ h => h) _ _ hr))
   have hjl : (j : Int) < (vs.length : Int) := by omega
   clear hr
   cases hq : (kids[j]).folds false with
   | true =>
    have HN : Hid (Code.foldsAll false (kids.take (j + 1)) = true) := by rw [HST.out, hall.out, hq]; exact rfl
    rw [hq] at HW
    clear hq HST HNO
    go_wp2_with fail
    have hSS : wr.drew.heap[b]? = some (.cells #[.int .u8 111, .string x, .int .i64 c, .slice (some ⟨g, 0, none⟩) vs.length kc] 135) ∧ wr.drew.cell? ⟨g, j, none⟩ = some (.pointer (some ⟨b', 0, none⟩)) := ⟨hx', hc⟩
    refine wp_region_held_drew (S := fun w' => w'.heap[b]? = some (.cells #[.int .u8 111, .string x, .int .i64 c, .slice (some ⟨g, 0, none⟩) vs.length kc] 135) ∧ w'.cell? ⟨g, j, none⟩ = some (.pointer (some ⟨b', 0, none⟩))) (by kernel_rfl) ⟨hx', hc⟩ (fun hHeld => ?_)
    have hbd : Below w.heap.size w wr.drew := Below.drew hbw
    generalize wr.drew = wd at hSS hbd HW ⊢
    have hgl : g < wd.heap.size := by
     obtain ⟨_, h2⟩ := hSS
     cases hh : wd.heap[g]? with
     | none => simp [World.cell?, hh] at h2
     | some o => exact lt_of_block hh
    clear hx' hc hHeld c3
    refine wpAnyH_take (i := 0) (v := .pointer (some ⟨b, 0, none⟩)) rfl (by kernel_rfl) (by kernel_rfl) (by kernel_rfl) (fun _ _ _ h => h) (Or.inl ⟨by rfl, fun w' h => by  go_simp⟩) hSS ?_
    try simp only [Act.put, z1, z2, z4, z5, z6]
    refine wpAnyH_take (i := 1) (v := .pointer (some ⟨b, 0, none⟩)) rfl (by kernel_rfl) (by kernel_rfl) (by kernel_rfl) (fun _ _ _ h => h) (Or.inl ⟨by rfl, fun w' h => by  go_simp⟩) hSS ?_
    try simp only [Act.put, z1, z2, z3, z4, z5, z6]
    refine wpAnyH_take (i := 2) (v := .pointer (some ⟨b, 3, none⟩)) rfl (by kernel_rfl) (by kernel_rfl) (by kernel_rfl) (fun _ _ _ h => h) (Or.inl ⟨by rfl, fun w' h => by  go_simp⟩) hSS ?_
    try simp only [Act.put, z1, z2, z3, z4, z5, z6]
    refine wpAnyH_take (i := 3) (v := .slice (some ⟨g, 0, none⟩) vs.length kc) rfl (by kernel_rfl) (by kernel_rfl) (by kernel_rfl) (fun _ _ _ h => h) (Or.inl ⟨by rfl, fun w' h => by obtain ⟨r0, r1⟩ := h; have r2 := blk_cell r0 3 _ rfl; go_simp⟩) hSS ?_
    try simp only [Act.put, z1, z2, z3, z4, z5, z6]
    refine wpAnyH_take (i := 4) (v := .int .i64 (j : Nat)) rfl (by kernel_rfl) (by kernel_rfl) (by kernel_rfl) (fun _ _ _ h => h) (Or.inl ⟨by rfl, fun w' h => by  go_simp⟩) hSS ?_
    try simp only [Act.put, z1, z2, z3, z4, z5, z6]
    refine wpAnyH_take (i := 5) (v := .pointer (some ⟨g, j, none⟩)) rfl (by kernel_rfl) (by kernel_rfl) (by kernel_rfl) (fun _ _ _ h => h) (Or.inl ⟨by rfl, fun w' h => by  go_simp⟩) hSS ?_
    try simp only [Act.put, z1, z2, z3, z4, z5, z6]
    refine wpAnyH_take (i := 6) (v := .pointer (some ⟨b', 0, none⟩)) rfl (by kernel_rfl) (by kernel_rfl) (by kernel_rfl) (fun _ _ _ h => h) (Or.inl ⟨by rfl, fun w' h => by obtain ⟨r0, r1⟩ := h; go_simp⟩) hSS ?_
    try simp only [Act.put, z1, z2, z3, z4, z5, z6]
    refine wpAnyH_take (i := 7) (v := .bool false) rfl (by kernel_rfl) (by kernel_rfl) (by kernel_rfl) (fun _ _ _ h => h) (Or.inl ⟨by rfl, fun w' h => by  go_simp⟩) hSS ?_
    try simp only [Act.put, z1, z2, z3, z4, z5, z6]
    refine wpAnyH_take (i := 8) (v := .bool false) rfl (by kernel_rfl) (by kernel_rfl) (by kernel_rfl) (fun _ _ _ h => h) (Or.inl ⟨by rfl, fun w' h => by  go_simp⟩) hSS ?_
    try simp only [Act.put, z1, z2, z3, z4, z5, z6]
    refine wpAnyH_take (i := 9) (v := .pointer (some ⟨b, 0, none⟩)) rfl (by kernel_rfl) (by kernel_rfl) (by kernel_rfl) (fun _ _ _ h => h) (Or.inl ⟨by rfl, fun w' h => by  go_simp⟩) hSS ?_
    try simp only [Act.put, z1, z2, z3, z4, z5, z6]
    refine wpAnyH_take (i := 10) (v := .pointer (some ⟨b, 0, none⟩)) rfl (by kernel_rfl) (by kernel_rfl) (by kernel_rfl) (fun _ _ _ h => h) (Or.inl ⟨by rfl, fun w' h => by  go_simp⟩) hSS ?_
    try simp only [Act.put, z1, z2, z3, z4, z5, z6]
    refine wpAnyH_take (i := 11) (v := .pointer (some ⟨b, 0, none⟩)) rfl (by kernel_rfl) (by kernel_rfl) (by kernel_rfl) (fun _ _ _ h => h) (Or.inl ⟨by rfl, fun w' h => by  go_simp⟩) hSS ?_
    try simp only [Act.put, z1, z2, z3, z4, z5, z6]
    refine wpAnyH_take (i := 12) (v := .int .u8 111) rfl (by kernel_rfl) (by kernel_rfl) (by kernel_rfl) (fun _ _ _ h => h) (Or.inl ⟨by rfl, fun w' h => by obtain ⟨r0, r1⟩ := h; have r2 := blk_cell r0 0 _ rfl; go_simp⟩) hSS ?_
    try simp only [Act.put, z1, z2, z3, z4, z5, z6]
    refine wpAnyH_take (i := 13) (v := .bool false) rfl (by kernel_rfl) (by kernel_rfl) (by kernel_rfl) (fun _ _ _ h => h) (Or.inl ⟨by rfl, fun w' h => by  go_simp⟩) hSS ?_
    try simp only [Act.put, z1, z2, z3, z4, z5, z6]
    refine wpAnyH_take (i := 14) (v := .bool false) rfl (by kernel_rfl) (by kernel_rfl) (by kernel_rfl) (fun _ _ _ h => h) (Or.inl ⟨by rfl, fun w' h => by  go_simp⟩) hSS ?_
    try simp only [Act.put, z1, z2, z3, z4, z5, z6]
    refine wpAnyH_ready (rs := [15]) (by kernel_rfl) (by simp) ?_
    refine AllReadyH.cons rfl (fun K hK => ?_) AllReadyH.nil
    rw [if_pos (by rfl)]
    go_wp2_with fail
    refine (HW.out).mono ?_
    rintro e w4 ⟨rfl, hb4⟩
    have hbw4 := hbd.trans (hb4.mono hbd.size)
    have hS4 : w4.heap[b]? = some (.cells #[.int .u8 111, .string x, .int .i64 c, .slice (some ⟨g, 0, none⟩) vs.length kc] 135) ∧ w4.cell? ⟨g, j, none⟩ = some (.pointer (some ⟨b', 0, none⟩)) := ⟨(hb4.block b (lt_of_block hSS.1)).trans hSS.1, ((bcell hb4).1 g j hgl).trans hSS.2⟩
    refine hK.out _ _ hS4 (fun hHeld => ?_)
    clear hK K
    try simp only [Act.put, z1, z2, z3, z4, z5, z6]
    refine wpAnyH_ready (rs := [16]) (by kernel_rfl) (by simp) ?_
    refine AllReadyH.cons rfl (fun K hK => ?_) AllReadyH.nil
    rw [if_pos (by rfl)]
    go_wp2_with fail
    refine hK.out _ _ hS4 (fun hHeld => ?_)
    clear hK K
    try simp only [Act.put, z1, z2, z3, z4, z5, z6]
    refine wpAnyH_done (by kernel_rfl) ?_ _
    go_wp2
    exact ⟨⟨j + 1, by omega, by go_num, hbw4, HN⟩, by simp [intOf]; omega⟩
   | false =>
    have HN : Hid (t.folds false = false) := by rw [HF.out]; exact HNO.out hq
    rw [hq] at HW
    clear hq HST HNO
    go_wp2_with fail
    have hSS : wr.drew.heap[b]? = some (.cells #[.int .u8 111, .string x, .int .i64 c, .slice (some ⟨g, 0, none⟩) vs.length kc] 135) ∧ wr.drew.cell? ⟨g, j, none⟩ = some (.pointer (some ⟨b', 0, none⟩)) := ⟨hx', hc⟩
    refine wp_region_held_drew (S := fun w' => w'.heap[b]? = some (.cells #[.int .u8 111, .string x, .int .i64 c, .slice (some ⟨g, 0, none⟩) vs.length kc] 135) ∧ w'.cell? ⟨g, j, none⟩ = some (.pointer (some ⟨b', 0, none⟩))) (by kernel_rfl) ⟨hx', hc⟩ (fun hHeld => ?_)
    have hbd : Below w.heap.size w wr.drew := Below.drew hbw
    generalize wr.drew = wd at hSS hbd HW ⊢
    have hgl : g < wd.heap.size := by
     obtain ⟨_, h2⟩ := hSS
     cases hh : wd.heap[g]? with
     | none => simp [World.cell?, hh] at h2
     | some o => exact lt_of_block hh
    clear hx' hc hHeld c3
    refine wpAnyH_take (i := 0) (v := .pointer (some ⟨b, 0, none⟩)) rfl (by kernel_rfl) (by kernel_rfl) (by kernel_rfl) (fun _ _ _ h => h) (Or.inl ⟨by rfl, fun w' h => by  go_simp⟩) hSS ?_
    try simp only [Act.put, z1, z2, z4, z5, z6]
    refine wpAnyH_take (i := 1) (v := .pointer (some ⟨b, 0, none⟩)) rfl (by kernel_rfl) (by kernel_rfl) (by kernel_rfl) (fun _ _ _ h => h) (Or.inl ⟨by rfl, fun w' h => by  go_simp⟩) hSS ?_
    try simp only [Act.put, z1, z2, z3, z4, z5, z6]
    refine wpAnyH_take (i := 2) (v := .pointer (some ⟨b, 3, none⟩)) rfl (by kernel_rfl) (by kernel_rfl) (by kernel_rfl) (fun _ _ _ h => h) (Or.inl ⟨by rfl, fun w' h => by  go_simp⟩) hSS ?_
    try simp only [Act.put, z1, z2, z3, z4, z5, z6]
    refine wpAnyH_take (i := 3) (v := .slice (some ⟨g, 0, none⟩) vs.length kc) rfl (by kernel_rfl) (by kernel_rfl) (by kernel_rfl) (fun _ _ _ h => h) (Or.inl ⟨by rfl, fun w' h => by obtain ⟨r0, r1⟩ := h; have r2 := blk_cell r0 3 _ rfl; go_simp⟩) hSS ?_
    try simp only [Act.put, z1, z2, z3, z4, z5, z6]
    refine wpAnyH_take (i := 4) (v := .int .i64 (j : Nat)) rfl (by kernel_rfl) (by kernel_rfl) (by kernel_rfl) (fun _ _ _ h => h) (Or.inl ⟨by rfl, fun w' h => by  go_simp⟩) hSS ?_
    try simp only [Act.put, z1, z2, z3, z4, z5, z6]
    refine wpAnyH_take (i := 5) (v := .pointer (some ⟨g, j, none⟩)) rfl (by kernel_rfl) (by kernel_rfl) (by kernel_rfl) (fun _ _ _ h => h) (Or.inl ⟨by rfl, fun w' h => by  go_simp⟩) hSS ?_
    try simp only [Act.put, z1, z2, z3, z4, z5, z6]
    refine wpAnyH_take (i := 6) (v := .pointer (some ⟨b', 0, none⟩)) rfl (by kernel_rfl) (by kernel_rfl) (by kernel_rfl) (fun _ _ _ h => h) (Or.inl ⟨by rfl, fun w' h => by obtain ⟨r0, r1⟩ := h; go_simp⟩) hSS ?_
    try simp only [Act.put, z1, z2, z3, z4, z5, z6]
    refine wpAnyH_take (i := 7) (v := .bool false) rfl (by kernel_rfl) (by kernel_rfl) (by kernel_rfl) (fun _ _ _ h => h) (Or.inl ⟨by rfl, fun w' h => by  go_simp⟩) hSS ?_
    try simp only [Act.put, z1, z2, z3, z4, z5, z6]
    refine wpAnyH_take (i := 8) (v := .bool false) rfl (by kernel_rfl) (by kernel_rfl) (by kernel_rfl) (fun _ _ _ h => h) (Or.inl ⟨by rfl, fun w' h => by  go_simp⟩) hSS ?_
    try simp only [Act.put, z1, z2, z3, z4, z5, z6]
    refine wpAnyH_take (i := 9) (v := .pointer (some ⟨b, 0, none⟩)) rfl (by kernel_rfl) (by kernel_rfl) (by kernel_rfl) (fun _ _ _ h => h) (Or.inl ⟨by rfl, fun w' h => by  go_simp⟩) hSS ?_
    try simp only [Act.put, z1, z2, z3, z4, z5, z6]
    refine wpAnyH_take (i := 10) (v := .pointer (some ⟨b, 0, none⟩)) rfl (by kernel_rfl) (by kernel_rfl) (by kernel_rfl) (fun _ _ _ h => h) (Or.inl ⟨by rfl, fun w' h => by  go_simp⟩) hSS ?_
    try simp only [Act.put, z1, z2, z3, z4, z5, z6]
    refine wpAnyH_take (i := 11) (v := .pointer (some ⟨b, 0, none⟩)) rfl (by kernel_rfl) (by kernel_rfl) (by kernel_rfl) (fun _ _ _ h => h) (Or.inl ⟨by rfl, fun w' h => by  go_simp⟩) hSS ?_
    try simp only [Act.put, z1, z2, z3, z4, z5, z6]
    refine wpAnyH_take (i := 12) (v := .int .u8 111) rfl (by kernel_rfl) (by kernel_rfl) (by kernel_rfl) (fun _ _ _ h => h) (Or.inl ⟨by rfl, fun w' h => by obtain ⟨r0, r1⟩ := h; have r2 := blk_cell r0 0 _ rfl; go_simp⟩) hSS ?_
    try simp only [Act.put, z1, z2, z3, z4, z5, z6]
    refine wpAnyH_take (i := 13) (v := .bool false) rfl (by kernel_rfl) (by kernel_rfl) (by kernel_rfl) (fun _ _ _ h => h) (Or.inl ⟨by rfl, fun w' h => by  go_simp⟩) hSS ?_
    try simp only [Act.put, z1, z2, z3, z4, z5, z6]
    refine wpAnyH_take (i := 14) (v := .bool false) rfl (by kernel_rfl) (by kernel_rfl) (by kernel_rfl) (fun _ _ _ h => h) (Or.inl ⟨by rfl, fun w' h => by  go_simp⟩) hSS ?_
    try simp only [Act.put, z1, z2, z3, z4, z5, z6]
    refine wpAnyH_ready (rs := [15]) (by kernel_rfl) (by simp) ?_
    refine AllReadyH.cons rfl (fun K hK => ?_) AllReadyH.nil
    rw [if_pos (by rfl)]
    go_wp2_with fail
    refine (HW.out).mono ?_
    rintro e w4 ⟨rfl, hb4⟩
    have hbw4 := hbd.trans (hb4.mono hbd.size)
    have hS4 : w4.heap[b]? = some (.cells #[.int .u8 111, .string x, .int .i64 c, .slice (some ⟨g, 0, none⟩) vs.length kc] 135) ∧ w4.cell? ⟨g, j, none⟩ = some (.pointer (some ⟨b', 0, none⟩)) := ⟨(hb4.block b (lt_of_block hSS.1)).trans hSS.1, ((bcell hb4).1 g j hgl).trans hSS.2⟩
    refine hK.out _ _ hS4 (fun hHeld => ?_)
    clear hK K
    try simp only [Act.put, z1, z2, z3, z4, z5, z6]
    refine wpAnyH_ready (rs := [16]) (by kernel_rfl) (by simp) ?_
    refine AllReadyH.cons rfl (fun K hK => ?_) AllReadyH.nil
    rw [if_pos (by rfl)]
    go_wp2_with fail
    refine hK.out _ _ hS4 (fun hHeld => ?_)
    clear hK K
    try simp only [Act.put, z1, z2, z3, z4, z5, z6]
    refine wpAnyH_done (by kernel_rfl) ?_ _
    go_wp2
    go_ret
    exact ⟨ret_bool HN.out.symm, hbw4⟩
  ·have HN : Hid (t.folds false = true) := by
    have hjn : kids.take j = kids := List.take_of_length_le (by rw [← HVL.out]; omega)
    have h := hall.out
    rw [hjn] at h
    rw [HF.out]; exact h
   go_wp2
   go_ret
   exact ⟨ret_bool HN.out.symm, hbw⟩
set_option maxRecDepth 100000 in
set_option maxHeartbeats 8000000 in
theorem folds_foldT (t : RTree) (kids : List RTree) (hf : t.folds true = Code.foldsAll true kids) (ih : ∀ s ∈ kids, FoldC s) {I : Nat → Prop} {b kc : Nat} {kp : Option Addr} {vs : List Value} {x : ByteArray} {c : Int} {w : World}
  (hnd : (x.toList == [100, 105, 118]) = false) (hx : w.heap[b]? = some (.cells #[.int .u8 33, .string x, .int .i64 c, .slice kp vs.length kc] 135)) (hown : w.ownsRow 0 67 1 (.slice kp vs.length kc) vs.length vs) (hv2 : vs.length ≤ 2) (hvl : vs.length = kids.length) (_hvc : vs.length ≤ kc) (hds : RepDs w I vs kids) :
  Calls Tryz.prog 65 #[.pointer (some ⟨b, 0, none⟩), .bool true] w fun e w' => e = .returned (.bool (t.folds true)) ∧ Below w.heap.size w w' := by
 have HOWN := hide hown
 have HDS := hide hds
 have HVL := hide hvl
 have HIH := hide ih
 have HF := hide hf
 have hxlt := lt_of_block hx
 have c0 := blk_cell hx 0 _ rfl
 have c1 := blk_cell hx 1 _ rfl
 clear hown hds hvl ih hf
 go_enter Tryz.func65, Tryz.ntmps65
 go_wp2_with fail
 go_loopw [5] (fun i wr => ∃ j : Nat, j ≤ vs.length ∧ i = .int .i64 (j : Nat) ∧ Below w.heap.size w wr ∧ Hid (Code.foldsAll true (kids.take j) = true)) (fun i _ => vs.length - (intOf i).toNat)
 case atStart => exact ⟨0, by omega, rfl, Below.refl _ _, by simp [Hid, Code.foldsAll]⟩
 case round =>
  obtain ⟨j, hj, rfl, hbw, hall⟩ := hrel
  have hx' := (hbw.block b hxlt).trans hx
  have c3 := blk_cell hx' 3 _ rfl
  by_cases hlt : j < vs.length
  ·have hlk : j < kids.length := by rw [← HVL.out]; exact hlt
   obtain ⟨g, b', hge, hc, hr⟩ := kid_cell (own_below HOWN.out hbw) (HDS.out.below hbw) HVL.out j hlt hlk
   subst hge
   have HST := hide (foldsAll_take true kids j hlk)
   have HNO := hide (foldsAll_no true kids j hlk)
   have HW := hide (HIH.out kids[j] (List.getElem_mem hlk) I _ true wr.drew (RepD.kept (w := wr) (w' := wr.drew) (fun _ _ _ _ hc _ _ => hc) (fun _ h => h) _ _ hr))
   have hjl : (j : Int) < (vs.length : Int) := by omega
   clear hr
   cases hq : (kids[j]).folds true with
   | true =>
    have HN : Hid (Code.foldsAll true (kids.take (j + 1)) = true) := by rw [HST.out, hall.out, hq]; exact rfl
    rw [hq] at HW
    clear hq HST HNO
    go_wp2_with fail
    have hSS : wr.drew.heap[b]? = some (.cells #[.int .u8 33, .string x, .int .i64 c, .slice (some ⟨g, 0, none⟩) vs.length kc] 135) ∧ wr.drew.cell? ⟨g, j, none⟩ = some (.pointer (some ⟨b', 0, none⟩)) := ⟨hx', hc⟩
    refine wp_region_held_drew (S := fun w' => w'.heap[b]? = some (.cells #[.int .u8 33, .string x, .int .i64 c, .slice (some ⟨g, 0, none⟩) vs.length kc] 135) ∧ w'.cell? ⟨g, j, none⟩ = some (.pointer (some ⟨b', 0, none⟩))) (by kernel_rfl) ⟨hx', hc⟩ (fun hHeld => ?_)
    have hbd : Below w.heap.size w wr.drew := Below.drew hbw
    generalize wr.drew = wd at hSS hbd HW ⊢
    have hgl : g < wd.heap.size := by
     obtain ⟨_, h2⟩ := hSS
     cases hh : wd.heap[g]? with
     | none => simp [World.cell?, hh] at h2
     | some o => exact lt_of_block hh
    clear hx' hc hHeld c3
    refine wpAnyH_take (i := 0) (v := .pointer (some ⟨b, 0, none⟩)) rfl (by kernel_rfl) (by kernel_rfl) (by kernel_rfl) (fun _ _ _ h => h) (Or.inl ⟨by rfl, fun w' h => by  go_simp⟩) hSS ?_
    try simp only [Act.put, z1, z2, z4, z5, z6]
    refine wpAnyH_take (i := 1) (v := .pointer (some ⟨b, 0, none⟩)) rfl (by kernel_rfl) (by kernel_rfl) (by kernel_rfl) (fun _ _ _ h => h) (Or.inl ⟨by rfl, fun w' h => by  go_simp⟩) hSS ?_
    try simp only [Act.put, z1, z2, z3, z4, z5, z6]
    refine wpAnyH_take (i := 2) (v := .pointer (some ⟨b, 3, none⟩)) rfl (by kernel_rfl) (by kernel_rfl) (by kernel_rfl) (fun _ _ _ h => h) (Or.inl ⟨by rfl, fun w' h => by  go_simp⟩) hSS ?_
    try simp only [Act.put, z1, z2, z3, z4, z5, z6]
    refine wpAnyH_take (i := 3) (v := .slice (some ⟨g, 0, none⟩) vs.length kc) rfl (by kernel_rfl) (by kernel_rfl) (by kernel_rfl) (fun _ _ _ h => h) (Or.inl ⟨by rfl, fun w' h => by obtain ⟨r0, r1⟩ := h; have r2 := blk_cell r0 3 _ rfl; go_simp⟩) hSS ?_
    try simp only [Act.put, z1, z2, z3, z4, z5, z6]
    refine wpAnyH_take (i := 4) (v := .int .i64 (j : Nat)) rfl (by kernel_rfl) (by kernel_rfl) (by kernel_rfl) (fun _ _ _ h => h) (Or.inl ⟨by rfl, fun w' h => by  go_simp⟩) hSS ?_
    try simp only [Act.put, z1, z2, z3, z4, z5, z6]
    refine wpAnyH_take (i := 5) (v := .pointer (some ⟨g, j, none⟩)) rfl (by kernel_rfl) (by kernel_rfl) (by kernel_rfl) (fun _ _ _ h => h) (Or.inl ⟨by rfl, fun w' h => by  go_simp⟩) hSS ?_
    try simp only [Act.put, z1, z2, z3, z4, z5, z6]
    refine wpAnyH_take (i := 6) (v := .pointer (some ⟨b', 0, none⟩)) rfl (by kernel_rfl) (by kernel_rfl) (by kernel_rfl) (fun _ _ _ h => h) (Or.inl ⟨by rfl, fun w' h => by obtain ⟨r0, r1⟩ := h; go_simp⟩) hSS ?_
    try simp only [Act.put, z1, z2, z3, z4, z5, z6]
    refine wpAnyH_take (i := 7) (v := .bool true) rfl (by kernel_rfl) (by kernel_rfl) (by kernel_rfl) (fun _ _ _ h => h) (Or.inl ⟨by rfl, fun w' h => by  go_simp⟩) hSS ?_
    try simp only [Act.put, z1, z2, z3, z4, z5, z6]
    refine wpAnyH_take (i := 8) (v := .bool true) rfl (by kernel_rfl) (by kernel_rfl) (by kernel_rfl) (fun _ _ _ h => h) (Or.inl ⟨by rfl, fun w' h => by  go_simp⟩) hSS ?_
    try simp only [Act.put, z1, z2, z3, z4, z5, z6]
    refine wpAnyH_take (i := 9) (v := undef) rfl (by kernel_rfl) (by kernel_rfl) (by kernel_rfl) (fun _ _ _ h => h) (Or.inr ⟨by rfl, rfl⟩) hSS ?_
    try simp only [Act.put, z1, z2, z3, z4, z5, z6]
    refine wpAnyH_take (i := 10) (v := undef) rfl (by kernel_rfl) (by kernel_rfl) (by kernel_rfl) (fun _ _ _ h => h) (Or.inr ⟨by rfl, rfl⟩) hSS ?_
    try simp only [Act.put, z1, z2, z3, z4, z5, z6]
    refine wpAnyH_take (i := 11) (v := undef) rfl (by kernel_rfl) (by kernel_rfl) (by kernel_rfl) (fun _ _ _ h => h) (Or.inr ⟨by rfl, rfl⟩) hSS ?_
    try simp only [Act.put, z1, z2, z3, z4, z5, z6]
    refine wpAnyH_take (i := 12) (v := undef) rfl (by kernel_rfl) (by kernel_rfl) (by kernel_rfl) (fun _ _ _ h => h) (Or.inr ⟨by rfl, rfl⟩) hSS ?_
    try simp only [Act.put, z1, z2, z3, z4, z5, z6]
    refine wpAnyH_take (i := 13) (v := undef) rfl (by kernel_rfl) (by kernel_rfl) (by kernel_rfl) (fun _ _ _ h => h) (Or.inr ⟨by rfl, rfl⟩) hSS ?_
    try simp only [Act.put, z1, z2, z3, z4, z5, z6]
    refine wpAnyH_take (i := 14) (v := .bool true) rfl (by kernel_rfl) (by kernel_rfl) (by kernel_rfl) (fun _ _ _ h => h) (Or.inl ⟨by rfl, fun w' h => by  go_simp⟩) hSS ?_
    try simp only [Act.put, z1, z2, z3, z4, z5, z6]
    refine wpAnyH_ready (rs := [15]) (by kernel_rfl) (by simp) ?_
    refine AllReadyH.cons rfl (fun K hK => ?_) AllReadyH.nil
    rw [if_pos (by rfl)]
    go_wp2_with fail
    refine (HW.out).mono ?_
    rintro e w4 ⟨rfl, hb4⟩
    have hbw4 := hbd.trans (hb4.mono hbd.size)
    have hS4 : w4.heap[b]? = some (.cells #[.int .u8 33, .string x, .int .i64 c, .slice (some ⟨g, 0, none⟩) vs.length kc] 135) ∧ w4.cell? ⟨g, j, none⟩ = some (.pointer (some ⟨b', 0, none⟩)) := ⟨(hb4.block b (lt_of_block hSS.1)).trans hSS.1, ((bcell hb4).1 g j hgl).trans hSS.2⟩
    refine hK.out _ _ hS4 (fun hHeld => ?_)
    clear hK K
    try simp only [Act.put, z1, z2, z3, z4, z5, z6]
    refine wpAnyH_ready (rs := [16]) (by kernel_rfl) (by simp) ?_
    refine AllReadyH.cons rfl (fun K hK => ?_) AllReadyH.nil
    rw [if_pos (by rfl)]
    go_wp2_with fail
    refine hK.out _ _ hS4 (fun hHeld => ?_)
    clear hK K
    try simp only [Act.put, z1, z2, z3, z4, z5, z6]
    refine wpAnyH_done (by kernel_rfl) ?_ _
    go_wp2
    exact ⟨⟨j + 1, by omega, by go_num, hbw4, HN⟩, by simp [intOf]; omega⟩
   | false =>
    have HN : Hid (t.folds true = false) := by rw [HF.out]; exact HNO.out hq
    rw [hq] at HW
    clear hq HST HNO
    go_wp2_with fail
    have hSS : wr.drew.heap[b]? = some (.cells #[.int .u8 33, .string x, .int .i64 c, .slice (some ⟨g, 0, none⟩) vs.length kc] 135) ∧ wr.drew.cell? ⟨g, j, none⟩ = some (.pointer (some ⟨b', 0, none⟩)) := ⟨hx', hc⟩
    refine wp_region_held_drew (S := fun w' => w'.heap[b]? = some (.cells #[.int .u8 33, .string x, .int .i64 c, .slice (some ⟨g, 0, none⟩) vs.length kc] 135) ∧ w'.cell? ⟨g, j, none⟩ = some (.pointer (some ⟨b', 0, none⟩))) (by kernel_rfl) ⟨hx', hc⟩ (fun hHeld => ?_)
    have hbd : Below w.heap.size w wr.drew := Below.drew hbw
    generalize wr.drew = wd at hSS hbd HW ⊢
    have hgl : g < wd.heap.size := by
     obtain ⟨_, h2⟩ := hSS
     cases hh : wd.heap[g]? with
     | none => simp [World.cell?, hh] at h2
     | some o => exact lt_of_block hh
    clear hx' hc hHeld c3
    refine wpAnyH_take (i := 0) (v := .pointer (some ⟨b, 0, none⟩)) rfl (by kernel_rfl) (by kernel_rfl) (by kernel_rfl) (fun _ _ _ h => h) (Or.inl ⟨by rfl, fun w' h => by  go_simp⟩) hSS ?_
    try simp only [Act.put, z1, z2, z4, z5, z6]
    refine wpAnyH_take (i := 1) (v := .pointer (some ⟨b, 0, none⟩)) rfl (by kernel_rfl) (by kernel_rfl) (by kernel_rfl) (fun _ _ _ h => h) (Or.inl ⟨by rfl, fun w' h => by  go_simp⟩) hSS ?_
    try simp only [Act.put, z1, z2, z3, z4, z5, z6]
    refine wpAnyH_take (i := 2) (v := .pointer (some ⟨b, 3, none⟩)) rfl (by kernel_rfl) (by kernel_rfl) (by kernel_rfl) (fun _ _ _ h => h) (Or.inl ⟨by rfl, fun w' h => by  go_simp⟩) hSS ?_
    try simp only [Act.put, z1, z2, z3, z4, z5, z6]
    refine wpAnyH_take (i := 3) (v := .slice (some ⟨g, 0, none⟩) vs.length kc) rfl (by kernel_rfl) (by kernel_rfl) (by kernel_rfl) (fun _ _ _ h => h) (Or.inl ⟨by rfl, fun w' h => by obtain ⟨r0, r1⟩ := h; have r2 := blk_cell r0 3 _ rfl; go_simp⟩) hSS ?_
    try simp only [Act.put, z1, z2, z3, z4, z5, z6]
    refine wpAnyH_take (i := 4) (v := .int .i64 (j : Nat)) rfl (by kernel_rfl) (by kernel_rfl) (by kernel_rfl) (fun _ _ _ h => h) (Or.inl ⟨by rfl, fun w' h => by  go_simp⟩) hSS ?_
    try simp only [Act.put, z1, z2, z3, z4, z5, z6]
    refine wpAnyH_take (i := 5) (v := .pointer (some ⟨g, j, none⟩)) rfl (by kernel_rfl) (by kernel_rfl) (by kernel_rfl) (fun _ _ _ h => h) (Or.inl ⟨by rfl, fun w' h => by  go_simp⟩) hSS ?_
    try simp only [Act.put, z1, z2, z3, z4, z5, z6]
    refine wpAnyH_take (i := 6) (v := .pointer (some ⟨b', 0, none⟩)) rfl (by kernel_rfl) (by kernel_rfl) (by kernel_rfl) (fun _ _ _ h => h) (Or.inl ⟨by rfl, fun w' h => by obtain ⟨r0, r1⟩ := h; go_simp⟩) hSS ?_
    try simp only [Act.put, z1, z2, z3, z4, z5, z6]
    refine wpAnyH_take (i := 7) (v := .bool true) rfl (by kernel_rfl) (by kernel_rfl) (by kernel_rfl) (fun _ _ _ h => h) (Or.inl ⟨by rfl, fun w' h => by  go_simp⟩) hSS ?_
    try simp only [Act.put, z1, z2, z3, z4, z5, z6]
    refine wpAnyH_take (i := 8) (v := .bool true) rfl (by kernel_rfl) (by kernel_rfl) (by kernel_rfl) (fun _ _ _ h => h) (Or.inl ⟨by rfl, fun w' h => by  go_simp⟩) hSS ?_
    try simp only [Act.put, z1, z2, z3, z4, z5, z6]
    refine wpAnyH_take (i := 9) (v := undef) rfl (by kernel_rfl) (by kernel_rfl) (by kernel_rfl) (fun _ _ _ h => h) (Or.inr ⟨by rfl, rfl⟩) hSS ?_
    try simp only [Act.put, z1, z2, z3, z4, z5, z6]
    refine wpAnyH_take (i := 10) (v := undef) rfl (by kernel_rfl) (by kernel_rfl) (by kernel_rfl) (fun _ _ _ h => h) (Or.inr ⟨by rfl, rfl⟩) hSS ?_
    try simp only [Act.put, z1, z2, z3, z4, z5, z6]
    refine wpAnyH_take (i := 11) (v := undef) rfl (by kernel_rfl) (by kernel_rfl) (by kernel_rfl) (fun _ _ _ h => h) (Or.inr ⟨by rfl, rfl⟩) hSS ?_
    try simp only [Act.put, z1, z2, z3, z4, z5, z6]
    refine wpAnyH_take (i := 12) (v := undef) rfl (by kernel_rfl) (by kernel_rfl) (by kernel_rfl) (fun _ _ _ h => h) (Or.inr ⟨by rfl, rfl⟩) hSS ?_
    try simp only [Act.put, z1, z2, z3, z4, z5, z6]
    refine wpAnyH_take (i := 13) (v := undef) rfl (by kernel_rfl) (by kernel_rfl) (by kernel_rfl) (fun _ _ _ h => h) (Or.inr ⟨by rfl, rfl⟩) hSS ?_
    try simp only [Act.put, z1, z2, z3, z4, z5, z6]
    refine wpAnyH_take (i := 14) (v := .bool true) rfl (by kernel_rfl) (by kernel_rfl) (by kernel_rfl) (fun _ _ _ h => h) (Or.inl ⟨by rfl, fun w' h => by  go_simp⟩) hSS ?_
    try simp only [Act.put, z1, z2, z3, z4, z5, z6]
    refine wpAnyH_ready (rs := [15]) (by kernel_rfl) (by simp) ?_
    refine AllReadyH.cons rfl (fun K hK => ?_) AllReadyH.nil
    rw [if_pos (by rfl)]
    go_wp2_with fail
    refine (HW.out).mono ?_
    rintro e w4 ⟨rfl, hb4⟩
    have hbw4 := hbd.trans (hb4.mono hbd.size)
    have hS4 : w4.heap[b]? = some (.cells #[.int .u8 33, .string x, .int .i64 c, .slice (some ⟨g, 0, none⟩) vs.length kc] 135) ∧ w4.cell? ⟨g, j, none⟩ = some (.pointer (some ⟨b', 0, none⟩)) := ⟨(hb4.block b (lt_of_block hSS.1)).trans hSS.1, ((bcell hb4).1 g j hgl).trans hSS.2⟩
    refine hK.out _ _ hS4 (fun hHeld => ?_)
    clear hK K
    try simp only [Act.put, z1, z2, z3, z4, z5, z6]
    refine wpAnyH_ready (rs := [16]) (by kernel_rfl) (by simp) ?_
    refine AllReadyH.cons rfl (fun K hK => ?_) AllReadyH.nil
    rw [if_pos (by rfl)]
    go_wp2_with fail
    refine hK.out _ _ hS4 (fun hHeld => ?_)
    clear hK K
    try simp only [Act.put, z1, z2, z3, z4, z5, z6]
    refine wpAnyH_done (by kernel_rfl) ?_ _
    go_wp2
    go_ret
    exact ⟨ret_bool HN.out.symm, hbw4⟩
  ·have HN : Hid (t.folds true = true) := by
    have hjn : kids.take j = kids := List.take_of_length_le (by rw [← HVL.out]; omega)
    have h := hall.out
    rw [hjn] at h
    rw [HF.out]; exact h
   go_wp2
   go_ret
   exact ⟨ret_bool HN.out.symm, hbw⟩
set_option maxRecDepth 100000 in
set_option maxHeartbeats 8000000 in
theorem folds_foldF (t : RTree) (kids : List RTree) (hf : t.folds false = Code.foldsAll true kids) (ih : ∀ s ∈ kids, FoldC s) {I : Nat → Prop} {b kc : Nat} {kp : Option Addr} {vs : List Value} {x : ByteArray} {c : Int} {w : World}
  (hnd : (x.toList == [100, 105, 118]) = false) (hx : w.heap[b]? = some (.cells #[.int .u8 33, .string x, .int .i64 c, .slice kp vs.length kc] 135)) (hown : w.ownsRow 0 67 1 (.slice kp vs.length kc) vs.length vs) (hv2 : vs.length ≤ 2) (hvl : vs.length = kids.length) (_hvc : vs.length ≤ kc) (hds : RepDs w I vs kids) :
  Calls Tryz.prog 65 #[.pointer (some ⟨b, 0, none⟩), .bool false] w fun e w' => e = .returned (.bool (t.folds false)) ∧ Below w.heap.size w w' := by
 have HOWN := hide hown
 have HDS := hide hds
 have HVL := hide hvl
 have HIH := hide ih
 have HF := hide hf
 have hxlt := lt_of_block hx
 have c0 := blk_cell hx 0 _ rfl
 have c1 := blk_cell hx 1 _ rfl
 clear hown hds hvl ih hf
 go_enter Tryz.func65, Tryz.ntmps65
 go_wp2_with fail
 go_loopw [5] (fun i wr => ∃ j : Nat, j ≤ vs.length ∧ i = .int .i64 (j : Nat) ∧ Below w.heap.size w wr ∧ Hid (Code.foldsAll true (kids.take j) = true)) (fun i _ => vs.length - (intOf i).toNat)
 case atStart => exact ⟨0, by omega, rfl, Below.refl _ _, by simp [Hid, Code.foldsAll]⟩
 case round =>
  obtain ⟨j, hj, rfl, hbw, hall⟩ := hrel
  have hx' := (hbw.block b hxlt).trans hx
  have c3 := blk_cell hx' 3 _ rfl
  by_cases hlt : j < vs.length
  ·have hlk : j < kids.length := by rw [← HVL.out]; exact hlt
   obtain ⟨g, b', hge, hc, hr⟩ := kid_cell (own_below HOWN.out hbw) (HDS.out.below hbw) HVL.out j hlt hlk
   subst hge
   have HST := hide (foldsAll_take true kids j hlk)
   have HNO := hide (foldsAll_no true kids j hlk)
   have HW := hide (HIH.out kids[j] (List.getElem_mem hlk) I _ true wr.drew (RepD.kept (w := wr) (w' := wr.drew) (fun _ _ _ _ hc _ _ => hc) (fun _ h => h) _ _ hr))
   have hjl : (j : Int) < (vs.length : Int) := by omega
   clear hr
   cases hq : (kids[j]).folds true with
   | true =>
    have HN : Hid (Code.foldsAll true (kids.take (j + 1)) = true) := by rw [HST.out, hall.out, hq]; exact rfl
    rw [hq] at HW
    clear hq HST HNO
    go_wp2_with fail
    have hSS : wr.drew.heap[b]? = some (.cells #[.int .u8 33, .string x, .int .i64 c, .slice (some ⟨g, 0, none⟩) vs.length kc] 135) ∧ wr.drew.cell? ⟨g, j, none⟩ = some (.pointer (some ⟨b', 0, none⟩)) := ⟨hx', hc⟩
    refine wp_region_held_drew (S := fun w' => w'.heap[b]? = some (.cells #[.int .u8 33, .string x, .int .i64 c, .slice (some ⟨g, 0, none⟩) vs.length kc] 135) ∧ w'.cell? ⟨g, j, none⟩ = some (.pointer (some ⟨b', 0, none⟩))) (by kernel_rfl) ⟨hx', hc⟩ (fun hHeld => ?_)
    have hbd : Below w.heap.size w wr.drew := Below.drew hbw
    generalize wr.drew = wd at hSS hbd HW ⊢
    have hgl : g < wd.heap.size := by
     obtain ⟨_, h2⟩ := hSS
     cases hh : wd.heap[g]? with
     | none => simp [World.cell?, hh] at h2
     | some o => exact lt_of_block hh
    clear hx' hc hHeld c3
    refine wpAnyH_take (i := 0) (v := .pointer (some ⟨b, 0, none⟩)) rfl (by kernel_rfl) (by kernel_rfl) (by kernel_rfl) (fun _ _ _ h => h) (Or.inl ⟨by rfl, fun w' h => by  go_simp⟩) hSS ?_
    try simp only [Act.put, z1, z2, z4, z5, z6]
    refine wpAnyH_take (i := 1) (v := .pointer (some ⟨b, 0, none⟩)) rfl (by kernel_rfl) (by kernel_rfl) (by kernel_rfl) (fun _ _ _ h => h) (Or.inl ⟨by rfl, fun w' h => by  go_simp⟩) hSS ?_
    try simp only [Act.put, z1, z2, z3, z4, z5, z6]
    refine wpAnyH_take (i := 2) (v := .pointer (some ⟨b, 3, none⟩)) rfl (by kernel_rfl) (by kernel_rfl) (by kernel_rfl) (fun _ _ _ h => h) (Or.inl ⟨by rfl, fun w' h => by  go_simp⟩) hSS ?_
    try simp only [Act.put, z1, z2, z3, z4, z5, z6]
    refine wpAnyH_take (i := 3) (v := .slice (some ⟨g, 0, none⟩) vs.length kc) rfl (by kernel_rfl) (by kernel_rfl) (by kernel_rfl) (fun _ _ _ h => h) (Or.inl ⟨by rfl, fun w' h => by obtain ⟨r0, r1⟩ := h; have r2 := blk_cell r0 3 _ rfl; go_simp⟩) hSS ?_
    try simp only [Act.put, z1, z2, z3, z4, z5, z6]
    refine wpAnyH_take (i := 4) (v := .int .i64 (j : Nat)) rfl (by kernel_rfl) (by kernel_rfl) (by kernel_rfl) (fun _ _ _ h => h) (Or.inl ⟨by rfl, fun w' h => by  go_simp⟩) hSS ?_
    try simp only [Act.put, z1, z2, z3, z4, z5, z6]
    refine wpAnyH_take (i := 5) (v := .pointer (some ⟨g, j, none⟩)) rfl (by kernel_rfl) (by kernel_rfl) (by kernel_rfl) (fun _ _ _ h => h) (Or.inl ⟨by rfl, fun w' h => by  go_simp⟩) hSS ?_
    try simp only [Act.put, z1, z2, z3, z4, z5, z6]
    refine wpAnyH_take (i := 6) (v := .pointer (some ⟨b', 0, none⟩)) rfl (by kernel_rfl) (by kernel_rfl) (by kernel_rfl) (fun _ _ _ h => h) (Or.inl ⟨by rfl, fun w' h => by obtain ⟨r0, r1⟩ := h; go_simp⟩) hSS ?_
    try simp only [Act.put, z1, z2, z3, z4, z5, z6]
    refine wpAnyH_take (i := 7) (v := .bool false) rfl (by kernel_rfl) (by kernel_rfl) (by kernel_rfl) (fun _ _ _ h => h) (Or.inl ⟨by rfl, fun w' h => by  go_simp⟩) hSS ?_
    try simp only [Act.put, z1, z2, z3, z4, z5, z6]
    refine wpAnyH_take (i := 8) (v := .bool false) rfl (by kernel_rfl) (by kernel_rfl) (by kernel_rfl) (fun _ _ _ h => h) (Or.inl ⟨by rfl, fun w' h => by  go_simp⟩) hSS ?_
    try simp only [Act.put, z1, z2, z3, z4, z5, z6]
    refine wpAnyH_take (i := 9) (v := .pointer (some ⟨b, 0, none⟩)) rfl (by kernel_rfl) (by kernel_rfl) (by kernel_rfl) (fun _ _ _ h => h) (Or.inl ⟨by rfl, fun w' h => by  go_simp⟩) hSS ?_
    try simp only [Act.put, z1, z2, z3, z4, z5, z6]
    refine wpAnyH_take (i := 10) (v := .pointer (some ⟨b, 0, none⟩)) rfl (by kernel_rfl) (by kernel_rfl) (by kernel_rfl) (fun _ _ _ h => h) (Or.inl ⟨by rfl, fun w' h => by  go_simp⟩) hSS ?_
    try simp only [Act.put, z1, z2, z3, z4, z5, z6]
    refine wpAnyH_take (i := 11) (v := .pointer (some ⟨b, 0, none⟩)) rfl (by kernel_rfl) (by kernel_rfl) (by kernel_rfl) (fun _ _ _ h => h) (Or.inl ⟨by rfl, fun w' h => by  go_simp⟩) hSS ?_
    try simp only [Act.put, z1, z2, z3, z4, z5, z6]
    refine wpAnyH_take (i := 12) (v := .int .u8 33) rfl (by kernel_rfl) (by kernel_rfl) (by kernel_rfl) (fun _ _ _ h => h) (Or.inl ⟨by rfl, fun w' h => by obtain ⟨r0, r1⟩ := h; have r2 := blk_cell r0 0 _ rfl; go_simp⟩) hSS ?_
    try simp only [Act.put, z1, z2, z3, z4, z5, z6]
    refine wpAnyH_take (i := 13) (v := .bool true) rfl (by kernel_rfl) (by kernel_rfl) (by kernel_rfl) (fun _ _ _ h => h) (Or.inl ⟨by rfl, fun w' h => by  go_simp⟩) hSS ?_
    try simp only [Act.put, z1, z2, z3, z4, z5, z6]
    refine wpAnyH_take (i := 14) (v := .bool true) rfl (by kernel_rfl) (by kernel_rfl) (by kernel_rfl) (fun _ _ _ h => h) (Or.inl ⟨by rfl, fun w' h => by  go_simp⟩) hSS ?_
    try simp only [Act.put, z1, z2, z3, z4, z5, z6]
    refine wpAnyH_ready (rs := [15]) (by kernel_rfl) (by simp) ?_
    refine AllReadyH.cons rfl (fun K hK => ?_) AllReadyH.nil
    rw [if_pos (by rfl)]
    go_wp2_with fail
    refine (HW.out).mono ?_
    rintro e w4 ⟨rfl, hb4⟩
    have hbw4 := hbd.trans (hb4.mono hbd.size)
    have hS4 : w4.heap[b]? = some (.cells #[.int .u8 33, .string x, .int .i64 c, .slice (some ⟨g, 0, none⟩) vs.length kc] 135) ∧ w4.cell? ⟨g, j, none⟩ = some (.pointer (some ⟨b', 0, none⟩)) := ⟨(hb4.block b (lt_of_block hSS.1)).trans hSS.1, ((bcell hb4).1 g j hgl).trans hSS.2⟩
    refine hK.out _ _ hS4 (fun hHeld => ?_)
    clear hK K
    try simp only [Act.put, z1, z2, z3, z4, z5, z6]
    refine wpAnyH_ready (rs := [16]) (by kernel_rfl) (by simp) ?_
    refine AllReadyH.cons rfl (fun K hK => ?_) AllReadyH.nil
    rw [if_pos (by rfl)]
    go_wp2_with fail
    refine hK.out _ _ hS4 (fun hHeld => ?_)
    clear hK K
    try simp only [Act.put, z1, z2, z3, z4, z5, z6]
    refine wpAnyH_done (by kernel_rfl) ?_ _
    go_wp2
    exact ⟨⟨j + 1, by omega, by go_num, hbw4, HN⟩, by simp [intOf]; omega⟩
   | false =>
    have HN : Hid (t.folds false = false) := by rw [HF.out]; exact HNO.out hq
    rw [hq] at HW
    clear hq HST HNO
    go_wp2_with fail
    have hSS : wr.drew.heap[b]? = some (.cells #[.int .u8 33, .string x, .int .i64 c, .slice (some ⟨g, 0, none⟩) vs.length kc] 135) ∧ wr.drew.cell? ⟨g, j, none⟩ = some (.pointer (some ⟨b', 0, none⟩)) := ⟨hx', hc⟩
    refine wp_region_held_drew (S := fun w' => w'.heap[b]? = some (.cells #[.int .u8 33, .string x, .int .i64 c, .slice (some ⟨g, 0, none⟩) vs.length kc] 135) ∧ w'.cell? ⟨g, j, none⟩ = some (.pointer (some ⟨b', 0, none⟩))) (by kernel_rfl) ⟨hx', hc⟩ (fun hHeld => ?_)
    have hbd : Below w.heap.size w wr.drew := Below.drew hbw
    generalize wr.drew = wd at hSS hbd HW ⊢
    have hgl : g < wd.heap.size := by
     obtain ⟨_, h2⟩ := hSS
     cases hh : wd.heap[g]? with
     | none => simp [World.cell?, hh] at h2
     | some o => exact lt_of_block hh
    clear hx' hc hHeld c3
    refine wpAnyH_take (i := 0) (v := .pointer (some ⟨b, 0, none⟩)) rfl (by kernel_rfl) (by kernel_rfl) (by kernel_rfl) (fun _ _ _ h => h) (Or.inl ⟨by rfl, fun w' h => by  go_simp⟩) hSS ?_
    try simp only [Act.put, z1, z2, z4, z5, z6]
    refine wpAnyH_take (i := 1) (v := .pointer (some ⟨b, 0, none⟩)) rfl (by kernel_rfl) (by kernel_rfl) (by kernel_rfl) (fun _ _ _ h => h) (Or.inl ⟨by rfl, fun w' h => by  go_simp⟩) hSS ?_
    try simp only [Act.put, z1, z2, z3, z4, z5, z6]
    refine wpAnyH_take (i := 2) (v := .pointer (some ⟨b, 3, none⟩)) rfl (by kernel_rfl) (by kernel_rfl) (by kernel_rfl) (fun _ _ _ h => h) (Or.inl ⟨by rfl, fun w' h => by  go_simp⟩) hSS ?_
    try simp only [Act.put, z1, z2, z3, z4, z5, z6]
    refine wpAnyH_take (i := 3) (v := .slice (some ⟨g, 0, none⟩) vs.length kc) rfl (by kernel_rfl) (by kernel_rfl) (by kernel_rfl) (fun _ _ _ h => h) (Or.inl ⟨by rfl, fun w' h => by obtain ⟨r0, r1⟩ := h; have r2 := blk_cell r0 3 _ rfl; go_simp⟩) hSS ?_
    try simp only [Act.put, z1, z2, z3, z4, z5, z6]
    refine wpAnyH_take (i := 4) (v := .int .i64 (j : Nat)) rfl (by kernel_rfl) (by kernel_rfl) (by kernel_rfl) (fun _ _ _ h => h) (Or.inl ⟨by rfl, fun w' h => by  go_simp⟩) hSS ?_
    try simp only [Act.put, z1, z2, z3, z4, z5, z6]
    refine wpAnyH_take (i := 5) (v := .pointer (some ⟨g, j, none⟩)) rfl (by kernel_rfl) (by kernel_rfl) (by kernel_rfl) (fun _ _ _ h => h) (Or.inl ⟨by rfl, fun w' h => by  go_simp⟩) hSS ?_
    try simp only [Act.put, z1, z2, z3, z4, z5, z6]
    refine wpAnyH_take (i := 6) (v := .pointer (some ⟨b', 0, none⟩)) rfl (by kernel_rfl) (by kernel_rfl) (by kernel_rfl) (fun _ _ _ h => h) (Or.inl ⟨by rfl, fun w' h => by obtain ⟨r0, r1⟩ := h; go_simp⟩) hSS ?_
    try simp only [Act.put, z1, z2, z3, z4, z5, z6]
    refine wpAnyH_take (i := 7) (v := .bool false) rfl (by kernel_rfl) (by kernel_rfl) (by kernel_rfl) (fun _ _ _ h => h) (Or.inl ⟨by rfl, fun w' h => by  go_simp⟩) hSS ?_
    try simp only [Act.put, z1, z2, z3, z4, z5, z6]
    refine wpAnyH_take (i := 8) (v := .bool false) rfl (by kernel_rfl) (by kernel_rfl) (by kernel_rfl) (fun _ _ _ h => h) (Or.inl ⟨by rfl, fun w' h => by  go_simp⟩) hSS ?_
    try simp only [Act.put, z1, z2, z3, z4, z5, z6]
    refine wpAnyH_take (i := 9) (v := .pointer (some ⟨b, 0, none⟩)) rfl (by kernel_rfl) (by kernel_rfl) (by kernel_rfl) (fun _ _ _ h => h) (Or.inl ⟨by rfl, fun w' h => by  go_simp⟩) hSS ?_
    try simp only [Act.put, z1, z2, z3, z4, z5, z6]
    refine wpAnyH_take (i := 10) (v := .pointer (some ⟨b, 0, none⟩)) rfl (by kernel_rfl) (by kernel_rfl) (by kernel_rfl) (fun _ _ _ h => h) (Or.inl ⟨by rfl, fun w' h => by  go_simp⟩) hSS ?_
    try simp only [Act.put, z1, z2, z3, z4, z5, z6]
    refine wpAnyH_take (i := 11) (v := .pointer (some ⟨b, 0, none⟩)) rfl (by kernel_rfl) (by kernel_rfl) (by kernel_rfl) (fun _ _ _ h => h) (Or.inl ⟨by rfl, fun w' h => by  go_simp⟩) hSS ?_
    try simp only [Act.put, z1, z2, z3, z4, z5, z6]
    refine wpAnyH_take (i := 12) (v := .int .u8 33) rfl (by kernel_rfl) (by kernel_rfl) (by kernel_rfl) (fun _ _ _ h => h) (Or.inl ⟨by rfl, fun w' h => by obtain ⟨r0, r1⟩ := h; have r2 := blk_cell r0 0 _ rfl; go_simp⟩) hSS ?_
    try simp only [Act.put, z1, z2, z3, z4, z5, z6]
    refine wpAnyH_take (i := 13) (v := .bool true) rfl (by kernel_rfl) (by kernel_rfl) (by kernel_rfl) (fun _ _ _ h => h) (Or.inl ⟨by rfl, fun w' h => by  go_simp⟩) hSS ?_
    try simp only [Act.put, z1, z2, z3, z4, z5, z6]
    refine wpAnyH_take (i := 14) (v := .bool true) rfl (by kernel_rfl) (by kernel_rfl) (by kernel_rfl) (fun _ _ _ h => h) (Or.inl ⟨by rfl, fun w' h => by  go_simp⟩) hSS ?_
    try simp only [Act.put, z1, z2, z3, z4, z5, z6]
    refine wpAnyH_ready (rs := [15]) (by kernel_rfl) (by simp) ?_
    refine AllReadyH.cons rfl (fun K hK => ?_) AllReadyH.nil
    rw [if_pos (by rfl)]
    go_wp2_with fail
    refine (HW.out).mono ?_
    rintro e w4 ⟨rfl, hb4⟩
    have hbw4 := hbd.trans (hb4.mono hbd.size)
    have hS4 : w4.heap[b]? = some (.cells #[.int .u8 33, .string x, .int .i64 c, .slice (some ⟨g, 0, none⟩) vs.length kc] 135) ∧ w4.cell? ⟨g, j, none⟩ = some (.pointer (some ⟨b', 0, none⟩)) := ⟨(hb4.block b (lt_of_block hSS.1)).trans hSS.1, ((bcell hb4).1 g j hgl).trans hSS.2⟩
    refine hK.out _ _ hS4 (fun hHeld => ?_)
    clear hK K
    try simp only [Act.put, z1, z2, z3, z4, z5, z6]
    refine wpAnyH_ready (rs := [16]) (by kernel_rfl) (by simp) ?_
    refine AllReadyH.cons rfl (fun K hK => ?_) AllReadyH.nil
    rw [if_pos (by rfl)]
    go_wp2_with fail
    refine hK.out _ _ hS4 (fun hHeld => ?_)
    clear hK K
    try simp only [Act.put, z1, z2, z3, z4, z5, z6]
    refine wpAnyH_done (by kernel_rfl) ?_ _
    go_wp2
    go_ret
    exact ⟨ret_bool HN.out.symm, hbw4⟩
  ·have HN : Hid (t.folds false = true) := by
    have hjn : kids.take j = kids := List.take_of_length_le (by rw [← HVL.out]; omega)
    have h := hall.out
    rw [hjn] at h
    rw [HF.out]; exact h
   go_wp2
   go_ret
   exact ⟨ret_bool HN.out.symm, hbw⟩
set_option maxRecDepth 100000 in
set_option maxHeartbeats 4000000 in
theorem folds_no (kd : Nat) (within : Bool) (x : ByteArray) (c : Int) (kv : Value) (b : Nat) (w : World) (hx : w.heap[b]? = some (.cells #[.int .u8 (kd : Nat), .string x, .int .i64 c, kv] 135)) (h : (within = true ∧ (kd = 111 ∨ kd = 110)) ∨ (kd = 33 ∧ (x.toList == [100, 105, 118]) = true)) :
  Calls Tryz.prog 65 #[.pointer (some ⟨b, 0, none⟩), .bool within] w fun e w' => e = .returned (.bool false) ∧ Below w.heap.size w w' := by
 have c0 := blk_cell hx 0 _ rfl
 have c1 := blk_cell hx 1 _ rfl
 rcases h with ⟨rfl, rfl | rfl⟩ | ⟨rfl, hd⟩
 ·go_enter Tryz.func65, Tryz.ntmps65
  go_wp2
  go_ret
  exact ⟨rfl, Below.refl _ _⟩
 ·go_enter Tryz.func65, Tryz.ntmps65
  go_wp2
  go_ret
  exact ⟨rfl, Below.refl _ _⟩
 ·cases within
  all_goals
   go_enter Tryz.func65, Tryz.ntmps65
   go_wp2
   go_ret
   exact ⟨rfl, Below.refl _ _⟩
set_option maxRecDepth 100000 in
set_option maxHeartbeats 4000000 in
theorem folds_leaf (kd : Nat) (within : Bool) (x : ByteArray) (c : Int) (b : Nat) (w : World) (hx : w.heap[b]? = some (.cells #[.int .u8 (kd : Nat), .string x, .int .i64 c, .slice none 0 0] 135)) (h : (within = false ∧ kd = 110) ∨ kd = 35 ∨ kd = 100) :
  Calls Tryz.prog 65 #[.pointer (some ⟨b, 0, none⟩), .bool within] w fun e w' => e = .returned (.bool true) ∧ Below w.heap.size w w' := by
 have c0 := blk_cell hx 0 _ rfl
 have c1 := blk_cell hx 1 _ rfl
 have c3 := blk_cell hx 3 _ rfl
 have h' : (within = false ∧ kd = 110) ∨ (within = false ∧ kd = 35) ∨ (within = true ∧ kd = 35) ∨ (within = false ∧ kd = 100) ∨ (within = true ∧ kd = 100) := by
  cases within <;> simp_all
 clear h
 rcases h' with ⟨rfl, rfl⟩ | ⟨rfl, rfl⟩ | ⟨rfl, rfl⟩ | ⟨rfl, rfl⟩ | ⟨rfl, rfl⟩
 all_goals
  go_enter Tryz.func65, Tryz.ntmps65
  go_wp2_with fail
  refine wp_loop_rounds 1 ?_
  rw [rounds_succ]
  go_wp2
  go_ret
  exact ⟨rfl, Below.refl _ _⟩
theorem folds_of (t : RTree) (ih : ∀ s ∈ kidsOf t, FoldC s) : FoldC t := by
 intro I v within w hrep
 cases t with
 | name x =>
  obtain ⟨b, rfl, _, hx⟩ := hrep
  cases within with
  | true =>
   refine (folds_no 110 true _ _ _ b w hx (Or.inl ⟨rfl, Or.inr rfl⟩)).mono ?_
   rintro e w' ⟨rfl, hb⟩
   exact ⟨by simp [RTree.folds], hb⟩
  | false =>
   refine (folds_leaf 110 false _ _ b w hx (Or.inl ⟨rfl, rfl⟩)).mono ?_
   rintro e w' ⟨rfl, hb⟩
   exact ⟨by simp [RTree.folds], hb⟩
 | hash x =>
  obtain ⟨b, rfl, _, hx⟩ := hrep
  refine (folds_leaf 35 within _ _ b w hx (Or.inr (Or.inl rfl))).mono ?_
  rintro e w' ⟨rfl, hb⟩
  exact ⟨by simp [RTree.folds], hb⟩
 | num c =>
  obtain ⟨b, rfl, _, hx, _⟩ := hrep
  refine (folds_leaf 100 within _ _ b w hx (Or.inr (Or.inr rfl))).mono ?_
  rintro e w' ⟨rfl, hb⟩
  exact ⟨by simp [RTree.folds], hb⟩
 | op k kids =>
  obtain ⟨b, kv, vs, rfl, _, hx, hk13, hvo, hown, _, hds⟩ := hrep
  obtain ⟨kp, kc, rfl⟩ := own_slice hown
  cases within with
  | true =>
   refine (folds_no 111 true _ _ _ b w hx (Or.inl ⟨rfl, Or.inl rfl⟩)).mono ?_
   rintro e w' ⟨rfl, hb⟩
   exact ⟨by simp [RTree.folds], hb⟩
  | false => exact folds_op (.op k kids) kids (by simp [RTree.folds]) ih hx hown (by rw [hvo]; exact (Code.opOf_range k hk13).2) hds.length (own_cap hown) hds
 | fold k kids =>
  obtain ⟨b, kv, vs, rfl, _, hx, hk13, hvo, hown, _, hds⟩ := hrep
  obtain ⟨kp, kc, rfl⟩ := own_slice hown
  have hdn := div_name k hk13
  by_cases hk3 : k = 3
  ·rw [decide_eq_true hk3] at hdn
   refine (folds_no 33 within _ _ _ b w hx (Or.inr ⟨rfl, hdn⟩)).mono ?_
   rintro e w' ⟨rfl, hb⟩
   exact ⟨by simp [RTree.folds, hk3], hb⟩
  ·rw [decide_eq_false hk3] at hdn
   cases within with
   | true => exact folds_foldT (.fold k kids) kids (by simp [RTree.folds, hk3]) ih hdn hx hown (by rw [hvo]; exact (Code.opOf_range k hk13).2) hds.length (own_cap hown) hds
   | false => exact folds_foldF (.fold k kids) kids (by simp [RTree.folds, hk3]) ih hdn hx hown (by rw [hvo]; exact (Code.opOf_range k hk13).2) hds.length (own_cap hown) hds
theorem folds_any (t : RTree) : FoldC t := tree_all folds_of t
end Go.Proofs.YtedkjanogjglkaaGreatDoor.D
